import Derived.Test.YtdnpeefnobjfaaaGreatDoorK05
set_option maxRecDepth 100000
set_option maxHeartbeats 4000000
set_option linter.all false
section
namespace Go.Mir
open Go
section
attribute [local simp] NF.stuck NF.unsupported NF.pure NF.bind
variable{P:ay}
@[simp] theorem Gr{α}(v):NF P (goPanic v:Sem α):=trivial
@[simp] theorem sM:NF P program:=trivial
@[simp] theorem wx(t):NF P (typeInfo t):=by unfold typeInfo;repeat' (first|(simp[*];done)|with_reducible refine NF.bind ?_ λ_=>?_|split)
@[simp] theorem mM(t):NF P (underlying t):=by unfold underlying;repeat' (first|(simp[*];done)|with_reducible refine NF.bind ?_ λ_=>?_|split)
@[simp] theorem GB(t):NF P (zeroValue t):=by unfold zeroValue;repeat' (first|(simp[*];done)|with_reducible refine NF.bind ?_ λ_=>?_|split)
@[simp] theorem AH(t):NF P (sizeOf t):=by unfold sizeOf;repeat' (first|(simp[*];done)|with_reducible refine NF.bind ?_ λ_=>?_|split)
@[simp] theorem Gi(a m):NF P (load a m):=λ_=>trivial
@[simp] theorem ww(a v m):NF P (store a v m):=trivial
@[simp] theorem Gx(r):NF P (shape r):=λ_=>trivial
def We{α r}{k:Obj->Sem α}(a:∀o,NF P (k o))(b:dD (k dead)):NF P (getObj r>>=k):=.inl ⟨a,.inl b⟩
@[simp] theorem As(q):NF P (choose q):=λ_=>trivial
@[simp] theorem Ay(m):NF P (mark m):=trivial
@[simp] theorem Vv(n):NF P (askRoom n):=by unfold askRoom;repeat' (first|(simp[*];done)|split)
@[simp] theorem Gn(e c):NF P (newRow e c):=by exact NF.bind (s:=newObj (.cells c e)) ⟨rfl,λ_=>trivial⟩ λ_=>trivial
@[simp] theorem WC(e v):NF P (newVar e v):=Gn _ _
@[simp] theorem Wo(t):NF P (isAgg t):=by unfold isAgg;repeat' (first|(simp[*];done)|with_reducible refine NF.bind ?_ λ_=>?_|split)
@[simp] theorem VU(t):NF P (elemOf t):=by unfold elemOf;repeat' (first|(simp[*];done)|with_reducible refine NF.bind ?_ λ_=>?_|split)
@[simp] theorem Gk(a):∀n i b,NF P (loadCellsFrom a i n b)
 |0,_,_=>trivial
 |n+1,i,b=>NF.bind (Gi _ _) λv=>Gk a n _ _
@[simp] theorem Wr(a n):NF P (loadCells a n):=Gk a n 0 #[]
@[simp] theorem Gy(a):∀b i,NF P (storeCells a b i)
 |[],_=>trivial
 |v::b,i=>NF.bind (ww _ _ _) λ_=>Gy a b _
@[simp] theorem Ax(t a):NF P (loadVar t a):=by unfold loadVar;repeat' (first|(simp[*];done)|with_reducible refine NF.bind ?_ λ_=>?_|split)
@[simp] theorem Gz(t a v):NF P (storeVar t a v):=by unfold storeVar;repeat' (first|(simp[*];done)|with_reducible refine NF.bind ?_ λ_=>?_|split)
@[simp] theorem oQ{α}(e):NF P (runtimePanic e:Sem α):=by unfold runtimePanic;repeat' (first|(simp[*];done)|with_reducible refine NF.bind ?_ λ_=>?_|split)
@[simp] theorem Vz{α}(k x y c):NF P (boundsPanic k x y c:Sem α):=by
 unfold boundsPanic
 repeat' (first|(simp[*];done)|split)
@[simp] theorem Vt(v):NF P (asIntOf v):=by unfold asIntOf;repeat' (first|(simp[*];done)|split)
@[simp] theorem FR(v):NF P (asBool v):=by unfold asBool;repeat' (first|(simp[*];done)|split)
@[simp] theorem Vs(v):NF P (asAgg v):=by unfold asAgg;repeat' (first|(simp[*];done)|split)
@[simp] theorem oP(v):NF P (asAddr v):=by unfold asAddr;repeat' (first|(simp[*];done)|split)
@[simp] theorem W4(v):NF P (Instr.sureAddr v):=by unfold Instr.sureAddr;repeat' (first|(simp[*];done)|split)
@[simp] theorem qj(t c o):NF P (part t c o):=by unfold part;repeat' (first|(simp[*];done)|with_reducible refine NF.bind ?_ λ_=>?_|split)
@[simp] theorem AK(r):NF P (viewAt r):=by
 intro s;cases s with
 |some q=>trivial
 |none=>exact .inl ⟨λo=>by cases o<;>trivial,.inr λo a=>by cases o<;>first|exact a.elim|rfl⟩
@[simp] theorem WI(r):NF P (numberAt r):=by
 intro s;cases s with
 |some q=>trivial
 |none=>exact .inl ⟨λo=>by cases o<;>trivial,.inr λo a=>by cases o<;>first|exact a.elim|rfl⟩
@[simp] theorem we(v):NF P (asInt v):=by unfold asInt;repeat' (first|(simp[*];done)|with_reducible refine NF.bind ?_ λ_=>?_|split)
@[simp] theorem Vx(v):NF P (behindNumber v):=by unfold behindNumber;repeat' (first|(simp[*];done)|with_reducible refine NF.bind ?_ λ_=>?_|split)
@[simp] theorem AE(v):NF P (noView v):=by unfold noView;repeat' (first|(simp[*];done)|with_reducible refine NF.bind ?_ λ_=>?_|split)
@[simp] theorem VD(v):NF P (byteOf v):=by unfold byteOf;repeat' (first|(simp[*];done)|with_reducible refine NF.bind ?_ λ_=>?_|split|dsimp only)
@[simp] theorem WL(v a b):NF P (partAt v a b):=by unfold partAt;repeat' (first|(simp[*];done)|with_reducible refine NF.bind ?_ λ_=>?_|split)
@[simp] theorem Av(v f):NF P (fieldPlace v f):=by unfold fieldPlace;repeat' (first|(simp[*];done)|with_reducible refine NF.bind ?_ λ_=>?_|split)
@[simp] theorem Vq(e b v):NF P (Instr.alloc e b v):=by unfold Instr.alloc;repeat' (first|(simp[*];done)|with_reducible refine NF.bind ?_ λ_=>?_|split)
@[simp] theorem VA(e v):NF P (Instr.box e v):=by unfold Instr.box;repeat' (first|(simp[*];done)|with_reducible refine NF.bind ?_ λ_=>?_|split)
@[simp] theorem Gj(e v):NF P (Instr.loadAt e v):=by unfold Instr.loadAt;simp[*]
@[simp] theorem WZ(e v x):NF P (Instr.storeAt e v x):=by unfold Instr.storeAt;simp[*]
@[simp] theorem Wc(e v i):NF P (Instr.fieldAt e v i):=by unfold Instr.fieldAt;repeat' (first|(simp[*];done)|with_reducible refine NF.bind ?_ λ_=>?_|split)
@[simp] theorem Wj(e v i):NF P (Instr.indexAt e v i):=by unfold Instr.indexAt;repeat' (first|(simp[*];done)|with_reducible refine NF.bind ?_ λ_=>?_|split|dsimp only)
@[simp] theorem Wt(e v):NF P (Instr.makeInterface e v):=by unfold Instr.makeInterface;repeat' (first|(simp[*];done)|with_reducible refine NF.bind ?_ λ_=>?_|split)
@[simp] theorem Ws(f a b):NF P (Instr.makeFunc f a b):=trivial
@[simp] theorem Wu(t l c):NF P (Instr.makeSlice t l c):=by unfold Instr.makeSlice;repeat' (first|(simp[*];done)|with_reducible refine NF.bind ?_ λ_=>?_|split|dsimp only)
@[simp] theorem VC(t n a):NF P (Instr.buildSlice t n a):=by unfold Instr.buildSlice;repeat' (first|(simp[*];done)|with_reducible refine NF.bind ?_ λ_=>?_|split|dsimp only)
def Ww{α β:Type}{f:α->Sem β}(b:∀a,NF P (f a)):∀(l:List α),NF P (l.mapM f):=by
 intro l;have:=nN;induction l with
 |nil=>rw[a8b];exact NF.pure _
 |cons x d c=>rw[a7V];exact NF.bind (b x) λ_=>NF.bind c λ_=>NF.pure _
def Gl{α β:Type}{f:α->Sem β}(b:∀a,NF P (f a))(l:Array α):NF P (l.mapM f):=by have:=nN;rw[a6U];exact NF.bind' (λ_=>NF.pure _) (Ww b _)
@[simp] theorem VB(t a):NF P (Instr.build t a):=by
 unfold Instr.build;refine NF.bind (GB t) λz=>NF.bind (mM t) λd=>?_;split
 .refine NF.bind (Gl (λf=>NF.bind (AH _) λ_=>NF.pure _) _) λ_=>?_
  repeat' (first|(simp[*];done)|split)
 .repeat' (first|(simp[*];done)|with_reducible refine NF.bind ?_ λ_=>?_|split)
 .simp[*]
@[simp] theorem WW(v y c):NF P (Instr.sliceBound v y c):=by unfold Instr.sliceBound;repeat' (first|(simp[*];done)|with_reducible refine NF.bind ?_ λ_=>?_|split)
@[simp] theorem WX(b l c x y z):NF P (Instr.sliceBounds b l c x y z):=by unfold Instr.sliceBounds;repeat' (first|(simp[*];done)|with_reducible refine NF.bind ?_ λ_=>?_|split)
@[simp] theorem WU(t v x y z):NF P (Instr.slice t v x y z):=by unfold Instr.slice;repeat' (first|(simp[*];done)|with_reducible refine NF.bind ?_ λ_=>?_|split)
@[simp] theorem WV(t v x y z):NF P (Instr.sliceAt t v x y z):=by unfold Instr.sliceAt;repeat' (first|(simp[*];done)|with_reducible refine NF.bind ?_ λ_=>?_|split)
@[simp] theorem WK:NF P Instr.panicnil:=by
 unfold Instr.panicnil;refine NF.bind (s:=sys .env) ⟨rfl,λ_=>trivial⟩ λ_=>?_
 repeat' (first|(simp[*];done)|with_reducible refine NF.bind ?_ λ_=>?_|split)
@[simp] theorem WJ(v):NF P (Instr.panic v):=by have:=WK (P:=P);unfold Instr.panic;repeat' (first|(simp[*];done)|with_reducible refine NF.bind ?_ λ_=>?_|split)
@[simp] theorem Gd(c k a b):NF P (Op.intArith c k a b):=by unfold Op.intArith;repeat' (first|(simp[*];done)|split)
@[simp] theorem Wm(c k a b):NF P (Op.intDiv c k a b):=by unfold Op.intDiv;repeat' (first|(simp[*];done)|split)
@[simp] theorem Wk(c k a b):NF P (Op.intBits c k a b):=by unfold Op.intBits;repeat' (first|(simp[*];done)|split)
@[simp] theorem Wl(c a b):NF P (Op.intCmp c a b):=by unfold Op.intCmp;repeat' (first|(simp[*];done)|split)
@[simp] theorem WT(c k a l b):NF P (Op.shift c k a l b):=by unfold Op.shift;repeat' (first|(simp[*];done)|split)
@[simp] theorem W1(c a b):NF P (Op.stringOp c a b):=by unfold Op.stringOp;repeat' (first|(simp[*];done)|split)
@[simp] theorem Xa(a x):NF P (Op.unary a x):=by unfold Op.unary;repeat' (first|(simp[*];done)|split)
@[simp] theorem FY(c k a b):NF P (Op.floatArith c k a b):=by unfold Op.floatArith;repeat' (first|(simp[*];done)|with_reducible refine NF.bind ?_ λ_=>?_|split|dsimp only)
@[simp] theorem FZ(c k a b):NF P (Op.floatCmp c k a b):=by unfold Op.floatCmp;repeat' (first|(simp[*];done)|split)
@[simp] theorem Wd(k a l):NF P (Conv.floatToFloat k a l):=by unfold Conv.floatToFloat;repeat' (first|(simp[*];done)|with_reducible refine NF.bind ?_ λ_=>?_|split|dsimp only)
@[simp] theorem sK(c k a b):NF P (Op.Complex.arith c k a b):=by unfold Op.Complex.arith;repeat' (first|(simp[*];done)|with_reducible refine NF.bind ?_ λ_=>?_|split)
@[simp] theorem VF(k a l):NF P (Op.Complex.conv k a l):=by unfold Op.Complex.conv;repeat' (first|(simp[*];done)|with_reducible refine NF.bind ?_ λ_=>?_|split)
@[simp] theorem FU(c k a b):NF P (Op.Complex.cmp c k a b):=by unfold Op.Complex.cmp;simp[*]
@[simp] theorem VE(a b):NF P (Op.Complex.add a b):=sK _ _ _ _
@[simp] theorem VL(a b):NF P (Op.Complex.sub a b):=sK _ _ _ _
@[simp] theorem VH(a b):NF P (Op.Complex.mul a b):=sK _ _ _ _
@[simp] theorem VJ(a b):NF P (Op.Complex.quo a b):=sK _ _ _ _
@[simp] theorem VI(a b c d):NF P (Op.Complex.product a b c d):=by unfold Op.Complex.product;repeat' (first|(simp[*];done)|with_reducible refine NF.bind ?_ λ_=>?_|split)
@[simp] theorem VG(e a b c d):NF P (Op.Complex.corrected e a b c d):=by unfold Op.Complex.corrected;repeat' (first|(simp[*];done)|with_reducible refine NF.bind ?_ λ_=>?_|split)
@[simp] theorem VK(a b c d):NF P (Op.Complex.quotient a b c d):=by
 unfold Op.Complex.quotient;refine NF.bind (FU _ _ _ _) λq=>?_;cases q
 .repeat' (first|(simp[*];done)|with_reducible refine NF.bind ?_ λ_=>?_|split|dsimp only)
 .repeat' (first|(simp[*];done)|with_reducible refine NF.bind ?_ λ_=>?_|split|dsimp only)
@[simp] theorem VQ(e k a b c d):NF P (Op.complexOp e k a b c d):=by unfold Op.complexOp;repeat' (first|(simp[*];done)|with_reducible refine NF.bind ?_ λ_=>?_|split)
@[simp] theorem W7(a b):NF P (Op.twoPlaces a b):=by unfold Op.twoPlaces;repeat' (first|(simp[*];done)|with_reducible refine NF.bind ?_ λ_=>?_|split)
@[simp] theorem Vo(k a b):NF P (Op.addrSub k a b):=by unfold Op.addrSub;repeat' (first|(simp[*];done)|with_reducible refine NF.bind ?_ λ_=>?_|split)
@[simp] theorem Vm(c a b):NF P (Op.addrCmp c a b):=by unfold Op.addrCmp;repeat' (first|(simp[*];done)|with_reducible refine NF.bind ?_ λ_=>?_|split)
@[simp] theorem Vn(k a n):NF P (Op.addrMod k a n):=by unfold Op.addrMod;repeat' (first|(simp[*];done)|with_reducible refine NF.bind ?_ λ_=>?_|split|dsimp only)
@[simp] theorem Gg(v):NF P (Builtin.lenOf v):=by unfold Builtin.lenOf;repeat' (first|(simp[*];done)|split)
@[simp] theorem FX(a b v):NF P (Builtin.firstCells a b v):=by unfold Builtin.firstCells;repeat' (first|(simp[*];done)|split)
@[simp] theorem Wq(a t b):NF P (Builtin.len_ a t b):=by unfold Builtin.len_;repeat' (first|(simp[*];done)|with_reducible refine We (λ_=>?_) (by with_unfolding_all trivial)|with_reducible refine NF.bind ?_ λ_=>?_|with_reducible refine NF.ite (λ_=>?_) (λ_=>?_)|split|dsimp only)
@[simp] theorem Gm(a b):NF P (Builtin.min2 a b):=by unfold Builtin.min2;repeat' (first|(simp[*];done)|with_reducible refine NF.bind ?_ λ_=>?_|split)
end
section
attribute [local simp] NF.stuck NF.unsupported NF.pure NF.bind
variable{P:ay}
def wy{α:Type}{t:aA}{d:TypeDesc}{k:TypeDesc->Sem α}(h:P.underlying t=some d)(a:NF P (k d)):NF P (underlying t>>=k):=by
 have e:underlying t=Sem.program λp=>(match p.underlying t with|some d=>.pure d|none=>.halt (.stuck "no such type")):=by unfold underlying program;simp only[bind,Sem.bind];congr 1
 rw[e];show NF P (Sem.bind (match P.underlying t with|some d=>Sem.pure d|none=>.halt (.stuck "no such type")) k);rw[h];exact a
theorem Ga{α β:Type}{f:β->α->Sem β}(d:∀b a,NF P (f b a)):∀(l:List α) (b:β),NF P (l.foldlM f b)
 |[],b=>by rw[List.foldlM_nil];exact NF.pure _
 |x::e,b=>by rw[a7i];exact NF.bind (d b x) λc=>Ga d e c
@[simp] theorem Wy(a:Array aA)(t:aA)(b:Array af):NF P (Builtin.min_ a t b):=by
 unfold Builtin.min_;split
 .simp[*]
 .exact Ga (λ_ _=>Gm _ _) _ _
def Wx{α:Type}(a b c:Nat)(base:Option ap)(x:af){k:Bool->Sem α}(e:∀b,NF P (k b))(d:∀b,dD (k b)):NF P (Builtin.mayShare a b c base x>>=k):=by
 unfold Builtin.mayShare Builtin.holdsCells;cases base with
 |none=>
  cases x with
  |slice p l m=>
   cases p with
   |none=>exact e _
   |some p=>intro o;cases o<;>exact e _
  |_=>exact e _
 |some p=>
  intro o;have:∀q:Bool,dD ((match q with|true=>(pure true:Sem Bool)|false=>(match x with
   | .slice (some b) _ _=>do pure (!(<-Builtin.holdsCells b (c*a))||(some p).any (·.block==b.block))
   |_=>pure false))>>=k):=by
   intro q;cases q with
   |true=>exact d _
   |false=>
    cases x with
    |slice p l m=>
     cases p with
     |none=>exact d _
     |some p=>intro o;cases o<;>exact d _
    |_=>exact d _
  cases o with
  |none=>refine Or.inl λq=>?_;exact this true
  |some o=>
   refine Or.inl λq=>?_;cases f:(p.spot.isNone&&decide (p.off+b*a<=o.2))with
   |true=>cases q with
    |true=>simp only;exact this true
    |false=>simp only;exact this false
   |false=>simp only;exact this true
def lR(P:ay):Nat->aA->Bool
 |0,_=>false
 |d+1,t=>match P.underlying t with
  |some (.int _)|some .bool|some .string=>true
  |some (.struct a)=>a.all λf=>lR P d f.type
  |_=>false
def wj{α β:Type}{f:α->β->Sem (ForInStep β)}(l:Array α)(d:∀a∈l,∀b,NF P (f a b))(b:β):NF P (forIn l b f):=by
 have:=nN;rw[<-l7];have c:∀(l:List α),(∀a∈l,∀b,NF P (f a b))->∀b,NF P (forIn l b f):=by
  intro l;induction l with
  |nil=>intro _ b;rw[a7v];exact NF.pure _
  |cons a l e=>
   intro h b;rw[a7m];refine NF.bind (h a (by simp) b) λs=>?_;cases s with
   |done b=>exact NF.pure _
   |yield b=>exact e (λx g=>h x (by simp[g])) b
 exact c l.toList (λa i=>d a (by simpa using i)) b
def V8:∀(d n:Nat) (t:aA) (x y:af),lR P d t=true->d<=n->NF P (Op.equalIn n t x y):=by
 intro d;induction d with
 |zero=>intro n t x y h;cases h
 |succ d e=>
  intro n t x y h l;obtain⟨n,rfl⟩:∃m,n=m+1:=⟨n - 1,by omega⟩;unfold lR at h;cases c:P.underlying t with
  |none=>rw[c]at h;cases h
  |some g=>
   rw[c]at h;rw[Op.equalIn];refine wy c ?_;cases g<;>first|cases h|skip
   case struct o=>
    dsimp only at h;split<;>first|contradiction|skip
    all_goals first|exact NF.stuck _|skip
    rename_i a s u i;cases i;rw[gO]at h;refine NF.bind sM λp=>NF.ite (λ_=>trivial) λ_=>NF.bind (wj _ (λf j b=>?_) _) λr=>?_
    .refine NF.ite (λ_=>?_) λ_=>NF.pure _;refine NF.bind (qj _ _ _) λ_=>NF.bind (qj _ _ _) λ_=>NF.bind ?_ λ_=>?_
     .obtain⟨q,k,rfl⟩:=fI.1 j;exact e _ _ _ _ (h q k) (by omega)
     .repeat' (first|(simp[*];done)|split)
    .repeat' (first|(simp[*];done)|with_reducible refine NF.bind ?_ λ_=>?_|split|dsimp only)
   all_goals(split<;>first|contradiction|repeat' (first|(simp[*];done)|with_reducible refine NF.bind ?_ λ_=>?_|split))
def V7{t:aA}(h:lR P 4 t=true)(x y:af):NF P (Op.equal t x y):=V8 4 _ t x y h (by decide)
def FW{t:aA}{x y:af}(h:sN x=true\/sN y=true):NF P (Op.equal t x y):=by
 unfold Op.equal;rw[show Op.maxDepth=9999+1 from rfl,Op.equalIn];refine NF.bind (mM _) λd=>?_;have f:∀b,NF P (samePointer none b):=λb=>by cases b<;>exact NF.pure _
 have e:∀a,NF P (samePointer a none):=λb=>by cases b<;>exact NF.pure _
 obtain h|h:=h
 .cases x<;>first|(cases h;done)|skip
  case pointer a=>
   cases a
   .split<;>first|contradiction|(rename_i c;cases c;done)|(rename_i c;cases c;exact f _)|simp[*]
   .cases h
  case slice a _ _=>
   cases a
   .split<;>first|contradiction|simp[*]
   .cases h
  case map a=>
   cases a
   .split<;>first|contradiction|simp[*]
   .cases h
  all_goals(split<;>first|contradiction|simp[*])
 .cases y<;>first|(cases h;done)|skip
  case pointer a=>
   cases a
   .split<;>first|contradiction|(rename_i c;cases c;done)|(rename_i c;cases c;exact e _)|simp[*]
   .cases h
  case slice a _ _=>
   cases a
   .split<;>first|contradiction|simp[*]
   .cases h
  case map a=>
   cases a
   .split<;>first|contradiction|simp[*]
   .cases h
  all_goals(split<;>first|contradiction|simp[*])
def V6:∀(d n:Nat) (t:aA) (x y:af),lR P d t=true->d<=n->NF P (Op.eqGuardIn n t x y):=by
 intro d;induction d with
 |zero=>intro n t x y h;cases h
 |succ d e=>
  intro n t x y h l;obtain⟨n,rfl⟩:∃m,n=m+1:=⟨n - 1,by omega⟩;unfold lR at h;cases c:P.underlying t with
  |none=>rw[c]at h;cases h
  |some g=>
   rw[c]at h;rw[Op.eqGuardIn];refine wy c ?_;cases g<;>first|cases h|skip
   case struct o=>
    dsimp only at h;split<;>first|contradiction|skip
    all_goals first|exact NF.pure _|skip
    rename_i a p s i;cases i;rw[gO]at h;refine NF.bind (wj _ (λf j b=>?_) _) λr=>?_
    .refine NF.ite (λ_=>?_) λ_=>NF.pure _;refine NF.bind (qj _ _ _) λ_=>NF.bind (qj _ _ _) λ_=>NF.bind ?_ λ_=>?_
     .obtain⟨q,k,rfl⟩:=fI.1 j;exact e _ _ _ _ (h q k) (by omega)
     .repeat' (first|(simp[*];done)|split)
    .repeat' (first|(simp[*];done)|with_reducible refine NF.bind ?_ λ_=>?_|split|dsimp only)
   all_goals(split<;>first|contradiction|simp[*])
def zf(P:ay)(c:BinOp)(t:aA)(x y:Operand)(a b:af):Prop:=(c !=.eql&&c !=.neq)=true\/lR P 4 t=true\/(∃v,x=.const v/\a=v/\sN v=true)\/∃v,y=.const v/\b=v/\sN v=true
def V5(c:BinOp){t:aA}{x y:Operand}{a b:af}(h:zf P c t x y a b):NF P (eqGuard c t x y a b):=by
 obtain h|h|⟨v,rfl,rfl,h⟩|⟨v,rfl,rfl,h⟩:=h
 .unfold eqGuard;cases c<;>first|(exact absurd h (by decide))|(exact NF.ite (λ_=>NF.pure _) (λh0=>absurd rfl h0))
 .have:=V6 (P:=P) 4 Op.maxDepth t;unfold eqGuard
  repeat' (first|(simp[*];done)|with_reducible refine We (λ_=>?_) (by with_unfolding_all trivial)|with_reducible refine NF.bind ?_ λ_=>?_|with_reducible refine NF.ite (λ_=>?_) (λ_=>?_)|split|dsimp only)
  all_goals exact this _ _ h (by decide)
 .unfold eqGuard;refine NF.ite (λ_=>NF.pure _) λ_=>?_;split
  .exact NF.ite (λ_=>NF.pure _) λh0=>absurd rfl h0
  .cases h
  .exact NF.pure _
 .unfold eqGuard;refine NF.ite (λ_=>NF.pure _) λ_=>?_;split
  .exact NF.ite (λ_=>NF.pure _) λh0=>absurd (by simp) h0
  .cases h
  .exact NF.pure _
@[simp] theorem Xb(t:aA)(x y:af):NF P (Builtin.unsafeAdd_ #[] t #[x,y]):=by
 cases x with
 |pointer a=>
  refine NF.bind (we y) λn=>NF.ite (λ_=>?_) λ_=>NF.ite (λ_=>?_) λ_=>?_
  .cases a with
   |none=>exact NF.unsupported _
   |some a=>
    refine NF.bind (AK a.block) λo=>?_;cases o
    .exact NF.pure _
    .exact NF.unsupported _
  .exact NF.unsupported _
  .cases a with
   |none=>exact NF.unsupported _
   |some a=>
    refine NF.bind (Gx a.block) λo=>?_;cases o with
    |none=>exact NF.unsupported _
    |some o=>
     refine NF.bind sM λp=>?_;split
     .exact NF.pure _
     .exact NF.unsupported _
 |_=>exact NF.stuck _
@[simp] theorem Vu(a:ap)(b:Bool):NF P (asNumber a b):=by exact NF.bind (s:=newObj (.number a b)) ⟨trivial,λ_=>trivial⟩ λ_=>trivial
@[simp] theorem WA(t:aA)(x y:af):NF P (movedNumber t x y):=by unfold movedNumber;repeat' (first|(simp[*];done)|with_reducible refine NF.bind ?_ λ_=>?_|split)
@[simp] theorem WB(t:aA)(x y:af):NF P (movedPointer t x y):=by unfold movedPointer;repeat' (first|(simp[*];done)|with_reducible refine NF.bind ?_ λ_=>?_|split)
def Vy(c:BinOp){t:aA}{x y:Operand}{a b:af}(h:zf P c t x y a b):NF P (binOp c t a b):=by
 obtain h|h:=h
 .unfold binOp;split<;>first|(exact absurd h (by decide))|repeat' (first|(simp[*];done)|with_reducible refine NF.bind ?_ λ_=>?_|split)
 .have:NF P (Op.equal t a b):=by
   obtain h|⟨v,rfl,rfl,h⟩|⟨v,rfl,rfl,h⟩:=h
   .exact V7 h _ _
   .exact FW (.inl h)
   .exact FW (.inr h)
  unfold binOp;split<;>first|(exact NF.bind this λ_=>NF.pure _)|repeat' (first|(simp[*];done)|with_reducible refine NF.bind ?_ λ_=>?_|split)
def fu{α:Type}:Sem α->Prop
 | .pure _=>False
 | .load _ _ k=> ∀v,fu (k v)
 | .store _ _ _ k=>fu k
 | .new _ k=> ∀r,fu (k r)
 | .shape _ k=> ∀s,fu (k s)
 | .freeze _ _ k=>fu k
 | .frozen _ k=> ∀b,fu (k b)
 | .getObj _ k=> ∀o,fu (k o)
 | .setObj _ _ k=>fu k
 | .choose _ k=> ∀n,fu (k n)
 | .sys _ k=> ∀r,fu (k r)
 | .program k=> ∀P,fu (k P)
 | .mark _ k=>fu k
 | .halt _=>True
def fu.run{α:Type}:∀(s:Sem α) (w:aa) (es:Array aJ),fu s->∀a w',(s.runT P w es).1≠.ok a w':=by
 intro s;induction s with
 |pure a=>intro w es h;exact h.elim
 |load m a k b=>
  intro w es h;simp only[Sem.runT];split
  .exact b _ _ _ (h _)
  .split
   .exact b _ _ _ (h _)
   .intro a w' h;cases h
 |store m a v k b=>
  intro w es h;obtain⟨d,e⟩|⟨c,rfl⟩|⟨c,rfl⟩:=xz v
  .rw[xe d e];split
   .split
    .intro a w' h;cases h
    .exact b _ _ h
   .split
    .exact b _ _ h
    .intro a w' h;cases h
  .intro a w' h;cases h
  .intro a w' h;cases h
 |new o k b=>intro w es h;exact b _ _ _ (h _)
 |shape r k b=>intro w es h;exact b _ _ _ (h _)
 |freeze a n k b=>intro w es h;exact b _ _ h
 |frozen a k b=>intro w es h;exact b _ _ _ (h _)
 |getObj r k b=>
  intro w es h;simp only[Sem.runT];split
  .intro a w' h;cases h
  .exact b _ _ _ (h _)
  .intro a w' h;cases h
 |setObj r o k b=>
  intro w es h;simp only[Sem.runT];split
  .intro a w' h;cases h
  .exact b _ _ h
  .intro a w' h;cases h
 |choose q k b=>
  intro w es h;simp only[Sem.runT];split
  .exact b _ _ _ (h _)
  .exact b _ _ _ (h _)
 |sys c k b=>intro w es h;exact b _ _ _ (h _)
 |program k b=>intro w es h;exact b _ _ _ (h _)
 |mark m k b=>intro w es h;exact b _ _ h
 |halt h=>intro w es _ a w' h;cases h
def TH.ends{α β:Type}{k:α->Sem β}{s:Sem α}(h:TH P s)(e:fu s):TH P (s.bind k):=by
 intro Z K w u c hF r g b i;rw[Sem.runT_bind']at b⊢;rcases d:s.runT P u c with⟨j,l⟩;rw[d]at b;cases j with
 |ok a u1=>exact absurd (congrArg Prod.fst d) (fu.run s u c e a u1)
 |halt x u1=>
  simp only[gQ]at b;obtain⟨rfl,rfl⟩:=b;have f:Yields (.halt x u1:Result α):=by cases x<;>first|exact i.elim|trivial
  obtain⟨m,n,o,p⟩:=h Z K w u c hF _ _ d f;rw[n];exact⟨m,rfl,o,p⟩
def VZ{α β:Type}{k:α->Sem β}:∀{s:Sem α},NF P s->fu s->NF P (s.bind k):=by
 intro s;induction s with
 |pure a=>intro _ h;exact h.elim
 |load m a k d=>intro h e v;exact d v (h v) (e v)
 |store m a v k d=>intro h e;exact d h e
 |new o k d=>intro h e;exact⟨h.1,λv=>d v (h.2 v) (e v)⟩
 |shape r k d=>intro h e v;exact d v (h v) (e v)
 |freeze a n k d=>intro h;exact h.elim
 |frozen a k d=>
  intro h e;obtain h|⟨g,f⟩|h:=h
  .exact .inl λb=>dD.bind' (h b)
  .exact .inr (.inl ⟨dD.bind' g,d false f (e false)⟩)
  .exact .inr (.inr (TH.ends (s:=.frozen a k) h e))
 |getObj r k d=>
  intro h e;obtain⟨g,f⟩|h:=h
  .refine .inl ⟨λo=>d o (g o) (e o),?_⟩;obtain f|f:=f
   .exact .inl (dD.bind' f)
   .exact .inr λo i=>congrArg (λs=>Sem.bind s _) (f o i)
  .exact .inr (TH.ends (s:=.getObj r k) h e)
 |setObj r o k d=>intro h;exact h.elim
 |choose q k d=>intro h e v;exact d v (h v) (e v)
 |sys c k d=>intro h e;exact⟨h.1,λv=>d v (h.2 v) (e v)⟩
 |program k d=>intro h e;exact d P h (e P)
 |mark m k d=>intro h e;exact d h e
 |halt h=>intro _ _;trivial
def fu.bind{α β:Type}{k:α->Sem β}(d:∀a,fu (k a)):∀(s:Sem α),fu (s.bind k):=by
 intro s;induction s with
 |pure a=>exact d a
 |load m a k b=>exact b
 |store m a v k b=>exact b
 |new o k b=>exact b
 |shape r k b=>exact b
 |freeze a n k b=>exact b
 |frozen a k b=>exact b
 |getObj r k b=>exact b
 |setObj r o k b=>exact b
 |choose q k b=>exact b
 |sys c k b=>exact b
 |program k b=>exact b
 |mark m k b=>exact b
 |halt h=>trivial
def Qp{α:Type}(e:RuntimeError):fu (runtimePanic e:Sem α):=by refine fu.bind (λp=>?_) _;cases e<;>first|exact trivial|(refine fu.bind (λa=>?_) _;refine fu.bind (λb=>?_) _;exact trivial)
@[simp] theorem AG{α β:Type}(e:RuntimeError)(k:α->Sem β):NF P (runtimePanic e>>=k):=VZ (oQ e) (Qp e)
@[simp] theorem Xd{α β:Type}(e:Unsupported)(k:α->Sem β):NF P (unsupported e>>=k):=trivial
@[simp] theorem AI{α β:Type}(e:String)(k:α->Sem β):NF P (stuck e>>=k):=trivial
@[simp] theorem WS(a b c:Nat)(base:Option ap)(x:af)(m:Mark)(u:Unsupported){α:Type}:NF P (Builtin.mayShare a b c base x>>=λq=>if (!q)=true then (mark m>>=λ_=>(unsupported u:Sem α))else unsupported u):=
 Wx a b c base x (λq=>by cases q<;>exact trivial) (λq=>by cases q<;>exact trivial)
@[simp] theorem Vr(a:Array aA)(t:aA)(b:Array af):NF P (Builtin.append_ a t b):=by
 unfold Builtin.append_
 repeat' (first|with_reducible exact WS _ _ _ _ _ _ _|(simp[*];done)|with_reducible refine We (λ_=>?_) (by with_unfolding_all trivial)|with_reducible refine NF.bind ?_ λ_=>?_|with_reducible refine NF.ite (λ_=>?_) (λ_=>?_)|split|dsimp only)
@[simp] theorem Ge(k:IntKind)(n:Int):NF P (Conv.intToInt k n):=by unfold Conv.intToInt;simp[*]
@[simp] theorem F0(s:FloatKind)(b:Nat)(k:IntKind):NF P (Conv.floatToInt s b k):=by unfold Conv.floatToInt;repeat' (first|(simp[*];done)|with_reducible refine NF.bind ?_ λ_=>?_|split)
end
section
attribute [local simp] NF.stuck NF.unsupported NF.pure NF.bind
variable{P:ay}
@[simp] theorem wl(t)(x:Place):NF P (x.get t):=by unfold Place.get;repeat' (first|(simp[*];done)|split)
@[simp] theorem Aw:∀l t x,NF P (follow l t x)
 |[],t,x=>by unfold follow;simp[*]
 |s::l,t,x=>by
  have a:=Aw l;unfold follow;refine NF.bind (mM _) λd=>?_;split
  .split
   .refine NF.ite (λ_=>?_) λ_=>?_
    .exact NF.bind (wl _ _) λ_=>NF.bind (oP _) λ_=>NF.bind (Av _ _) λ_=>a _ _
    .split
     .exact NF.bind (Av _ _) λ_=>a _ _
     .exact NF.bind (qj _ _ _) λ_=>a _ _
     .exact NF.stuck _
   .exact NF.stuck _
  .exact NF.stuck _
@[simp] theorem Xg(t p n s):NF P (Builtin.ssaWrapNilChk_ #[t] t #[p,.string s,n]):=by
 cases n<;>first|exact NF.stuck _|skip
 cases p<;>first|exact NF.stuck _|skip
 rename_i m a;cases a with
 |some a=>exact NF.pure _
 |none=>
  refine NF.bind (As _) λc=>NF.ite (λ_=>AG _ _) λ_=>NF.bind (mM _) λd=>?_;split
  .refine NF.bind (wx _) λi=>?_;split
   .split
    .dsimp only;split<;>simp[*]
    .simp[*]
   .simp[*]
  .simp[*]
@[simp] theorem WM(t x b w):NF P (receiverAt t x b w):=by
 unfold receiverAt;refine NF.bind (mM _) λd=>?_;split
 .simp[*]
 .refine NF.bind (wl _ _) λp=>?_;cases w with
  |none=>simp[*]
  |some n=>exact NF.bind (Xg _ _ _ _) λ_=>by simp[*]
 .simp[*]
 .simp[*]
 .simp[*]
@[simp] theorem Gu(t v p b):NF P (receiverVia t v p b):=by unfold receiverVia;simp[*]
@[simp] theorem Az:∀n t v s,NF P (method n t v s)
 |0,_,_,_=>NF.unsupported _
 |n+1,t,v,s=>by
  have a:=Az n;unfold method;refine NF.bind (wx _) λi=>?_;split
  .refine NF.bind (Aw _ _ _) λx=>?_;dsimp only;split
   .refine NF.bind (wl _ _) λy=>?_;split
    .exact a _ _ _
    .simp[*]
    .simp[*]
   .repeat' (first|(simp[*];done)|with_reducible refine NF.bind ?_ λ_=>?_|split)
  .simp[*]
@[simp] theorem Gc(l):NF P (Instr.getLoop l):=by unfold Instr.getLoop;repeat' (first|(simp[*];done)|with_reducible refine We (λ_=>?_) (by with_unfolding_all trivial)|with_reducible refine NF.bind ?_ λ_=>?_|with_reducible refine NF.ite (λ_=>?_) (λ_=>?_)|split|dsimp only)
@[simp] theorem Xh(l a):NF P (Instr.yield l a):=by unfold Instr.yield;repeat' (first|(simp[*];done)|with_reducible refine NF.bind ?_ λ_=>?_|split)
def FV(b:∀f a,NF P (callFunc f a))(r n a):NF P (callMethod r n a):=by
 unfold callMethod;split
 .exact NF.bind sM λ_=>NF.bind (Az _ _ _ _) λ_=>b _ _
 .simp[*]
 .simp[*]
def Ar:Builtin->Bool
 | .append| .cap| .clear| .copy| .len| .min=>true
 |_=>false
@[simp] theorem VN(a t b):NF P (Builtin.cap_ a t b):=by unfold Builtin.cap_;repeat' (first|(simp[*];done)|with_reducible refine We (λ_=>?_) (by with_unfolding_all trivial)|with_reducible refine NF.bind ?_ λ_=>?_|with_reducible refine NF.ite (λ_=>?_) (λ_=>?_)|split|dsimp only)
@[simp] theorem VR(a t b):NF P (Builtin.copy_ a t b):=by
 unfold Builtin.copy_
 repeat' (first|(simp[*];done)|with_reducible refine NF.bind ?_ λ_=>?_|split)
 all_goals first|exact Gg _|exact FX _ _ _|repeat' (first|(simp[*];done)|with_reducible refine We (λ_=>?_) (by with_unfolding_all trivial)|with_reducible refine NF.bind ?_ λ_=>?_|with_reducible refine NF.ite (λ_=>?_) (λ_=>?_)|split|dsimp only)
@[simp] theorem VP(a t b):NF P (Builtin.clear_ a t b):=by
 unfold Builtin.clear_;split
 .refine NF.bind (mM _) λd=>?_;split<;>first|exact tI trivial (λo c=>by cases o<;>first|exact c.elim|trivial) (λo=>by cases o<;>first|exact .inr ⟨_,_,rfl,trivial,trivial⟩|exact .inl trivial)|repeat' (first|(simp[*];done)|with_reducible refine NF.bind ?_ λ_=>?_|split)
 .simp[*]
def a8i{b}(h:Ar b=true)(d t c a):NF P (builtin b d t c a):=by
 cases b<;>first|cases h|skip
 all_goals first|exact NF.bind (Vr _ _ _) λ_=>NF.pure _|exact NF.bind (Wq _ _ _) λ_=>NF.pure _|exact NF.bind (Wy _ _ _) λ_=>NF.pure _|exact NF.bind (VN _ _ _) λ_=>NF.pure _|exact NF.bind (VR _ _ _) λ_=>NF.pure _|exact NF.bind (VP _ _ _) λ_=>NF.pure _
def wn(d:∀f a,NF P (callFunc f a))(fn c a):NF P (invoke (.fn fn c) a):=by
 unfold invoke;cases fn with
 |func f=>exact d _ _
 |method n=>
  dsimp only;split
  .exact FV d _ _ _
  .simp[*]
 |methodOf t n=>
  dsimp only;split
  .exact NF.bind (mM _) λ_=>FV d _ _ _
  .simp[*]
 |via t p f b=>
  dsimp only;split
  .exact NF.bind (Gu _ _ _ _) λ_=>d _ _
  .simp[*]
 |yield l=>exact Xh _ _
def VM(g:∀f a,NF P (callFunc f a))(ρ c t)(h:∀b,c.callee=.builtin b->Ar b=true):NF P (resolve ρ c t>>=λd=>invoke d.target d.args):=by
 unfold resolve;cases e:c.callee with
 |builtin b=>exact a8i (h b e) _ _ _ _
 |invoke r n=>exact wn g (.method n) #[] (#[ρ r]++c.args.map ρ)
 |value f=>
  dsimp only;unfold Deferred.ofValue;cases ρ f with
  |func i a b=>exact wn g i b (a++c.args.map ρ)
  |nilFunc=>exact oQ (α:=Next) .nilDeref
  |_=>exact AI (α:=Deferred) _ _
end
section
attribute [local simp] NF.stuck NF.unsupported NF.pure NF.bind
variable{P:ay}
@[simp] theorem Wb(t v i):NF P (Instr.field t v i):=by unfold Instr.field;repeat' (first|(simp[*];done)|with_reducible refine NF.bind ?_ λ_=>?_|split)
@[simp] theorem Wi(t v i):NF P (Instr.index t v i):=by unfold Instr.index;repeat' (first|(simp[*];done)|with_reducible refine NF.bind ?_ λ_=>?_|split)
@[simp] theorem Wa(v i):NF P (Instr.extract v i):=by unfold Instr.extract;repeat' (first|(simp[*];done)|split)
@[simp] theorem W8(v a b c):NF P (Instr.typeAssert v a b c):=by unfold Instr.typeAssert;repeat' (first|(simp[*];done)|with_reducible refine NF.bind ?_ λ_=>?_|split)
@[simp] theorem Gb:∀l t x,NF P (followBlind l t x)
 |[],t,x=>NF.pure _
 |s::l,t,x=>by
  have a:=Gb l;unfold followBlind
  repeat' (first|(simp[*];done)|with_reducible refine NF.bind ?_ λ_=>?_|split)
  all_goals exact a _ _
@[simp] theorem Gq:∀n t v s,NF P (nilAhead n t v s)
 |0,_,_,_=>NF.pure _
 |n+1,t,v,s=>by
  have a:=Gq n;unfold nilAhead
  repeat' (first|(simp[*];done)|with_reducible refine NF.bind ?_ λ_=>?_|split)
  all_goals first|exact Gb _ _ _|exact a _ _ _
@[simp] theorem WR(a):NF P (Conv.seenAt a):=by
 unfold Conv.seenAt
 repeat' (first|(simp[*];done)|with_reducible refine NF.bind ?_ λ_=>?_|split)
 all_goals trivial
@[simp] theorem VO(b):NF P (cellsIn b):=by
 intro s;cases s with
 |some q=>trivial
 |none=>exact .inl ⟨λo=>by cases o<;>trivial,.inr λo a=>by cases o<;>first|exact a.elim|rfl⟩
@[simp] theorem Xe(a t n):NF P (variablesAt a t n):=by unfold variablesAt;repeat' (first|(simp[*];done)|with_reducible refine NF.bind ?_ λ_=>?_|split)
@[simp] theorem Xf(a t):NF P (newObj (.view a t)):=⟨trivial,λ_=>trivial⟩
@[simp] theorem Xc(s d x):NF P (Conv.unsafePointer s d x):=by
 unfold Conv.unsafePointer
 repeat' (first|(simp[*];done)|with_reducible refine NF.bind ?_ λ_=>?_|split)
 all_goals first|exact WR _|exact VO _|exact Xe _ _ _|exact Xf _ _|trivial|skip
def pF(P:ay)(s d:aA):Bool:=match P.underlying s,P.underlying d with
 |some (.int _),some (.int _)=>true
 |some (.pointer _),some .unsafePointer=>true
 |some .unsafePointer,some (.pointer _)=>true
 |some .string,some .string=>true
 |some (.slice _),some .string=>true
 |_,_=>false
@[simp] theorem FT(x):NF P (Conv.bytesToString x):=by
 unfold Conv.bytesToString
 repeat' (first|(simp[*];done)|with_reducible refine We (λ_=>?_) (by with_unfolding_all trivial)|with_reducible refine NF.bind ?_ λ_=>?_|with_reducible refine NF.ite (λ_=>?_) (λ_=>?_)|split|dsimp only)
 exact wj _ (λc _ b=>by repeat' (first|(simp[*];done)|with_reducible refine NF.bind ?_ λ_=>?_|split)) _
@[simp] theorem Gw(x):NF P (Conv.runesToString x):=by
 unfold Conv.runesToString
 repeat' (first|(simp[*];done)|with_reducible refine We (λ_=>?_) (by with_unfolding_all trivial)|with_reducible refine NF.bind ?_ λ_=>?_|with_reducible refine NF.ite (λ_=>?_) (λ_=>?_)|split|dsimp only)
 exact wj _ (λc _ b=>by repeat' (first|(simp[*];done)|with_reducible refine NF.bind ?_ λ_=>?_|split)) _
def Au{s d}(h:pF P s d=true)(x):NF P (convert s d x):=by
 unfold pF at h;cases c:P.underlying s with
 |none=>rw[c]at h;cases h
 |some a=>
  cases e:P.underlying d with
  |none=>rw[c,e]at h;cases a<;>cases h
  |some b=>
   rw[c,e]at h;unfold convert;refine wy c (wy e ?_);cases a<;>first|(cases h;done)|skip
   all_goals(cases b<;>first|(cases h;done)|skip)
   all_goals(split<;>first|contradiction|exact Ge _ _|exact F0 _ _ _|exact Xc _ _ _|exact FT _|exact Gw _|(unfold Conv.intToString;simp[*];done)|((repeat' (first|(simp[*];done)|with_reducible refine NF.bind ?_ λ_=>?_|split));all_goals first|exact FT _|exact Gw _))
@[simp] theorem WE(ρ x dst b pos a guard):NF P (execOp ρ ⟨dst,.nilCheck x,b,pos,a,guard⟩):=by
 unfold execOp;dsimp only
 repeat' (first|(simp[*];done)|with_reducible refine NF.bind ?_ λ_=>?_|split)
 all_goals first|exact Gq _ _ _ _|skip
def qi(P:ay):Op->Bool
 | .move _| .assign _| .pick .. | .nilCheck _| .alloc _| .box .. | .build .. | .buildSlice .. | .load .. | .store .. | .unOp .. | .makeInterface .. | .makeFunc .. | .makeSlice .. | .slice .. | .fieldAddr .. | .field .. | .indexAddr .. | .index .. | .typeAssert .. | .extract .. | .panic _=>true
 | .binOp a t x y _=>(a !=.eql&&a !=.neq)||lR P 4 t||wA x||wA y
 | .convert s d _=>pF P s d
 | .call c| .defer c=>match c.callee with
  | .builtin b=>Ar b
  |_=>true
 |_=>false
@[simp] theorem WO(ρ c t):NF P (resolve ρ c t):=by
 unfold resolve;cases c.callee with
 |builtin b=>exact NF.pure _
 |invoke r n=>exact NF.pure _
 |value f=>
  dsimp only;unfold Deferred.ofValue;cases ρ f with
  |func d a b=>exact NF.pure _
  |nilFunc=>exact NF.pure _
  |_=>exact NF.stuck _
@[simp] theorem V9(k:∀f a,NF P (callFunc f a))(ρ)(i:∀v,ρ (.const v)=v)(o)(h:qi P o.op=true):NF P (execOp ρ o):=by
 obtain⟨l,e,m,n,g,guard⟩:=o;dsimp only at h;cases e<;>first|exact(Bool.false_ne_true h).elim|skip
 case move=>exact NF.pure _
 case assign=>exact NF.pure _
 case pick=>exact NF.bind (FR _) λ_=>NF.pure _
 case nilCheck=>exact WE _ _ _ _ _ _ _
 case alloc=>exact NF.bind (Vq _ _ _) λ_=>NF.pure _
 case box=>exact NF.bind (VA _ _) λ_=>NF.pure _
 case build=>exact NF.bind (VB _ _) λ_=>NF.pure _
 case buildSlice=>exact NF.bind (VC _ _ _) λ_=>NF.pure _
 case load=>exact NF.bind (Gj _ _) λ_=>NF.pure _
 case store=>exact NF.bind (WZ _ _ _) λ_=>NF.pure _
 case binOp e t x y u=>
  have j:zf P e t x y (ρ x) (ρ y):=by
   simp only[qi,a6V]at h;obtain((h|h)|h)|h:=h
   .exact .inl h
   .exact .inr (.inl h)
   .refine .inr (.inr (.inl ?_));cases x<;>first|(cases h;done)|exact⟨_,rfl,i _,h⟩
   .refine .inr (.inr (.inr ?_));cases y<;>first|(cases h;done)|exact⟨_,rfl,i _,h⟩
  exact NF.bind (NF.bind (V5 e j) λ_=>Vy e j) λ_=>NF.pure _
 case unOp=>exact NF.bind (Xa _ _) λ_=>NF.pure _
 case convert s d x=>exact NF.bind (Au h _) λ_=>NF.pure _
 case makeInterface=>exact NF.bind (Wt _ _) λ_=>NF.pure _
 case makeFunc=>exact NF.bind (Ws _ _ _) λ_=>NF.pure _
 case makeSlice=>exact NF.bind (Wu _ _ _) λ_=>NF.pure _
 case slice=>exact NF.bind (WV _ _ _ _ _) λ_=>NF.pure _
 case fieldAddr=>exact NF.bind (Wc _ _ _) λ_=>NF.pure _
 case field=>exact NF.bind (Wb _ _ _) λ_=>NF.pure _
 case indexAddr=>exact NF.bind (Wj _ _ _) λ_=>NF.pure _
 case index=>exact NF.bind (Wi _ _ _) λ_=>NF.pure _
 case typeAssert=>exact NF.bind (W8 _ _ _ _) λ_=>NF.pure _
 case extract=>exact NF.bind (Wa _ _) λ_=>NF.pure _
 case call c=>refine VM k ρ c m λb p=>?_;simpa[qi,p]using h
 case defer c=>exact NF.bind (WO _ _ _) λ_=>NF.pure _
 case panic=>exact NF.bind (WJ _) λ_=>NF.pure _
end
end Go.Mir
end
