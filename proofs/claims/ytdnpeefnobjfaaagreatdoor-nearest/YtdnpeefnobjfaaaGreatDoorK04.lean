import Derived.Test.YtdnpeefnobjfaaaGreatDoorK03
set_option maxRecDepth 100000
set_option maxHeartbeats 4000000
set_option linter.all false
section
namespace Go.Mir
open Go
attribute [local simp] NF.stuck NF.unsupported NF.pure NF.bind
variable{P:aA}
def yK{α:Type}{t:bD}{d:TypeDesc}{k:TypeDesc->Sem α}(h:P.underlying t=some d)(a:NF P (k d)):NF P (underlying t>>=k):=by
 have e:underlying t=Sem.program λp=>(match p.underlying t with|some d=>.pure d|none=>.halt (.stuck "no such type")):=by unfold underlying program;simp only[bind,Sem.bind];congr 1
 rw[e];show NF P (Sem.bind (match P.underlying t with|some d=>Sem.pure d|none=>.halt (.stuck "no such type")) k);rw[h];exact a
theorem II{α β:Type}{f:β->α->Sem β}(d:∀b a,NF P (f b a)):∀(l:List α) (b:β),NF P (l.foldlM f b)
 |[],b=>by rw[List.foldlM_nil];simp_all
 |x::e,b=>by simp;exact NF.bind (d b x) λc=>II d e c
@[simp] theorem Y2(a:Array bD)(t:bD)(b:Array aj):NF P (Builtin.min_ a t b):=by
 unfold Builtin.min_;split
 .simp[*]
 .exact II (λ_ _=>Y3 _ _) _ _
def Y0{α:Type}(a b c:Nat)(base:Option aF)(x:aj){k:Bool->Sem α}(d:∀b,NF P (k b))(e:∀b,dm (k b)):NF P (Builtin.mayShare a b c base x>>=k):=by
 unfold Builtin.mayShare Builtin.holdsCells;cases base with
 |none=>
  cases x with
  |slice p l m=>
   cases p with
   |none=>grind
   |some p=>intro o;cases o<;>exact d _
  |_=>exact d _
 |some p=>
  intro o;have:∀q:Bool,dm ((match q with|true=>(pure true:Sem Bool)|false=>(match x with
   | .slice (some b) _ _=>do pure (!(<-Builtin.holdsCells b (c*a))||(some p).any (·.block==b.block))
   |_=>pure false))>>=k):=by
   intro q;cases q with
   |true=>grind
   |false=>
    cases x with
    |slice p l m=>
     cases p with
     |none=>grind
     |some p=>intro o;cases o<;>exact e _
    |_=>exact e _
  cases o with
  |none=>refine Or.inl λq=>?_;exact this true
  |some o=>
   refine Or.inl λq=>?_;cases f:(p.spot.isNone&&decide (p.off+b*a<=o.2))with
   |true=>cases q with
    |true=>simp only;exact this true
    |false=>simp only;exact this false
   |false=>simp only;exact this true
def mO(P:aA):Nat->bD->Bool
 |0,_=>false
 |d+1,t=>match P.underlying t with
  |some (.int _)|some .bool|some .string=>true
  |some (.struct a)=>a.all λf=>mO P d f.type
  |_=>false
def yI{α β:Type}{f:α->β->Sem (ForInStep β)}(l:Array α)(d:∀a∈l,∀b,NF P (f a b))(b:β):NF P (forIn l b f):=by
 have:=qV;rw[<-m6];have c:∀(l:List α),(∀a∈l,∀b,NF P (f a b))->∀b,NF P (forIn l b f):=by
  intro l;induction l with
  |nil=>simp_all
  |cons a l e=>
   grind[NF.bind,NF.pure]
 grind
def YF:∀(d n:Nat) (t:bD) (x y:aj),mO P d t=true->d<=n->NF P (Op.equalIn n t x y):=by
 intro d;induction d with
 |zero=>intro n t x y h;cases h
 |succ d e=>
  intro n t x y h l;obtain⟨n,rfl⟩:∃m,n=m+1:=⟨n - 1,a9h⟩;unfold mO at h;cases c:P.underlying t with
  |none=>rw[c]at h;cases h
  |some g=>
   rw[c]at h;rw[Op.equalIn];apply yK c;cases g<;>first|cases h|skip
   case struct o=>
    dsimp at h;split<;>first|contradiction|skip
    all_goals first|exact NF.stuck _|skip
    rename_i a s u i;cases i;rw[oq]at h;refine NF.bind IT λp=>NF.ite (λ_=>trivial) λ_=>NF.bind (yI _ (λf j b=>?_) _) λr=>?_
    .refine NF.ite (λ_=>?_) λ_=>NF.pure _;refine NF.bind (vG _ _ _) λ_=>NF.bind (vG _ _ _) λ_=>NF.bind ?_ λ_=>?_
     .obtain⟨q,k,rfl⟩:=fT.1 j;exact e _ _ _ _ (h q k) a9h
     .exact aW rfl
    .exact aW rfl
   all_goals(split<;>first|contradiction|exact aW rfl)
def YE{t:bD}(h:mO P 4 t=true)(x y:aj):NF P (Op.equal t x y):=YF 4 _ t x y h a9j
def IF{t:bD}{x y:aj}(h:vI x=true\/vI y=true):NF P (Op.equal t x y):=by
 unfold Op.equal;rw[show Op.maxDepth=9999+1 from rfl,Op.equalIn];refine NF.bind (qr _) λd=>?_;have f:∀b,NF P (samePointer none b):=λb=>by cases b<;>exact NF.pure _
 have e:∀a,NF P (samePointer a none):=λb=>by cases b<;>exact NF.pure _
 obtain h|h:=h
 .cases x<;>first|(cases h;done)|skip
  case pointer a=>
   cases a
   .split<;>first|contradiction|(rename_i c;cases c;done)|(rename_i c;cases c;exact f _)|simp[*]
   .cases h
  case slice a _ _=>
   cases a
   .split<;>first|contradiction|simp[*]
   .cases h
  case map a=>
   cases a
   .split<;>first|contradiction|simp[*]
   .cases h
  all_goals(split<;>first|contradiction|simp[*])
 .cases y<;>first|(cases h;done)|skip
  case pointer a=>
   cases a
   .split<;>first|contradiction|(rename_i c;cases c;done)|(rename_i c;cases c;exact e _)|simp[*]
   .cases h
  case slice a _ _=>
   cases a
   .split<;>first|contradiction|simp[*]
   .cases h
  case map a=>
   cases a
   .split<;>first|contradiction|simp[*]
   .cases h
  all_goals(split<;>first|contradiction|simp[*])
def YD:∀(d n:Nat) (t:bD) (x y:aj),mO P d t=true->d<=n->NF P (Op.eqGuardIn n t x y):=by
 intro d;induction d with
 |zero=>intro n t x y h;cases h
 |succ d j=>
  intro n t x y h k;obtain⟨n,rfl⟩:∃m,n=m+1:=⟨n - 1,a9h⟩;unfold mO at h;cases c:P.underlying t with
  |none=>rw[c]at h;cases h
  |some e=>
   rw[c]at h;rw[Op.eqGuardIn];apply yK c;cases e<;>first|cases h|skip
   case struct l=>
    dsimp at h;split<;>first|contradiction|skip
    all_goals first|exact NF.pure _|skip
    rename_i a o p g;cases g;rw[oq]at h;refine NF.bind (yI _ (λf i b=>?_) _) λr=>?_
    .refine NF.ite (λ_=>?_) λ_=>NF.pure _;refine NF.bind (vG _ _ _) λ_=>NF.bind (vG _ _ _) λ_=>NF.bind ?_ λ_=>?_
     .obtain⟨q,s,rfl⟩:=fT.1 i;simp_all
     .exact aW rfl
    .exact aW rfl
   all_goals simp_all
def Bl(P:aA)(c:BinOp)(t:bD)(x y:Operand)(a b:aj):Prop:=(c !=.eql&&c !=.neq)=true\/mO P 4 t=true\/(∃v,x=.const v/\a=v/\vI v=true)\/∃v,y=.const v/\b=v/\vI v=true
def YC(c:BinOp){t:bD}{x y:Operand}{a b:aj}(h:Bl P c t x y a b):NF P (eqGuard c t x y a b):=by
 obtain h|h|⟨v,rfl,rfl,h⟩|⟨v,rfl,rfl,h⟩:=h
 .unfold eqGuard;cases c<;>first|(exact absurd h a9j)|(exact NF.ite (λ_=>NF.pure _) (λh0=>absurd rfl h0))
 .have:=λx y=>YD (P:=P) 4 Op.maxDepth t x y h a9j;exact aW (eqGuard.eq_def ..)
 .unfold eqGuard;refine NF.ite (λ_=>NF.pure _) λ_=>?_;split
  .simp_all
  .cases h
  simp_all
 .unfold eqGuard;refine NF.ite (λ_=>NF.pure _) λ_=>?_;split
  .simp_all
  .cases h
  simp_all
@[simp] theorem a9b(t:bD)(x y:aj):NF P (Builtin.unsafeAdd_ #[] t #[x,y]):=by
 cases x with
 |pointer a=>
  refine NF.bind (Cu y) λn=>NF.ite (λ_=>?_) λ_=>NF.ite (λ_=>?_) λ_=>?_
  .cases a with
   |none=>exact NF.unsupported _
   |some a=>
    refine NF.bind (IW a.block) λo=>?_;cases o
    .exact NF.pure _
    .exact NF.unsupported _
  .exact NF.unsupported _
  .cases a with
   |none=>exact NF.unsupported _
   |some a=>
    refine NF.bind (Ze a.block) λo=>?_;cases o with
    |none=>exact NF.unsupported _
    |some o=>
     refine NF.bind IT λp=>?_;split
     .exact NF.pure _
     .exact NF.unsupported _
 |_=>exact NF.stuck _
@[simp] theorem a8o(a:aF)(b:Bool):NF P (asNumber a b):=by exact NF.bind (s:=newObj (.number a b)) ⟨trivial,λ_=>trivial⟩ λ_=>trivial
@[simp] theorem a8L(t:bD)(x y:aj):NF P (movedNumber t x y):=aW (movedNumber.eq_def ..)
@[simp] theorem a8M(t:bD)(x y:aj):NF P (movedPointer t x y):=aW (movedPointer.eq_def ..)
def Yn(c:BinOp){t:bD}{x y:Operand}{a b:aj}(h:Bl P c t x y a b):NF P (binOp c t a b):=by
 obtain h|h:=h
 .unfold binOp;split<;>first|(exact absurd h a9j)|exact aW rfl
 .have:NF P (Op.equal t a b):=by
   obtain h|⟨v,rfl,rfl,h⟩|⟨v,rfl,rfl,h⟩:=h
   .exact YE h _ _
   .exact IF (.inl h)
   .exact IF (.inr h)
  unfold binOp;split<;>first|(exact NF.bind this λ_=>NF.pure _)|exact aW rfl
def fu{α:Type}:Sem α->Prop
 | .pure _=>False
 | .load _ _ k=> ∀v,fu (k v)
 | .store _ _ _ k=>fu k
 | .new _ k=> ∀r,fu (k r)
 | .shape _ k=> ∀s,fu (k s)
 | .freeze _ _ k=>fu k
 | .frozen _ k=> ∀b,fu (k b)
 | .getObj _ k=> ∀o,fu (k o)
 | .setObj _ _ k=>fu k
 | .choose _ k=> ∀n,fu (k n)
 | .sys _ k=> ∀r,fu (k r)
 | .program k=> ∀P,fu (k P)
 | .mark _ k=>fu k
 | .halt _=>True
theorem fu.run{α:Type}:∀(s:Sem α) (w:aa) (es:Array aT),fu s->∀a w',(s.runT P w es).1≠.ok a w':=by
 intro s;induction s with
 |pure a=>intro w es h;exact h.elim
 |load m a k b=>
  intro w es h;simp only[Sem.runT];split
  .exact b _ _ _ (h _)
  .split
   .exact b _ _ _ (h _)
   simp_all
 |store m a v k b=>
  intro w es h;obtain⟨d,e⟩|⟨c,rfl⟩|⟨c,rfl⟩:=zU v
  .rw[zB d e];split
   .split
    .simp_all
    .exact b _ _ h
   .split
    .exact b _ _ h
    simp_all
  .intro a w' h;cases h
  .intro a w' h;cases h
 |new o k b=>intro w es h;exact b _ _ _ (h _)
 |shape r k b=>intro w es h;exact b _ _ _ (h _)
 |freeze a n k b=>intro w es h;exact b _ _ h
 |frozen a k b=>intro w es h;exact b _ _ _ (h _)
 |getObj r k b=>
  intro w es h;simp only[Sem.runT];split
  .simp_all
  .exact b _ _ _ (h _)
  simp_all
 |setObj r o k b=>
  intro w es h;simp only[Sem.runT];split
  .simp_all
  .exact b _ _ h
  simp_all
 |choose q k b=>
  intro w es h;simp only[Sem.runT];split
  .exact b _ _ _ (h _)
  .exact b _ _ _ (h _)
 |sys c k b=>intro w es h;exact b _ _ _ (h _)
 |program k b=>intro w es h;exact b _ _ _ (h _)
 |mark m k b=>intro w es h;exact b _ _ h
 |halt h=>simp_all
def TH.ends{α β:Type}{k:α->Sem β}{s:Sem α}(h:TH P s)(e:fu s):TH P (s.bind k):=by
 intro Z K w u c hF r g b i;rw[Sem.runT_bind']at b⊢;rcases d:s.runT P u c with⟨j,l⟩;rw[d]at b;cases j with
 |ok a u1=>exact absurd (congrArg Prod.fst d) (fu.run s u c e a u1)
 |halt x u1=>
  simp at b;obtain⟨rfl,rfl⟩:=b;have f:Yields (.halt x u1:Result α):=by cases x<;>first|exact i.elim|trivial
  let ⟨w1,h1,h2,h3⟩:=h Z K w u c hF _ _ d f;rw[h1];exact⟨w1,rfl,h2,h3⟩
def YA{α β:Type}{k:α->Sem β}:∀{s:Sem α},NF P s->fu s->NF P (s.bind k):=by
 intro s;induction s with
 |pure a=>intro _ h;exact h.elim
 |load m a k d=>intro h e v;exact d v (h v) (e v)
 |store m a v k d=>intro h e;exact d h e
 |new o k d=>intro h e;exact⟨h.1,λv=>d v (h.2 v) (e v)⟩
 |shape r k d=>intro h e v;exact d v (h v) (e v)
 |freeze a n k d=>intro h;exact h.elim
 |frozen a k d=>
  intro h e;obtain h|⟨g,f⟩|h:=h
  .exact .inl λb=>dm.bind' (h b)
  .exact .inr (.inl ⟨dm.bind' g,d false f (e false)⟩)
  .exact .inr (.inr (TH.ends (s:=.frozen a k) h e))
 |getObj r k d=>
  intro h e;obtain⟨g,f⟩|h:=h
  .refine .inl ⟨λo=>d o (g o) (e o),?_⟩;obtain f|f:=f
   all_goals simp_all[dm.bind']
  .exact .inr (TH.ends (s:=.getObj r k) h e)
 |setObj r o k d=>intro h;exact h.elim
 |choose q k d=>intro h e v;exact d v (h v) (e v)
 |sys c k d=>intro h e;exact⟨h.1,λv=>d v (h.2 v) (e v)⟩
 |program k d=>intro h e;exact d P h (e P)
 |mark m k d=>intro h e;exact d h e
 |halt h=>intro _ _;trivial
theorem fu.bind{α β:Type}{k:α->Sem β}(d:∀a,fu (k a)):∀(s:Sem α),fu (s.bind k):=by
 intro s;induction s with
 |pure a=>exact d a
 |load m a k b=>exact b
 |store m a v k b=>exact b
 |new o k b=>exact b
 |shape r k b=>exact b
 |freeze a n k b=>exact b
 |frozen a k b=>exact b
 |getObj r k b=>exact b
 |setObj r o k b=>exact b
 |choose q k b=>exact b
 |sys c k b=>exact b
 |program k b=>exact b
 |mark m k b=>exact b
 |halt h=>trivial
def S3{α:Type}(e:RuntimeError):fu (runtimePanic e:Sem α):=by refine fu.bind (λp=>?_) _;cases e<;>first|exact trivial|(refine fu.bind (λa=>?_) _;refine fu.bind (λb=>?_) _;exact trivial)
@[simp] theorem Za{α β:Type}(e:RuntimeError)(k:α->Sem β):NF P (runtimePanic e>>=k):=YA (vH e) (S3 e)
@[simp] theorem a9c{α β:Type}(e:Unsupported)(k:α->Sem β):NF P (unsupported e>>=k):=trivial
@[simp] theorem IV{α β:Type}(e:String)(k:α->Sem β):NF P (stuck e>>=k):=trivial
@[simp] theorem Zf(a b c:Nat)(base:Option aF)(x:aj)(m:Mark)(u:Unsupported){α:Type}:NF P (Builtin.mayShare a b c base x>>=λq=>if (!q)=true then (mark m>>=λ_=>(unsupported u:Sem α))else unsupported u):=
 Y0 a b c base x (λq=>by cases q<;>exact trivial) (λq=>by cases q<;>exact trivial)
@[simp] theorem Yk(a:Array bD)(t:bD)(b:Array aj):NF P (Builtin.append_ a t b):=by
 unfold Builtin.append_
 repeat' (first|with_reducible exact Zf _ _ _ _ _ _ _|(simp[*];done)|with_reducible refine vF (λ_=>?_) (by with_unfolding_all trivial)|with_reducible refine NF.bind ?_ λ_=>?_|with_reducible refine NF.ite (λ_=>?_) (λ_=>?_)|split|dsimp only)
@[simp] theorem YQ(k:IntKind)(n:Int):NF P (Conv.intToInt k n):=by unfold Conv.intToInt;simp[*]
@[simp] theorem YL(s:FloatKind)(b:Nat)(k:IntKind):NF P (Conv.floatToInt s b k):=aW (Conv.floatToInt.eq_def ..)
variable{P:aA}
@[simp] theorem Cw(t)(x:Place):NF P (x.get t):=aW (Place.get.eq_def ..)
@[simp] theorem IJ:∀l t x,NF P (follow l t x)
 |[],t,x=>by unfold follow;simp[*]
 |s::l,t,x=>by
  have a:=IJ l;unfold follow;refine NF.bind (qr _) λd=>?_;split
  .split
   .refine NF.ite (λ_=>?_) λ_=>?_
    .exact NF.bind (Cw _ _) λ_=>NF.bind (sQ _) λ_=>NF.bind (IH _ _) λ_=>a _ _
    .split
     .exact NF.bind (IH _ _) λ_=>a _ _
     .exact NF.bind (vG _ _ _) λ_=>a _ _
     .exact NF.stuck _
   .exact NF.stuck _
  .exact NF.stuck _
@[simp] theorem Zq(t p n s):NF P (Builtin.ssaWrapNilChk_ #[t] t #[p,.string s,n]):=by
 cases n<;>first|exact NF.stuck _|skip
 cases p<;>first|exact NF.stuck _|skip
 rename_i m a;cases a with
 |some a=>exact NF.pure _
 |none=>
  refine NF.bind (IE _) λc=>NF.ite (λ_=>Za _ _) λ_=>NF.bind (qr _) λd=>?_;split
  .refine NF.bind (CB _) λi=>?_;split
   .split
    .dsimp;split<;>simp[*]
    .simp[*]
   .simp[*]
  .simp[*]
@[simp] theorem a8R(t x b w):NF P (receiverAt t x b w):=by
 unfold receiverAt;refine NF.bind (qr _) λd=>?_;split
 .simp[*]
 .refine NF.bind (Cw _ _) λp=>?_;cases w with
  |none=>simp[*]
  |some n=>exact NF.bind (Zq _ _ _ _) λ_=>by simp[*]
 .simp[*]
 .simp[*]
 .simp[*]
@[simp] theorem a8S(t v p b):NF P (receiverVia t v p b):=by unfold receiverVia;simp[*]
@[simp] theorem Y1:∀n t v s,NF P (method n t v s)
 |0,_,_,_=>NF.unsupported _
 |n+1,t,v,s=>by
  have a:=Y1 n;unfold method;refine NF.bind (CB _) λi=>?_;split
  .refine NF.bind (IJ _ _ _) λx=>?_;dsimp;split
   .refine NF.bind (Cw _ _) λy=>?_;split
    .exact a _ _ _
    .simp[*]
    .simp[*]
   .exact aW rfl
  .simp[*]
@[simp] theorem YM(l):NF P (Instr.getLoop l):=aW (Instr.getLoop.eq_def ..)
@[simp] theorem a9d(l a):NF P (Instr.yield l a):=aW (Instr.yield.eq_def ..)
def ID(b:∀f a,NF P (callFunc f a))(r n a):NF P (callMethod r n a):=by
 unfold callMethod;split
 all_goals simp_all
def Ct:Builtin->Bool
 | .append| .cap| .clear| .copy| .len| .min=>true
 |_=>false
@[simp] theorem Yu(a t b):NF P (Builtin.cap_ a t b):=aW (Builtin.cap_.eq_def ..)
@[simp] theorem Yx(a t b):NF P (Builtin.copy_ a t b):=by have:= @YT P;have:= @YK P;exact aW (Builtin.copy_.eq_def ..)
@[simp] theorem Yw(a t b):NF P (Builtin.clear_ a t b):=by
 unfold Builtin.clear_;split
 .refine NF.bind (qr _) λd=>?_;split<;>first|exact wg trivial (λo c=>by cases o<;>first|exact c.elim|trivial) (λo=>by cases o<;>first|exact .inr ⟨_,_,rfl,trivial,trivial⟩|exact .inl trivial)|exact aW rfl
 .simp[*]
def IC{b}(h:Ct b=true)(d t c a):NF P (builtin b d t c a):=by
 cases b<;>first|cases h|skip
 all_goals first|exact NF.bind (Yk _ _ _) λ_=>NF.pure _|exact NF.bind (YS _ _ _) λ_=>NF.pure _|exact NF.bind (Y2 _ _ _) λ_=>NF.pure _|exact NF.bind (Yu _ _ _) λ_=>NF.pure _|exact NF.bind (Yx _ _ _) λ_=>NF.pure _|exact NF.bind (Yw _ _ _) λ_=>NF.pure _
theorem yJ(d:∀f a,NF P (callFunc f a))(fn c a):NF P (invoke (.fn fn c) a):=by
 unfold invoke;cases fn with
 |func f=>simp_all
 |method n=>
  dsimp;split
  all_goals simp_all[ID]
 |methodOf t n=>
  dsimp;split
  all_goals simp_all[ID]
 |via t p f b=>
  dsimp;split
  all_goals simp_all
 |yield l=>simp_all
def Yt(h:∀f a,NF P (callFunc f a))(ρ c t)(g:∀b,c.callee=.builtin b->Ct b=true):NF P (resolve ρ c t>>=λd=>invoke d.target d.args):=by
 unfold resolve;cases e:c.callee with
 |builtin b=>exact IC (g b e) _ _ _ _
 |invoke r n=>grind[yJ]
 |value f=>
  dsimp;unfold Deferred.ofValue;cases ρ f with
  |func i a b=>grind[yJ]
  |nilFunc=>exact vH (α:=Next) .nilDeref
  |_=>exact IV (α:=Deferred) _ _
variable{P:aA}
@[simp] theorem YI(t v i):NF P (Instr.field t v i):=aW (Instr.field.eq_def ..)
@[simp] theorem YN(t v i):NF P (Instr.index t v i):=aW (Instr.index.eq_def ..)
@[simp] theorem YH(v i):NF P (Instr.extract v i):=aW (Instr.extract.eq_def ..)
@[simp] theorem Zl(v a b c):NF P (Instr.typeAssert v a b c):=aW (Instr.typeAssert.eq_def ..)
@[simp] theorem IK:∀l t x,NF P (followBlind l t x)
 |[],t,x=>NF.pure _
 |s::l,t,x=>by
  have a:=IK l;unfold followBlind;exact aW rfl
  all_goals exact a _ _
@[simp] theorem IQ:∀n t v s,NF P (nilAhead n t v s)
 |0,_,_,_=>NF.pure _
 |n+1,t,v,s=>by
  have a:=IQ n;unfold nilAhead;exact aW rfl
  all_goals first|exact IK _ _ _|exact a _ _ _
@[simp] theorem Zd(a):NF P (Conv.seenAt a):=by
 unfold Conv.seenAt;exact aW rfl
 all_goals trivial
@[simp] theorem Yv(b):NF P (cellsIn b):=by
 intro s;cases s with
 |some q=>trivial
 |none=>exact .inl ⟨λo=>by cases o<;>trivial,.inr λo a=>by cases o<;>first|exact a.elim|rfl⟩
@[simp] theorem Zo(a t n):NF P (variablesAt a t n):=aW (variablesAt.eq_def ..)
@[simp] theorem Zp(a t):NF P (newObj (.view a t)):=⟨trivial,λ_=>trivial⟩
@[simp] theorem Zn(s d x):NF P (Conv.unsafePointer s d x):=by
 unfold Conv.unsafePointer;exact aW rfl
 all_goals first|exact Zd _|exact Yv _|exact Zo _ _ _|exact Zp _ _|trivial|skip
def rQ(P:aA)(s d:bD):Bool:=match P.underlying s,P.underlying d with
 |some (.int _),some (.int _)=>true
 |some (.pointer _),some .unsafePointer=>true
 |some .unsafePointer,some (.pointer _)=>true
 |some .string,some .string=>true
 |some (.slice _),some .string=>true
 |_,_=>false
@[simp] theorem Yr(x):NF P (Conv.bytesToString x):=by
 unfold Conv.bytesToString
 repeat' (first|(simp[*];done)|with_reducible refine vF (λ_=>?_) (by with_unfolding_all trivial)|with_reducible refine NF.bind ?_ λ_=>?_|with_reducible refine NF.ite (λ_=>?_) (λ_=>?_)|split|dsimp only)
 exact yI _ (λc _ b=>aW rfl) _
@[simp] theorem Zb(x):NF P (Conv.runesToString x):=by
 unfold Conv.runesToString
 repeat' (first|(simp[*];done)|with_reducible refine vF (λ_=>?_) (by with_unfolding_all trivial)|with_reducible refine NF.bind ?_ λ_=>?_|with_reducible refine NF.ite (λ_=>?_) (λ_=>?_)|split|dsimp only)
 exact yI _ (λc _ b=>aW rfl) _
def Cv{s d}(h:rQ P s d=true)(x):NF P (convert s d x):=by
 unfold rQ at h;cases c:P.underlying s with
 |none=>rw[c]at h;cases h
 |some a=>
  cases e:P.underlying d with
  |none=>rw[c,e]at h;cases a<;>cases h
  |some b=>
   rw[c,e]at h;unfold convert;refine yK c (yK e ?_);cases a<;>first|(cases h;done)|skip
   all_goals(cases b<;>first|(cases h;done)|skip)
   all_goals(split<;>first|contradiction|exact YQ _ _|exact YL _ _ _|exact Zn _ _ _|exact Yr _|exact Zb _|(unfold Conv.intToString;simp_all)|exact aW rfl)
@[simp] theorem Y5(ρ x dst b pos a guard):NF P (execOp ρ ⟨dst,.nilCheck x,b,pos,a,guard⟩):=by unfold execOp;dsimp;have:= @IQ P;exact aW rfl
def sP(P:aA):Op->Bool
 | .move _| .assign _| .pick .. | .nilCheck _| .alloc _| .box .. | .build .. | .buildSlice .. | .load .. | .store .. | .unOp .. | .makeInterface .. | .makeFunc .. | .makeSlice .. | .slice .. | .fieldAddr .. | .field .. | .indexAddr .. | .index .. | .typeAssert .. | .extract .. | .panic _=>true
 | .binOp a t x y _=>(a !=.eql&&a !=.neq)||mO P 4 t||yL x||yL y
 | .convert s d _=>rQ P s d
 | .call c| .defer c=>match c.callee with
  | .builtin b=>Ct b
  |_=>true
 |_=>false
@[simp] theorem Y8(ρ c t):NF P (resolve ρ c t):=by
 unfold resolve;cases c.callee with
 |builtin b=>exact NF.pure _
 |invoke r n=>exact NF.pure _
 |value f=>
  dsimp;unfold Deferred.ofValue;cases ρ f with
  |func d a b=>exact NF.pure _
  |nilFunc=>exact NF.pure _
  |_=>exact NF.stuck _
@[simp] theorem YG(k:∀f a,NF P (callFunc f a))(ρ)(i:∀v,ρ (.const v)=v)(o)(h:sP P o.op=true):NF P (execOp ρ o):=by
 obtain⟨l,e,n,p,g,guard⟩:=o;dsimp at h;cases e<;>first|exact(Bool.false_ne_true h).elim|skip
 case move=>exact NF.pure _
 case assign=>exact NF.pure _
 case pick=>exact NF.bind (Yl _) λ_=>NF.pure _
 case nilCheck=>exact Y5 _ _ _ _ _ _ _
 case alloc=>exact NF.bind (Yj _ _ _) λ_=>NF.pure _
 case box=>exact NF.bind (Yo _ _) λ_=>NF.pure _
 case build=>exact NF.bind (Yp _ _) λ_=>NF.pure _
 case buildSlice=>exact NF.bind (Yq _ _ _) λ_=>NF.pure _
 case load=>exact NF.bind (IL _ _) λ_=>NF.pure _
 case store=>exact NF.bind (Zh _ _ _) λ_=>NF.pure _
 case binOp e t x y u=>
  have j:Bl P e t x y (ρ x) (ρ y):=by
   simp only[sP,pI]at h;obtain((h|h)|h)|h:=h
   .exact .inl h
   .exact .inr (.inl h)
   .refine .inr (.inr (.inl ?_));cases x<;>first|(cases h;done)|exact⟨_,rfl,i _,h⟩
   .refine .inr (.inr (.inr ?_));cases y<;>first|(cases h;done)|exact⟨_,rfl,i _,h⟩
  exact NF.bind (NF.bind (YC e j) λ_=>Yn e j) λ_=>NF.pure _
 case unOp=>exact NF.bind (Zm _ _) λ_=>NF.pure _
 case convert s d x=>exact NF.bind (Cv h _) λ_=>NF.pure _
 case makeInterface=>exact NF.bind (YX _ _) λ_=>NF.pure _
 case makeFunc=>exact NF.bind (YW _ _ _) λ_=>NF.pure _
 case makeSlice=>exact NF.bind (YY _ _ _) λ_=>NF.pure _
 case slice=>exact NF.bind (Zg _ _ _ _ _) λ_=>NF.pure _
 case fieldAddr=>exact NF.bind (YJ _ _ _) λ_=>NF.pure _
 case field=>exact NF.bind (YI _ _ _) λ_=>NF.pure _
 case indexAddr=>exact NF.bind (YO _ _ _) λ_=>NF.pure _
 case index=>exact NF.bind (YN _ _ _) λ_=>NF.pure _
 case typeAssert=>exact NF.bind (Zl _ _ _ _) λ_=>NF.pure _
 case extract=>exact NF.bind (YH _ _) λ_=>NF.pure _
 case call c=>refine Yt k ρ c n λb q=>?_;simpa[sP,q]using h
 case defer c=>exact NF.bind (Y8 _ _ _) λ_=>NF.pure _
 case panic=>exact NF.bind (Y6 _) λ_=>NF.pure _
end Go.Mir
end
section
namespace Go.Mir
open Go Go.Extern
attribute [local simp] NF.stuck NF.unsupported NF.pure NF.bind
variable{P:aA}
def ZE(a):NF P (Atomic.storeT a):=by
 obtain⟨_|⟨x,_|⟨y,_|⟨z,l⟩⟩⟩⟩:=a<;>first|exact NF.stuck _|skip
 exact NF.bind (sQ x) λ_=>NF.bind (Cz _ _ _) λ_=>NF.pure _
@[simp] theorem Cy(t a):NF P (Atomic.read t a):=aW (Atomic.read.eq_def ..)
def ZD(a):NF P (Atomic.loadT .ptr a):=by
 obtain⟨_|⟨x,_|⟨y,l⟩⟩⟩:=a<;>first|exact NF.stuck _|skip
 exact NF.bind (sQ x) λ_=>Cy _ _
def zE(a w es):(∃b,(noView a).runT P w es=(.ok () w,b))\/∃h b,(noView a).runT P w es=(.halt h w,b)/\¬Yields (.halt h w:Result Unit):=by
 unfold noView viewAt;simp only[bind,Sem.bind,shape,Sem.runT,getObj];cases w.shape? a.block with
 |some q=>exact .inl ⟨_,rfl⟩
 |none=>
  simp only[Option.isSome_none,d8,if_false,Sem.bind,Sem.runT];split
  .exact .inr ⟨_,_,rfl,id⟩
  .rename_i o _ _;cases o<;>first|exact .inl ⟨_,rfl⟩|exact .inr ⟨_,_,rfl,id⟩
  .exact .inr ⟨_,_,rfl,id⟩
def mb(w:aa)(a b:aF):Bool:=
 let st (a:aF):Bool:=w.frozen? a||(match w.shape? a.block with|some (_,n)=>w.frozen? {block:=a.block,off:=n}|none=>false);let no (a:aF):Bool:=match w.shape? a.block with|some (_,0)=>true|_=>false
 (st a&&st b)||(st a&&no a)||(st b&&no b)
theorem Kk(a:aF)(w:aa)(es:Array aT):(stringish a).runT P w es=(.ok (w.frozen? a||(match w.shape? a.block with|some (_,n)=>w.frozen? {block:=a.block,off:=n}|none=>false)) w,es):=by
 unfold stringish;simp only[bind,Sem.bind,shape,Sem.runT,frozen];cases w.frozen? a with
 |true=>rfl
 |false=>
  simp only[d8,if_false,Sem.runT];cases w.shape? a.block with
  |none=>rfl
  |some q=>rfl
def a2V(a b w es):(mayBeOne a b).runT P w es=(.ok (mb w a b) w,es):=by
 have h:mayBeOne a b=(stringish a).bind λc=>(stringish b).bind λd=>.shape a.block λx=>.shape b.block λy=>.pure ((c&&d)||(c&&(x matches some (_,0)))||(d&&(y matches some (_,0)))):=rfl;rw[h,Sem.runT_bind',Kk]
 grind[Sem.runT_bind',Kk,Sem.runT,mb]
def XU{Z K w u}(h:bj Z K w u)(a b):mb w a b=false:=by
 have:∀a:aF,(w.frozen? a||(match w.shape? a.block with|some (_,n)=>w.frozen? {block:=a.block,off:=n}|none=>false))=false:=by
  intro a;rw[h.tL a];cases w.shape? a.block with
  |none=>rfl
  |some q=>exact h.tL _
 simp[mb,this]
def XT{Z K w u}(h:bj Z K w u)(a b)(i:(u.frozen? a&&u.frozen? b)=false):mb u a b=false:=by
 have d:∀a:aF,(u.frozen? a||(match u.shape? a.block with|some (_,n)=>u.frozen? {block:=a.block,off:=n}|none=>false))=u.frozen? a:=by
  intro a;cases j:u.shape? a.block with
  |none=>simp
  |some q=>
   obtain⟨e,n⟩:=q;have:u.frozen? {block:=a.block,off:=n}=false:=by
    cases f:u.frozen? {block:=a.block,off:=n}with
    |false=>rfl
    |true=>
     obtain⟨_,c,k,l,o⟩:=h.frozen f;rw[h.shape]at j
     grind[World.shape?]
   simp[this]
 have g:∀a:aF,u.frozen? a=true->(match u.shape? a.block with|some (_,0)=>true|_=>false)=false:=by
  intro a f;obtain⟨_,c,k,l,o⟩:=h.frozen f;rw[h.shape]
  grind[World.shape?]
 simp only[mb,d,i,Bool.false_or];cases p:u.frozen? a<;>cases r:u.frozen? b<;>simp[g _,p,r]
def a4R(a b)(j:aj)(g:aj)(Z K w u es)(hF:bj Z K w u)(y:(u.frozen? a&&u.frozen? b)=false)(k)(z:k false=.pure j)(r h)(c:((noView a).bind λ_=>(noView b).bind λ_=>(mayBeOne a b).bind k).runT P u es=(r,h))(t:Yields r):∃v,((noView a).bind λ_=>(noView b).bind λ_=>(mayBeOne a b).bind k).runT P w es=(jE v r,h)/\bj Z K v (fK r)/\∀e∈h,e∈es\/j4 Z e:=by
 rw[Sem.runT_bind']at c⊢;obtain⟨d,l⟩|⟨x,d,l,n⟩:=zE (P:=P) a u es;rotate_left
 .rw[l]at c;cases c;cases x<;>first|exact t.elim|exact(n trivial).elim
 rw[l]at c;obtain⟨w1,q1,A,q3⟩:=a9B _ w u es (IS a) hF _ _ l trivial;have o:w1=w:=by
  obtain⟨i,f⟩|⟨x,i,f,_⟩:=zE (P:=P) a w es
  .rw[f]at q1;cases q1;rfl
  .rw[f]at q1;cases q1
 subst o;rw[q1];dsimp[jE]at c⊢;rw[Sem.runT_bind']at c⊢;obtain⟨i,f⟩|⟨x,i,f,n⟩:=zE (P:=P) b u d;rotate_left
 .rw[f]at c;cases c;cases x<;>first|exact t.elim|exact(n trivial).elim
 rw[f]at c;let ⟨w2,p1,p2,p3⟩:=a9B _ w1 u d (IS b) hF _ _ f trivial;have p:w2=w1:=by
  obtain⟨q,s⟩|⟨x,q,s,_⟩:=zE (P:=P) b w1 d
  .rw[s]at p1;cases p1;rfl
  .rw[s]at p1;cases p1
 subst p;rw[p1];dsimp[jE]at c⊢;rw[Sem.runT_bind',a2V]at c⊢;rw[XT hF a b y]at c;rw[XU hF a b];dsimp at c⊢;rw[z]at c⊢;simp at c⊢;obtain⟨rfl,rfl⟩:=c;refine⟨w2,⟨rfl,rfl⟩,hF,λe B=>?_⟩
 grind
def a4Q(g k a):NF P (SlicesOverlaps.overlaps g k a):=by
 obtain⟨_|⟨x,_|⟨y,_|⟨z,l⟩⟩⟩⟩:=a<;>first|exact NF.stuck _|skip
 cases x<;>first|exact NF.stuck _|skip
 cases y<;>first|exact NF.stuck _|skip
 rename_i x p q y s v;unfold SlicesOverlaps.overlaps;dsimp;cases g[0]? with
 |none=>exact NF.stuck _
 |some t=>
  refine NF.bind (qr _) λd=>?_;cases d<;>first|exact NF.stuck _|skip
  refine NF.bind (IU _) λh=>?_;cases x with
  |none=>simp_all
  |some x=>
   cases y with
   |none=>simp_all
   |some y=>
    dsimp;refine NF.ite (λ_=>NF.pure _) λ_=>?_;refine Or.inr (Or.inr ?_);intro Z K w u n hF r c b i;simp only[bind,Sem.bind,frozen,Sem.runT,hF.tL,Bool.and_false,d8,if_false]at b⊢;by_cases j:(x.block !=y.block)=true
    .simp only[j,if_true,b1h]at b⊢;cases f:(u.frozen? x&&u.frozen? y)with
     |true=>rw[f]at b;cases b;exact i.elim
     |false=>rw[f]at b;exact a4R x y _ (.bool false) Z K w u n hF f _ rfl r c b i
    .simp only[j,if_false,Bool.false_and,d8]at b⊢;cases b;exact⟨w,rfl,hF,λe o=>.inl o⟩
def yz{α}{k:Bool->Sem α}(a:dm (k true))(f:Nat->aF):∀(l:List Nat),NF P (k false)->NF P ((l.anyM λi=>frozen (f i))>>=k):=by
 intro l;induction l with
 |nil=>simp_all
 |cons x l b=>intro h;exact .inr (.inl ⟨a,b h⟩)
def Zk{α}{k:Bool->Sem α}(b:dm (k true))(c:NF P (k false))(a):NF P (Atomic.touchesFrozen a>>=k):=by
 have:=qV;unfold Atomic.touchesFrozen;rw[bind_assoc];refine NF.bind (IW _) λo=>?_;obtain _|⟨d,as⟩:=o
 .exact .inr (.inl ⟨b,c⟩)
 .dsimp;rw[bind_assoc];refine NF.bind (CB _) λi=>?_;split
  all_goals simp_all[yz]
def ZC(a):NF P (Atomic.casT (.int .i32) a):=by
 obtain⟨_|⟨x,_|⟨y,_|⟨z,_|⟨b,l⟩⟩⟩⟩⟩:=a<;>first|exact NF.stuck _|skip
 refine NF.bind (sQ x) λa=>?_;refine Zk ?_ ?_ a
 .trivial
 .refine NF.bind (Cy _ _) λv=>?_
  repeat' (first|(simp[*];done)|with_reducible refine vF (λ_=>?_) (by with_unfolding_all trivial)|with_reducible refine NF.bind ?_ λ_=>?_|with_reducible refine NF.ite (λ_=>?_) (λ_=>?_)|split|dsimp only)
  simp_all
def ZB(a):NF P (Atomic.update (Op.intArith .add) .i32 true a):=by
 obtain⟨_|⟨x,_|⟨y,_|⟨z,l⟩⟩⟩⟩:=a<;>first|exact NF.stuck _|skip
 exact NF.bind (sQ x) λa=>NF.bind (Cy _ _) λv=>NF.bind (Cu _) λ_=>NF.bind (Cu _) λ_=>NF.bind (YP _ _ _ _) λ_=>NF.bind (Cz _ _ _) λ_=>NF.pure _
end Go.Mir
end
section
namespace Go.Mir
def cg(f:Nat->Nat):Item->Item
 | .inRangeFunc l=>.inRangeFunc (f l)
 | .endRangeFunc l=>.endRangeFunc (f l)
 | .call d w r s=>.call (dv f d) w r (s.map (al f))
 | .extern r a=>.extern r (a.map (al f))
 |i=>i
def vT(f:Nat->Nat)(e:PanicEntry):PanicEntry:={e with v:=al f e.v}
def dZ(f:Nat->Nat):FrameMode->FrameMode
 | .panicking c=>.panicking (c.map (vT f))
 |m=>m
def aO(f:Nat->Nat)(fr:ah):ah:={fr with tmps:=fr.tmps.map (al f),todo:=fr.todo.map (cg f),defers:=fr.defers.map (dv f),mode:=dZ f fr.mode,roundOf:=fr.roundOf.map f}
def am(fr:ah)(cs:List ah):aw:={frame:=fr,callers:=cs,status:=.running,dying:=none}
def cZ(G:Nat):Item->Bool
 | .code c=>cF G c
 | .inLoop c=>cF G c
 | .inScope c=>cF G c
 | .inRegion a _=>a.all λo=>ie G o.op
 | .call .. =>false
 | .extern .. =>false
 |_=>true
def gO:Item->Bool
 | .code c=>dW c
 | .inLoop c=>dW c
 | .inScope c=>dW c
 | .inRegion a _=>a.all λo=>match o.op with| .defer _=>false|_=>true
 |_=>true
structure bJ (G:Nat) (fr:ah):Prop where
 items:∀i∈fr.todo,cZ G i=true
 defers:∀d∈fr.defers,fI d.target=true
 kind:fr.kind=.normal\/fr.kind=.deferred
 round:fr.roundOf≠none->∀i∈fr.todo,gO i=true
 last:fr.roundOf≠none->fr.mode≠.returning
 calm:∀c,fr.mode=.panicking c->∀e∈c,e.recovered=false
section
variable{V:Prop}{lz:Nat->Obj->Prop}{T:Tables}{F F':Array Func}{E:bW->Prop}{D:Nat->Prop}{ai f:Nat->Nat}{w v:aa}
def oW(e:Twin T F F' E)(a:∀b,b<T.globals.size+1->D b/\ai b=b)(c:aQ D ai f):Fit T f:=⟨c.inj,λb d=>by rw[c.on b (a b d).1,(a b d).2],e.zero⟩
def od{α β}{R:(Nat->Nat)->α->β->Prop}{s s'}(J:cw V lz T.globals.size D ai w v)(O:v.os=w.os)(P:cA T.globals.size w)(K:∀f,aQ D ai f->aB ⟨T,F⟩ ⟨T,F'⟩ f (R f) s s'){r es}(L:s.runT ⟨T,F⟩ w #[]=(r,es))(C:tY r->gG w v (fK r).drawn):(∃a d,r=.ok a d/\∃e c b i es',s'.runT ⟨T,F'⟩ v #[]=(.ok b i,es')/\cw V lz T.globals.size e c d i/\cA T.globals.size d/\(∀f,aQ e c f->R f a b)/\a9o D e ai c w d v i es es')\/(∃x d,r=.halt (.panic x) d/\∃e c M i es',s'.runT ⟨T,F'⟩ v #[]=(.halt (.panic M) i,es')/\cw V lz T.globals.size e c d i/\cA T.globals.size d/\(∀f,aQ e c f->M=al f x)/\a9o D e ai c w d v i es es')\/(∃h d,r=.halt h d/\fi h=true):=by
 have g:=lD s s' w #[] (K _ (aL J 0)) P;rw[L]at g;have H:=Kh ⟨T,F⟩ s w #[];have k:=Kh ⟨T,F'⟩ s' v #[];rw[L]at H;have C:=C g.2;have t:∀(q:α⊕aj) (w1:aa),oJ r=.ok q w1->∃e c b i es',oJ (s'.runT ⟨T,F'⟩ v #[]).1=.ok b i/\(s'.runT ⟨T,F'⟩ v #[]).2=es'/\cw V lz T.globals.size e c w1 i/\(∀f,aQ e c f->Aq f (R f) q b)/\a9o D e ai c w w1 v i es es':=by
  intro q w1 y;have I:fK r=w1:=by
   cases r with
   |ok a Q=>simp only[oJ,Result.ok.injEq]at y;exact y.2
   |halt h Q=>cases h<;>simp only[oJ,Result.ok.injEq,reduceCtorEq]at y;exact y.2
  rw[I]at C;simp only[y]at H;obtain⟨e,c,b,i,u,S,j,z,l,n,A⟩:=a2W (R:=λf=>Aq f (R f)) (fD s) (fD s') D ai w v w1 #[] es #[] q J C O (λf U=>a3r (K f U)) H;rw[j]at k;simp only[b0N]at k;refine⟨e,c,b,i,S,k.1.symm,by rw[<-k.2];simp,l,n,?_⟩;rw[z];simpa using A
 cases r with
 |ok a d=>
  obtain⟨e,c,b,i,es',j,z,l,n,A⟩:=t (.inl a) d rfl;refine .inl ⟨a,d,rfl,e,c,?_⟩;cases o:(s'.runT ⟨T,F'⟩ v #[]).1 with
  |ok N B=>rw[o]at j;simp only[oJ,Result.ok.injEq]at j;obtain⟨rfl,rfl⟩:=j;exact⟨N,B,es',jY o z,l,g.1,n,A⟩
  |halt h B=>rw[o]at j;cases h<;>first|(cases j;exact(n _ (aL l 0)).elim)|cases j
 |halt h d=>
  obtain⟨x,rfl⟩|p:=g.2
  .obtain⟨e,c,b,i,es',j,z,l,n,A⟩:=t (.inr x) d rfl;refine .inr (.inl ⟨x,d,rfl,e,c,?_⟩);cases o:(s'.runT ⟨T,F'⟩ v #[]).1 with
   |ok N B=>rw[o]at j;cases j;exact(n _ (aL l 0)).elim
   |halt h B=>rw[o]at j;cases h<;>simp only[oJ,Result.ok.injEq,reduceCtorEq]at j;obtain⟨rfl,rfl⟩:=j;exact⟨_,B,es',jY o z,l,g.1,n,A⟩
  .exact .inr (.inr ⟨h,d,rfl,p⟩)
def oU(e:aT):Option bW:=match e.loc with
 | .mark (.extern g)=>some g
 |_=>none
def Tq(e):oU (bK f e)=oU e:=by
 obtain⟨a,wr,b⟩:=e;cases a<;>try rfl
 rename_i m;cases m<;>rfl
def seen_eq(P:aA)(fn:bW)(es:Array aT):seen P fn es=(es.foldl (λ(x:Bool×Array aT) e=>match oU e with|some g=>((P.funcs[g]?).any (·.norace),x.2)|none=>(x.1,if x.1&& !e.sync then x.2 else x.2.push e)) ((P.funcs[fn]?).any (·.norace),#[])).2:=by
 unfold seen;dsimp;congr 2;funext x e;obtain⟨a,wr,b⟩:=e;cases a<;>try rfl
 rename_i m;cases m<;>rfl
def Ku(P fn es){e}(h:e∈seen P fn es):e∈es:=by
 rw[seen_eq]at h;have b:∀(l:List aT) (q:Bool) (kept:Array aT),e∈(l.foldl (λ(x:Bool×Array aT) e=>match oU e with|some g=>((P.funcs[g]?).any (·.norace),x.2)|none=>(x.1,if x.1&& !e.sync then x.2 else x.2.push e)) (q,kept)).2->e∈kept\/e∈l:=by
  intro l;induction l with
  |nil=>simp_all
  |cons x l c=>
   intro q kept h;simp only[b1s]at h;cases a:oU x with
   |some g=>
    rw[a]at h
    grind
   |none=>
    rw[a]at h
    grind
 rw[<-b0i]at h
 grind
def a3n(b:Twin T F F' E)(fn es):seen ⟨T,F'⟩ fn (es.map (bK f))=(seen ⟨T,F⟩ fn es).map (bK f):=by
 have n:∀g:bW,(F'[g]?).any (·.norace)=(F[g]?).any (·.norace):=by
  intro g;cases c:F[g]? with
  |none=>
   have:F'[g]?=none:=by simp_all;rw[b.size];exact c
   rw[this]
  |some fn=>obtain⟨d,h,_,i,_⟩:=b.each g fn c;rw[h];simp[i]
 rw[seen_eq,seen_eq];simp only[<-b0i,kH];have a:∀(l:List aT) (q:Bool) (kept:Array aT),
   ((l.map (bK f)).foldl (λ(x:Bool×Array aT) e=>match oU e with|some g=>((F'[g]?).any (·.norace),x.2)|none=>(x.1,if x.1&& !e.sync then x.2 else x.2.push e)) (q,kept.map (bK f))).2=
   ((l.foldl (λ(x:Bool×Array aT) e=>match oU e with|some g=>((F[g]?).any (·.norace),x.2)|none=>(x.1,if x.1&& !e.sync then x.2 else x.2.push e)) (q,kept)).2).map (bK f):=by
  intro l;induction l with
  |nil=>grind
  |cons e l j=>
   intro q kept;simp only[dq,b1s,Tq,show(bK f e).sync=e.sync from rfl];cases oU e with
   |some g=>
    grind
   |none=>
    dsimp;by_cases k:(q&& !e.sync)=true
    .simp_all
    .simp only[k];have:=j q (kept.push e);rw[Array.map_push]at this;exact this
 have:=a es.toList ((F[fn]?).any (·.norace)) #[];simp_all
end
structure e9 (lk:Prop) (lz:Nat->Obj->Prop) (T:Tables) (cs:List ah) (D:Nat->Prop) (ai:Nat->Nat) (w v:aa) (fr:ah) (gs:List ah) (rf:ah) (m:List ah):Prop where
 heap:cw lk lz T.globals.size D ai w v
 os:v.os=w.os
 low:∀b,b<T.globals.size+1->D b/\ai b=b
 all:cA T.globals.size w
 ok:bJ T.globals.size fr
 bQ:∀x∈gs,bJ T.globals.size x
 aX:∀f,aQ D ai f->rf=aO f fr/\m=gs.map (aO f)++cs
abbrev Rel:=e9 False vJ
def iU(lk:Prop)(lz:Nat->Obj->Prop)(T:Tables)(F F':Array Func)(E:bW->Prop)(cs:List ah)(trap:ah)(below:List ah)(D:Nat->Prop)(ai:Nat->Nat)(w v:aa)(g':aw)(w':aa)(es:Array aT)(n:GStep):Prop:=
 ∃(j:Nat->Prop) (a:Nat->Nat) (l:aa) (i:Array aT) (rg:aw),n=.go rg l i/\a9o D j ai a w w' v l es i/\
  ((
   ∃c d e b,g'=am c (d++trap::below)/\rg=am e b/\e9 lk lz T cs j a w' l c d e b)\/
   (∃q h k g c d e b,(E q/\(k=.normal\/k=.deferred))/\g'=am (Frame.enter ⟨T,F⟩ q h k) (c::d++trap::below)/\rg=am (Frame.enter ⟨T,F'⟩ q g k) (e::b)/\(∀f,aQ j a f->g=h.map (al f))/\e9 lk lz T cs j a w' l c d e b))
section
variable{lk:Prop}{lz:Nat->Obj->Prop}{T:Tables}{F F':Array Func}{E:bW->Prop}{cs:List ah}{trap:ah}{below:List ah}{main:Bool}{D:Nat->Prop}{ai:Nat->Nat}{w v:aa}{fr:ah}{gs:List ah}{rf:ah}{m:List ah}
def e9.next(R:e9 lk lz T cs D ai w v fr gs rf m){D':Nat->Prop}{past':Nat->Nat}{w' v':aa}{u u':Array aT}{fr' rf':ah}{gs' rcs':List ah}(hg:a9o D D' ai past' w w' v v' u u')(hh:cw lk lz T.globals.size D' past' w' v')(ha:cA T.globals.size w')
  (ok:bJ T.globals.size fr') (bQ:∀x∈gs',bJ T.globals.size x) (aX:∀f,aQ D' past' f->rf'=aO f fr'/\rcs'=gs'.map (aO f)++cs):e9 lk lz T cs D' past' w' v' fr' gs' rf' rcs' where
 heap:=hh
 os:=by rw[hg.os,hg.oh,R.os]
 low b hb:=⟨(hg.more b (R.low b hb).1).1,by rw[(hg.more b (R.low b hb).1).2,(R.low b hb).2]⟩
 all:=ha
 ok:=ok
 bQ:=bQ
 aX:=aX
theorem dG{a b:ah}{c d:List ah}(h:am a c=am b d):a=b/\c=d:=by simp_all[am]
def a5V(R:e9 lk lz T cs D ai w v fr gs rf m){fr':ah}(a:bJ T.globals.size fr')(c:∀f,stepG ⟨T,F'⟩ main (am (aO f fr) (gs.map (aO f)++cs)) v=.go (am (aO f fr') (gs.map (aO f)++cs)) v #[]):iU lk lz T F F' E cs trap below D ai w v (am fr' (gs++trap::below)) w #[] (stepG ⟨T,F'⟩ main (am rf m) v):=by
 have h0:=R.aX _ (aL R.heap 0);have b:=c (ag D ai (v.heap.size+0));rw[<-h0.1,<-h0.2]at b;refine⟨D,ai,v,#[],_,b,a9o.refl,.inl ⟨fr',gs,_,_,rfl,rfl,R.next a9o.refl R.heap R.all a R.bQ λf g=>?_⟩⟩;have d:=R.aX f g;have e:=c f;rw[<-d.1,<-d.2,b]at e;simp only[GStep.go.injEq,and_true]at e
 grind[dG]
theorem Bv(f:Nat->Nat)(id:Nat):∀k:List Item,exitTo id (k.map (cg f))=(exitTo id k).map (List.map (cg f))
 |[]=>rfl
 |i::k=>by cases i<;>simp only[dq,cg,exitTo,Bv f id k];split<;>rfl
theorem Bu(id:Nat):∀(k a:List Item),exitTo id k=some a->∀i∈a,i∈k
 |[],_,h=>by simp[exitTo]at h
 |x::k,a,h=>by
  intro i b;cases x<;>simp only[exitTo]at h<;>try exact kL _ (Bu id k a h i b)
  split at h
  .cases h;exact kL _ b
  .exact kL _ (Bu id k a h i b)
def xT(f:Nat->Nat)(a:∀b,b<T.globals.size+1->f b=b)(fr:ah)(x:Operand)(d:kh T.globals.size x=true):(aO f fr).eval x=al f (fr.eval x):=by
 cases x with
 |tmp t=>simp[Frame.eval,aO];cases fr.tmps[t]? <;>simp[undef]
 |const c=>simp[Frame.eval];exact(mf f c d).symm
 |global g=>simp[kh]at d;simp[Frame.eval,aG,a g a9h]
 |func g=>simp[Frame.eval,jK]
def bJ.drop{G:Nat}{i:Item}{k c:List Item}(h:bJ G fr)(d:fr.todo=i::k)(e:∀x∈c,x∈k\/(cZ G x=true/\(fr.roundOf≠none->gO x=true))):bJ G {fr with todo:=c}:=by
 refine⟨λx a=>?_,h.defers,h.kind,λf x a=>?_,h.last,h.calm⟩
 .rcases e x a with b|b
  .exact h.items x (by rw[d];simp_all)
  grind
 .rcases e x a with b|b
  .exact h.round f x (by rw[d];simp_all)
  simp_all
def oV(f:Nat->Nat)(fr:ah)(x:aj):(aO f fr).finish (al f x)=aO f (fr.finish x):=by
 obtain⟨h,d,a,c,e,g,b⟩:=fr;obtain _|⟨i,k⟩:=a
 .rfl
 .cases i<;>try rfl
  all_goals grind[aO,cg,Frame.finish,a9t]
def G8(fr:ah)(x:aj):(fr.finish x).fn=fr.fn/\(fr.finish x).defers=fr.defers/\(fr.finish x).mode=fr.mode/\(fr.finish x).kind=fr.kind/\(fr.finish x).roundOf=fr.roundOf:=by unfold Frame.finish;split<;>exact⟨rfl,rfl,rfl,rfl,rfl⟩
theorem bJ.finish{G:Nat}(h:bJ G fr)(x:aj):bJ G (fr.finish x):=by
 obtain⟨_,o,e,p,f⟩:=G8 fr x;have a:∀i∈(fr.finish x).todo,cZ G i=true/\(fr.roundOf≠none->gO i=true):=by
  intro i a;have c:∀j∈fr.todo,cZ G j=true/\(fr.roundOf≠none->gO j=true):=λj g=>⟨h.items j g,λq=>h.round q j g⟩;unfold Frame.finish at a;split at a
  .rename_i d j b k n;obtain rfl|a:=dj.1 a
   .exact c (.inRegion d (j::b)) (by rw[n];simp)
   simp_all
  .rename_i l k n;obtain rfl|a:=dj.1 a
   .exact⟨rfl,λ_=>rfl⟩
   simp_all
  .simp_all
  all_goals simp_all[cZ]
 exact⟨λi r=>(a i r).1,by rw[o];exact h.defers,by rw[p];exact h.kind,by rw[f];simp_all,by rw[f,e];exact h.last,by rw[e];exact h.calm⟩
def y7(f:Nat->Nat)(fr:ah)(es:List PanicEntry):(aO f fr).raise (es.map (vT f))=aO f (fr.raise es):=by
 grind[aO,dZ,Frame.raise]
theorem bJ.raise{G:Nat}(h:bJ G fr){es:List PanicEntry}(g:∀e∈es,e.recovered=false):bJ G (fr.raise es):=by
 unfold Frame.raise;split
 .rename_i c d;refine⟨h.items,h.defers,h.kind,h.round,λ_=>a9i,λf b e a=>?_⟩;simp at b;subst b;obtain a|a:=oy.1 a
  .simp_all
  .exact h.calm c d e a
 .refine⟨h.items,h.defers,h.kind,h.round,λ_=>a9i,λf b e a=>?_⟩;simp_all
def ny(trap t:ah):Prop:=t=trap\/(∃x,t=trap.finish x)\/∃a,t=trap.raise a
def A0{P:aA}{fr c:ah}{a:List ah}{x:aj}{w:aa}(d:fr.kind=.deferred)(f:∀b,c.mode=.panicking b->∀e∈b,e.recovered=false):doReturn P main fr (c::a) none x w=.go (am c a) w #[]:=by
 simp only[doReturn,d];cases g:c.mode with
 |run=>rfl
 |returning=>rfl
 |panicking b=>
  obtain _|⟨⟨h,i,j⟩,l⟩:=b
  .rfl
  .have:=f _ g _ jg;simp at this;subst this;rfl
def Dh(u:∀z,trap.mode=.panicking z->∀e∈z,e.recovered=false)(R:e9 lk lz T cs D ai w v fr gs rf m){x x':aj}(K:∀f,aQ D ai f->x'=al f x){g':aw}{w':aa}{es:Array aT}(b:doReturn ⟨T,F⟩ true fr (gs++trap::below) none x w=.go g' w' es):(∃j k l i,g'=am j (k++trap::below)/\w'=w/\es=#[]/\doReturn ⟨T,F'⟩ main rf m none x' v=.go (am l i) v #[]/\e9 lk lz T cs D ai w v j k l i)\/(gs=[]/\∃t,g'=am t below/\ny trap t):=by
 cases gs with
 |nil=>
  refine .inr ⟨rfl,?_⟩;simp at b;obtain h|h:=R.ok.kind
  .simp only[doReturn,h,GStep.go.injEq]at b;exact⟨_,b.1.symm,.inr (.inl ⟨x,rfl⟩)⟩
  .rw[A0 h u]at b;simp only[GStep.go.injEq]at b;exact⟨_,b.1.symm,.inl rfl⟩
 |cons c a=>
  refine .inl ?_;have h0:=R.aX _ (aL R.heap 0);have q:bJ T.globals.size c:=R.bQ c a9i;have d:∀y∈a,bJ T.globals.size y:=λy L=>R.bQ y (by simp[L]);have g:rf.kind=fr.kind:=by rw[h0.1];rfl
  obtain h|h:=R.ok.kind
  .simp only[fU,doReturn,h,GStep.go.injEq]at b;obtain⟨rfl,rfl,rfl⟩:=b;refine⟨c.finish x,a,(aO (ag D ai (v.heap.size+0)) c).finish x',a.map (aO (ag D ai (v.heap.size+0)))++cs,rfl,rfl,rfl,?_,?_⟩
   .rw[h0.2];simp only[dq,fU,doReturn,g,h];rfl
   .refine⟨R.heap,R.os,R.low,R.all,q.finish x,d,λf r=>?_⟩;have n:=R.aX f r;rw[h0.2]at n;simp only[dq,fU,iq]at n;rw[n.2.1,K f r,oV];simp_all
  .rw[fU,A0 h q.calm]at b;simp only[GStep.go.injEq]at b;obtain⟨rfl,rfl,rfl⟩:=b;refine⟨c,a,aO (ag D ai (v.heap.size+0)) c,a.map (aO (ag D ai (v.heap.size+0)))++cs,rfl,rfl,rfl,?_,?_⟩
   .rw[h0.2];simp only[dq,fU];apply A0 (g.trans h);intro z C e M;obtain⟨O,H,I,s,o,J,p⟩:=c;cases o with
    |panicking A=>simp only[aO,dZ,FrameMode.panicking.injEq]at C;subst C;obtain⟨N,B,rfl⟩:=eS.1 M;exact q.calm A rfl N B
    |run=>grind[aO,dZ]
    |returning=>grind[aO,dZ]
   .refine⟨R.heap,R.os,R.low,R.all,q,d,λf r=>?_⟩;have n:=R.aX f r;rw[h0.2]at n;simp_all
def a9o.seen(d:Twin T F F' E){c:Nat->Prop}{a:Nat->Nat}{w' v':aa}{u u':Array aT}(h:a9o D c ai a w w' v v' u u')(fn:bW):a9o D c ai a w w' v v' (seen ⟨T,F⟩ fn u) (seen ⟨T,F'⟩ fn u'):=
 ⟨h.more,h.new,h.size,h.pA,h.frame,h.tape,h.os,h.output,h.pB,h.oh,h.rp,h.drawn,λf g=>by rw[h.ev f g,a3n d],h.gr,λe b=>h.qu e (Ku _ _ _ b),λe b=>h.lw e (Ku _ _ _ b)⟩
def pS{s:GStep}{u es:Array aT}{g':aw}{w':aa}(h:s.after u=.go g' w' es):∃es2,s=.go g' w' es2:=by cases s<;>simp[GStep.after]at h;simp_all
def AA{P:aA}[ne:nu P]{fr:ah}{cs:List ah}{s:Sem Next}{w w':aa}{g':aw}{es d:Array aT}{r:Result Next}(i:s.runT P w #[]=(r,d))(e:tY r)(b:stepG.apply P true fr cs none s w=.go g' w' es):fK r=w':=by
 unfold stepG.apply at b;simp only[i,if_true]at b;cases r with
 |halt h g=>
  obtain⟨x,rfl⟩|e:=e
  .simp only[GStep.after,GStep.go.injEq]at b;exact b.2.1
  .cases h<;>simp[fi]at e<;>simp[GStep.after]at b;rename_i u;cases u<;>first|(simp at b;done)|(obtain⟨o,j,f,q⟩:=ne.early fr cs none (by assumption) g;simp[q]at b)
 |ok a g=>
  obtain⟨f,c⟩:=pS b;clear b;cases a<;>simp only[]at c
  all_goals(try(repeat' split at c))
  all_goals(try simp only[endThrow,dieOf,GStep.go.injEq,reduceCtorEq]at c)
  all_goals(first|exact c.2.1|exact c.elim)
def gG.behind{n:Nat}(h:gG w v n){c:Nat->Prop}{a:Nat->Nat}{w' v':aa}{u u':Array aT}(b:a9o D c ai a w w' v v' u u'):gG w' v' n:=by intro i f;obtain⟨j,d,e⟩:=b.drawn;rw[b.tape,b.pB,d,e,lJ,lJ];exact h (j+i) a9h
def Az(tw:Twin T F F' E)(R:e9 lk lz T cs D ai w v fr gs rf m){s s':Sem Next}(hE:∀f,aQ D ai f->aB ⟨T,F⟩ ⟨T,F'⟩ f (RN F T.globals.size f) s s'){g':aw}{w':aa}{es:Array aT}(z:stepG.apply ⟨T,F⟩ true fr (gs++trap::below) none s w=.go g' w' es)(O:gG w v w'.drawn):iU lk lz T F F' E cs trap below D ai w v g' w' es (stepG.apply ⟨T,F'⟩ true rf m none s' v):=by
 have h0:=R.aX _ (aL R.heap 0);have ap:rf.fn=fr.fn:=by rw[h0.1];rfl
 have P:(fr.kind==CallKind.early)=false:=by obtain h|h:=R.ok.kind<;>rw[h]<;>rfl
 have S:(rf.kind==CallKind.early)=false:=by rw[h0.1];exact P
 have aq:(match fr.todo with| .call _ true _ _::_=>CallKind.wrapped|_=>.normal)=.normal:=by
  split
  .rename_i O;have:=R.ok.items _ (by rw[O];exact jg);simp[cZ]at this
  .rfl
 have U:(match rf.todo with| .call _ true _ _::_=>CallKind.wrapped|_=>.normal)=.normal:=by
  rw[h0.1];split
  .rename_i d _ _ _ O;simp only[aO]at O;rcases ab:fr.todo with _|⟨i,k⟩
   .rw[ab]at O;simp at O
   .have:=R.ok.items i (by rw[ab];exact jg);rw[ab]at O;cases i<;>simp[cg,cZ]at O this
  .rfl
 rcases hr:s.runT ⟨T,F⟩ w #[]with⟨r,bp⟩;have ne:=tw.early;obtain⟨a,w1,rfl,I,e,b,K,bb,ad,Q,V,W,J⟩|⟨x,w1,rfl,I,e,x',K,bb,ad,Q,V,W,J⟩|⟨h,w1,rfl,ae⟩:=od R.heap R.os R.all hE hr (λn=>by rw[AA hr n z];exact O)
 .have A:=J.seen tw fr.fn;have j:∀f,aQ I e f->rf=aO f fr/\m=gs.map (aO f)++cs:=λf n=>R.aX f (n.less J.more);have L:=W _ (aL Q 0);unfold stepG.apply at z⊢;simp only[hr,ad,if_true,P,S,d8,if_false,ap,GStep.after]at z⊢;cases a with
  |value x=>simp only[RN]at L;subst L;simp only[GStep.go.injEq,b0E]at z;obtain⟨rfl,rfl,rfl⟩:=z;refine⟨I,e,K,_,_,rfl,by simpa using A,.inl ⟨fr.finish x,gs,_,_,rfl,rfl,R.next J Q V (R.ok.finish x) R.bQ λf n=>?_⟩⟩;have B:=j f n;have H:=W f n;simp only[RN,Next.value.injEq]at H;rw[H,<-oV];exact⟨by rw[<-B.1],B.2⟩
  |skip=>
   simp only[RN]at L;subst L;simp only[GStep.go.injEq,b0E]at z;obtain⟨rfl,rfl,rfl⟩:=z;refine⟨I,e,K,_,_,rfl,by simpa using A,.inl ⟨fr.finish undef,gs,_,_,rfl,rfl,R.next J Q V (R.ok.finish undef) R.bQ λf n=>?_⟩⟩;have B:=j f n;have hu:al f undef=undef:=by simp[undef]
   rw[<-oV,hu];exact⟨by rw[<-B.1],B.2⟩
  |enter g p=>
   simp only[RN]at L;obtain⟨rfl,fn,c,M,t⟩:=L;simp only[GStep.go.injEq,b0E]at z;obtain⟨rfl,rfl,rfl⟩:=z;by_cases hg:E g
   .refine⟨I,e,K,_,_,rfl,by simpa using A,.inr ⟨g,p,.normal,_,fr,gs,rf,m,⟨hg,.inl rfl⟩,congrArg (λk=>am (Frame.enter ⟨T,F⟩ g p k) (fr::gs++trap::below)) aq,congrArg (λk=>am (Frame.enter ⟨T,F'⟩ g (p.map (al (ag I e (K.heap.size+0)))) k) (rf::m)) U,λf n=>?_,R.next J Q V R.ok R.bQ j⟩⟩;have:=(W f n).1;simp only[Next.enter.injEq,true_and]at this;exact this
   .obtain⟨br,bc,bo,_,_,_,bd⟩:=tw.each g fn M;obtain⟨c1,c2,C,bs,ar,ao⟩|⟨C,_⟩|⟨C,_⟩:=bd
    .have au:=ao hg;subst au;have bl:c1=c:=by rw[t]at C;exact(db C).symm
     subst bl;refine⟨I,e,K,_,_,rfl,by simpa using A,.inl ⟨Frame.enter ⟨T,F⟩ g p .normal,fr::gs,Frame.enter ⟨T,F'⟩ g (p.map (al (ag I e (K.heap.size+0)))) .normal,rf::m,congrArg (λk=>am (Frame.enter ⟨T,F⟩ g p k) (fr::gs++trap::below)) aq,congrArg (λk=>am (Frame.enter ⟨T,F'⟩ g (p.map (al (ag I e (K.heap.size+0)))) k) (rf::m)) U,R.next J Q V ?_ ?_ λf n=>?_⟩⟩
     .refine⟨λi X=>?_,λd hd=>by simp[Frame.enter]at hd,.inl rfl,λh=>by simp[Frame.enter]at h,λh=>by simp[Frame.enter]at h,λc h=>by simp[Frame.enter]at h⟩;simp only[Frame.enter,M,t,b0c,kO,fM]at X;subst X;exact ar
     .intro y N;obtain rfl|N:=dj.1 N
      .exact R.ok
      .exact R.bQ y N
     .have B:=j f n;have H:=(W f n).1;simp only[Next.enter.injEq,true_and]at H;refine⟨?_,by rw[B.1,B.2];rfl⟩;rw[H];simp only[Frame.enter,aO,M,bc,bY,kO,b0c,t,dq,lH,cg,dZ,mu,pG];congr 1;rw[jV];congr 1;rw[b0Z];simp[undef]
    .rw[t]at C;cases C
    .rw[t]at C;cases C
  |round l g av bn body=>
   simp only[RN]at L;obtain⟨rfl,Y,Z⟩:=L;simp only[GStep.go.injEq,b0E]at z;obtain⟨rfl,rfl,rfl⟩:=z;refine⟨I,e,K,_,_,rfl,by simpa using A,.inl ⟨Frame.round l g av bn body .normal,fr::gs,_,_,rfl,rfl,R.next J Q V ?_ ?_ λf n=>?_⟩⟩
   .refine⟨λi X=>?_,λd hd=>by simp[Frame.round]at hd,.inl rfl,λ_ i X=>?_,λ_=>by simp[Frame.round],λc h=>by simp[Frame.round]at h⟩
    .simp only[Frame.round,dj,a9V,or_false]at X;obtain rfl|rfl|rfl:=X
     .exact Y.1
     .rfl
     .exact Z.1
    .simp only[Frame.round,dj,a9V,or_false]at X;obtain rfl|rfl|rfl:=X
     .exact Y.2
     .rfl
     .exact Z.2
   .intro y N;obtain rfl|N:=dj.1 N
    .exact R.ok
    .exact R.bQ y N
   .have B:=j f n;have H:=(W f n).1;simp only[Next.round.injEq,and_true,true_and]at H;refine⟨?_,by rw[B.1,B.2];rfl⟩;rw[H.1,H.2];rfl
  |defer d=>
   simp only[RN]at L;obtain⟨rfl,aP⟩:=L;simp only[GStep.go.injEq,b0E]at z;obtain⟨rfl,rfl,rfl⟩:=z;have ba:bJ T.globals.size {fr with defers:=d::fr.defers}:=⟨R.ok.items,λy N=>by
    obtain rfl|N:=dj.1 N
    .exact aP
    .exact R.ok.defers y N,R.ok.kind,R.ok.round,R.ok.last,R.ok.calm⟩
   refine⟨I,e,K,_,_,rfl,by simpa using A,.inl ⟨({fr with defers:=d::fr.defers}:ah).finish undef,gs,_,_,rfl,rfl,R.next J Q V (ba.finish undef) R.bQ λf n=>?_⟩⟩;have B:=j f n;have hu:al f undef=undef:=by simp[undef]
   have H:=(W f n).1;simp only[Next.defer.injEq]at H;rw[<-oV,hu,H];exact⟨by rw[B.1];rfl,B.2⟩
  |_=>exact L.elim
 .have A:=J.seen tw fr.fn;have j:∀f,aQ I e f->rf=aO f fr/\m=gs.map (aO f)++cs:=λf n=>R.aX f (n.less J.more);unfold stepG.apply at z⊢;simp only[hr,ad,if_true,P,S,d8,if_false,ap,GStep.after,GStep.go.injEq,b0E]at z⊢;obtain⟨rfl,rfl,rfl⟩:=z;refine⟨I,e,K,_,_,rfl,by simpa using A,.inl ⟨fr.raise [{v:=x,recovered:=false}],gs,_,_,rfl,rfl,R.next J Q V (R.ok.raise a9i) R.bQ λf n=>?_⟩⟩;have B:=j f n;have H:=W f n;rw[H,<-y7];exact⟨by rw[B.1];rfl,B.2⟩
 .exfalso;unfold stepG.apply at z;simp only[hr,if_true,P,d8,if_false,GStep.after]at z;cases h<;>simp[fi]at ae<;>simp at z;rename_i u;cases u<;>first|(simp at z;done)|(obtain⟨o,w2,bw,q⟩:=tw.early.early fr (gs++trap::below) none (by assumption) w1;simp[q]at z)
end
variable{s:Prop}{lz:Nat->Obj->Prop}{T:Tables}{F F':Array Func}{E:bW->Prop}{cs:List ah}{trap:ah}{main:Bool}{D:Nat->Prop}{ai f:Nat->Nat}{w v:aa}{fr:ah}{gs:List ah}{u:ah}{q:List ah}
def RS(l j)(b:∀c,j=some c->cF T.globals.size c=true/\dW c=true):SE T F F' f (aN (al f)) (Instr.endRound l j) (Instr.endRound (f l) j):=by apply(uA l).bind;rintro r _ ⟨rfl,a⟩;apply aB.bind (R:=Eq) (xN l (o:=.loop {r with state:=if j.isNone then .ready else .done,pending:=j}) ⟨a.1,a.2.1,b⟩);rintro _ _ _;exact ax aZ
def A8(h:Fit T f)(l):SE T F F' f Eq (Instr.beginRound l) (Instr.beginRound (f l)):=by apply(uA l).bind;rintro r _ ⟨rfl,a⟩;apply aB.bind (R:=Eq) (xN l (o:=.loop {r with state:=.busy}) a);rintro _ _ _;obtain⟨b,d,e,g,i,c,j,k⟩:=r;cases b<;>first|exact ax rfl|exact gL h _
def FL(h:Fit T f)(l):SE T F F' f (λa b=>b=a/\∀c,a=some c->cF T.globals.size c=true/\dW c=true) (Instr.endLoop l) (Instr.endLoop (f l)):=by apply(uA l).bind;rintro r _ ⟨rfl,d⟩;refine bk (c:=(r.state==LoopState.busy)=true) bq (λ_=>mE h _) λ_=>?_;apply aB.bind (R:=Eq) (xN l (o:=.loop {r with state:=.exhausted}) d);rintro _ _ _;exact ax ⟨rfl,d.2.2⟩
def xF(fn tmps g a b)(i:cF T.globals.size a=true/\dW a=true)(j:cF T.globals.size b=true/\dW b=true)(h):SE T F F' f (λx y=>y=(f x.1,x.2.map (dv f))/\∀d∈x.2,fI d.target=true) (Instr.enterLoop fn tmps g a b h) (Instr.enterLoop fn (tmps.map (al f)) g a b (h.map f)):=by
 have e:∀(r:Nat) (m:List Deferred),(∀d∈m,fI d.target=true)->SE T F F' f (λx y=>y=(f x.1,x.2.map (dv f))/\∀d∈x.2,fI d.target=true)
   (do pure (<-newObj (.loop {state:=.ready,pending:=none,fn,tmps,params:=g,assign:=a,body:=b,defers:=r}),m))
   (do pure (<-newObj (.loop {state:=.ready,pending:=none,fn,tmps:=tmps.map (al f),params:=g,assign:=a,body:=b,defers:=f r}),m.map (dv f))):=by
  intro r m k;apply aB.bind (rY (o:=.loop {state:=.ready,pending:=none,fn,tmps,params:=g,assign:=a,body:=b,defers:=r}) ⟨i,j,λc n=>by cases n⟩);rintro x _ rfl;exact ax ⟨rfl,k⟩
 cases h with
 |some l=>apply(uA l).bind;rintro r _ ⟨rfl,p⟩;exact e r.defers [] a9i
 |none=>apply aB.bind (rY (o:=.deferred (some [])) (by simp[ee]));rintro x _ rfl;have t:=e x [{target:=.collected x,args:=#[]}] (by simp[fI]);simp[dv,ja]at t;exact t
def SG(b):SE T F F' f (λx y=>y=x.map (dv f)/\∀d∈x,fI d.target=true) (Instr.takeDeferred b) (Instr.takeDeferred (f b)):=by
 apply(nK b).bind;rintro o _ (⟨rfl,c⟩|⟨rfl,_⟩);rotate_left
 .exact aC _ _
 cases o<;>try exact aC _ _
 rename_i a;cases a with
 |none=>simp[aC]
 |some a=>apply aB.bind (R:=Eq) (xN b (o:=.deferred none) trivial);rintro _ _ _;exact ax ⟨rfl,c⟩
def Ss(h:Fit T f)(fn tmps):SE T F F' f (aN (al f)) (results fn tmps) (results fn (tmps.map (al f))):=by
 have:=qV;have b:∀t:Nat,(tmps.map (al f)).getD t undef=al f (tmps.getD t undef):=by intro t;simp;cases tmps[t]? <;>simp[undef]
 unfold results;simp only[b0x];have c:∀l:List ResultVar,SE T F F' f (aN (List.map (al f))) (l.mapM fun| .tmp t=>pure (tmps.getD t undef)| .cell a t=>do loadVar t (<-asAddr (tmps.getD a undef)))
   (l.mapM fun| .tmp t=>pure ((tmps.map (al f)).getD t undef)| .cell a t=>do loadVar t (<-asAddr ((tmps.map (al f)).getD a undef))):=by
  intro l;induction l with
  |nil=>simp;exact ax rfl
  |cons r l d=>
   simp only[b1G];apply aB.bind (R:=aN (al f))
   .cases r with
    |tmp t=>dsimp;rw[b];exact ax rfl
    |cell a t=>dsimp;rw[b];apply(nI h _).bind;rintro x _ rfl;simp[uB]
   .rintro x _ rfl;apply aB.bind d;rintro e _ rfl;exact ax rfl
 apply aB.bind (R:=aN (Array.map (al f)))
 .apply aB.bind (c fn.results.toList);rintro e _ rfl;exact ax aZ
 .rintro g _ rfl;apply ax;simp only[aN,pG];split<;>simp
def Md(ops tmps j):yielded ops (tmps.map (al f)) j=yielded ops tmps j:=by
 unfold yielded;cases (ops[j]?).bind (·.dst)with
 |none=>rfl
 |some d=>
  simp;cases tmps[d]? with
  |none=>rfl
  |some x=>cases x<;>simp
end Go.Mir
end
