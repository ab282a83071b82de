import Derived.Test.YtdnpeefnobjfaaaGreatDoorK01
set_option maxRecDepth 100000
set_option maxHeartbeats 4000000
set_option linter.all false
section
namespace Go.Mir
variable{T:Tables}{F F':Array Func}{f:Nat->Nat}
theorem C7{α β}(a)(g:α->Sem β):(Pure.pure a>>=g)=g a:=rfl
theorem ax{α β R}{a:α}{b:β}(h:R a b):SE T F F' f R (pure a) (pure b):=h
def RB(h:Fit T f)(t):SE T F F' f (aN (al f)) (Instr.alloc t true (.tuple #[])) (Instr.alloc t true (.tuple #[])):=by apply(mF h t).bind;rintro _ z ⟨rfl,b⟩;have:=xM (T:=T) (F:=F) (F':=F') (f:=f) t z;rw[mf f z b]at this;apply aB.bind this;rintro a _ rfl;exact ax aZ
def RG(t v):SE T F F' f (aN (al f)) (Instr.box t v) (Instr.box t (al f v)):=by apply(xM t v).bind;rintro a _ rfl;exact ax aZ
def Bf(t v):SE T F F' f (aN (al f)) (Instr.loadAt t v) (Instr.loadAt t (al f v)):=by apply(uG v).bind;rintro a _ rfl;simp[uB]
def Sz(t v x):SE T F F' f Eq (Instr.storeAt t v x) (Instr.storeAt t (al f v) (al f x)):=by
 apply(uG v).bind;rintro a _ rfl
 grind[SC]
def Uk(c:List (aj×Nat))(a):∀cs:Array aj,(c.foldl (λcs x=>cs.setIfInBounds (a+x.2) x.1) cs).map (al f)=(c.map λx=>(al f x.1,x.2)).foldl (λcs x=>cs.setIfInBounds (a+x.2) x.1) (cs.map (al f)):=by
 induction c with
 |nil=>simp_all
 |cons x c b=>simp_all
theorem BD(a):∀d b,Instr.fill a (b.map (al f)) (d.map λx=>(x.1,al f x.2))=(Instr.fill a b d).map (Array.map (al f))
 |[],b=>rfl
 |(i,v)::c,b=>by
  simp only[dq,Instr.fill];cases a i with
  |none=>rfl
  |some p=>
   obtain⟨g,e⟩:=p;simp only[uk,pG];split
   .rfl
   .rw[<-BD a c];congr 1;simp only[<-b0i];rw[Uk];congr 1;apply List.ext_getElem?;intro j;simp[Function.comp_def]
theorem qV:LawfulMonad Sem:=by
 have c:∀{α:Type} (x:Sem α),x.bind Sem.pure=x:=by intro α x;induction x<;>simp only[Sem.bind]<;>first|(congr 1;funext v;rename_i b;exact b v)|simp_all
 have d:∀{α β γ:Type} (x:Sem α) (g:α->Sem β) (k:β->Sem γ),(x.bind g).bind k=x.bind λa=>(g a).bind k:=by intro α β γ x g k;induction x<;>simp only[Sem.bind]<;>first|(congr 1;funext v;rename_i b;exact b v)|simp_all
 exact LawfulMonad.mk' Sem (λx=>c x) (λ_ _=>rfl) (λx g k=>d x g k)
def Sg(c:List Field):SE T F F' f Eq (c.mapM λd=>do pure (d.offset,<-Go.sizeOf d.type)) (c.mapM λd=>do pure (d.offset,<-Go.sizeOf d.type)):=by
 have:=qV;induction c with
 |nil=>simp;exact ax rfl
 |cons x l e=>
  simp only[b1G];apply aB.bind (R:=Eq)
  .apply(ga _).bind;rintro n _ rfl;exact ax rfl
  .rintro a _ rfl;apply aB.bind (R:=Eq) e;rintro b _ rfl;exact ax rfl
def Si(b:Array Field):SE T F F' f Eq (b.mapM λc=>do pure (c.offset,<-Go.sizeOf c.type)) (b.mapM λc=>do pure (c.offset,<-Go.sizeOf c.type)):=by have:=qV;simp only[b0x];apply(Sg b.toList).bind;rintro a _ rfl;exact ax rfl
def Cm{z:Array aj}(h:∀x∈z,bg x=true):z.map (al f)=z:=jp λx a=>mf f x (h x a)
def oK{v}(h:bg v=true):v.cells.map (al f)=v.cells:=by rw[<-uk,mf f v h]
def RH(h:Fit T f)(t c):SE T F F' f (aN (al f)) (Instr.build t c) (Instr.build t (c.map λx=>(x.1,al f x.2))):=by
 apply(mF h t).bind;rintro _ z ⟨rfl,j⟩;apply(cm t).bind;rintro d _ rfl;have g:∀a:Nat->Option (Nat×Nat),Instr.fill a z.cells (c.map λx=>(x.1,al f x.2)).toList=(Instr.fill a z.cells c.toList).map (Array.map (al f)):=by intro a;rw[<-BD,oK j,kH]
 cases d<;>try exact aC _ _
 .rename_i n e;apply(ga e).bind;rintro s _ rfl;rw[g];cases Instr.fill (λi=>some (i*s,s)) z.cells c.toList
  .simp[aC]
  .exact ax aZ
 .rename_i b;apply(Si b).bind;rintro k _ rfl;rw[g];cases Instr.fill (k[·]?) z.cells c.toList
  .simp[aC]
  .exact ax aZ
theorem O0{z:Array aj}(h:z.map (al f)=z)(j:Nat):al f (z[j]!)=z[j]! :=by
 by_cases a:j<z.size
 .grind
 simp_all[default,instInhabitedValue.default]
def C9{z:Array aj}(h:z.map (al f)=z)(n):((Array.range n).map (λi=>z[i%z.size]!)).map (al f)=(Array.range n).map (λi=>z[i%z.size]!):=by
 rw[b0g]
 grind[O0]
def RI(h:Fit T f)(t len g):SE T F F' f (aN (al f)) (Instr.buildSlice t len g) (Instr.buildSlice t len (g.map λx=>(x.1,al f x.2))):=by
 apply(cm t).bind;rintro d _ rfl;cases d<;>try exact aC _ _
 rename_i e;apply(ga e).bind;rintro s _ rfl;have k:∀z:Array aj,z.map (al f)=z->Instr.fill (λi=>some (i*s,s)) ((Array.range (len*s)).map (λi=>z[i%z.size]!)) (g.map λx=>(x.1,al f x.2)).toList=(Instr.fill (λi=>some (i*s,s)) ((Array.range (len*s)).map (λi=>z[i%z.size]!)) g.toList).map (Array.map (al f)):=by intro z j;rw[<-BD,C9 j,kH]
 have c:∀z:Array aj,z.map (al f)=z->SE T F F' f (aN (al f))
   (match Instr.fill (λi=>some (i*s,s)) ((Array.range (len*s)).map (λi=>z[i%z.size]!)) g.toList with|some b=>(do let a<-newRow e b;pure (Value.slice (some a) len len))|x=>stuck "buildSlice: a part of the wrong size")
   (match Instr.fill (λi=>some (i*s,s)) ((Array.range (len*s)).map (λi=>z[i%z.size]!)) (g.map λx=>(x.1,al f x.2)).toList with|some b=>(do let a<-newRow e b;pure (Value.slice (some a) len len))|x=>stuck "buildSlice: a part of the wrong size"):=by
  intro z j;rw[k z j];cases Instr.fill (λi=>some (i*s,s)) ((Array.range (len*s)).map (λi=>z[i%z.size]!)) g.toList with
  |none=>simp[aC]
  |some l=>apply(oQ e l).bind;rintro a _ rfl;exact ax aZ
 dsimp only;refine bk bq (λ_=>aV _ _) λ_=>?_;refine bk bq (λ_=>c #[] a9i) λ_=>?_;apply(mF h e).bind;rintro _ z ⟨rfl,j⟩;exact c z.cells (oK j)
def xR(r):SE T F F' f (aN (Option.map λx=>(aG f x.1,x.2))) (viewAt r) (viewAt (f r)):=by
 apply(j7 r).bind;rintro s _ rfl;cases s with
 |some x=>exact ax rfl
 |none=>
  apply(nK r).bind;rintro o a (⟨rfl,c⟩|⟨rfl,b⟩);rotate_left
  .cases a<;>first|exact b.elim|exact ax rfl
  cases o<;>exact ax rfl
def uC(a):SE T F F' f Eq (noView a) (noView (aG f a)):=by
 apply(xR a.block).bind;rintro s _ rfl;cases s
 .exact ax rfl
 .exact aV _ _
def p8(a):SE T F F' f Eq (byteOf a) (byteOf (aG f a)):=by
 unfold byteOf;rw[De];cases a.spot with
 |some s=>exact ax rfl
 |none=>
  apply gu;apply(uC a).bind;rintro _ _ _;apply(j7 a.block).bind;rintro s _ rfl;cases s with
  |none=>simp[aC]
  |some x=>
   obtain⟨e,n⟩:=x;dsimp only;refine bk bq (λ_=>ax rfl) λ_=>?_;have c:=xa (T:=T) (F:=F) (F':=F') (Program.depth ⟨T,F⟩) e (a.off%Program.cellsOf ⟨T,F⟩ e);cases d:byteOfCell ⟨T,F⟩ (Program.depth ⟨T,F⟩) e (a.off%Program.cellsOf ⟨T,F⟩ e)with
   |none=>simp[aC]
   |some b=>rw[d]at c;change byteOfCell ⟨T,F'⟩ (Program.depth ⟨T,F'⟩) e ((aG f a).off%Program.cellsOf ⟨T,F'⟩ e)=_ at c;simp only[c];exact ax rfl
def Sq(a c b):SE T F F' f (aN (aG f)) (partAt a c b) (partAt (aG f a) c b):=by apply(p8 a).bind;rintro x _ rfl;apply(p8 {block:=a.block,off:=a.off+c}).bind;rintro y _ rfl;apply ax;simp only[aN];split<;>rfl
def Bb(a b):SE T F F' f (aN (aG f)) (fieldPlace a b) (fieldPlace (aG f a) b):=by
 apply(ga _).bind;rintro s _ rfl;refine bk bq (λ_=>Sq a _ _) λ_=>?_
 grind[ax,aN,lQ]
def RY(t v i):SE T F F' f (aN (al f)) (Instr.fieldAt t v i) (Instr.fieldAt t (al f v) i):=by
 apply(cm t).bind;rintro d _ rfl;cases d<;>try exact aC _ _
 rename_i c;dsimp;cases c[i]? with
 |none=>simp[aC]
 |some e=>apply(uG v).bind;rintro a _ rfl;apply(Bb a e).bind;rintro b _ rfl;exact ax aZ
def RX(t v i):SE T F F' f (aN (al f)) (Instr.field t v i) (Instr.field t (al f v) i):=by
 apply(cm t).bind;rintro d _ rfl;cases d<;>try exact aC _ _
 rename_i b;dsimp;cases b[i]? with
 |none=>simp[aC]
 |some c=>
  apply(RE v).bind;rintro a _ rfl
  grind[kV]
variable{T:Tables}{F F':Array Func}{f:Nat->Nat}
def mE(h:Fit T f){α β γ δ R}(e){g:γ->Sem α}{g':δ->Sem β}:SE T F F' f R (runtimePanic e>>=g) (runtimePanic e>>=g'):=
 aB.bind (R:=λ_ _=>False) (gL h e) λ_ _ x=>x.elim
def R9(h:Fit T f)(t x i):SE T F F' f (aN (al f)) (Instr.indexAt t x i) (Instr.indexAt t (al f x) (al f i)):=by
 apply(xD i).bind;rintro⟨k,n⟩ _ rfl;apply(cm t).bind;rintro d _ rfl;dsimp;have o:∀(base:Option aF) (b:Nat) (g:bD) (j:Bool),SE T F F' f (aN (al f))
   (match base with|some a=>if 0<=n/\n<↑b then (do let s<-Go.sizeOf g;pure (Value.pointer (some (a.add (n.toNat*s)))))else if j=true then unsupported (.noEntry "op/indexAddr.an index out of range at an array of length 0 or 1 (ledger 616)")else boundsPanic k n ↑b .index|none=>boundsPanic k n 0 .index)
   (match base.map (aG f)with|some a=>if 0<=n/\n<↑b then (do let s<-Go.sizeOf g;pure (Value.pointer (some (a.add (n.toNat*s)))))else if j=true then unsupported (.noEntry "op/indexAddr.an index out of range at an array of length 0 or 1 (ledger 616)")else boundsPanic k n ↑b .index|none=>boundsPanic k n 0 .index):=by
  intro base b g j;cases base with
  |none=>grind[uw]
  |some a=>refine bk bq (λ_=>?_) λ_=>bk bq (λ_=>aV _ _) λ_=>uw h _ _ _ _;apply(ga _).bind;rintro s _ rfl;exact ax (by simp[aN,lQ])
 cases d<;>try exact aC _ _
 .rename_i e;cases x<;>try exact aC _ _
  rename_i a l c;rw[fh];apply(cm t).bind;rintro d _ rfl;exact o a l e (l<=1&&(match d with| .array .. =>true|_=>false))
 .rename_i l e;apply(uG x).bind;rintro a _ rfl;apply(cm t).bind;rintro d _ rfl;exact o (some a) l e (l<=1&&(match d with| .array .. =>true|_=>false))
def xO(h:Fit T f)(x y c):SE T F F' f Eq (Instr.sliceBound x y c) (Instr.sliceBound (al f x) y c):=by apply(xD x).bind;rintro⟨k,n⟩ _ rfl;exact bk bq (λ_=>ax rfl) λ_=>uw h _ _ _ _
def xP(h:Fit T f)(s l c i k j):SE T F F' f Eq (Instr.sliceBounds s l c i k j) (Instr.sliceBounds s l c (i.map (al f)) (k.map (al f)) (j.map (al f))):=by
 have d:∀g m:Nat,SE T F F' f Eq (match i with|some v=>(do let l<-Instr.sliceBound v g (if j.isSome then .slice3C else .sliceB);pure (l,g,m))|none=>pure (0,g,m))
   (match i.map (al f)with|some v=>(do let l<-Instr.sliceBound v g (if (j.map (al f)).isSome then .slice3C else .sliceB);pure (l,g,m))|none=>pure (0,g,m)):=by
  intro g m;simp;cases i with
  |none=>exact ax rfl
  |some v=>exact(xO h v _ _).bind λ_ _ e=>e▸ax rfl
 unfold Instr.sliceBounds;cases j with
 |none=>
  cases k with
  |none=>exact d l c
  |some v=>apply(xO h v _ _).bind;rintro a _ rfl;exact d a c
 |some m=>
  apply(xO h m _ _).bind;rintro b _ rfl;cases k with
  |none=>exact aC _ _
  |some v=>apply(xO h v _ _).bind;rintro a _ rfl;exact d a b
def Sw(h:Fit T f)(t x b g i):SE T F F' f (aN (al f)) (Instr.slice t x b g i) (Instr.slice t (al f x) (b.map (al f)) (g.map (al f)) (i.map (al f))):=by
 apply(cm t).bind;rintro d _ rfl;dsimp;cases d<;>try exact aC _ _
 .cases x<;>try exact aC _ _
  rename_i s;rw[qK];dsimp;cases i with
  |some _=>exact aC _ _
  |none=>apply(xP h _ _ _ b g none).bind;rintro⟨l,j,m⟩ _ rfl;exact ax aZ
 .rename_i e;apply(nI h x).bind;rintro a _ rfl;apply(cm e).bind;rintro d _ rfl;cases d<;>try exact aC _ _
  apply(xP h _ _ _ b g i).bind;rintro⟨l,j,m⟩ _ rfl;apply(ga _).bind;rintro s _ rfl
  grind[ax,aN,fh,lQ]
 .cases x<;>try exact aC _ _
  rename_i e a l c;rw[fh];apply(xP h _ _ _ b g i).bind;rintro⟨l,j,m⟩ _ rfl;apply(ga _).bind;rintro s _ rfl;apply ax;simp only[aN,fh];split
  .rfl
  .cases a<;>simp[lQ]
def Sy(h:Fit T f)(t x b c e):SE T F F' f (aN (al f)) (Instr.sliceAt t x b c e) (Instr.sliceAt t (al f x) (b.map (al f)) (c.map (al f)) (e.map (al f))):=by
 apply(cm t).bind;rintro d _ rfl;dsimp;cases d<;>try exact Sw h _ _ _ _ _
 apply(uG x).bind;rintro a _ rfl;apply(xP h _ _ _ b c e).bind;rintro⟨l,g,m⟩ _ rfl;apply(ga _).bind;rintro s _ rfl
 grind[ax,aN,fh,lQ]
def Se(t x):SE T F F' f (aN (al f)) (Instr.makeInterface t x) (Instr.makeInterface t (al f x)):=by apply(cm t).bind;rintro d _ rfl;cases d<;>first|exact aC _ _|exact ax aZ
def Sf(h:Fit T f)(t l c):SE T F F' f (aN (al f)) (Instr.makeSlice t l c) (Instr.makeSlice t (al f l) (al f c)):=by
 apply(cm t).bind;rintro d _ rfl;dsimp only;cases d<;>try exact aC _ _
 rename_i e;apply(rX l).bind;rintro l _ rfl;apply(rX c).bind;rintro c _ rfl;apply(gd e).bind;rintro i _ rfl;refine bk bq (λ_=>?_) λ_=>?_
 .refine bk bq (λ_=>mE h _) λ_=>bk bq (λ_=>mE h _) λ_=>?_;apply(jl _).bind;rintro n _ rfl;exact mE h _
 .apply(xE _).bind;rintro _ _ _;apply(ga _).bind;rintro s _ rfl;have b:∀z:Array aj,z.map (al f)=z->SE T F F' f (aN (al f))
    (do let a<-newRow e ((Array.range ((IntKind.i64.wrap c).toNat*s)).map (λi=>z[i%z.size]!));pure (Value.slice (some a) (IntKind.i64.wrap l).toNat (IntKind.i64.wrap c).toNat))
    (do let a<-newRow e ((Array.range ((IntKind.i64.wrap c).toNat*s)).map (λi=>z[i%z.size]!));pure (Value.slice (some a) (IntKind.i64.wrap l).toNat (IntKind.i64.wrap c).toNat)):=by
   intro z g;have:=oQ (T:=T) (F:=F) (F':=F') (f:=f) e ((Array.range ((IntKind.i64.wrap c).toNat*s)).map (λi=>z[i%z.size]!));rw[C9 g]at this;apply aB.bind this;rintro a _ rfl;exact ax aZ
  refine bk bq (λ_=>b #[] a9i) λ_=>?_;apply(mF h e).bind;rintro _ z ⟨rfl,g⟩;exact b z.cells (oK g)
def R8(h:Fit T f)(t x i):SE T F F' f (aN (al f)) (Instr.index t x i) (Instr.index t (al f x) (al f i)):=by
 apply(xD i).bind;rintro⟨k,n⟩ _ rfl;apply(cm t).bind;rintro d _ rfl;cases d<;>try exact aC _ _
 .cases x<;>try exact aC _ _
  rename_i s;rw[qK];dsimp;split
  .exact ax aZ
  grind[uw]
 .cases x<;>try exact aC _ _
  rename_i l e a;rw[iJ];refine bk bq (λ_=>?_) λ_=>uw h _ _ _ _;apply(ga _).bind;rintro s _ rfl
  grind[kV]
def RV(x i):SE T F F' f (aN (al f)) (Instr.extract x i) (Instr.extract (al f x) i):=by
 cases x<;>try exact aC _ _
 rename_i a;rw[mh];simp[Instr.extract];cases a[i]? with
 |none=>simp[aC]
 |some v=>exact ax rfl
def SI(h:Fit T f)(x s t c):SE T F F' f (aN (al f)) (Instr.typeAssert x s t c) (Instr.typeAssert (al f x) s t c):=by
 have k:∀v:aj,SE T F F' f (aN (al f)) (pure (if c then Value.tuple #[v,.bool true]else v)) (pure (if c then Value.tuple #[al f v,.bool true]else al f v)):=by intro v;exact ax (by cases c<;>simp[aN])
 have l:∀(a b:Option bD) (m:String),SE T F F' f (aN (al f)) (if c then (do let z<-zeroValue t;pure (Value.tuple #[z,.bool false]))else runtimePanic (.typeAssertion a b t m)) (if c then (do let z<-zeroValue t;pure (Value.tuple #[z,.bool false]))else runtimePanic (.typeAssertion a b t m)):=by intro a b m;refine bk bq (λ_=>?_) λ_=>gL h _;apply(mF h t).bind;rintro _ z ⟨rfl,o⟩;exact ax (by simp[aN,mf f z o])
 apply(cm t).bind;rintro d _ rfl;have n:∀d:TypeDesc,(∀m,d≠.interface m)->SE T F F' f (aN (al f))
   (match d,x with
    | .interface _,.nilIface=>(if c then (do let z<-zeroValue t;pure (Value.tuple #[z,.bool false]))else runtimePanic (.typeAssertion none none t ""))
    | .interface g,.iface j _=>(do match Instr.missingMethod g (<-typeInfo j).methods with|none=>pure (if c then Value.tuple #[x,.bool true]else x)|some m=>(if c then (do let z<-zeroValue t;pure (Value.tuple #[z,.bool false]))else runtimePanic (.typeAssertion none (some j) t m)))
    |_,.nilIface=>(if c then (do let z<-zeroValue t;pure (Value.tuple #[z,.bool false]))else runtimePanic (.typeAssertion (some s) none t ""))
    |_,.iface j v=>if j=t then pure (if c then Value.tuple #[v,.bool true]else v)else (if c then (do let z<-zeroValue t;pure (Value.tuple #[z,.bool false]))else runtimePanic (.typeAssertion (some s) (some j) t ""))
    |_,_=>stuck "TypeAssert: interface value expected")
   (match d,al f x with
    | .interface _,.nilIface=>(if c then (do let z<-zeroValue t;pure (Value.tuple #[z,.bool false]))else runtimePanic (.typeAssertion none none t ""))
    | .interface g,.iface j _=>(do match Instr.missingMethod g (<-typeInfo j).methods with|none=>pure (if c then Value.tuple #[al f x,.bool true]else al f x)|some m=>(if c then (do let z<-zeroValue t;pure (Value.tuple #[z,.bool false]))else runtimePanic (.typeAssertion none (some j) t m)))
    |_,.nilIface=>(if c then (do let z<-zeroValue t;pure (Value.tuple #[z,.bool false]))else runtimePanic (.typeAssertion (some s) none t ""))
    |_,.iface j v=>if j=t then pure (if c then Value.tuple #[v,.bool true]else v)else (if c then (do let z<-zeroValue t;pure (Value.tuple #[z,.bool false]))else runtimePanic (.typeAssertion (some s) (some j) t ""))
    |_,_=>stuck "TypeAssert: interface value expected"):=by
  intro d p;cases x<;>simp only[ks,sY]<;>cases d<;>first|exact aC _ _|exact absurd rfl (p _)|exact l _ _ _|exact bk bq (λ_=>k _) λ_=>l _ _ _
 cases d<;>first|(apply n _;intro _ e;cases e;done)|skip
 rename_i g;cases x<;>try exact aC _ _
 .rename_i j v;rw[ks];apply(gd j).bind;rintro i _ rfl;dsimp;cases Instr.missingMethod g i.methods with
  |none=>have:=k (.iface j v);simp at this;exact this
  |some m=>simp_all
 simp_all
variable{T:Tables}{F F':Array Func}{f:Nat->Nat}
def Bd(c k a b):SE T F F' f (aN (al f)) (Op.intArith c k a b) (Op.intArith c k a b):=by cases c<;>first|exact aC _ _|exact ax aZ
def Sc(h:Fit T f)(c k a b):SE T F F' f (aN (al f)) (Op.intDiv c k a b) (Op.intDiv c k a b):=by refine bk bq (λ_=>gL h _) λ_=>?_;cases c<;>first|exact aC _ _|exact ax aZ
def FR(c k a b):SE T F F' f (aN (al f)) (Op.intBits c k a b) (Op.intBits c k a b):=by cases c<;>first|exact aC _ _|exact ax aZ
def Sa(c a b):SE T F F' f (aN (al f)) (Op.intCmp c a b) (Op.intCmp c a b):=by cases c<;>first|exact aC _ _|exact ax aZ
def Gf(h:Fit T f)(c k y a b):SE T F F' f (aN (al f)) (Op.shift c k a y b) (Op.shift c k a y b):=by refine bk bq (λ_=>gL h _) λ_=>?_;cases c<;>first|exact aC _ _|exact ax aZ
def Gg(c a b):SE T F F' f (aN (al f)) (Op.stringOp c a b) (Op.stringOp c a b):=by cases c<;>first|exact aC _ _|exact ax aZ|exact bk bq (λ_=>aV _ _) λ_=>ax aZ
def SL(b x):SE T F F' f (aN (al f)) (Op.unary b x) (Op.unary b (al f x)):=by
 cases b<;>cases x<;>simp only[lu]<;>
  first
  |exact aC _ _
  |exact ax aZ
  |exact Bd _ _ _ _
  |exact FR _ _ _ _
  |(rename_i a;cases a<;>first|exact aC _ _|exact aV _ _)
def F0(r):SE T F F' f (aN (Option.map λx=>(aG f x.1,x.2))) (numberAt r) (numberAt (f r)):=by
 apply(j7 r).bind;rintro s _ rfl;cases s with
 |some x=>exact ax rfl
 |none=>
  apply(nK r).bind;rintro o a (⟨rfl,c⟩|⟨rfl,b⟩);rotate_left
  .cases a<;>first|exact b.elim|exact ax rfl
  cases o<;>exact ax rfl
def p7(a):SE T F F' f (aN λx=>(aG f x.1,x.2)) (behindNumber a) (behindNumber (aG f a)):=by apply(F0 a.block).bind;rintro s _ rfl;cases s<;>exact ax rfl
def Gi(a):SE T F F' f Eq (stringish a) (stringish (aG f a)):=by
 apply(nJ a).bind;rintro b _ rfl;cases b
 .apply(j7 a.block).bind;rintro s _ rfl;cases s with
  |none=>exact ax rfl
  |some x=>exact nJ {block:=a.block,off:=x.2}
 .exact ax rfl
def FW(a b):SE T F F' f Eq (mayBeOne a b) (mayBeOne (aG f a) (aG f b)):=by
 apply(Gi a).bind;rintro d _ rfl;apply(Gi b).bind;rintro e _ rfl;dsimp only;have c:∀x:aF,SE T F F' f Eq (do pure ((<-shape x.block) matches some (_,0))) (do pure ((<-shape (aG f x).block) matches some (_,0))):=by intro x;apply(j7 x.block).bind;rintro s _ rfl;exact ax rfl
 apply aB.bind (c a);rintro x _ rfl;apply aB.bind (c b);rintro y _ rfl;exact ax rfl
def Gd(h:Fit T f)(a b):SE T F F' f Eq (sameAddr a b) (sameAddr (aG f a) (aG f b)):=by
 unfold sameAddr;dsimp only;simp only[zk,rL h,Dc h];split
 .exact ax rfl
 .apply(nJ a).bind;rintro x _ rfl;apply(nJ b).bind;rintro y _ rfl;split
  .exact aV _ _
  .apply(uC a).bind;rintro _ _ _;apply(uC b).bind;rintro _ _ _;apply(FW a b).bind;rintro z _ rfl;split
   .exact(jl _).bind λ_ _ e=>e▸ax rfl
   .exact ax rfl
def Sv(h:Fit T f)(a b):SE T F F' f Eq (samePointer a b) (samePointer (a.map (aG f)) (b.map (aG f))):=by cases a<;>cases b<;>first|exact ax rfl|exact Gd h _ _
def xJ{α β:Type}{R:β->β->Prop}{body c}(l:List α)(i:∀x∈l,∀b d,R b d->SE T F F' f (λs g=>(∃a e,s=.yield a/\g=.yield e/\R a e)\/∃a e,s=.done a/\g=.done e/\R a e) (body x b) (c x d)):∀b d,R b d->SE T F F' f R (forIn l b body) (forIn l d c):=by
 induction l with
 |nil=>grind[ax]
 |cons x l k=>
  intro b d h;simp;apply aB.bind (i x a9i b d h);rintro s g (⟨a,e,rfl,rfl,j⟩|⟨a,e,rfl,rfl,j⟩)
  all_goals grind[ax]
variable{T:Tables}{F F':Array Func}{f:Nat->Nat}
theorem py(t):Program.underlying ⟨T,F'⟩ t=Program.underlying ⟨T,F⟩ t:=rfl
def Ey(d):∀t u,Program.alikeButTags ⟨T,F'⟩ d t u=Program.alikeButTags ⟨T,F⟩ d t u:=by
 induction d with
 |zero=>intros;rfl
 |succ d a=>simp_all[Program.alikeButTags]
theorem a4h(t):Program.stoodInAs ⟨T,F'⟩ t=Program.stoodInAs ⟨T,F⟩ t:=by simp[Program.stoodInAs,Ey (F:=F) (F':=F')];rfl
theorem wb(t):Program.stoodInHeld ⟨T,F'⟩ t=Program.stoodInHeld ⟨T,F⟩ t:=by
 grind[Program.stoodInHeld,a4h]
theorem a0a(t):Program.packed ⟨T,F'⟩ t=Program.packed ⟨T,F⟩ t:=by simp only[Program.packed,Program.packedAs,Ey (F:=F) (F':=F')];rfl
def VQ(d):∀t,Program.holdsPacked ⟨T,F'⟩ d t=Program.holdsPacked ⟨T,F⟩ d t:=by
 induction d with
 |zero=>intros;rfl
 |succ d a=>
  grind[Program.holdsPacked,a0a,Program.underlying]
def SJ(t):SE T F F' f Eq (typeStr t) (typeStr t):=by apply(gd t).bind;rintro i _ rfl;exact bk bq (λ_=>aV _ _) λ_=>ax rfl
theorem xG(h:Fit T f):∀d t x y,SE T F F' f Eq (Op.equalIn d t x y) (Op.equalIn d t (al f x) (al f y))
 |0,_,_,_=>aV _ _
 |d+1,t,x,y=>by
  apply(cm t).bind;rintro k _ rfl;cases k with
  |struct l=>
   cases x<;>try exact aC _ _
   cases y<;>try exact aC _ _
   rename_i u w;rw[iJ,iJ];dsimp only;apply gu;rw[wb (F:=F) (F':=F')];generalize Program.stoodInHeld ⟨T,F⟩ t=st;cases st;rotate_left
   .exact aV _ _
   apply aB.bind (R:=Eq)
   .rw[<-m6,<-m6];refine xJ _ ?_ _ _ rfl;rintro o _ b _ rfl;refine bk bq (λ_=>?_) λ_=>ax (.inl ⟨_,_,rfl,rfl,rfl⟩);apply(kV _ _ _).bind;rintro p _ rfl;apply(kV _ _ _).bind;rintro q _ rfl;apply(xG h d o.type p q).bind;rintro r _ rfl;cases r
    .exact ax (.inr ⟨_,_,rfl,rfl,rfl⟩)
    .exact ax (.inl ⟨_,_,rfl,rfl,rfl⟩)
   .rintro s _ rfl;obtain⟨s,_⟩:=s;cases s<;>exact ax rfl
  |array z c=>
   cases x<;>try exact aC _ _
   cases y<;>try exact aC _ _
   rename_i u w;rw[iJ,iJ];dsimp;apply(ga _).bind;rintro n _ rfl;apply aB.bind (R:=Eq)
   .simp only[b0v];refine xJ _ ?_ _ _ rfl;rintro o _ b _ rfl;apply(kV _ _ _).bind;rintro p _ rfl;apply(kV _ _ _).bind;rintro q _ rfl;apply(xG h d c p q).bind;rintro r _ rfl;cases r
    .exact ax (.inr ⟨_,_,rfl,rfl,rfl⟩)
    .exact ax (.inl ⟨_,_,rfl,rfl,rfl⟩)
   .rintro s _ rfl;obtain⟨s,_⟩:=s;cases s<;>exact ax rfl
  |int I=>
   cases x with
   |int J n=>
    rw[jL];cases y with
    |int A m=>rw[jL];exact bk bq (λ_=>ax rfl) λ_=>aC _ _
    |pointer b=>
     rw[gU];cases b with
     |none=>cases n with
      |ofNat m=>cases m<;>exact aV _ _
      |negSucc m=>exact aV _ _
     |some b=>cases n with
      |ofNat m=>cases m<;>first|exact aV _ _|exact ax rfl
      |negSucc m=>exact aV _ _
    |_=>cases n with
     |ofNat m=>cases m<;>exact aC _ _
     |negSucc m=>exact aC _ _
   |pointer a=>
    rw[gU];cases a with
    |none=>cases y<;>exact aV _ _
    |some a=>
     cases y with
     |int A m=>
      rw[jL];cases m with
      |ofNat m=>cases m<;>first|exact aV _ _|exact ax rfl
      |negSucc m=>exact aV _ _
     |pointer b=>
      rw[gU];cases b with
      |none=>exact aV _ _
      |some b=>
       simp only[bY];apply(p7 a).bind;rintro p _ rfl;apply(p7 b).bind;rintro q _ rfl;apply gu;simp only[zk,rL h,Dc h];have g:decide (f p.1.block<T.globals.size)=decide (p.1.block<T.globals.size):=by
        by_cases B:p.1.block<T.globals.size
        .rw[h.low p.1.block a9h]
        .have: ¬f p.1.block<T.globals.size:=by intro K;have C:=h.low (f p.1.block) a9h;have:=h.inj _ _ C;omega
         simp[B,this]
       change SE T F F' f Eq (if (p.1.block==q.1.block&&decide (p.1.block<T.globals.size))=true then _ else _) (if (p.1.block==q.1.block&&decide (f p.1.block<T.globals.size))=true then _ else _);rw[g];refine bk bq (λ_=>?_) λ_=>?_
       .apply(p8 _).bind;rintro x _ rfl;apply(p8 _).bind;rintro y _ rfl;exact ax rfl
       .apply(gd t).bind;rintro i _ rfl;split
        .exact bk bq (λ_=>ax rfl) λ_=>aV _ _
        .exact aV _ _
     |_=>exact aV _ _
   |_=>cases y<;>first|exact aC _ _|exact aV _ _
  |interface L=>
   cases x<;>try exact aC _ _
   all_goals cases y<;>try exact aC _ _
   .rename_i j D M E;rw[ks,ks];dsimp only;refine bk bq (λ_=>ax rfl) λ_=>?_;apply(gd j).bind;rintro i _ rfl;refine bk bq (λ_=>?_) λ_=>xG h d j D E;refine gu (gu ?_);rw[VQ (F:=F) (F':=F')];change aB _ _ f Eq (if Program.holdsPacked ⟨T,F⟩ (Program.depth ⟨T,F⟩) j=true then _ else _) (if Program.holdsPacked ⟨T,F⟩ (Program.depth ⟨T,F⟩) j=true then _ else _);generalize Program.holdsPacked ⟨T,F⟩ (Program.depth ⟨T,F⟩) j=st;cases st with
    |true=>exact aV _ _
    |false=>apply(SJ _).bind;rintro s _ rfl;exact gL h _
   all_goals simp
   all_goals exact ax rfl
  |pointer e=>
   cases x<;>try exact aC _ _
   rename_i a;cases a<;>cases y<;>try exact aC _ _
   all_goals rename_i b
   all_goals cases b
   all_goals simp only[gU,mu,bY]
   all_goals try exact ax rfl
   apply(ga _).bind;rintro s _ rfl;simp only[Dc h];refine bk bq (λ_=>Gd h _ _) λ_=>bk bq (λ_=>ax rfl) λ_=>?_;exact(jl _).bind λ_ _ e=>e▸ax rfl
  |unsafePointer=>
   cases x<;>try exact aC _ _
   all_goals cases y<;>try exact aC _ _
   rename_i a b;simp;exact Sv h a b
  |chan N e=>
   cases x<;>try exact aC _ _
   all_goals cases y<;>try exact aC _ _
   rename_i a b;simp;apply ax;cases a<;>cases b<;>simp;exact(rL h _ _).symm
  |slice e=>
   cases x<;>try exact aC _ _
   rename_i a _ _;cases a<;>cases y<;>try exact aC _ _
   all_goals rename_i b _ _
   all_goals cases b
   all_goals simp only[fh,mu,bY]
   all_goals first|exact ax rfl|exact aC _ _
  |map O e=>
   cases x<;>try exact aC _ _
   rename_i a;cases a<;>cases y<;>try exact aC _ _
   all_goals rename_i b
   all_goals cases b
   all_goals simp only[pk,mu,bY]
   all_goals first|exact ax rfl|exact aC _ _
  |func P Q v=>
   cases x<;>try exact aC _ _
   all_goals cases y<;>try exact aC _ _
   all_goals simp
   all_goals first|exact ax rfl|exact aC _ _
  |bool=>
   cases x<;>try exact aC _ _
   all_goals cases y<;>try exact aC _ _
   simp;exact ax rfl
  |string=>
   cases x<;>try exact aC _ _
   all_goals cases y<;>try exact aC _ _
   simp;exact ax rfl
  |float H=>
   cases x<;>try exact aC _ _
   all_goals cases y<;>try exact aC _ _
   simp;exact bk bq (λ_=>ax rfl) λ_=>aC _ _
  |complex H=>
   cases x<;>try exact aC _ _
   all_goals cases y<;>try exact aC _ _
   simp;exact bk bq (λ_=>ax rfl) λ_=>aC _ _
  |_=>cases x<;>cases y<;>exact aC _ _
variable{T:Tables}{F F':Array Func}{f:Nat->Nat}
def PD(d):∀t off,cellOfByte ⟨T,F'⟩ d t off=cellOfByte ⟨T,F⟩ d t off:=by
 induction d with
 |zero=>intros;rfl
 |succ d a=>
  intro t off;unfold cellOfByte;rw[py (F:=F) (F':=F')];cases Program.underlying ⟨T,F⟩ t with
  |none=>rfl
  |some x=>cases x<;>simp only[a]<;>rfl
def ER(d e n o b):cellAtBytes ⟨T,F'⟩ d e n o b=cellAtBytes ⟨T,F⟩ d e n o b:=by unfold cellAtBytes;simp only[xa (F:=F) (F':=F'),PD (F:=F) (F':=F')];rfl
def a3c(d):∀t u,sameLayout ⟨T,F'⟩ d t u=sameLayout ⟨T,F⟩ d t u:=by
 induction d with
 |zero=>intros;rfl
 |succ d a=>intro t u;unfold sameLayout;simp only[py (F:=F) (F':=F'),wb (F:=F) (F':=F'),a];rfl
def a2w(fits a)(b:∀t,a t=fits t)(d):∀e c o n,rowAt ⟨T,F'⟩ a d e c o n=rowAt ⟨T,F⟩ fits d e c o n:=by
 induction d with
 |zero=>intros;rfl
 |succ d g=>intro e c o n;unfold rowAt;simp only[py (F:=F) (F':=F'),wb (F:=F) (F':=F'),g,b];rfl
def W6(d):∀e c o u n,liesAt ⟨T,F'⟩ d e c o u n=liesAt ⟨T,F⟩ d e c o u n:=by
 induction d with
 |zero=>intros;rfl
 |succ d a=>intro e c o u n;unfold liesAt;simp[a3c (F:=F) (F':=F'),a2w (F:=F) (F':=F') _ _ (λ_=>rfl),py (F:=F) (F':=F'),a];rfl
def VR(d):∀t,Program.holdsStoodIn ⟨T,F'⟩ d t=Program.holdsStoodIn ⟨T,F⟩ d t:=by
 induction d with
 |zero=>intros;rfl
 |succ d a=>
  grind[Program.holdsStoodIn,py,wb]
def Gu(d):∀t,Program.eqGuardType ⟨T,F'⟩ d t=Program.eqGuardType ⟨T,F⟩ d t:=by
 induction d with
 |zero=>intros;rfl
 |succ d a=>
  grind[Program.eqGuardType,py]
def SO(a u n):SE T F F' f Eq (variablesAt a u n) (variablesAt (aG f a) u n):=by
 apply gu;apply(j7 a.block).bind;rintro s _ rfl;cases s with
 |none=>exact ax rfl
 |some x=>exact ax (W6 _ _ _ _ _ _).symm
def RO(r):SE T F F' f Eq (cellsIn r) (cellsIn (f r)):=by
 apply(j7 r).bind;rintro s _ rfl;cases s with
 |some x=>exact ax rfl
 |none=>
  apply(nK r).bind;rintro o a (⟨rfl,c⟩|⟨rfl,b⟩);rotate_left
  .cases a<;>first|exact b.elim|exact ax rfl
  cases o<;>first|exact ax rfl|exact ax a9i
def Ge(a):SE T F F' f (aN (aG f)) (Conv.seenAt a) (Conv.seenAt (aG f a)):=by
 apply(xR a.block).bind;rintro s _ rfl;cases s with
 |none=>exact ax rfl
 |some x=>
  obtain⟨s,u⟩:=x;simp only[bY,Dd,De];refine bk bq (λ_=>ax rfl) λ_=>?_;refine bk bq (λ_=>aV _ _) λ_=>?_;apply gu;have b:=xa (T:=T) (F:=F) (F':=F') (Program.depth ⟨T,F⟩) u a.off;cases g:byteOfCell ⟨T,F⟩ (Program.depth ⟨T,F⟩) u a.off with
  |none=>exact aV _ _
  |some β=>
   rw[g]at b;change byteOfCell ⟨T,F'⟩ (Program.depth ⟨T,F'⟩) u a.off=_ at b;simp only[b];apply(j7 s.block).bind;rintro q _ rfl;cases q with
   |none=>exact aV _ _
   |some q=>
    obtain⟨e,n⟩:=q;dsimp only;refine bk bq (λ_=>aV _ _) λ_=>?_;have d:=ER (T:=T) (F:=F) (F':=F') (Program.depth ⟨T,F⟩) e (n / Program.cellsOf ⟨T,F⟩ e) s.off β;cases h:cellAtBytes ⟨T,F⟩ (Program.depth ⟨T,F⟩) e (n / Program.cellsOf ⟨T,F⟩ e) s.off β with
    |none=>exact aV _ _
    |some c=>rw[h]at d;change cellAtBytes ⟨T,F'⟩ (Program.depth ⟨T,F'⟩) e (n / Program.cellsOf ⟨T,F'⟩ e) s.off β=_ at d;simp only[d];exact ax rfl
theorem FJ(a b):SE T F F' f (aN (al f)) (asNumber a b) (asNumber (aG f a) b):=by apply(rY (o:=.number a b) trivial).bind;rintro r _ rfl;exact ax (by simp[aN,aG])
def SM(s d x):SE T F F' f (aN (al f)) (Conv.unsafePointer s d x) (Conv.unsafePointer s d (al f x)):=by
 apply(cm s).bind;rintro k _ rfl;apply(cm d).bind;rintro l _ rfl;cases x with
 |pointer a=>
  rw[gU];cases k with
  |pointer t=>
   cases l with
   |unsafePointer=>
    cases a with
    |none=>exact ax aZ
    |some a=>dsimp;apply(Ge a).bind;rintro s _ rfl;apply(RO s.block).bind;rintro n _ rfl;apply(ga t).bind;rintro z _ rfl;simp only[Dd,De];refine bk bq (λ_=>?_) λ_=>ax aZ;apply(rY (o:=.view s t) trivial).bind;rintro r _ rfl;exact ax (by simp[aN,aG])
   |_=>cases a<;>exact aC _ _
  |unsafePointer=>
   cases l with
   |pointer u=>
    cases a with
    |none=>exact ax aZ
    |some a=>
     dsimp;apply(Ge a).bind;rintro s _ rfl;apply(ga u).bind;rintro z _ rfl;apply(SO s u 1).bind;rintro b _ rfl;refine bk bq (λ_=>ax aZ) λ_=>?_;apply(j7 s.block).bind;rintro q _ rfl;have fin:SE T F F' f (aN (al f)) (do let r<-newObj (.view s u);pure (Value.pointer (some ⟨r,0,none⟩))) (do let r<-newObj (.view (aG f s) u);pure (Value.pointer (some ⟨r,0,none⟩))):=by apply(rY (o:=.view s u) trivial).bind;rintro r _ rfl;exact ax (by simp[aN,aG])
     cases q with
     |none=>exact aV _ _
     |some q=>
      obtain⟨e,n⟩:=q;refine gu (gu ?_);have c:=VR (T:=T) (F:=F) (F':=F') (Program.depth ⟨T,F⟩) e;cases h:Program.holdsStoodIn ⟨T,F⟩ (Program.depth ⟨T,F⟩) e with
      |true=>exact aV _ _
      |false=>rw[h]at c;change Program.holdsStoodIn ⟨T,F'⟩ (Program.depth ⟨T,F'⟩) e=_ at c;simp only[c];exact fin
   |unsafePointer=>cases a<;>exact ax aZ
   |int g=>
    cases a with
    |none=>exact ax aZ
    |some a=>exact FJ a false
   |_=>cases a<;>exact aC _ _
  |int g=>
   cases l with
   |unsafePointer=>cases a<;>first|exact aV _ _|exact aC _ _
   |_=>cases a<;>exact aC _ _
  |_=>cases l<;>cases a<;>exact aC _ _
 |int g n=>
  rw[jL];cases k with
  |int g=>
   cases l with
   |unsafePointer=>
    cases n with
    |ofNat m=>cases m<;>exact aV _ _
    |negSucc m=>exact aV _ _
   |_=>exact aC _ _
  |_=>cases l<;>exact aC _ _
 |_=>cases k<;>cases l<;>exact aC _ _
def FV(a):SE T F F' f Eq (markStringish a) (markStringish (aG f a)):=by
 apply(j7 a.block).bind;rintro s _ rfl;cases s with
 |none=>exact ax rfl
 |some x=>exact R7 {block:=a.block,off:=x.2} 1
def SD(e s):SE T F F' f (aN (al f)) (Conv.stringToBytes e s) (Conv.stringToBytes e s):=by
 apply(jl _).bind;rintro c _ rfl;have:=oQ (T:=T) (F:=F) (F':=F') (f:=f) e ((s.data.map λb=>Value.int .u8 b.toNat)++Array.replicate (c - s.size) (.int .u8 0));rw[Cm (by
  intro x d;obtain d|d:=ot.1 d
  .obtain⟨b,_,rfl⟩:=mr.1 d;simp[bg]
  grind[bg])]at this
 apply aB.bind this;rintro a _ rfl;apply(FV a).bind;rintro _ _ _;exact ax aZ
def FP{β}{R:β->β->Prop}{body c}(l:List aj)(i:∀x,∀b d,R b d->SE T F F' f (λs g=>(∃a e,s=.yield a/\g=.yield e/\R a e)\/∃a e,s=.done a/\g=.done e/\R a e) (body x b) (c (al f x) d)):∀b d,R b d->SE T F F' f R (forIn l b body) (forIn (l.map (al f)) d c):=by
 induction l with
 |nil=>grind[ax]
 |cons x l k=>
  intro b d h;simp;apply aB.bind (i x b d h);rintro s g (⟨a,e,rfl,rfl,j⟩|⟨a,e,rfl,rfl,j⟩)
  all_goals grind[ax]
def RK(x):SE T F F' f (aN (al f)) (Conv.bytesToString x) (Conv.bytesToString (al f x)):=by
 cases x with
 |slice a l c=>
  rw[fh];cases a with
  |none=>exact ax aZ
  |some a=>
   apply(xL a l).bind;rintro d _ rfl;apply aB.bind (R:=Eq)
   .rw[<-m6,<-m6,kH];refine FP _ ?_ _ _ rfl;rintro x b _ rfl;cases x<;>try exact aC _ _
    rename_i k n;rw[jL];cases k<;>first|exact aC _ _|exact ax (.inl ⟨_,_,rfl,rfl,rfl⟩)
   .rintro s _ rfl;exact ax aZ
 |_=>simp;exact aC _ _
def Su(x):SE T F F' f (aN (al f)) (Conv.runesToString x) (Conv.runesToString (al f x)):=by
 cases x with
 |slice a l c=>
  rw[fh];cases a with
  |none=>exact ax aZ
  |some a=>
   apply(xL a l).bind;rintro d _ rfl;apply aB.bind (R:=Eq)
   .rw[<-m6,<-m6,kH];refine FP _ ?_ _ _ rfl;rintro x b _ rfl;cases x<;>try exact aC _ _
    rename_i k n;rw[jL];cases k<;>first|exact aC _ _|exact ax (.inl ⟨_,_,rfl,rfl,rfl⟩)
   .rintro s _ rfl;exact ax aZ
 |_=>simp;exact aC _ _
theorem Kl(s):∀b i a,(∀x∈a,bg x=true)->∀x∈Conv.runesFrom s b i a,bg x=true
 |0,_,a,h=>h
 |b+1,i,a,h=>by
  unfold Conv.runesFrom;split
  .apply Kl s b _ _;intro x c;obtain c|rfl:=m8.1 c
   .simp_all
   .simp[bg]
  .exact h
def SF(e s):SE T F F' f (aN (al f)) (Conv.stringToRunes e s) (Conv.stringToRunes e s):=by
 apply(jl _).bind;rintro c _ rfl;have:=oQ (T:=T) (F:=F) (F':=F') (f:=f) e (Conv.runesFrom s s.size 0 #[]++Array.replicate (c - (Conv.runesFrom s s.size 0 #[]).size) (.int .i32 0));rw[Cm (by
  grind[Kl,bg])]at this
 apply aB.bind this;rintro a _ rfl;exact ax aZ
def RZ(k b d):SE T F F' f (aN (al f)) (Conv.floatToInt k b d) (Conv.floatToInt k b d):=by
 unfold Conv.floatToInt;have a:SE T F F' f (aN (al f)) (do pure (.int d (d.wrap (<-choose (.floatToInt k b d))))) (do pure (.int d (d.wrap (<-choose (.floatToInt k b d))))):=(jl _).bind λ_ _ e=>e▸ax aZ;dsimp;split
 .split
  .exact ax aZ
  omega
 omega
def Bc(k b d):SE T F F' f (aN (al f)) (Conv.floatToFloat k b d) (Conv.floatToFloat k b d):=by
 unfold Conv.floatToFloat;split
 .exact ax aZ
 .split
  .exact(jl _).bind λ_ _ e=>e▸ax aZ
  .exact ax aZ
  .dsimp;split
   .exact(jl _).bind λ_ _ e=>e▸ax aZ
   .exact ax aZ
def RQ(k a b d):SE T F F' f (aN (al f)) (Conv.complexToComplex k a b d) (Conv.complexToComplex k a b d):=by
 apply(Bc k a d).bind;rintro x _ rfl;cases x<;>simp only[sX]<;>try exact aC _ _
 apply(Bc k b d).bind;rintro x _ rfl;cases x<;>simp only[sX]<;>try exact aC _ _
 exact ax aZ
def ux(s d x):SE T F F' f (aN (al f)) (convert s d x) (convert s d (al f x)):=by
 apply(cm s).bind;rintro k _ rfl;apply(cm d).bind;rintro l _ rfl;have bytes:∀(e:bD) (s:ByteArray),SE T F F' f (aN (al f)) (do match<-underlying e with| .int .u8=>Conv.stringToBytes e s| .int .i32=>Conv.stringToRunes e s|_=>stuck "Convert: string to a slice of what?") (do match<-underlying e with| .int .u8=>Conv.stringToBytes e s| .int .i32=>Conv.stringToRunes e s|_=>stuck "Convert: string to a slice of what?"):=by
  intro e s;apply(cm e).bind;rintro k _ rfl;cases k<;>try exact aC _ _
  rename_i k;cases k<;>first|exact aC _ _|exact SD _ _|exact SF _ _
 have h:∀(e:bD),SE T F F' f (aN (al f)) (do match<-underlying e with| .int .u8=>Conv.bytesToString x| .int .i32=>Conv.runesToString x|_=>stuck "Convert: a slice of what to string?") (do match<-underlying e with| .int .u8=>Conv.bytesToString (al f x)| .int .i32=>Conv.runesToString (al f x)|_=>stuck "Convert: a slice of what to string?"):=by
  intro e;apply(cm e).bind;rintro k _ rfl;cases k<;>try exact aC _ _
  rename_i k;cases k<;>first|exact aC _ _|exact RK _|exact Su _
 have g:=SM (T:=T) (F:=F) (F':=F') (f:=f) s d x;cases x with
 |int j n=>
  simp at*;cases l<;>first
   |exact ax aZ
   |exact g
   |(cases k<;>first|exact aV _ _|exact g|exact h _)
 |float j n=>
  simp at*;cases l<;>first
   |exact RZ _ _ _
   |exact Bc _ _ _
   |exact g
   |(cases k<;>first|exact aV _ _|exact g|exact h _)
 |complex j n m=>
  simp at*;cases l<;>first
   |exact RQ _ _ _ _
   |exact g
   |(cases k<;>first|exact aV _ _|exact g|exact h _)
 |string q=>
  simp at*;cases l<;>first
   |exact ax aZ
   |exact bytes _ _
   |exact g
   |(cases k<;>first|exact aV _ _|exact g|exact h _)
 |slice a o p=>
  simp at*;cases a with
  |none=>cases l<;>cases k<;>first|exact aV _ _|exact g|exact h _
  |some a=>
   cases l<;>cases k<;>first|exact aV _ _|exact g|exact h _|skip
   rename_i r t;dsimp;apply(cm _).bind;rintro i _ rfl;cases s==d<;>cases i<;>try exact aV _ _
   rename_i i;cases i<;>try exact aV _ _
   apply(FV a).bind;rintro _ _ _;exact ax aZ
 |pointer a=>simp at*;cases a<;>cases l<;>cases k<;>first|exact aV _ _|exact g|exact h _
 |bool b=>simp at*;cases l<;>cases k<;>first|exact aV _ _|exact g|exact h _
 |map b=>simp at*;cases l<;>cases k<;>first|exact aV _ _|exact g|exact h _
 |chan b=>simp at*;cases l<;>cases k<;>first|exact aV _ _|exact g|exact h _
 |func b c d=>simp at*;cases l<;>cases k<;>first|exact aV _ _|exact g|exact h _
 |nilFunc=>simp at*;cases l<;>cases k<;>first|exact aV _ _|exact g|exact h _
 |iface b c=>simp at*;cases l<;>cases k<;>first|exact aV _ _|exact g|exact h _
 |nilIface=>simp at*;cases l<;>cases k<;>first|exact aV _ _|exact g|exact h _
 |agg b=>simp at*;cases l<;>cases k<;>first|exact aV _ _|exact g|exact h _
 |tuple b=>simp at*;cases l<;>cases k<;>first|exact aV _ _|exact g|exact h _
variable{T:Tables}{F F':Array Func}{f:Nat->Nat}
def bE{α:Type}:Sem α->Prop
 | .pure _=>True
 | .choose _ k=> ∀n,bE (k n)
 | .halt h=>fi h=true
 |_=>False
def bE.bind'{α β}{g:α->Sem β}:∀{s},bE s->(∀a,bE (g a))->bE (s.bind g):=by
 intro s;induction s with
 |pure a=>intro _ h;exact h a
 |choose q k b=>intro h c n;exact b n (h n) c
 |halt h=>intro d _;exact d
 |_=>intro h;exact h.elim
theorem bE.bind{α β}{g:α->Sem β}{s}(h:bE s)(b:∀a,bE (g a)):bE (s>>=g):=bE.bind' h b
def dg:Sem aj->Prop
 | .pure v=>bg v=true
 | .choose _ k=> ∀n,dg (k n)
 | .halt h=>fi h=true
 |_=>False
def dg.bind'{α g}:∀{s:Sem α},bE s->(∀a,dg (g a))->dg (s.bind g):=by
 intro s;induction s with
 |pure a=>intro _ h;exact h a
 |choose q k b=>intro h c n;exact b n (h n) c
 |halt h=>intro d _;exact d
 |_=>intro h;exact h.elim
theorem dg.bind{α g}{s:Sem α}(h:bE s)(b:∀a,dg (g a)):dg (s>>=g):=dg.bind' h b
def BI:∀{s},dg s->SE T F F' f (aN (al f)) s s:=by
 intro s;induction s with
 |pure a=>intro h;exact(mf f a h).symm
 |choose q k b=>intro h;exact⟨rfl,λn=>b n (h n)⟩
 |halt h=>intro c;exact pn c _
 |_=>intro h;exact h.elim
def BJ:∀{s},dg s->bE s:=by
 intro s;induction s with
 |pure a=>intro h;trivial
 |choose q k b=>intro h n;exact b n (h n)
 |halt h=>intro c;exact c
 |_=>intro h;exact h.elim
def He(d k a b):dg (Op.floatArith d k a b):=by
 unfold Op.floatArith;have c:∀r:Option Nat,dg (match r with|some r=>pure (.float k r)|none=>(do pure (.float k (<-choose (.nanBits k a b))))):=by
  intro r;cases r with
  |some r=>show bg (Value.float k r)=true;simp[bg]
  |none=>intro n;show bg (Value.float k _)=true;simp[bg]
 cases d<;>first|trivial|exact c _
def Hf(c k a b):dg (Op.floatCmp c k a b):=by unfold Op.floatCmp;cases c<;>first|trivial|(show bg (Value.bool _)=true;simp[bg])
def Uo(k b d):dg (Conv.floatToFloat k b d):=by
 unfold Conv.floatToFloat;have one:∀n,dg (pure (.float d n)):=λn=>by show bg (Value.float d n)=true;simp[bg]
 split
 .grind
 .split
  .intro n;exact one _
  .grind
  .dsimp;split
   .intro n;exact one _
   grind
def dh(c k a b):bE (Op.Complex.arith c k a b):=by refine bE.bind (BJ (He c k a b)) λv=>?_;cases v<;>trivial
def Um(v):bE (asBool v):=by cases v<;>trivial
def qg(c k a b):bE (Op.Complex.cmp c k a b):=bE.bind (BJ (Hf c k a b)) λv=>Um v
def kY(s x d):bE (Op.Complex.conv s x d):=by
 unfold Op.Complex.conv
 split
 .trivial
 .refine bE.bind (BJ (Uo s x d)) λv=>?_;cases v<;>trivial
def Up(a b c d):bE (Op.Complex.product a b c d):=by refine bE.bind (dh _ _ _ _) λ_=>bE.bind (dh _ _ _ _) λ_=>bE.bind (dh _ _ _ _) λ_=>bE.bind (dh _ _ _ _) λ_=>bE.bind (dh _ _ _ _) λ_=>bE.bind (dh _ _ _ _) λ_=>trivial
def Hd(s a b c d):bE (Op.Complex.corrected s a b c d):=by refine bE.bind (dh _ _ _ _) λ_=>bE.bind (dh _ _ _ _) λ_=>bE.bind (dh _ _ _ _) λ_=>bE.bind (dh _ _ _ _) λ_=>bE.bind (dh _ _ _ _) λ_=>bE.bind (dh _ _ _ _) λ_=>bE.bind (dh _ _ _ _) λ_=>bE.bind (dh _ _ _ _) λ_=>trivial
def Uq(a b c d):bE (Op.Complex.quotient a b c d):=by
 unfold Op.Complex.quotient;have h:∀e g:Nat,bE (do
   let zero:=(<-Op.Complex.cmp .eql .f64 c 0)&&(<-Op.Complex.cmp .eql .f64 d 0)
   if !(Op.Complex.isNaN e&&Op.Complex.isNaN g)then pure (e,g)
   else if zero&&(!Op.Complex.isNaN a|| !Op.Complex.isNaN b)then
    pure (<-Op.Complex.mul (Op.Complex.copysign Op.Complex.inf c) a,<-Op.Complex.mul (Op.Complex.copysign Op.Complex.inf c) b)
   else if (Op.Complex.isInf a||Op.Complex.isInf b)&&Op.Complex.isFinite c&&Op.Complex.isFinite d then
    Op.Complex.corrected Op.Complex.inf (Op.Complex.inf2one a) (Op.Complex.inf2one b) c d
   else if (Op.Complex.isInf c||Op.Complex.isInf d)&&Op.Complex.isFinite a&&Op.Complex.isFinite b then
    Op.Complex.corrected 0 a b (Op.Complex.inf2one c) (Op.Complex.inf2one d)
   else pure (e,g)):=by
  intro e g;refine bE.bind (qg _ _ _ _) λi=>bE.bind (qg _ _ _ _) λj=>?_;dsimp;split
  .trivial
  .split
   .exact bE.bind (dh _ _ _ _) λ_=>bE.bind (dh _ _ _ _) λ_=>trivial
   .split
    .exact Hd _ _ _ _ _
    .split
     .exact Hd _ _ _ _ _
     .trivial
 refine bE.bind (qg _ _ _ _) λt=>?_;dsimp;cases t
 .refine bE.bind (dh _ _ _ _) λ_=>?_;refine bE.bind (dh _ _ _ _) λ_=>?_;refine bE.bind (dh _ _ _ _) λ_=>?_;refine bE.bind (dh _ _ _ _) λ_=>?_;refine bE.bind (dh _ _ _ _) λ_=>?_;refine bE.bind (dh _ _ _ _) λ_=>?_;refine bE.bind (dh _ _ _ _) λ_=>?_;refine bE.bind (dh _ _ _ _) λ_=>?_;refine bE.bind (dh _ _ _ _) λ_=>?_;dsimp[C7];exact h _ _
 .refine bE.bind (dh _ _ _ _) λ_=>?_;refine bE.bind (dh _ _ _ _) λ_=>?_;refine bE.bind (dh _ _ _ _) λ_=>?_;refine bE.bind (dh _ _ _ _) λ_=>?_;refine bE.bind (dh _ _ _ _) λ_=>?_;refine bE.bind (dh _ _ _ _) λ_=>?_;refine bE.bind (dh _ _ _ _) λ_=>?_;refine bE.bind (dh _ _ _ _) λ_=>?_;refine bE.bind (dh _ _ _ _) λ_=>?_;dsimp[C7];exact h _ _
def Un(e k a b c d):dg (Op.complexOp e k a b c d):=by
 cases e<;>try trivial
 .exact dg.bind (dh _ _ _ _) λ_=>dg.bind (dh _ _ _ _) λ_=>by show bg (Value.complex _ _ _)=true;simp[bg]
 .exact dg.bind (dh _ _ _ _) λ_=>dg.bind (dh _ _ _ _) λ_=>by show bg (Value.complex _ _ _)=true;simp[bg]
 .refine dg.bind (kY _ _ _) λa=>dg.bind (kY _ _ _) λb=>dg.bind (kY _ _ _) λc=>dg.bind (kY _ _ _) λd=>?_;refine dg.bind (Up _ _ _ _) λx=>dg.bind (kY _ _ _) λ_=>dg.bind (kY _ _ _) λ_=>?_;show bg (Value.complex _ _ _)=true;simp[bg]
 .refine dg.bind (kY _ _ _) λa=>dg.bind (kY _ _ _) λb=>dg.bind (kY _ _ _) λc=>dg.bind (kY _ _ _) λd=>?_;refine dg.bind (Uq _ _ _ _) λx=>dg.bind (kY _ _ _) λ_=>dg.bind (kY _ _ _) λ_=>?_;show bg (Value.complex _ _ _)=true;simp[bg]
 .exact dg.bind (qg _ _ _ _) λ_=>dg.bind (qg _ _ _ _) λ_=>by show bg (Value.bool _)=true;simp[bg]
 .exact dg.bind (qg _ _ _ _) λ_=>dg.bind (qg _ _ _ _) λ_=>by show bg (Value.bool _)=true;simp[bg]
variable{T:Tables}{F F':Array Func}{f:Nat->Nat}
theorem Ba:∀d t x y,SE T F F' f Eq (Op.eqGuardIn d t x y) (Op.eqGuardIn d t (al f x) (al f y))
 |0,_,_,_=>aV _ _
 |d+1,t,x,y=>by
  apply(cm t).bind;rintro k _ rfl;cases k with
  |struct c=>
   cases x<;>simp only[lu]<;>try exact ax rfl
   cases y<;>simp only[lu]<;>try exact ax rfl
   rename_i g h;apply aB.bind (R:=Eq)
   .rw[<-m6,<-m6];refine xJ _ ?_ _ _ rfl;rintro e _ b _ rfl;refine bk bq (λ_=>?_) λ_=>ax (.inl ⟨_,_,rfl,rfl,rfl⟩);apply(kV _ _ _).bind;rintro p _ rfl;apply(kV _ _ _).bind;rintro q _ rfl;apply(Ba d e.type p q).bind;rintro r _ rfl;cases r
    .exact ax (.inl ⟨_,_,rfl,rfl,rfl⟩)
    .exact ax (.inr ⟨_,_,rfl,rfl,rfl⟩)
   .rintro s _ rfl;obtain⟨s,_⟩:=s;cases s<;>exact ax rfl
  |array i a=>
   cases x<;>simp only[lu]<;>try exact ax rfl
   cases y<;>simp only[lu]<;>try exact ax rfl
   rename_i g h;apply(ga _).bind;rintro n _ rfl;apply aB.bind (R:=Eq)
   .simp only[b0v];refine xJ _ ?_ _ _ rfl;rintro e _ b _ rfl;apply(kV _ _ _).bind;rintro p _ rfl;apply(kV _ _ _).bind;rintro q _ rfl;apply(Ba d a p q).bind;rintro r _ rfl;cases r
    .exact ax (.inl ⟨_,_,rfl,rfl,rfl⟩)
    .exact ax (.inr ⟨_,_,rfl,rfl,rfl⟩)
   .rintro s _ rfl;obtain⟨s,_⟩:=s;cases s<;>exact ax rfl
  |interface j=>
   cases x<;>simp only[lu]<;>try exact ax rfl
   cases y<;>simp<;>exact ax rfl
  |_=>exact ax rfl
def RU(e t x y a b):SE T F F' f Eq (eqGuard e t x y a b) (eqGuard e t x y (al f a) (al f b)):=by
 unfold eqGuard;refine bk bq (λ_=>ax rfl) λ_=>?_;have c:=Ba (T:=T) (F:=F) (F':=F') (f:=f) Op.maxDepth t a b;generalize Op.maxDepth=md at c⊢;cases a<;>simp only[lu]at c⊢ <;>try exact ax rfl
 .cases b<;>simp only[lu]at c⊢ <;>try exact ax rfl
  refine bk bq (λ_=>ax rfl) λ_=>?_;apply aB.bind c;rintro r _ rfl;cases r<;>first|exact ax rfl|exact aV _ _
 .cases b<;>simp only[lu]at c⊢ <;>try exact ax rfl
  refine gu (gu ?_);have d:=Gu (T:=T) (F:=F) (F':=F') (Program.depth ⟨T,F⟩) t;cases g:Program.eqGuardType ⟨T,F⟩ (Program.depth ⟨T,F⟩) t with
  |false=>rw[g]at d;change Program.eqGuardType ⟨T,F'⟩ (Program.depth ⟨T,F'⟩) t=_ at d;simp only[d];exact ax rfl
  |true=>rw[g]at d;change Program.eqGuardType ⟨T,F'⟩ (Program.depth ⟨T,F'⟩) t=_ at d;simp only[d];apply aB.bind c;rintro r _ rfl;cases r<;>first|exact ax rfl|exact aV _ _
theorem xQ(t a y):SE T F F' f (aN (al f)) (Builtin.unsafeAdd_ #[] t #[.pointer a,y]) (Builtin.unsafeAdd_ #[] t #[.pointer (a.map (aG f)),al f y]):=by
 apply(rX y).bind;rintro n _ rfl;refine bk bq (λ_=>?_) λ_=>?_
 .cases a with
  |none=>exact aV _ _
  |some a=>
   apply(xR a.block).bind;rintro s _ rfl;cases s
   .exact ax aZ
   .exact aV _ _
 .refine bk bq (λ_=>aV _ _) λ_=>?_;cases a with
  |none=>exact aV _ _
  |some a=>
   apply(j7 a.block).bind;rintro s _ rfl;cases s with
   |none=>exact aV _ _
   |some x=>
    obtain⟨e,c⟩:=x;apply gu;have b:=ER (T:=T) (F:=F) (F':=F') (Program.depth ⟨T,F⟩) e (c / Program.cellsOf ⟨T,F⟩ e) a.off n;cases d:cellAtBytes ⟨T,F⟩ (Program.depth ⟨T,F⟩) e (c / Program.cellsOf ⟨T,F⟩ e) a.off n with
    |none=>exact aV _ _
    |some o=>rw[d]at b;change cellAtBytes ⟨T,F'⟩ (Program.depth ⟨T,F'⟩) e (c / Program.cellsOf ⟨T,F'⟩ e) (aG f a).off n=_ at b;simp only[b];exact ax (by simp[aN,aG])
def Sm(t a y):SE T F F' f (aN (al f)) (movedNumber t (.pointer a) y) (movedNumber t (.pointer (a.map (aG f))) (al f y)):=by
 apply(cm t).bind;rintro d _ rfl;cases a with
 |none=>cases d<;>first|exact aV _ _|exact xQ t none y
 |some n=>
  have e:SE T F F' f (aN (al f))
    (do let (a,c)<-behindNumber n;match<-Builtin.unsafeAdd_ #[] t #[.pointer (some a),y]with| .pointer (some b)=>asNumber b c|v=>pure v)
    (do let (a,c)<-behindNumber (aG f n);match<-Builtin.unsafeAdd_ #[] t #[.pointer (some a),al f y]with| .pointer (some b)=>asNumber b c|v=>pure v):=by
   apply(p7 n).bind;rintro p _ rfl;apply(xQ t (some p.1) y).bind;rintro v _ rfl;cases v<;>simp<;>try exact ax aZ
   rename_i b;cases b
   .exact ax aZ
   grind[FJ]
  cases d<;>first|exact aV _ _|exact e
def Sn(t a y):SE T F F' f (aN (al f)) (movedPointer t (.pointer a) y) (movedPointer t (.pointer (a.map (aG f))) (al f y)):=by
 cases a with
 |none=>exact xQ t none y
 |some a=>
  apply(F0 a.block).bind;rintro s _ rfl;cases s
  .grind[xQ]
  .exact aV _ _
def Xs(h:Fit T f)(b):(f b<T.globals.size)↔(b<T.globals.size):=by
 constructor
 .intro a;have c:=h.low (f b) a9h;have:=h.inj _ _ c;omega
 .intro a;rw[h.low b a9h];exact a
def Gj(h:Fit T f)(a b):SE T F F' f Eq (Op.twoPlaces a b) (Op.twoPlaces (aG f a) (aG f b)):=by
 apply gu;simp only[zk,bne,rL h];change SE T F F' f Eq (if (!(a.block==b.block)||decide (a.block≥T.globals.size))=true then _ else _) (if (!(a.block==b.block)||decide (f a.block≥T.globals.size))=true then _ else _);have:decide (f a.block≥T.globals.size)=decide (a.block≥T.globals.size):=by
  have:=Xs h a.block
  grind
 rw[this];refine bk bq (λ_=>aV _ _) λ_=>?_;apply(p8 a).bind;rintro x _ rfl;apply(p8 b).bind;rintro y _ rfl;exact ax rfl
def RA(h:Fit T f)(k a b):SE T F F' f (aN (al f)) (Op.addrSub k a b) (Op.addrSub k (aG f a) (aG f b)):=by apply(Gj h a b).bind;rintro⟨x,y⟩ _ rfl;exact ax aZ
def Rz(h:Fit T f)(c a b):SE T F F' f (aN (al f)) (Op.addrCmp c a b) (Op.addrCmp c (aG f a) (aG f b)):=by apply(Gj h a b).bind;rintro⟨x,y⟩ _ rfl;cases c<;>first|exact aV _ _|exact ax aZ
def FG(k a n):SE T F F' f (aN (al f)) (Op.addrMod k a n) (Op.addrMod k (aG f a) n):=by
 apply(j7 a.block).bind;rintro s _ rfl;cases s with
 |none=>exact aV _ _
 |some x=>apply(gd _).bind;rintro i _ rfl;refine bk bq (λ_=>aV _ _) λ_=>?_;apply(p8 a).bind;rintro b _ rfl;exact ax aZ
def FM(h:Fit T f)(t x y):SE T F F' f Eq (Op.equal t x y) (Op.equal t (al f x) (al f y)):=xG h _ _ _ _
variable{T:Tables}{F F':Array Func}{f:Nat->Nat}
def Bh(t a k n):SE T F F' f (aN (al f)) (movedNumber t (.pointer a) (.int k n)) (movedNumber t (.pointer (a.map (aG f))) (.int k n)):=by
 have b:=Sm (T:=T) (F:=F) (F':=F') (f:=f) t a (.int k n)
 rwa [jL]at b
def RF(h:Fit T f)(j t x y):SE T F F' f (aN (al f)) (binOp j t x y) (binOp j t (al f x) (al f y)):=by
 have g:SE T F F' f (aN (al f)) (do pure (.bool (<-Op.equal t x y))) (do pure (.bool (<-Op.equal t (al f x) (al f y)))):=by apply(FM h t x y).bind;rintro b _ rfl;exact ax aZ
 have i:SE T F F' f (aN (al f)) (do pure (.bool (!(<-Op.equal t x y)))) (do pure (.bool (!(<-Op.equal t (al f x) (al f y))))):=by apply(FM h t x y).bind;rintro b _ rfl;exact ax aZ
 cases x with
 |pointer a=>
  cases y with
  |int k n=>
   simp at g i⊢;cases j
   case eql=>exact g
   case neq=>exact i
   case sub=>exact Bh _ _ _ _
   case add=>apply(cm t).bind;rintro d _ rfl;have r:=Sn (T:=T) (F:=F) (F':=F') (f:=f) t a (.int k n);simp_all;cases d<;>first|exact r|exact Bh _ _ _ _
   all_goals
    cases a<;>first
    |exact aV _ _
    |(apply(p7 _).bind;rintro p _ rfl;exact FG _ _ _)
  |pointer b=>
   simp at g i⊢;cases j
   case eql=>exact g
   case neq=>exact i
   all_goals
    cases a<;>cases b<;>first
    |exact aV _ _
    |(apply(p7 _).bind;rintro p _ rfl;apply(p7 _).bind;rintro q _ rfl;first|exact RA h _ _ _|exact Rz h _ _ _)
  |_=>
   simp at g i⊢;cases j
   case eql=>exact g
   case neq=>exact i
   all_goals cases a<;>exact aV _ _
 |int k n=>
  cases y with
  |int l o=>
   simp;cases j
   case shl=>exact Gf h .shl k l n o
   case shr=>exact Gf h .shr k l n o
   all_goals
    refine bk (c:=k≠l) bq (λ_=>aC _ _) λ_=>?_
    first|exact Bd _ _ _ _|exact Sc h _ _ _ _|exact FR _ _ _ _|exact Sa _ _ _
  |pointer a=>
   simp at g i⊢;cases j
   case eql=>exact g
   case neq=>exact i
   case add=>exact Bh _ _ _ _
   all_goals
    cases a<;>first
    |exact aV _ _
    |(apply(p7 _).bind;rintro p _ rfl;exact FG _ _ _)
  |_=>simp at g i⊢;cases j<;>first|exact aC _ _|exact g|exact i
 |float k n=>
  cases y with
  |float l o=>simp;cases j<;>(refine bk (c:=k≠l) bq (λ_=>aC _ _) λ_=>?_;first|exact BI (He _ _ _ _)|exact BI (Hf _ _ _ _))
  |pointer a=>
   simp at g i⊢;cases j
   case eql=>exact g
   case neq=>exact i
   all_goals cases a<;>exact aV _ _
  |_=>simp at g i⊢;cases j<;>first|exact aC _ _|exact g|exact i
 |complex k n m=>
  cases y with
  |complex l o u=>simp;cases j<;>exact bk (c:=k≠l) bq (λ_=>aC _ _) λ_=>BI (Un _ _ _ _ _ _)
  |pointer a=>
   simp at g i⊢;cases j
   case eql=>exact g
   case neq=>exact i
   all_goals cases a<;>exact aV _ _
  |_=>simp at g i⊢;cases j<;>first|exact aC _ _|exact g|exact i
 |string s=>
  cases y with
  |string s2=>
   have e:binOp j t (.string s) (.string s2)=Op.stringOp j s s2:=by cases j<;>rfl
   simp[e];exact Gg _ _ _
  |pointer a=>
   simp at g i⊢;cases j
   case eql=>exact g
   case neq=>exact i
   all_goals cases a<;>exact aV _ _
  |_=>simp at g i⊢;cases j<;>first|exact aC _ _|exact g|exact i
 |_=>
  cases y with
  |pointer a=>
   simp at g i⊢;cases j
   case eql=>exact g
   case neq=>exact i
   all_goals cases a<;>exact aV _ _
  |_=>simp only[sW,jL,sX,zm,qK,fh,pk,qI,mg,ks,iJ,mh,vU,sY]at g i⊢;cases j<;>first|exact aC _ _|exact g|exact i
variable{T:Tables}{F F':Array Func}{f:Nat->Nat}
def a9q(a:Array aj)(i:Nat):(a.map (al f))[i]?=(a[i]?).map (al f):=a9i
def Be(x):SE T F F' f Eq (Builtin.lenOf x) (Builtin.lenOf (al f x)):=by cases x<;>simp<;>first|exact aC _ _|exact ax rfl
def oO(s n x):SE T F F' f (aN (Array.map (al f))) (Builtin.firstCells s n x) (Builtin.firstCells s n (al f x)):=by
 cases x<;>simp<;>try exact aC _ _
 .apply ax;simp only[aN];rw[Cm];intro x d;obtain⟨b,_,rfl⟩:=mr.1 d;simp[bg]
 .rename_i a l c;cases a with
  |none=>exact ax aZ
  |some a=>exact xL a _
def Sd(b t args):SE T F F' f (aN (al f)) (Builtin.len_ b t args) (Builtin.len_ b t (args.map (al f))):=by
 unfold Builtin.len_;rw[a9q];cases b[0]? with
 |none=>simp[aC]
 |some u=>
  cases args[0]? with
  |none=>simp[aC]
  |some x=>
   dsimp;apply(cm u).bind;rintro d _ rfl;cases x with
   |slice a l c=>rw[fh];cases d<;>first|exact aC _ _|exact ax eU|(apply(cm _).bind;rintro e _ rfl;cases e<;>first|exact aC _ _|exact ax eU)
   |string s=>rw[qK];cases d<;>first|exact aC _ _|exact ax eU|(apply(cm _).bind;rintro e _ rfl;cases e<;>first|exact aC _ _|exact ax eU)
   |map r=>
    rw[pk];cases r with
    |none=>cases d<;>first|exact aC _ _|exact ax eU|(apply(cm _).bind;rintro e _ rfl;cases e<;>first|exact aC _ _|exact ax eU)
    |some r=>
     cases d<;>first|exact aC _ _|exact ax eU|(refine(cm _).bind ?_;rintro e _ rfl;cases e<;>first|exact aC _ _|exact ax eU)|skip
     apply(nK r).bind;rintro o _ (⟨rfl,_⟩|⟨rfl,_⟩);rotate_left
     .exact aC _ _
     cases o<;>first|exact aC _ _|exact ax eU
   |chan r=>
    rw[qI];cases r with
    |none=>cases d<;>first|exact aC _ _|exact ax eU|(apply(cm _).bind;rintro e _ rfl;cases e<;>first|exact aC _ _|exact ax eU)
    |some r=>
     cases d<;>first|exact aC _ _|exact ax eU|(refine(cm _).bind ?_;rintro e _ rfl;cases e<;>first|exact aC _ _|exact ax eU)|skip
     apply(nK r).bind;rintro o _ (⟨rfl,_⟩|⟨rfl,_⟩);rotate_left
     .exact aC _ _
     cases o<;>first|exact aC _ _|exact ax eU
   |_=>simp;cases d<;>first|exact aC _ _|exact ax eU|(apply(cm _).bind;rintro e _ rfl;cases e<;>first|exact aC _ _|exact ax eU)
def RM(b t args):SE T F F' f (aN (al f)) (Builtin.cap_ b t args) (Builtin.cap_ b t (args.map (al f))):=by
 unfold Builtin.cap_;rw[a9q];cases b[0]? with
 |none=>simp[aC]
 |some u=>
  cases args[0]? with
  |none=>simp[aC]
  |some x=>
   dsimp;apply(cm u).bind;rintro d _ rfl;cases x with
   |slice a l c=>rw[fh];cases d<;>first|exact aC _ _|exact ax eU|(apply(cm _).bind;rintro e _ rfl;cases e<;>first|exact aC _ _|exact ax eU)
   |chan r=>
    rw[qI];cases r with
    |none=>cases d<;>first|exact aC _ _|exact ax eU|(apply(cm _).bind;rintro e _ rfl;cases e<;>first|exact aC _ _|exact ax eU)
    |some r=>
     cases d<;>first|exact aC _ _|exact ax eU|(refine(cm _).bind ?_;rintro e _ rfl;cases e<;>first|exact aC _ _|exact ax eU)|skip
     apply(nK r).bind;rintro o _ (⟨rfl,_⟩|⟨rfl,_⟩);rotate_left
     .exact aC _ _
     cases o<;>first|exact aC _ _|exact ax eU
   |_=>simp;cases d<;>first|exact aC _ _|exact ax eU|(apply(cm _).bind;rintro e _ rfl;cases e<;>first|exact aC _ _|exact ax eU)
def RR(b t args):SE T F F' f (aN (al f)) (Builtin.copy_ b t args) (Builtin.copy_ b t (args.map (al f))):=by
 unfold Builtin.copy_;rw[a9q,a9q];cases b[0]? <;>cases args[0]? <;>cases args[1]? <;>try exact aC _ _
 rename_i u x y;dsimp;apply(cm u).bind;rintro d _ rfl;cases d<;>try exact aC _ _
 cases x<;>simp<;>try exact aC _ _
 rename_i a l c;apply(Be y).bind;rintro n _ rfl;apply(ga _).bind;rintro s _ rfl;apply(oO s _ y).bind;rintro e _ rfl;cases a with
 |none=>exact ax eU
 |some a=>have:=qb (T:=T) (F:=F) (F':=F') (f:=f) a e.toList 0;rw[<-kH]at this;apply aB.bind this;rintro _ _ _;exact ax eU
def wz{z}(h:z.map (al f)=z)(n):(Builtin.zeroCells z n).map (al f)=Builtin.zeroCells z n:=C9 h _
def RP(h:Fit T f)(b t args):SE T F F' f (aN (al f)) (Builtin.clear_ b t args) (Builtin.clear_ b t (args.map (al f))):=by
 unfold Builtin.clear_;rw[a9q];cases b[0]? <;>cases args[0]? <;>try exact aC _ _
 rename_i u x;dsimp;apply(cm u).bind;rintro d _ rfl;have fin:SE T F F' f (aN (al f)) (pure (Value.tuple #[])) (pure (Value.tuple #[])):=ax aZ;cases x with
 |map r=>
  rw[pk];cases r with
  |none=>cases d<;>exact fin
  |some r=>
   cases d<;>(
    apply(nK r).bind;rintro o _ (⟨rfl,_⟩|⟨rfl,_⟩);rotate_left
    .exact aC _ _
    cases o<;>try exact aC _ _
    rename_i j g _;simp[bu];exact aB.bind (R:=Eq) (⟨rfl,by simp[bu],⟨trivial,by simp[dead]⟩,rfl⟩:SE T F F' f Eq (setObj r (.map #[] g)) (setObj (f r) (.map #[] g))) λ_ _ _=>fin)
 |slice a l c=>
  rw[fh];cases a with
  |none=>cases d<;>exact fin
  |some a=>
   cases l with
   |zero=>cases d<;>exact fin
   |succ l=>
    cases d<;>try exact aC _ _
    rename_i e;apply(mF h e).bind;rintro _ z ⟨rfl,i⟩;have:=qb (T:=T) (F:=F) (F':=F') (f:=f) a (Builtin.zeroCells z.cells (l+1)).toList 0;rw[<-kH,wz (oK i)]at this
    grind[aB.bind]
 |_=>simp;cases d<;>exact aC _ _
def Sk(x y):SE T F F' f (aN (al f)) (Builtin.min2 x y) (Builtin.min2 (al f x) (al f y)):=by
 cases x with
 |int k a=>
  cases y with
  |int c b=>simp;exact ax aZ
  |pointer b=>simp;cases b<;>first|exact aC _ _|exact aV _ _
  |_=>simp;exact aC _ _
 |float k a=>
  cases y with
  |float c b=>
   simp;unfold Builtin.min2;dsimp;cases k.format.order a b with
   |none=>exact(jl _).bind λ_ _ e=>e▸ax aZ
   |some o=>cases o<;>exact ax aZ
  |pointer b=>simp;cases b<;>first|exact aC _ _|exact aV _ _
  |_=>simp;exact aC _ _
 |string a=>
  cases y with
  |string b=>simp;apply(Gg .leq a b).bind;rintro v _ rfl;apply(FI v).bind;rintro q _ rfl;exact ax aZ
  |pointer b=>simp;cases b<;>first|exact aC _ _|exact aV _ _
  |_=>simp;exact aC _ _
 |pointer a=>
  rw[gU];cases a with
  |some a=>cases y<;>exact aV _ _
  |none=>
   cases y with
   |pointer b=>rw[gU];cases b<;>first|exact aC _ _|exact aV _ _
   |_=>simp only[sW,jL,sX,zm,qK,fh,pk,qI,mg,ks,iJ,mh,vU,sY];exact aC _ _
 |_=>
  cases y with
  |pointer b=>simp;cases b<;>first|exact aC _ _|exact aV _ _
  |_=>simp only[sW,jL,sX,zm,qK,fh,pk,qI,mg,ks,iJ,mh,vU,sY];exact aC _ _
theorem FO:∀(l:List aj) (x),SE T F F' f (aN (al f)) (l.foldlM Builtin.min2 x) ((l.map (al f)).foldlM Builtin.min2 (al f x))
 |[],x=>ax rfl
 |y::l,x=>by simp;apply(Sk x y).bind;rintro v _ rfl;simp[FO]
def Sj(a t args):SE T F F' f (aN (al f)) (Builtin.min_ a t args) (Builtin.min_ a t (args.map (al f))):=by
 grind[Builtin.min_,Array.toList_map,aC,FO]
def FQ(a n):SE T F F' f Eq (Builtin.holdsCells a n) (Builtin.holdsCells (aG f a) n):=by apply(j7 a.block).bind;rintro s _ rfl;cases s<;>exact ax rfl
def FX(h:Fit T f)(s l n b x):SE T F F' f Eq (Builtin.mayShare s l n b x) (Builtin.mayShare s l n (b.map (aG f)) (al f x)):=by
 have d:SE T F F' f Eq (match x with| .slice (some c) _ _=>(do pure (!(<-Builtin.holdsCells c (n*s))||b.any (·.block==c.block)))|_=>pure false) (match al f x with| .slice (some c) _ _=>(do pure (!(<-Builtin.holdsCells c (n*s))||(b.map (aG f)).any (·.block==c.block)))|_=>pure false):=by
  cases x<;>simp<;>try exact ax rfl
  rename_i c _ _;cases c with
  |none=>exact ax rfl
  |some c=>apply(FQ c _).bind;rintro r _ rfl;apply ax;cases b<;>simp[rL h]
 unfold Builtin.mayShare;cases b with
 |none=>exact d
 |some a=>apply(FQ a _).bind;rintro r _ rfl;have e:=nJ (T:=T) (F:=F) (F':=F') (f:=f) (a.add (l / 2*s));rw[<-lQ]at e;apply aB.bind e;rintro q _ rfl;refine bk bq (λ_=>ax rfl) λ_=>d
def RD(h:Fit T f)(v t args):SE T F F' f (aN (al f)) (Builtin.append_ v t args) (Builtin.append_ v t (args.map (al f))):=by
 unfold Builtin.append_;rw[a9q,a9q];rcases h0:v[0]? with _|u
 .exact aC _ _
 rcases I:args[0]? with _|s
 .exact aC _ _
 rcases J:args[1]? with _|x
 .exact aC _ _
 clear h0 I J;rw[bY,bY];apply(cm u).bind;rintro d _ rfl;cases d<;>try exact aC _ _
 rename_i g;cases s<;>simp only[lu]<;>try exact aC _ _
 rename_i base i q;apply(ga g).bind;rintro j _ rfl;cases v[1]? with
 |none=>
  apply(Be x).bind;rintro n _ rfl;refine bk bq (λ_=>?_) λ_=>?_
  .apply aB.bind (R:=aN (Array.map (al f))) (oO j n x);rintro p _ rfl;cases base with
   |none=>exact ax aZ
   |some a=>have w:=qb (T:=T) (F:=F) (F':=F') (f:=f) (a.add (i*j)) p.toList 0;rw[<-kH,<-lQ]at w;apply aB.bind w;rintro _ _ _;exact ax aZ
  .apply(gd g).bind;rintro B _ rfl;refine bk bq (λ_=>mE h _) λ_=>?_;apply(gd g).bind;rintro C _ rfl;refine bk bq (λ_=>aB.bind (R:=λ_ _=>False) ((FX h j i n base x).bind λb _ e=>by
     subst e;cases b
     .exact aB.bind (Bg (m:=.noRoom) rfl) λ_ _ _=>aV _ _
     .exact aV _ _) λ_ _ x=>x.elim) λ_=>?_
   apply(jl _).bind;rintro c _ rfl;apply(gd g).bind;rintro D _ rfl;apply(xE _).bind;rintro _ _ _;have o:=oO (T:=T) (F:=F) (F':=F') (f:=f) j i (.slice base i q);simp at o;apply aB.bind o;rintro r _ rfl;apply aB.bind (R:=aN (Array.map (al f))) (oO j n x);rintro p _ rfl;apply(mF h g).bind;rintro _ z ⟨rfl,y⟩;have row:=oQ (T:=T) (F:=F) (F':=F') (f:=f) g (r++p++Builtin.zeroCells z.cells (c - (i+n)));rw[jV,jV,wz (oK y)]at row;apply aB.bind row;rintro a _ rfl;exact ax aZ
 |some K=>
  apply(cm K).bind;rintro k _ rfl;by_cases E:∃H,k=.int H
  .obtain⟨H,rfl⟩:=E;apply(rX x).bind;rintro l _ rfl;refine bk bq (λ_=>mE h _) λ_=>?_;apply(gd g).bind;rintro L _ rfl;refine bk bq (λ_=>?_) λ_=>?_
   .apply(jl _).bind;rintro m _ rfl;exact mE h _
   .have A:∀n,SE T F F' f (aN (Array.map (al f))) (if n*j=0 then pure #[]else (do pure (Builtin.zeroCells (<-zeroValue g).cells n))) (if n*j=0 then pure #[]else (do pure (Builtin.zeroCells (<-zeroValue g).cells n))):=by intro n;refine bk bq (λ_=>ax aZ) λ_=>?_;apply(mF h g).bind;rintro _ z ⟨rfl,y⟩;exact ax (wz (oK y) n).symm
    generalize M:(IntKind.i64.wrap l).toNat=n;simp only[C7];refine bk bq (λ_=>?_) λ_=>?_
    .apply aB.bind (R:=aN (Array.map (al f))) (A n);rintro p _ rfl;cases base with
     |none=>exact ax aZ
     |some a=>have w:=qb (T:=T) (F:=F) (F':=F') (f:=f) (a.add (i*j)) p.toList 0;rw[<-kH,<-lQ]at w;apply aB.bind w;rintro _ _ _;exact ax aZ
    .apply(gd g).bind;rintro B _ rfl;refine bk bq (λ_=>mE h _) λ_=>?_;apply(gd g).bind;rintro C _ rfl;refine bk bq (λ_=>aB.bind (R:=λ_ _=>False) (by simp;exact gL h _) λ_ _ x=>x.elim) λ_=>?_;apply(jl _).bind;rintro c _ rfl;apply(gd g).bind;rintro D _ rfl;apply(xE _).bind;rintro _ _ _;have o:=oO (T:=T) (F:=F) (F':=F') (f:=f) j i (.slice base i q);simp at o;apply aB.bind o;rintro r _ rfl;apply aB.bind (R:=aN (Array.map (al f))) (A n);rintro p _ rfl;apply(mF h g).bind;rintro _ z ⟨rfl,y⟩;have row:=oQ (T:=T) (F:=F) (F':=F') (f:=f) g (r++p++Builtin.zeroCells z.cells (c - (i+n)));rw[jV,jV,wz (oK y)]at row;apply aB.bind row;rintro a _ rfl;exact ax aZ
  .cases k<;>first|exact absurd ⟨_,rfl⟩ E|skip
   all_goals(
    apply(Be x).bind;rintro n _ rfl;refine bk bq (λ_=>?_) λ_=>?_
    .apply aB.bind (R:=aN (Array.map (al f))) (oO j n x);rintro p _ rfl;cases base with
     |none=>exact ax aZ
     |some a=>have w:=qb (T:=T) (F:=F) (F':=F') (f:=f) (a.add (i*j)) p.toList 0;rw[<-kH,<-lQ]at w;apply aB.bind w;rintro _ _ _;exact ax aZ
    .apply(gd g).bind;rintro B _ rfl;refine bk bq (λ_=>mE h _) λ_=>?_;apply(gd g).bind;rintro C _ rfl;refine bk bq (λ_=>aB.bind (R:=λ_ _=>False) ((FX h j i n base x).bind λb _ e=>by
       subst e;cases b
       .exact aB.bind (Bg (m:=.noRoom) rfl) λ_ _ _=>aV _ _
       .exact aV _ _) λ_ _ x=>x.elim) λ_=>?_
     apply(jl _).bind;rintro c _ rfl;apply(gd g).bind;rintro D _ rfl;apply(xE _).bind;rintro _ _ _;have o:=oO (T:=T) (F:=F) (F':=F') (f:=f) j i (.slice base i q);simp at o;apply aB.bind o;rintro r _ rfl;apply aB.bind (R:=aN (Array.map (al f))) (oO j n x);rintro p _ rfl;apply(mF h g).bind;rintro _ z ⟨rfl,y⟩;have row:=oQ (T:=T) (F:=F) (F':=F') (f:=f) g (r++p++Builtin.zeroCells z.cells (c - (i+n)));rw[jV,jV,wz (oK y)]at row;apply aB.bind row;rintro a _ rfl;exact ax aZ)
end Go.Mir
end
