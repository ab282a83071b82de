import Derived.Test.YtdnpeefnobjfaaaGreatDoorK02
set_option maxRecDepth 100000
set_option maxHeartbeats 4000000
set_option linter.all false
section
namespace Go.Mir
variable{T:Tables}{F F':Array Func}{f:Nat->Nat}
def lL(h:Fit T f){α β γ δ R}(e){g:γ->Sem α}{g':δ->Sem β}:SE T F F' f R (runtimePanic e>>=g) (runtimePanic e>>=g'):=
 aE.bind (R:=λ_ _=>False) (gE h e) λ_ _ x=>x.elim
def PE(h:Fit T f)(t x i):SE T F F' f (aC (ak f)) (Instr.indexAt t x i) (Instr.indexAt t (ak f x) (ak f i)):=by
 refine(uH i).bind ?_;rintro⟨k,n⟩ _ rfl;refine(cH t).bind ?_;rintro d _ rfl;dsimp only;have m:∀(base:Option ap) (b:Nat) (g:aA) (j:Bool),SE T F F' f (aC (ak f))
   (match base with|some a=>if 0<=n/\n<↑b then (do let s<-Go.sizeOf g;pure (Value.pointer (some (a.add (n.toNat*s)))))else if j=true then unsupported (.noEntry "op/indexAddr.an index out of range at an array of length 0 or 1 (ledger 616)")else boundsPanic k n ↑b .index|none=>boundsPanic k n 0 .index)
   (match base.map (aH f)with|some a=>if 0<=n/\n<↑b then (do let s<-Go.sizeOf g;pure (Value.pointer (some (a.add (n.toNat*s)))))else if j=true then unsupported (.noEntry "op/indexAddr.an index out of range at an array of length 0 or 1 (ledger 616)")else boundsPanic k n ↑b .index|none=>boundsPanic k n 0 .index):=by
  intro base b g j;cases base with
  |none=>exact rJ h _ _ _ _
  |some a=>refine bq bv (λ_=>?_) λ_=>bq bv (λ_=>aX _ _) λ_=>rJ h _ _ _ _;refine(fW _).bind ?_;rintro s _ rfl;exact ax (by simp[aC,kP])
 cases d<;>try exact aD _ _
 .rename_i e;cases x<;>try exact aD _ _
  rename_i a l c;rw[bg];refine(cH t).bind ?_;rintro d _ rfl;exact m a l e (l<=1&&(match d with| .array .. =>true|_=>false))
 .rename_i l e;refine(rS x).bind ?_;rintro a _ rfl;refine(cH t).bind ?_;rintro d _ rfl;exact m (some a) l e (l<=1&&(match d with| .array .. =>true|_=>false))
def uT(h:Fit T f)(x y c):SE T F F' f Eq (Instr.sliceBound x y c) (Instr.sliceBound (ak f x) y c):=by refine(uH x).bind ?_;rintro⟨k,n⟩ _ rfl;exact bq bv (λ_=>ax rfl) λ_=>rJ h _ _ _ _
def uU(h:Fit T f)(s l c i k j):SE T F F' f Eq (Instr.sliceBounds s l c i k j) (Instr.sliceBounds s l c (i.map (ak f)) (k.map (ak f)) (j.map (ak f))):=by
 have d:∀g m:Nat,SE T F F' f Eq (match i with|some v=>(do let l<-Instr.sliceBound v g (if j.isSome then .slice3C else .sliceB);pure (l,g,m))|none=>pure (0,g,m))
   (match i.map (ak f)with|some v=>(do let l<-Instr.sliceBound v g (if (j.map (ak f)).isSome then .slice3C else .sliceB);pure (l,g,m))|none=>pure (0,g,m)):=by
  intro g m;rw[Option.isSome_map];cases i with
  |none=>exact ax rfl
  |some v=>exact(uT h v _ _).bind λ_ _ e=>e▸ax rfl
 unfold Instr.sliceBounds;cases j with
 |none=>
  cases k with
  |none=>exact d l c
  |some v=>refine(uT h v _ _).bind ?_;rintro a _ rfl;exact d a c
 |some m=>
  refine(uT h m _ _).bind ?_;rintro b _ rfl;cases k with
  |none=>exact aD _ _
  |some v=>refine(uT h v _ _).bind ?_;rintro a _ rfl;exact d a b
def P3(h:Fit T f)(t x b g i):SE T F F' f (aC (ak f)) (Instr.slice t x b g i) (Instr.slice t (ak f x) (b.map (ak f)) (g.map (ak f)) (i.map (ak f))):=by
 refine(cH t).bind ?_;rintro d _ rfl;dsimp only;cases d<;>try exact aD _ _
 .cases x<;>try exact aD _ _
  rename_i s;rw[bD];dsimp only;cases i with
  |some _=>exact aD _ _
  |none=>refine(uU h _ _ _ b g none).bind ?_;rintro⟨l,j,m⟩ _ rfl;exact ax (by simp[aC])
 .rename_i e;refine(mC h x).bind ?_;rintro a _ rfl;refine(cH e).bind ?_;rintro d _ rfl;cases d<;>try exact aD _ _
  refine(uU h _ _ _ b g i).bind ?_;rintro⟨l,j,m⟩ _ rfl;refine(fW _).bind ?_;rintro s _ rfl;refine ax ?_;simp only[aC,bg,Option.map_some,kP];split<;>rfl
 .cases x<;>try exact aD _ _
  rename_i e a l c;rw[bg];refine(uU h _ _ _ b g i).bind ?_;rintro⟨l,j,m⟩ _ rfl;refine(fW _).bind ?_;rintro s _ rfl;refine ax ?_;simp only[aC,bg];split
  .rfl
  .cases a<;>simp[kP]
def P4(h:Fit T f)(t x b c e):SE T F F' f (aC (ak f)) (Instr.sliceAt t x b c e) (Instr.sliceAt t (ak f x) (b.map (ak f)) (c.map (ak f)) (e.map (ak f))):=by
 refine(cH t).bind ?_;rintro d _ rfl;dsimp only;cases d<;>try exact P3 h _ _ _ _ _
 refine(rS x).bind ?_;rintro a _ rfl;refine(uU h _ _ _ b c e).bind ?_;rintro⟨l,g,m⟩ _ rfl;refine(fW _).bind ?_;rintro s _ rfl;refine ax ?_;simp only[aC,bg,Option.map_some,kP];split<;>rfl
def PK(t x):SE T F F' f (aC (ak f)) (Instr.makeInterface t x) (Instr.makeInterface t (ak f x)):=by refine(cH t).bind ?_;rintro d _ rfl;cases d<;>first|exact aD _ _|exact ax (by simp[aC])
def PL(h:Fit T f)(t l c):SE T F F' f (aC (ak f)) (Instr.makeSlice t l c) (Instr.makeSlice t (ak f l) (ak f c)):=by
 refine(cH t).bind ?_;rintro d _ rfl;dsimp only;cases d<;>try exact aD _ _
 rename_i e;refine(pM l).bind ?_;rintro l _ rfl;refine(pM c).bind ?_;rintro c _ rfl;refine(fi e).bind ?_;rintro i _ rfl;refine bq bv (λ_=>?_) λ_=>?_
 .refine bq bv (λ_=>lL h _) λ_=>bq bv (λ_=>lL h _) λ_=>?_;refine(iU _).bind ?_;rintro n _ rfl;exact lL h _
 .refine(uI _).bind ?_;rintro _ _ _;refine(fW _).bind ?_;rintro s _ rfl;have b:∀z:Array af,z.map (ak f)=z->SE T F F' f (aC (ak f))
    (do let a<-newRow e ((Array.range ((IntKind.i64.wrap c).toNat*s)).map (λi=>z[i%z.size]!));pure (Value.slice (some a) (IntKind.i64.wrap l).toNat (IntKind.i64.wrap c).toNat))
    (do let a<-newRow e ((Array.range ((IntKind.i64.wrap c).toNat*s)).map (λi=>z[i%z.size]!));pure (Value.slice (some a) (IntKind.i64.wrap l).toNat (IntKind.i64.wrap c).toNat)):=by
   intro z g;have:=nu (T:=T) (F:=F) (F':=F') (f:=f) e ((Array.range ((IntKind.i64.wrap c).toNat*s)).map (λi=>z[i%z.size]!));rw[A8 g]at this;refine aE.bind this ?_;rintro a _ rfl;exact ax (by simp[aC])
  refine bq bv (λ_=>b #[] (by simp)) λ_=>?_;refine(lM h e).bind ?_;rintro _ z ⟨rfl,g⟩;exact b z.cells (nk g)
def PD(h:Fit T f)(t x i):SE T F F' f (aC (ak f)) (Instr.index t x i) (Instr.index t (ak f x) (ak f i)):=by
 refine(uH i).bind ?_;rintro⟨k,n⟩ _ rfl;refine(cH t).bind ?_;rintro d _ rfl;cases d<;>try exact aD _ _
 .cases x<;>try exact aD _ _
  rename_i s;rw[bD];dsimp only;split
  .exact ax (by simp[aC])
  .exact rJ h _ _ _ _
 .cases x<;>try exact aD _ _
  rename_i l e a;rw[bk];refine bq bv (λ_=>?_) λ_=>rJ h _ _ _ _;refine(fW _).bind ?_;rintro s _ rfl;exact kr _ _ _
def Py(x i):SE T F F' f (aC (ak f)) (Instr.extract x i) (Instr.extract (ak f x) i):=by
 cases x<;>try exact aD _ _
 rename_i a;rw[bE];simp only[Instr.extract,fp];cases a[i]? with
 |none=>exact aD _ _
 |some v=>exact ax rfl
def Qc(h:Fit T f)(x s t c):SE T F F' f (aC (ak f)) (Instr.typeAssert x s t c) (Instr.typeAssert (ak f x) s t c):=by
 have l:∀v:af,SE T F F' f (aC (ak f)) (pure (if c then Value.tuple #[v,.bool true]else v)) (pure (if c then Value.tuple #[ak f v,.bool true]else ak f v)):=by intro v;exact ax (by cases c<;>simp[aC])
 have g:∀(a b:Option aA) (m:String),SE T F F' f (aC (ak f)) (if c then (do let z<-zeroValue t;pure (Value.tuple #[z,.bool false]))else runtimePanic (.typeAssertion a b t m)) (if c then (do let z<-zeroValue t;pure (Value.tuple #[z,.bool false]))else runtimePanic (.typeAssertion a b t m)):=by intro a b m;refine bq bv (λ_=>?_) λ_=>gE h _;refine(lM h t).bind ?_;rintro _ z ⟨rfl,o⟩;exact ax (by simp[aC,lq f z o])
 refine(cH t).bind ?_;rintro d _ rfl;have n:∀d:TypeDesc,(∀m,d≠.interface m)->SE T F F' f (aC (ak f))
   (match d,x with
    | .interface _,.nilIface=>(if c then (do let z<-zeroValue t;pure (Value.tuple #[z,.bool false]))else runtimePanic (.typeAssertion none none t ""))
    | .interface j,.iface k _=>(do match Instr.missingMethod j (<-typeInfo k).methods with|none=>pure (if c then Value.tuple #[x,.bool true]else x)|some m=>(if c then (do let z<-zeroValue t;pure (Value.tuple #[z,.bool false]))else runtimePanic (.typeAssertion none (some k) t m)))
    |_,.nilIface=>(if c then (do let z<-zeroValue t;pure (Value.tuple #[z,.bool false]))else runtimePanic (.typeAssertion (some s) none t ""))
    |_,.iface k v=>if k=t then pure (if c then Value.tuple #[v,.bool true]else v)else (if c then (do let z<-zeroValue t;pure (Value.tuple #[z,.bool false]))else runtimePanic (.typeAssertion (some s) (some k) t ""))
    |_,_=>stuck "TypeAssert: interface value expected")
   (match d,ak f x with
    | .interface _,.nilIface=>(if c then (do let z<-zeroValue t;pure (Value.tuple #[z,.bool false]))else runtimePanic (.typeAssertion none none t ""))
    | .interface j,.iface k _=>(do match Instr.missingMethod j (<-typeInfo k).methods with|none=>pure (if c then Value.tuple #[ak f x,.bool true]else ak f x)|some m=>(if c then (do let z<-zeroValue t;pure (Value.tuple #[z,.bool false]))else runtimePanic (.typeAssertion none (some k) t m)))
    |_,.nilIface=>(if c then (do let z<-zeroValue t;pure (Value.tuple #[z,.bool false]))else runtimePanic (.typeAssertion (some s) none t ""))
    |_,.iface k v=>if k=t then pure (if c then Value.tuple #[v,.bool true]else v)else (if c then (do let z<-zeroValue t;pure (Value.tuple #[z,.bool false]))else runtimePanic (.typeAssertion (some s) (some k) t ""))
    |_,_=>stuck "TypeAssert: interface value expected"):=by
  intro d p;cases x<;>simp only[bm,bV]<;>cases d<;>first|exact aD _ _|exact absurd rfl (p _)|exact g _ _ _|exact bq bv (λ_=>l _) λ_=>g _ _ _
 cases d<;>first|(refine n _ ?_;intro _ e;cases e;done)|skip
 rename_i j;cases x<;>try exact aD _ _
 .rename_i k v;rw[bm];refine(fi k).bind ?_;rintro i _ rfl;dsimp only;cases Instr.missingMethod j i.methods with
  |none=>have:=l (.iface k v);rw[bm]at this;exact this
  |some m=>exact g _ _ _
 .rw[bV];exact g _ _ _
variable{T:Tables}{F F':Array Func}{f:Nat->Nat}
def yT(c k a b):SE T F F' f (aC (ak f)) (Op.intArith c k a b) (Op.intArith c k a b):=by cases c<;>first|exact aD _ _|exact ax (by simp[aC])
def PI(h:Fit T f)(c k a b):SE T F F' f (aC (ak f)) (Op.intDiv c k a b) (Op.intDiv c k a b):=by refine bq bv (λ_=>gE h _) λ_=>?_;cases c<;>first|exact aD _ _|exact ax (by simp[aC])
def DJ(c k a b):SE T F F' f (aC (ak f)) (Op.intBits c k a b) (Op.intBits c k a b):=by cases c<;>first|exact aD _ _|exact ax (by simp[aC])
def PF(c a b):SE T F F' f (aC (ak f)) (Op.intCmp c a b) (Op.intCmp c a b):=by cases c<;>first|exact aD _ _|exact ax (by simp[aC])
def D7(h:Fit T f)(c k y a b):SE T F F' f (aC (ak f)) (Op.shift c k a y b) (Op.shift c k a y b):=by refine bq bv (λ_=>gE h _) λ_=>?_;cases c<;>first|exact aD _ _|exact ax (by simp[aC])
def D8(c a b):SE T F F' f (aC (ak f)) (Op.stringOp c a b) (Op.stringOp c a b):=by cases c<;>first|exact aD _ _|exact ax (by simp[aC])|exact bq bv (λ_=>aX _ _) λ_=>ax (by simp[aC])
def Qe(b x):SE T F F' f (aC (ak f)) (Op.unary b x) (Op.unary b (ak f x)):=by
 cases b<;>cases x<;>simp only[bQ,bj,bJ,bZ,bD,bh,bg,cg,bY,bz,bm,bk,bE,cj,bV]<;>
  first
  |exact aD _ _
  |exact ax (by simp[aC])
  |exact yT _ _ _ _
  |exact DJ _ _ _ _
  |(rename_i a;cases a<;>first|exact aD _ _|exact aX _ _)
def DU(r):SE T F F' f (aC (Option.map λx=>(aH f x.1,x.2))) (numberAt r) (numberAt (f r)):=by
 refine(jL r).bind ?_;rintro s _ rfl;cases s with
 |some x=>exact ax rfl
 |none=>
  refine(mE r).bind ?_;rintro o a (⟨rfl,c⟩|⟨rfl,b⟩);rotate_left
  .cases a<;>first|exact b.elim|exact ax rfl
  cases o<;>exact ax rfl
def ot(a):SE T F F' f (aC λx=>(aH f x.1,x.2)) (behindNumber a) (behindNumber (aH f a)):=by refine(DU a.block).bind ?_;rintro s _ rfl;cases s<;>exact ax rfl
def D9(a):SE T F F' f Eq (stringish a) (stringish (aH f a)):=by
 refine(mD a).bind ?_;rintro b _ rfl;cases b
 .refine(jL a.block).bind ?_;rintro s _ rfl;cases s with
  |none=>exact ax rfl
  |some x=>exact mD {block:=a.block,off:=x.2}
 .exact ax rfl
def DN(a b):SE T F F' f Eq (mayBeOne a b) (mayBeOne (aH f a) (aH f b)):=by
 refine(D9 a).bind ?_;rintro d _ rfl;refine(D9 b).bind ?_;rintro e _ rfl;dsimp only;have c:∀x:ap,SE T F F' f Eq (do pure ((<-shape x.block) matches some (_,0))) (do pure ((<-shape (aH f x).block) matches some (_,0))):=by intro x;refine(jL x.block).bind ?_;rintro s _ rfl;exact ax rfl
 refine aE.bind (c a) ?_;rintro x _ rfl;refine aE.bind (c b) ?_;rintro y _ rfl;exact ax rfl
def D5(h:Fit T f)(a b):SE T F F' f Eq (sameAddr a b) (sameAddr (aH f a) (aH f b)):=by
 unfold sameAddr;dsimp only;simp only[qn,oe h,A9 h];split
 .exact ax rfl
 .refine(mD a).bind ?_;rintro x _ rfl;refine(mD b).bind ?_;rintro y _ rfl;split
  .exact aX _ _
  .refine(rP a).bind ?_;rintro _ _ _;refine(rP b).bind ?_;rintro _ _ _;refine(DN a b).bind ?_;rintro z _ rfl;split
   .exact(iU _).bind λ_ _ e=>e▸ax rfl
   .exact ax rfl
def P2(h:Fit T f)(a b):SE T F F' f Eq (samePointer a b) (samePointer (a.map (aH f)) (b.map (aH f))):=by cases a<;>cases b<;>first|exact ax rfl|exact D5 h _ _
def uN{α β:Type}{R:β->β->Prop}{body c}(l:List α)(j:∀x∈l,∀b d,R b d->SE T F F' f (λs g=>(∃a e,s=.yield a/\g=.yield e/\R a e)\/∃a e,s=.done a/\g=.done e/\R a e) (body x b) (c x d)):∀b d,R b d->SE T F F' f R (forIn l b body) (forIn l d c):=by
 induction l with
 |nil=>intro b d h;simp only[a7v];exact ax h
 |cons x l k=>
  intro b d h;simp only[a7m];refine aE.bind (j x (by simp) b d h) ?_;rintro s g (⟨a,e,rfl,rfl,i⟩|⟨a,e,rfl,rfl,i⟩)
  .exact k (λy m=>j y (by simp[m])) a e i
  .exact ax i
variable{T:Tables}{F F':Array Func}{f:Nat->Nat}
theorem lY(t):Program.underlying ⟨T,F'⟩ t=Program.underlying ⟨T,F⟩ t:=rfl
def Cg(d):∀t u,Program.alikeButTags ⟨T,F'⟩ d t u=Program.alikeButTags ⟨T,F⟩ d t u:=by
 induction d with
 |zero=>intros;rfl
 |succ d a=>intro t u;simp only[Program.alikeButTags,a]
def a1z(t):Program.stoodInAs ⟨T,F'⟩ t=Program.stoodInAs ⟨T,F⟩ t:=by simp only[Program.stoodInAs,Cg (F:=F) (F':=F')];rfl
def tG(t):Program.stoodInHeld ⟨T,F'⟩ t=Program.stoodInHeld ⟨T,F⟩ t:=by simp only[Program.stoodInHeld,a1z (F:=F) (F':=F')]
def wH(t):Program.packed ⟨T,F'⟩ t=Program.packed ⟨T,F⟩ t:=by simp only[Program.packed,Program.packedAs,Cg (F:=F) (F':=F')];rfl
def Tm(d):∀t,Program.holdsPacked ⟨T,F'⟩ d t=Program.holdsPacked ⟨T,F⟩ d t:=by
 induction d with
 |zero=>intros;rfl
 |succ d a=>
  intro t;unfold Program.holdsPacked;rw[wH (F:=F),lY (F:=F)];cases Program.underlying ⟨T,F⟩ t with
  |none=>rfl
  |some x=>cases x<;>simp only[a]
def Ec(t):SE T F F' f Eq (typeStr t) (typeStr t):=by refine(fi t).bind ?_;rintro i _ rfl;exact bq bv (λ_=>aX _ _) λ_=>ax rfl
theorem uK(h:Fit T f):∀d t x y,SE T F F' f Eq (Op.equalIn d t x y) (Op.equalIn d t (ak f x) (ak f y))
 |0,_,_,_=>aX _ _
 |d+1,t,x,y=>by
  refine(cH t).bind ?_;rintro k _ rfl;cases k with
  |struct l=>
   cases x<;>try exact aD _ _
   cases y<;>try exact aD _ _
   rename_i u w;rw[bk,bk];dsimp only;refine eI ?_;rw[tG (F:=F) (F':=F')];generalize Program.stoodInHeld ⟨T,F⟩ t=st;cases st;rotate_left
   .exact aX _ _
   refine aE.bind (R:=Eq) ?_ ?_
   .rw[<-l7,<-l7];refine uN _ ?_ _ _ rfl;rintro o _ b _ rfl;refine bq bv (λ_=>?_) λ_=>ax (.inl ⟨_,_,rfl,rfl,rfl⟩);refine(kr _ _ _).bind ?_;rintro p _ rfl;refine(kr _ _ _).bind ?_;rintro q _ rfl;refine(uK h d o.type p q).bind ?_;rintro r _ rfl;cases r
    .exact ax (.inr ⟨_,_,rfl,rfl,rfl⟩)
    .exact ax (.inl ⟨_,_,rfl,rfl,rfl⟩)
   .rintro s _ rfl;obtain⟨s,_⟩:=s;cases s<;>exact ax rfl
  |array z c=>
   cases x<;>try exact aD _ _
   cases y<;>try exact aD _ _
   rename_i u w;rw[bk,bk];dsimp only;refine(fW _).bind ?_;rintro n _ rfl;refine aE.bind (R:=Eq) ?_ ?_
   .simp only[a6Q];refine uN _ ?_ _ _ rfl;rintro o _ b _ rfl;refine(kr _ _ _).bind ?_;rintro p _ rfl;refine(kr _ _ _).bind ?_;rintro q _ rfl;refine(uK h d c p q).bind ?_;rintro r _ rfl;cases r
    .exact ax (.inr ⟨_,_,rfl,rfl,rfl⟩)
    .exact ax (.inl ⟨_,_,rfl,rfl,rfl⟩)
   .rintro s _ rfl;obtain⟨s,_⟩:=s;cases s<;>exact ax rfl
  |int I=>
   cases x with
   |int J n=>
    rw[bj];cases y with
    |int A m=>rw[bj];exact bq bv (λ_=>ax rfl) λ_=>aD _ _
    |pointer b=>
     rw[bh];cases b with
     |none=>cases n with
      |ofNat m=>cases m<;>exact aX _ _
      |negSucc m=>exact aX _ _
     |some b=>cases n with
      |ofNat m=>cases m<;>first|exact aX _ _|exact ax rfl
      |negSucc m=>exact aX _ _
    |_=>cases n with
     |ofNat m=>cases m<;>exact aD _ _
     |negSucc m=>exact aD _ _
   |pointer a=>
    rw[bh];cases a with
    |none=>cases y<;>exact aX _ _
    |some a=>
     cases y with
     |int A m=>
      rw[bj];cases m with
      |ofNat m=>cases m<;>first|exact aX _ _|exact ax rfl
      |negSucc m=>exact aX _ _
     |pointer b=>
      rw[bh];cases b with
      |none=>exact aX _ _
      |some b=>
       simp only[Option.map_some];refine(ot a).bind ?_;rintro p _ rfl;refine(ot b).bind ?_;rintro q _ rfl;refine eI ?_;simp only[qn,oe h,A9 h];have g:decide (f p.1.block<T.globals.size)=decide (p.1.block<T.globals.size):=by
        by_cases B:p.1.block<T.globals.size
        .rw[h.low p.1.block (by omega)]
        .have: ¬f p.1.block<T.globals.size:=by intro K;have C:=h.low (f p.1.block) (by omega);have:=h.inj _ _ C;omega
         simp[B,this]
       change SE T F F' f Eq (if (p.1.block==q.1.block&&decide (p.1.block<T.globals.size))=true then _ else _) (if (p.1.block==q.1.block&&decide (f p.1.block<T.globals.size))=true then _ else _);rw[g];refine bq bv (λ_=>?_) λ_=>?_
       .refine(ou _).bind ?_;rintro x _ rfl;refine(ou _).bind ?_;rintro y _ rfl;exact ax rfl
       .refine(fi t).bind ?_;rintro i _ rfl;split
        .exact bq bv (λ_=>ax rfl) λ_=>aX _ _
        .exact aX _ _
     |_=>exact aX _ _
   |_=>cases y<;>first|exact aD _ _|exact aX _ _
  |interface L=>
   cases x<;>try exact aD _ _
   all_goals cases y<;>try exact aD _ _
   .rename_i j D M E;rw[bm,bm];dsimp only;refine bq bv (λ_=>ax rfl) λ_=>?_;refine(fi j).bind ?_;rintro i _ rfl;refine bq bv (λ_=>?_) λ_=>uK h d j D E;refine eI (eI ?_);rw[Tm (F:=F) (F':=F')];change aE _ _ f Eq (if Program.holdsPacked ⟨T,F⟩ (Program.depth ⟨T,F⟩) j=true then _ else _) (if Program.holdsPacked ⟨T,F⟩ (Program.depth ⟨T,F⟩) j=true then _ else _);generalize Program.holdsPacked ⟨T,F⟩ (Program.depth ⟨T,F⟩) j=st;cases st with
    |true=>exact aX _ _
    |false=>refine(Ec _).bind ?_;rintro s _ rfl;exact gE h _
   all_goals simp only[bm,bV]
   all_goals exact ax rfl
  |pointer e=>
   cases x<;>try exact aD _ _
   rename_i a;cases a<;>cases y<;>try exact aD _ _
   all_goals rename_i b
   all_goals cases b
   all_goals simp only[bh,kl,Option.map_some]
   all_goals try exact ax rfl
   refine(fW _).bind ?_;rintro s _ rfl;simp only[A9 h];refine bq bv (λ_=>D5 h _ _) λ_=>bq bv (λ_=>ax rfl) λ_=>?_;exact(iU _).bind λ_ _ e=>e▸ax rfl
  |unsafePointer=>
   cases x<;>try exact aD _ _
   all_goals cases y<;>try exact aD _ _
   rename_i a b;simp only[bh];exact P2 h a b
  |chan N e=>
   cases x<;>try exact aD _ _
   all_goals cases y<;>try exact aD _ _
   rename_i a b;simp only[bY];refine ax ?_;cases a<;>cases b<;>simp;exact(oe h _ _).symm
  |slice e=>
   cases x<;>try exact aD _ _
   rename_i a _ _;cases a<;>cases y<;>try exact aD _ _
   all_goals rename_i b _ _
   all_goals cases b
   all_goals simp only[bg,kl,Option.map_some]
   all_goals first|exact ax rfl|exact aD _ _
  |map O e=>
   cases x<;>try exact aD _ _
   rename_i a;cases a<;>cases y<;>try exact aD _ _
   all_goals rename_i b
   all_goals cases b
   all_goals simp only[cg,kl,Option.map_some]
   all_goals first|exact ax rfl|exact aD _ _
  |func P Q v=>
   cases x<;>try exact aD _ _
   all_goals cases y<;>try exact aD _ _
   all_goals simp only[bz,cj]
   all_goals first|exact ax rfl|exact aD _ _
  |bool=>
   cases x<;>try exact aD _ _
   all_goals cases y<;>try exact aD _ _
   simp only[bQ];exact ax rfl
  |string=>
   cases x<;>try exact aD _ _
   all_goals cases y<;>try exact aD _ _
   simp only[bD];exact ax rfl
  |float H=>
   cases x<;>try exact aD _ _
   all_goals cases y<;>try exact aD _ _
   simp only[bJ];exact bq bv (λ_=>ax rfl) λ_=>aD _ _
  |complex H=>
   cases x<;>try exact aD _ _
   all_goals cases y<;>try exact aD _ _
   simp only[bZ];exact bq bv (λ_=>ax rfl) λ_=>aD _ _
  |_=>cases x<;>cases y<;>exact aD _ _
variable{T:Tables}{F F':Array Func}{f:Nat->Nat}
def MX(d):∀t off,cellOfByte ⟨T,F'⟩ d t off=cellOfByte ⟨T,F⟩ d t off:=by
 induction d with
 |zero=>intros;rfl
 |succ d a=>
  intro t off;unfold cellOfByte;rw[lY (F:=F) (F':=F')];cases Program.underlying ⟨T,F⟩ t with
  |none=>rfl
  |some x=>cases x<;>simp only[a]<;>rfl
def Cy(d e n o b):cellAtBytes ⟨T,F'⟩ d e n o b=cellAtBytes ⟨T,F⟩ d e n o b:=by unfold cellAtBytes;simp only[un (F:=F) (F':=F'),MX (F:=F) (F':=F')];rfl
def a0v(d):∀t u,sameLayout ⟨T,F'⟩ d t u=sameLayout ⟨T,F⟩ d t u:=by
 induction d with
 |zero=>intros;rfl
 |succ d a=>intro t u;unfold sameLayout;simp only[lY (F:=F) (F':=F'),tG (F:=F) (F':=F'),a];rfl
def ZZ(fits a)(b:∀t,a t=fits t)(d):∀e c o n,rowAt ⟨T,F'⟩ a d e c o n=rowAt ⟨T,F⟩ fits d e c o n:=by
 induction d with
 |zero=>intros;rfl
 |succ d g=>intro e c o n;unfold rowAt;simp only[lY (F:=F) (F':=F'),tG (F:=F) (F':=F'),g,b];rfl
def Um(d):∀e c o u n,liesAt ⟨T,F'⟩ d e c o u n=liesAt ⟨T,F⟩ d e c o u n:=by
 induction d with
 |zero=>intros;rfl
 |succ d a=>intro e c o u n;unfold liesAt;simp only[a0v (F:=F) (F':=F'),ZZ (F:=F) (F':=F') _ _ (λ_=>rfl),lY (F:=F) (F':=F'),a];rfl
def Tn(d):∀t,Program.holdsStoodIn ⟨T,F'⟩ d t=Program.holdsStoodIn ⟨T,F⟩ d t:=by
 induction d with
 |zero=>intros;rfl
 |succ d a=>intro t;unfold Program.holdsStoodIn;simp only[lY (F:=F) (F':=F'),tG (F:=F) (F':=F'),a]
def Em(d):∀t,Program.eqGuardType ⟨T,F'⟩ d t=Program.eqGuardType ⟨T,F⟩ d t:=by
 induction d with
 |zero=>intros;rfl
 |succ d a=>intro t;unfold Program.eqGuardType;simp only[lY (F:=F) (F':=F'),a]
def Qg(a u n):SE T F F' f Eq (variablesAt a u n) (variablesAt (aH f a) u n):=by
 refine eI ?_;refine(jL a.block).bind ?_;rintro s _ rfl;cases s with
 |none=>exact ax rfl
 |some x=>exact ax (Um _ _ _ _ _ _).symm
def Ps(r):SE T F F' f Eq (cellsIn r) (cellsIn (f r)):=by
 refine(jL r).bind ?_;rintro s _ rfl;cases s with
 |some x=>exact ax rfl
 |none=>
  refine(mE r).bind ?_;rintro o a (⟨rfl,c⟩|⟨rfl,b⟩);rotate_left
  .cases a<;>first|exact b.elim|exact ax rfl
  cases o<;>first|exact ax rfl|exact ax (by simp)
def D6(a):SE T F F' f (aC (aH f)) (Conv.seenAt a) (Conv.seenAt (aH f a)):=by
 refine(uX a.block).bind ?_;rintro s _ rfl;cases s with
 |none=>exact ax rfl
 |some x=>
  obtain⟨s,u⟩:=x;simp only[Option.map_some,wT,Ba];refine bq bv (λ_=>ax rfl) λ_=>?_;refine bq bv (λ_=>aX _ _) λ_=>?_;refine eI ?_;have b:=un (T:=T) (F:=F) (F':=F') (Program.depth ⟨T,F⟩) u a.off;cases g:byteOfCell ⟨T,F⟩ (Program.depth ⟨T,F⟩) u a.off with
  |none=>exact aX _ _
  |some β=>
   rw[g]at b;change byteOfCell ⟨T,F'⟩ (Program.depth ⟨T,F'⟩) u a.off=_ at b;simp only[b];refine(jL s.block).bind ?_;rintro q _ rfl;cases q with
   |none=>exact aX _ _
   |some q=>
    obtain⟨e,n⟩:=q;dsimp only;refine bq bv (λ_=>aX _ _) λ_=>?_;have d:=Cy (T:=T) (F:=F) (F':=F') (Program.depth ⟨T,F⟩) e (n / Program.cellsOf ⟨T,F⟩ e) s.off β;cases h:cellAtBytes ⟨T,F⟩ (Program.depth ⟨T,F⟩) e (n / Program.cellsOf ⟨T,F⟩ e) s.off β with
    |none=>exact aX _ _
    |some c=>rw[h]at d;change cellAtBytes ⟨T,F'⟩ (Program.depth ⟨T,F'⟩) e (n / Program.cellsOf ⟨T,F'⟩ e) s.off β=_ at d;simp only[d];exact ax rfl
def Du(a b):SE T F F' f (aC (ak f)) (asNumber a b) (asNumber (aH f a) b):=by refine(pN (o:=.number a b) trivial).bind ?_;rintro r _ rfl;exact ax (by simp[aC,aH])
def Qf(s d x):SE T F F' f (aC (ak f)) (Conv.unsafePointer s d x) (Conv.unsafePointer s d (ak f x)):=by
 refine(cH s).bind ?_;rintro k _ rfl;refine(cH d).bind ?_;rintro l _ rfl;cases x with
 |pointer a=>
  rw[bh];cases k with
  |pointer t=>
   cases l with
   |unsafePointer=>
    cases a with
    |none=>exact ax (by simp[aC])
    |some a=>dsimp only[Option.map_some];refine(D6 a).bind ?_;rintro s _ rfl;refine(Ps s.block).bind ?_;rintro n _ rfl;refine(fW t).bind ?_;rintro z _ rfl;simp only[wT,Ba];refine bq bv (λ_=>?_) λ_=>ax (by simp[aC]);refine(pN (o:=.view s t) trivial).bind ?_;rintro r _ rfl;exact ax (by simp[aC,aH])
   |_=>cases a<;>exact aD _ _
  |unsafePointer=>
   cases l with
   |pointer u=>
    cases a with
    |none=>exact ax (by simp[aC])
    |some a=>
     dsimp only[Option.map_some];refine(D6 a).bind ?_;rintro s _ rfl;refine(fW u).bind ?_;rintro z _ rfl;refine(Qg s u 1).bind ?_;rintro b _ rfl;refine bq bv (λ_=>ax (by simp[aC])) λ_=>?_;refine(jL s.block).bind ?_;rintro q _ rfl;have fin:SE T F F' f (aC (ak f)) (do let r<-newObj (.view s u);pure (Value.pointer (some ⟨r,0,none⟩))) (do let r<-newObj (.view (aH f s) u);pure (Value.pointer (some ⟨r,0,none⟩))):=by refine(pN (o:=.view s u) trivial).bind ?_;rintro r _ rfl;exact ax (by simp[aC,aH])
     cases q with
     |none=>exact aX _ _
     |some q=>
      obtain⟨e,n⟩:=q;refine eI (eI ?_);have c:=Tn (T:=T) (F:=F) (F':=F') (Program.depth ⟨T,F⟩) e;cases h:Program.holdsStoodIn ⟨T,F⟩ (Program.depth ⟨T,F⟩) e with
      |true=>exact aX _ _
      |false=>rw[h]at c;change Program.holdsStoodIn ⟨T,F'⟩ (Program.depth ⟨T,F'⟩) e=_ at c;simp only[c];exact fin
   |unsafePointer=>cases a<;>exact ax (by simp[aC])
   |int g=>
    cases a with
    |none=>exact ax (by simp[aC])
    |some a=>exact Du a false
   |_=>cases a<;>exact aD _ _
  |int g=>
   cases l with
   |unsafePointer=>cases a<;>first|exact aX _ _|exact aD _ _
   |_=>cases a<;>exact aD _ _
  |_=>cases l<;>cases a<;>exact aD _ _
 |int g n=>
  rw[bj];cases k with
  |int g=>
   cases l with
   |unsafePointer=>
    cases n with
    |ofNat m=>cases m<;>exact aX _ _
    |negSucc m=>exact aX _ _
   |_=>exact aD _ _
  |_=>cases l<;>exact aD _ _
 |_=>cases k<;>cases l<;>exact aD _ _
def DM(a):SE T F F' f Eq (markStringish a) (markStringish (aH f a)):=by
 refine(jL a.block).bind ?_;rintro s _ rfl;cases s with
 |none=>exact ax rfl
 |some x=>exact PC {block:=a.block,off:=x.2} 1
def P8(e s):SE T F F' f (aC (ak f)) (Conv.stringToBytes e s) (Conv.stringToBytes e s):=by
 refine(iU _).bind ?_;rintro c _ rfl;have:=nu (T:=T) (F:=F) (F':=F') (f:=f) e ((s.data.map λb=>Value.int .u8 b.toNat)++Array.replicate (c - s.size) (.int .u8 0));rw[An (by
  intro x d;obtain d|d:=l8.1 d
  .obtain⟨b,_,rfl⟩:=l9.1 d;simp[bu]
  .rw[a7t]at d;rw[d.2];simp[bu])]at this
 refine aE.bind this ?_;rintro a _ rfl;refine(DM a).bind ?_;rintro _ _ _;exact ax (by simp[aC])
def DD{β}{R:β->β->Prop}{body c}(l:List af)(j:∀x,∀b d,R b d->SE T F F' f (λs g=>(∃a e,s=.yield a/\g=.yield e/\R a e)\/∃a e,s=.done a/\g=.done e/\R a e) (body x b) (c (ak f x) d)):∀b d,R b d->SE T F F' f R (forIn l b body) (forIn (l.map (ak f)) d c):=by
 induction l with
 |nil=>intro b d h;simp only[d7,a7v];exact ax h
 |cons x l k=>
  intro b d h;simp only[cA,a7m];refine aE.bind (j x b d h) ?_;rintro s g (⟨a,e,rfl,rfl,i⟩|⟨a,e,rfl,rfl,i⟩)
  .exact k a e i
  .exact ax i
def Pq(x):SE T F F' f (aC (ak f)) (Conv.bytesToString x) (Conv.bytesToString (ak f x)):=by
 cases x with
 |slice a l c=>
  rw[bg];cases a with
  |none=>exact ax (by simp[aC])
  |some a=>
   refine(uQ a l).bind ?_;rintro d _ rfl;refine aE.bind (R:=Eq) ?_ ?_
   .rw[<-l7,<-l7,iZ];refine DD _ ?_ _ _ rfl;rintro x b _ rfl;cases x<;>try exact aD _ _
    rename_i k n;rw[bj];cases k<;>first|exact aD _ _|exact ax (.inl ⟨_,_,rfl,rfl,rfl⟩)
   .rintro s _ rfl;exact ax (by simp[aC])
 |_=>simp only[bQ,bj,bJ,bZ,bD,bh,cg,bY,bz,bm,bk,bE,cj,bV];exact aD _ _
def PZ(x):SE T F F' f (aC (ak f)) (Conv.runesToString x) (Conv.runesToString (ak f x)):=by
 cases x with
 |slice a l c=>
  rw[bg];cases a with
  |none=>exact ax (by simp[aC])
  |some a=>
   refine(uQ a l).bind ?_;rintro d _ rfl;refine aE.bind (R:=Eq) ?_ ?_
   .rw[<-l7,<-l7,iZ];refine DD _ ?_ _ _ rfl;rintro x b _ rfl;cases x<;>try exact aD _ _
    rename_i k n;rw[bj];cases k<;>first|exact aD _ _|exact ax (.inl ⟨_,_,rfl,rfl,rfl⟩)
   .rintro s _ rfl;exact ax (by simp[aC])
 |_=>simp only[bQ,bj,bJ,bZ,bD,bh,cg,bY,bz,bm,bk,bE,cj,bV];exact aD _ _
theorem H6(s):∀b i a,(∀x∈a,bu x=true)->∀x∈Conv.runesFrom s b i a,bu x=true
 |0,_,a,h=>h
 |b+1,i,a,h=>by
  unfold Conv.runesFrom;split
  .refine H6 s b _ _ ?_;intro x c;obtain c|rfl:=kJ.1 c
   .exact h x c
   .simp[bu]
  .exact h
def P9(e s):SE T F F' f (aC (ak f)) (Conv.stringToRunes e s) (Conv.stringToRunes e s):=by
 refine(iU _).bind ?_;rintro c _ rfl;have:=nu (T:=T) (F:=F) (F':=F') (f:=f) e (Conv.runesFrom s s.size 0 #[]++Array.replicate (c - (Conv.runesFrom s s.size 0 #[]).size) (.int .i32 0));rw[An (by
  intro x b;obtain b|b:=l8.1 b
  .exact H6 s _ _ _ (by simp) x b
  .rw[a7t]at b;rw[b.2];simp[bu])]at this
 refine aE.bind this ?_;rintro a _ rfl;exact ax (by simp[aC])
def PB(k b d):SE T F F' f (aC (ak f)) (Conv.floatToInt k b d) (Conv.floatToInt k b d):=by
 unfold Conv.floatToInt;have a:SE T F F' f (aC (ak f)) (do pure (.int d (d.wrap (<-choose (.floatToInt k b d))))) (do pure (.int d (d.wrap (<-choose (.floatToInt k b d))))):=(iU _).bind λ_ _ e=>e▸ax (by simp[aC]);dsimp only;split
 .split
  .exact ax (by simp[aC])
  .exact a
 .exact a
def yQ(k b d):SE T F F' f (aC (ak f)) (Conv.floatToFloat k b d) (Conv.floatToFloat k b d):=by
 unfold Conv.floatToFloat;split
 .exact ax (by simp[aC])
 .split
  .exact(iU _).bind λ_ _ e=>e▸ax (by simp[aC])
  .exact ax (by simp[aC])
  .dsimp only;split
   .exact(iU _).bind λ_ _ e=>e▸ax (by simp[aC])
   .exact ax (by simp[aC])
def Pu(k a b d):SE T F F' f (aC (ak f)) (Conv.complexToComplex k a b d) (Conv.complexToComplex k a b d):=by
 refine(yQ k a d).bind ?_;rintro x _ rfl;cases x<;>simp only[bJ]<;>try exact aD _ _
 refine(yQ k b d).bind ?_;rintro x _ rfl;cases x<;>simp only[bJ]<;>try exact aD _ _
 exact ax (by simp[aC])
def rK(s d x):SE T F F' f (aC (ak f)) (convert s d x) (convert s d (ak f x)):=by
 refine(cH s).bind ?_;rintro k _ rfl;refine(cH d).bind ?_;rintro l _ rfl;have bytes:∀(e:aA) (s:ByteArray),SE T F F' f (aC (ak f)) (do match<-underlying e with| .int .u8=>Conv.stringToBytes e s| .int .i32=>Conv.stringToRunes e s|_=>stuck "Convert: string to a slice of what?") (do match<-underlying e with| .int .u8=>Conv.stringToBytes e s| .int .i32=>Conv.stringToRunes e s|_=>stuck "Convert: string to a slice of what?"):=by
  intro e s;refine(cH e).bind ?_;rintro k _ rfl;cases k<;>try exact aD _ _
  rename_i k;cases k<;>first|exact aD _ _|exact P8 _ _|exact P9 _ _
 have h:∀(e:aA),SE T F F' f (aC (ak f)) (do match<-underlying e with| .int .u8=>Conv.bytesToString x| .int .i32=>Conv.runesToString x|_=>stuck "Convert: a slice of what to string?") (do match<-underlying e with| .int .u8=>Conv.bytesToString (ak f x)| .int .i32=>Conv.runesToString (ak f x)|_=>stuck "Convert: a slice of what to string?"):=by
  intro e;refine(cH e).bind ?_;rintro k _ rfl;cases k<;>try exact aD _ _
  rename_i k;cases k<;>first|exact aD _ _|exact Pq _|exact PZ _
 have g:=Qf (T:=T) (F:=F) (F':=F') (f:=f) s d x;cases x with
 |int j n=>
  rw[bj]at*;cases l<;>first
   |exact ax (by simp[aC])
   |exact g
   |(cases k<;>first|exact aX _ _|exact g|exact h _)
 |float j n=>
  rw[bJ]at*;cases l<;>first
   |exact PB _ _ _
   |exact yQ _ _ _
   |exact g
   |(cases k<;>first|exact aX _ _|exact g|exact h _)
 |complex j n m=>
  rw[bZ]at*;cases l<;>first
   |exact Pu _ _ _ _
   |exact g
   |(cases k<;>first|exact aX _ _|exact g|exact h _)
 |string q=>
  rw[bD]at*;cases l<;>first
   |exact ax (by simp[aC])
   |exact bytes _ _
   |exact g
   |(cases k<;>first|exact aX _ _|exact g|exact h _)
 |slice a o p=>
  rw[bg]at*;cases a with
  |none=>cases l<;>cases k<;>first|exact aX _ _|exact g|exact h _
  |some a=>
   cases l<;>cases k<;>first|exact aX _ _|exact g|exact h _|skip
   rename_i r t;dsimp only[Option.map_some];refine(cH _).bind ?_;rintro i _ rfl;cases s==d<;>cases i<;>try exact aX _ _
   rename_i i;cases i<;>try exact aX _ _
   refine(DM a).bind ?_;rintro _ _ _;exact ax (by simp[aC])
 |pointer a=>rw[bh]at*;cases a<;>cases l<;>cases k<;>first|exact aX _ _|exact g|exact h _
 |bool b=>rw[bQ]at*;cases l<;>cases k<;>first|exact aX _ _|exact g|exact h _
 |map b=>rw[cg]at*;cases l<;>cases k<;>first|exact aX _ _|exact g|exact h _
 |chan b=>rw[bY]at*;cases l<;>cases k<;>first|exact aX _ _|exact g|exact h _
 |func b c d=>rw[bz]at*;cases l<;>cases k<;>first|exact aX _ _|exact g|exact h _
 |nilFunc=>rw[cj]at*;cases l<;>cases k<;>first|exact aX _ _|exact g|exact h _
 |iface b c=>rw[bm]at*;cases l<;>cases k<;>first|exact aX _ _|exact g|exact h _
 |nilIface=>rw[bV]at*;cases l<;>cases k<;>first|exact aX _ _|exact g|exact h _
 |agg b=>rw[bk]at*;cases l<;>cases k<;>first|exact aX _ _|exact g|exact h _
 |tuple b=>rw[bE]at*;cases l<;>cases k<;>first|exact aX _ _|exact g|exact h _
variable{T:Tables}{F F':Array Func}{f:Nat->Nat}
def cn{α:Type}:Sem α->Prop
 | .pure _=>True
 | .choose _ k=> ∀n,cn (k n)
 | .halt h=>eO h=true
 |_=>False
def cn.bind'{α β}{g:α->Sem β}:∀{s},cn s->(∀a,cn (g a))->cn (s.bind g):=by
 intro s;induction s with
 |pure a=>intro _ h;exact h a
 |choose q k b=>intro h c n;exact b n (h n) c
 |halt h=>intro d _;exact d
 |_=>intro h;exact h.elim
def cn.bind{α β}{g:α->Sem β}{s}(h:cn s)(b:∀a,cn (g a)):cn (s>>=g):=cn.bind' h b
def dv:Sem af->Prop
 | .pure v=>bu v=true
 | .choose _ k=> ∀n,dv (k n)
 | .halt h=>eO h=true
 |_=>False
def dv.bind'{α g}:∀{s:Sem α},cn s->(∀a,dv (g a))->dv (s.bind g):=by
 intro s;induction s with
 |pure a=>intro _ h;exact h a
 |choose q k b=>intro h c n;exact b n (h n) c
 |halt h=>intro d _;exact d
 |_=>intro h;exact h.elim
def dv.bind{α g}{s:Sem α}(h:cn s)(b:∀a,dv (g a)):dv (s>>=g):=dv.bind' h b
def zF:∀{s},dv s->SE T F F' f (aC (ak f)) s s:=by
 intro s;induction s with
 |pure a=>intro h;exact(lq f a h).symm
 |choose q k b=>intro h;exact⟨rfl,λn=>b n (h n)⟩
 |halt h=>intro c;exact jZ c _
 |_=>intro h;exact h.elim
def zG:∀{s},dv s->cn s:=by
 intro s;induction s with
 |pure a=>intro h;trivial
 |choose q k b=>intro h n;exact b n (h n)
 |halt h=>intro c;exact c
 |_=>intro h;exact h.elim
def EW(d k a b):dv (Op.floatArith d k a b):=by
 unfold Op.floatArith;have c:∀r:Option Nat,dv (match r with|some r=>pure (.float k r)|none=>(do pure (.float k (<-choose (.nanBits k a b))))):=by
  intro r;cases r with
  |some r=>show bu (Value.float k r)=true;simp[bu]
  |none=>intro n;show bu (Value.float k _)=true;simp[bu]
 cases d<;>first|trivial|exact c _
def EX(c k a b):dv (Op.floatCmp c k a b):=by unfold Op.floatCmp;cases c<;>first|trivial|(show bu (Value.bool _)=true;simp[bu])
def Rv(k b d):dv (Conv.floatToFloat k b d):=by
 unfold Conv.floatToFloat;have one:∀n,dv (pure (.float d n)):=λn=>by show bu (Value.float d n)=true;simp[bu]
 split
 .exact one _
 .split
  .intro n;exact one _
  .exact one _
  .dsimp only;split
   .intro n;exact one _
   .exact one _
def dx(c k a b):cn (Op.Complex.arith c k a b):=by refine cn.bind (zG (EW c k a b)) λv=>?_;cases v<;>trivial
def Rq(v):cn (asBool v):=by cases v<;>trivial
def oG(c k a b):cn (Op.Complex.cmp c k a b):=cn.bind (zG (EX c k a b)) λv=>Rq v
def ku(s x d):cn (Op.Complex.conv s x d):=by
 unfold Op.Complex.conv
 split
 .trivial
 .refine cn.bind (zG (Rv s x d)) λv=>?_;cases v<;>trivial
def Rx(a b c d):cn (Op.Complex.product a b c d):=by refine cn.bind (dx _ _ _ _) λ_=>cn.bind (dx _ _ _ _) λ_=>cn.bind (dx _ _ _ _) λ_=>cn.bind (dx _ _ _ _) λ_=>cn.bind (dx _ _ _ _) λ_=>cn.bind (dx _ _ _ _) λ_=>trivial
def EV(s a b c d):cn (Op.Complex.corrected s a b c d):=by refine cn.bind (dx _ _ _ _) λ_=>cn.bind (dx _ _ _ _) λ_=>cn.bind (dx _ _ _ _) λ_=>cn.bind (dx _ _ _ _) λ_=>cn.bind (dx _ _ _ _) λ_=>cn.bind (dx _ _ _ _) λ_=>cn.bind (dx _ _ _ _) λ_=>cn.bind (dx _ _ _ _) λ_=>trivial
def Ry(a b c d):cn (Op.Complex.quotient a b c d):=by
 unfold Op.Complex.quotient;have h:∀e g:Nat,cn (do
   let zero:=(<-Op.Complex.cmp .eql .f64 c 0)&&(<-Op.Complex.cmp .eql .f64 d 0)
   if !(Op.Complex.isNaN e&&Op.Complex.isNaN g)then pure (e,g)
   else if zero&&(!Op.Complex.isNaN a|| !Op.Complex.isNaN b)then
    pure (<-Op.Complex.mul (Op.Complex.copysign Op.Complex.inf c) a,<-Op.Complex.mul (Op.Complex.copysign Op.Complex.inf c) b)
   else if (Op.Complex.isInf a||Op.Complex.isInf b)&&Op.Complex.isFinite c&&Op.Complex.isFinite d then
    Op.Complex.corrected Op.Complex.inf (Op.Complex.inf2one a) (Op.Complex.inf2one b) c d
   else if (Op.Complex.isInf c||Op.Complex.isInf d)&&Op.Complex.isFinite a&&Op.Complex.isFinite b then
    Op.Complex.corrected 0 a b (Op.Complex.inf2one c) (Op.Complex.inf2one d)
   else pure (e,g)):=by
  intro e g;refine cn.bind (oG _ _ _ _) λi=>cn.bind (oG _ _ _ _) λj=>?_;dsimp only;split
  .trivial
  .split
   .exact cn.bind (dx _ _ _ _) λ_=>cn.bind (dx _ _ _ _) λ_=>trivial
   .split
    .exact EV _ _ _ _ _
    .split
     .exact EV _ _ _ _ _
     .trivial
 refine cn.bind (oG _ _ _ _) λt=>?_;dsimp only;cases t
 .refine cn.bind (dx _ _ _ _) λ_=>?_;refine cn.bind (dx _ _ _ _) λ_=>?_;refine cn.bind (dx _ _ _ _) λ_=>?_;refine cn.bind (dx _ _ _ _) λ_=>?_;refine cn.bind (dx _ _ _ _) λ_=>?_;refine cn.bind (dx _ _ _ _) λ_=>?_;refine cn.bind (dx _ _ _ _) λ_=>?_;refine cn.bind (dx _ _ _ _) λ_=>?_;refine cn.bind (dx _ _ _ _) λ_=>?_;dsimp only[A6];exact h _ _
 .refine cn.bind (dx _ _ _ _) λ_=>?_;refine cn.bind (dx _ _ _ _) λ_=>?_;refine cn.bind (dx _ _ _ _) λ_=>?_;refine cn.bind (dx _ _ _ _) λ_=>?_;refine cn.bind (dx _ _ _ _) λ_=>?_;refine cn.bind (dx _ _ _ _) λ_=>?_;refine cn.bind (dx _ _ _ _) λ_=>?_;refine cn.bind (dx _ _ _ _) λ_=>?_;refine cn.bind (dx _ _ _ _) λ_=>?_;dsimp only[A6];exact h _ _
def Ru(e k a b c d):dv (Op.complexOp e k a b c d):=by
 cases e<;>try trivial
 .exact dv.bind (dx _ _ _ _) λ_=>dv.bind (dx _ _ _ _) λ_=>by show bu (Value.complex _ _ _)=true;simp[bu]
 .exact dv.bind (dx _ _ _ _) λ_=>dv.bind (dx _ _ _ _) λ_=>by show bu (Value.complex _ _ _)=true;simp[bu]
 .refine dv.bind (ku _ _ _) λa=>dv.bind (ku _ _ _) λb=>dv.bind (ku _ _ _) λc=>dv.bind (ku _ _ _) λd=>?_;refine dv.bind (Rx _ _ _ _) λx=>dv.bind (ku _ _ _) λ_=>dv.bind (ku _ _ _) λ_=>?_;show bu (Value.complex _ _ _)=true;simp[bu]
 .refine dv.bind (ku _ _ _) λa=>dv.bind (ku _ _ _) λb=>dv.bind (ku _ _ _) λc=>dv.bind (ku _ _ _) λd=>?_;refine dv.bind (Ry _ _ _ _) λx=>dv.bind (ku _ _ _) λ_=>dv.bind (ku _ _ _) λ_=>?_;show bu (Value.complex _ _ _)=true;simp[bu]
 .exact dv.bind (oG _ _ _ _) λ_=>dv.bind (oG _ _ _ _) λ_=>by show bu (Value.bool _)=true;simp[bu]
 .exact dv.bind (oG _ _ _ _) λ_=>dv.bind (oG _ _ _ _) λ_=>by show bu (Value.bool _)=true;simp[bu]
end Go.Mir
end
