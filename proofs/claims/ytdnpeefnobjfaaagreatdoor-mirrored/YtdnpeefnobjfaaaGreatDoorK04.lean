import Derived.Test.YtdnpeefnobjfaaaGreatDoorK03
set_option maxRecDepth 100000
set_option maxHeartbeats 4000000
set_option linter.all false
section
namespace Go.Mir
variable{T:Tables}{F F':Array Func}{f:Nat->Nat}
theorem yO:∀d t x y,SE T F F' f Eq (Op.eqGuardIn d t x y) (Op.eqGuardIn d t (ak f x) (ak f y))
 |0,_,_,_=>aX _ _
 |d+1,t,x,y=>by
  refine(cH t).bind ?_;rintro k _ rfl;cases k with
  |struct c=>
   cases x<;>simp only[bQ,bj,bJ,bZ,bD,bh,bg,cg,bY,bz,bm,bk,bE,cj,bV]<;>try exact ax rfl
   cases y<;>simp only[bQ,bj,bJ,bZ,bD,bh,bg,cg,bY,bz,bm,bk,bE,cj,bV]<;>try exact ax rfl
   rename_i g h;refine aE.bind (R:=Eq) ?_ ?_
   .rw[<-l7,<-l7];refine uN _ ?_ _ _ rfl;rintro e _ b _ rfl;refine bq bv (λ_=>?_) λ_=>ax (.inl ⟨_,_,rfl,rfl,rfl⟩);refine(kr _ _ _).bind ?_;rintro p _ rfl;refine(kr _ _ _).bind ?_;rintro q _ rfl;refine(yO d e.type p q).bind ?_;rintro r _ rfl;cases r
    .exact ax (.inl ⟨_,_,rfl,rfl,rfl⟩)
    .exact ax (.inr ⟨_,_,rfl,rfl,rfl⟩)
   .rintro s _ rfl;obtain⟨s,_⟩:=s;cases s<;>exact ax rfl
  |array i a=>
   cases x<;>simp only[bQ,bj,bJ,bZ,bD,bh,bg,cg,bY,bz,bm,bk,bE,cj,bV]<;>try exact ax rfl
   cases y<;>simp only[bQ,bj,bJ,bZ,bD,bh,bg,cg,bY,bz,bm,bk,bE,cj,bV]<;>try exact ax rfl
   rename_i g h;refine(fW _).bind ?_;rintro n _ rfl;refine aE.bind (R:=Eq) ?_ ?_
   .simp only[a6Q];refine uN _ ?_ _ _ rfl;rintro e _ b _ rfl;refine(kr _ _ _).bind ?_;rintro p _ rfl;refine(kr _ _ _).bind ?_;rintro q _ rfl;refine(yO d a p q).bind ?_;rintro r _ rfl;cases r
    .exact ax (.inl ⟨_,_,rfl,rfl,rfl⟩)
    .exact ax (.inr ⟨_,_,rfl,rfl,rfl⟩)
   .rintro s _ rfl;obtain⟨s,_⟩:=s;cases s<;>exact ax rfl
  |interface j=>
   cases x<;>simp only[bQ,bj,bJ,bZ,bD,bh,bg,cg,bY,bz,bm,bk,bE,cj,bV]<;>try exact ax rfl
   cases y<;>simp only[bQ,bj,bJ,bZ,bD,bh,bg,cg,bY,bz,bm,bk,bE,cj,bV]<;>exact ax rfl
  |_=>exact ax rfl
def Px(e t x y a b):SE T F F' f Eq (eqGuard e t x y a b) (eqGuard e t x y (ak f a) (ak f b)):=by
 unfold eqGuard;refine bq bv (λ_=>ax rfl) λ_=>?_;have c:=yO (T:=T) (F:=F) (F':=F') (f:=f) Op.maxDepth t a b;generalize Op.maxDepth=md at c⊢;cases a<;>simp only[bQ,bj,bJ,bZ,bD,bh,bg,cg,bY,bz,bm,bk,bE,cj,bV]at c⊢ <;>try exact ax rfl
 .cases b<;>simp only[bQ,bj,bJ,bZ,bD,bh,bg,cg,bY,bz,bm,bk,bE,cj,bV]at c⊢ <;>try exact ax rfl
  refine bq bv (λ_=>ax rfl) λ_=>?_;refine aE.bind c ?_;rintro r _ rfl;cases r<;>first|exact ax rfl|exact aX _ _
 .cases b<;>simp only[bQ,bj,bJ,bZ,bD,bh,bg,cg,bY,bz,bm,bk,bE,cj,bV]at c⊢ <;>try exact ax rfl
  refine eI (eI ?_);have d:=Em (T:=T) (F:=F) (F':=F') (Program.depth ⟨T,F⟩) t;cases g:Program.eqGuardType ⟨T,F⟩ (Program.depth ⟨T,F⟩) t with
  |false=>rw[g]at d;change Program.eqGuardType ⟨T,F'⟩ (Program.depth ⟨T,F'⟩) t=_ at d;simp only[d];exact ax rfl
  |true=>rw[g]at d;change Program.eqGuardType ⟨T,F'⟩ (Program.depth ⟨T,F'⟩) t=_ at d;simp only[d];refine aE.bind c ?_;rintro r _ rfl;cases r<;>first|exact ax rfl|exact aX _ _
def uW(t a y):SE T F F' f (aC (ak f)) (Builtin.unsafeAdd_ #[] t #[.pointer a,y]) (Builtin.unsafeAdd_ #[] t #[.pointer (a.map (aH f)),ak f y]):=by
 refine(pM y).bind ?_;rintro n _ rfl;refine bq bv (λ_=>?_) λ_=>?_
 .cases a with
  |none=>exact aX _ _
  |some a=>
   refine(uX a.block).bind ?_;rintro s _ rfl;cases s
   .exact ax (by simp[aC])
   .exact aX _ _
 .refine bq bv (λ_=>aX _ _) λ_=>?_;cases a with
  |none=>exact aX _ _
  |some a=>
   refine(jL a.block).bind ?_;rintro s _ rfl;cases s with
   |none=>exact aX _ _
   |some x=>
    obtain⟨e,c⟩:=x;refine eI ?_;have b:=Cy (T:=T) (F:=F) (F':=F') (Program.depth ⟨T,F⟩) e (c / Program.cellsOf ⟨T,F⟩ e) a.off n;cases d:cellAtBytes ⟨T,F⟩ (Program.depth ⟨T,F⟩) e (c / Program.cellsOf ⟨T,F⟩ e) a.off n with
    |none=>exact aX _ _
    |some o=>rw[d]at b;change cellAtBytes ⟨T,F'⟩ (Program.depth ⟨T,F'⟩) e (c / Program.cellsOf ⟨T,F'⟩ e) (aH f a).off n=_ at b;simp only[b];exact ax (by simp[aC,aH])
def PQ(t a y):SE T F F' f (aC (ak f)) (movedNumber t (.pointer a) y) (movedNumber t (.pointer (a.map (aH f))) (ak f y)):=by
 refine(cH t).bind ?_;rintro d _ rfl;cases a with
 |none=>cases d<;>first|exact aX _ _|exact uW t none y
 |some n=>
  have e:SE T F F' f (aC (ak f))
    (do let (a,c)<-behindNumber n;match<-Builtin.unsafeAdd_ #[] t #[.pointer (some a),y]with| .pointer (some b)=>asNumber b c|v=>pure v)
    (do let (a,c)<-behindNumber (aH f n);match<-Builtin.unsafeAdd_ #[] t #[.pointer (some a),ak f y]with| .pointer (some b)=>asNumber b c|v=>pure v):=by
   refine(ot n).bind ?_;rintro p _ rfl;refine(uW t (some p.1) y).bind ?_;rintro v _ rfl;cases v<;>simp only[bQ,bj,bJ,bZ,bD,bh,bg,cg,bY,bz,bm,bk,bE,cj,bV]<;>try exact ax (by simp[aC])
   rename_i b;cases b
   .exact ax (by simp[aC])
   .exact Du _ _
  cases d<;>first|exact aX _ _|exact e
def PS(t a y):SE T F F' f (aC (ak f)) (movedPointer t (.pointer a) y) (movedPointer t (.pointer (a.map (aH f))) (ak f y)):=by
 cases a with
 |none=>exact uW t none y
 |some a=>
  refine(DU a.block).bind ?_;rintro s _ rfl;cases s
  .exact uW t (some a) y
  .exact aX _ _
def UA(h:Fit T f)(b):(f b<T.globals.size)↔(b<T.globals.size):=by
 constructor
 .intro a;have c:=h.low (f b) (by omega);have:=h.inj _ _ c;omega
 .intro a;rw[h.low b (by omega)];exact a
def Ea(h:Fit T f)(a b):SE T F F' f Eq (Op.twoPlaces a b) (Op.twoPlaces (aH f a) (aH f b)):=by
 refine eI ?_;simp only[qn,bne,oe h];change SE T F F' f Eq (if (!(a.block==b.block)||decide (a.block≥T.globals.size))=true then _ else _) (if (!(a.block==b.block)||decide (f a.block≥T.globals.size))=true then _ else _);have:decide (f a.block≥T.globals.size)=decide (a.block≥T.globals.size):=by
  have:=UA h a.block;by_cases c:a.block<T.globals.size
  .have d:=this.2 c;simp[Nat.not_le.2 c,Nat.not_le.2 d]
  .have d: ¬f a.block<T.globals.size:=λe=>c (this.1 e);simp[Nat.not_lt.1 c,Nat.not_lt.1 d]
 rw[this];refine bq bv (λ_=>aX _ _) λ_=>?_;refine(ou a).bind ?_;rintro x _ rfl;refine(ou b).bind ?_;rintro y _ rfl;exact ax rfl
def Pd(h:Fit T f)(k a b):SE T F F' f (aC (ak f)) (Op.addrSub k a b) (Op.addrSub k (aH f a) (aH f b)):=by refine(Ea h a b).bind ?_;rintro⟨x,y⟩ _ rfl;exact ax (by simp[aC])
def Pc(h:Fit T f)(c a b):SE T F F' f (aC (ak f)) (Op.addrCmp c a b) (Op.addrCmp c (aH f a) (aH f b)):=by refine(Ea h a b).bind ?_;rintro⟨x,y⟩ _ rfl;cases c<;>first|exact aX _ _|exact ax (by simp[aC])
def Dr(k a n):SE T F F' f (aC (ak f)) (Op.addrMod k a n) (Op.addrMod k (aH f a) n):=by
 refine(jL a.block).bind ?_;rintro s _ rfl;cases s with
 |none=>exact aX _ _
 |some x=>refine(fi _).bind ?_;rintro i _ rfl;refine bq bv (λ_=>aX _ _) λ_=>?_;refine(ou a).bind ?_;rintro b _ rfl;exact ax (by simp[aC])
def Dz(h:Fit T f)(t x y):SE T F F' f Eq (Op.equal t x y) (Op.equal t (ak f x) (ak f y)):=uK h _ _ _ _
variable{T:Tables}{F F':Array Func}{f:Nat->Nat}
def yX(t a k n):SE T F F' f (aC (ak f)) (movedNumber t (.pointer a) (.int k n)) (movedNumber t (.pointer (a.map (aH f))) (.int k n)):=by
 have b:=PQ (T:=T) (F:=F) (F':=F') (f:=f) t a (.int k n)
 rwa [bj]at b
def Pk(h:Fit T f)(j t x y):SE T F F' f (aC (ak f)) (binOp j t x y) (binOp j t (ak f x) (ak f y)):=by
 have g:SE T F F' f (aC (ak f)) (do pure (.bool (<-Op.equal t x y))) (do pure (.bool (<-Op.equal t (ak f x) (ak f y)))):=by refine(Dz h t x y).bind ?_;rintro b _ rfl;exact ax (by simp[aC])
 have i:SE T F F' f (aC (ak f)) (do pure (.bool (!(<-Op.equal t x y)))) (do pure (.bool (!(<-Op.equal t (ak f x) (ak f y))))):=by refine(Dz h t x y).bind ?_;rintro b _ rfl;exact ax (by simp[aC])
 cases x with
 |pointer a=>
  cases y with
  |int k n=>
   simp only[bj,bh]at g i⊢;cases j
   case eql=>exact g
   case neq=>exact i
   case sub=>exact yX _ _ _ _
   case add=>refine(cH t).bind ?_;rintro d _ rfl;have r:=PS (T:=T) (F:=F) (F':=F') (f:=f) t a (.int k n);rw[bj]at r;cases d<;>first|exact r|exact yX _ _ _ _
   all_goals
    cases a<;>first
    |exact aX _ _
    |(refine(ot _).bind ?_;rintro p _ rfl;exact Dr _ _ _)
  |pointer b=>
   simp only[bh]at g i⊢;cases j
   case eql=>exact g
   case neq=>exact i
   all_goals
    cases a<;>cases b<;>first
    |exact aX _ _
    |(refine(ot _).bind ?_;rintro p _ rfl;refine(ot _).bind ?_;rintro q _ rfl;first|exact Pd h _ _ _|exact Pc h _ _ _)
  |_=>
   simp only[bQ,bJ,bZ,bD,bh,bg,cg,bY,bz,bm,bk,bE,cj,bV]at g i⊢;cases j
   case eql=>exact g
   case neq=>exact i
   all_goals cases a<;>exact aX _ _
 |int k n=>
  cases y with
  |int l o=>
   simp only[bj];cases j
   case shl=>exact D7 h .shl k l n o
   case shr=>exact D7 h .shr k l n o
   all_goals
    refine bq (c:=k≠l) bv (λ_=>aD _ _) λ_=>?_
    first|exact yT _ _ _ _|exact PI h _ _ _ _|exact DJ _ _ _ _|exact PF _ _ _
  |pointer a=>
   simp only[bj,bh]at g i⊢;cases j
   case eql=>exact g
   case neq=>exact i
   case add=>exact yX _ _ _ _
   all_goals
    cases a<;>first
    |exact aX _ _
    |(refine(ot _).bind ?_;rintro p _ rfl;exact Dr _ _ _)
  |_=>simp only[bQ,bj,bJ,bZ,bD,bg,cg,bY,bz,bm,bk,bE,cj,bV]at g i⊢;cases j<;>first|exact aD _ _|exact g|exact i
 |float k n=>
  cases y with
  |float l o=>simp only[bJ];cases j<;>(refine bq (c:=k≠l) bv (λ_=>aD _ _) λ_=>?_;first|exact zF (EW _ _ _ _)|exact zF (EX _ _ _ _))
  |pointer a=>
   simp only[bJ,bh]at g i⊢;cases j
   case eql=>exact g
   case neq=>exact i
   all_goals cases a<;>exact aX _ _
  |_=>simp only[bQ,bj,bJ,bZ,bD,bg,cg,bY,bz,bm,bk,bE,cj,bV]at g i⊢;cases j<;>first|exact aD _ _|exact g|exact i
 |complex k n m=>
  cases y with
  |complex l o u=>simp only[bZ];cases j<;>exact bq (c:=k≠l) bv (λ_=>aD _ _) λ_=>zF (Ru _ _ _ _ _ _)
  |pointer a=>
   simp only[bZ,bh]at g i⊢;cases j
   case eql=>exact g
   case neq=>exact i
   all_goals cases a<;>exact aX _ _
  |_=>simp only[bQ,bj,bJ,bZ,bD,bg,cg,bY,bz,bm,bk,bE,cj,bV]at g i⊢;cases j<;>first|exact aD _ _|exact g|exact i
 |string s=>
  cases y with
  |string s2=>
   have e:binOp j t (.string s) (.string s2)=Op.stringOp j s s2:=by cases j<;>rfl
   simp only[bD,e];exact D8 _ _ _
  |pointer a=>
   simp only[bD,bh]at g i⊢;cases j
   case eql=>exact g
   case neq=>exact i
   all_goals cases a<;>exact aX _ _
  |_=>simp only[bQ,bj,bJ,bZ,bD,bg,cg,bY,bz,bm,bk,bE,cj,bV]at g i⊢;cases j<;>first|exact aD _ _|exact g|exact i
 |_=>
  cases y with
  |pointer a=>
   simp only[bQ,bh,bg,cg,bY,bz,bm,bk,bE,cj,bV]at g i⊢;cases j
   case eql=>exact g
   case neq=>exact i
   all_goals cases a<;>exact aX _ _
  |_=>simp only[bQ,bj,bJ,bZ,bD,bg,cg,bY,bz,bm,bk,bE,cj,bV]at g i⊢;cases j<;>first|exact aD _ _|exact g|exact i
variable{T:Tables}{F F':Array Func}{f:Nat->Nat}
def a5N(a:Array af)(i:Nat):(a.map (ak f))[i]?=(a[i]?).map (ak f):=by simp
def yU(x):SE T F F' f Eq (Builtin.lenOf x) (Builtin.lenOf (ak f x)):=by cases x<;>simp only[bQ,bj,bJ,bZ,bD,bh,bg,cg,bY,bz,bm,bk,bE,cj,bV]<;>first|exact aD _ _|exact ax rfl
def nr(s n x):SE T F F' f (aC (Array.map (ak f))) (Builtin.firstCells s n x) (Builtin.firstCells s n (ak f x)):=by
 cases x<;>simp only[bQ,bj,bJ,bZ,bD,bh,bg,cg,bY,bz,bm,bk,bE,cj,bV]<;>try exact aD _ _
 .refine ax ?_;simp only[aC];rw[An];intro x d;obtain⟨b,_,rfl⟩:=l9.1 d;simp[bu]
 .rename_i a l c;cases a with
  |none=>exact ax (by simp[aC])
  |some a=>exact uQ a _
def PJ(b t args):SE T F F' f (aC (ak f)) (Builtin.len_ b t args) (Builtin.len_ b t (args.map (ak f))):=by
 unfold Builtin.len_;rw[a5N];cases b[0]? with
 |none=>exact aD _ _
 |some u=>
  cases args[0]? with
  |none=>exact aD _ _
  |some x=>
   dsimp only[Option.map_some];refine(cH u).bind ?_;rintro d _ rfl;cases x with
   |slice a l c=>rw[bg];cases d<;>first|exact aD _ _|exact ax (by simp[aC,goInt])|(refine(cH _).bind ?_;rintro e _ rfl;cases e<;>first|exact aD _ _|exact ax (by simp[aC,goInt]))
   |string s=>rw[bD];cases d<;>first|exact aD _ _|exact ax (by simp[aC,goInt])|(refine(cH _).bind ?_;rintro e _ rfl;cases e<;>first|exact aD _ _|exact ax (by simp[aC,goInt]))
   |map r=>
    rw[cg];cases r with
    |none=>cases d<;>first|exact aD _ _|exact ax (by simp[aC,goInt])|(refine(cH _).bind ?_;rintro e _ rfl;cases e<;>first|exact aD _ _|exact ax (by simp[aC,goInt]))
    |some r=>
     cases d<;>first|exact aD _ _|exact ax (by simp[aC,goInt])|(refine(cH _).bind ?_;rintro e _ rfl;cases e<;>first|exact aD _ _|exact ax (by simp[aC,goInt]))|skip
     refine(mE r).bind ?_;rintro o _ (⟨rfl,_⟩|⟨rfl,_⟩);rotate_left
     .exact aD _ _
     cases o<;>first|exact aD _ _|exact ax (by simp[aC,goInt])
   |chan r=>
    rw[bY];cases r with
    |none=>cases d<;>first|exact aD _ _|exact ax (by simp[aC,goInt])|(refine(cH _).bind ?_;rintro e _ rfl;cases e<;>first|exact aD _ _|exact ax (by simp[aC,goInt]))
    |some r=>
     cases d<;>first|exact aD _ _|exact ax (by simp[aC,goInt])|(refine(cH _).bind ?_;rintro e _ rfl;cases e<;>first|exact aD _ _|exact ax (by simp[aC,goInt]))|skip
     refine(mE r).bind ?_;rintro o _ (⟨rfl,_⟩|⟨rfl,_⟩);rotate_left
     .exact aD _ _
     cases o<;>first|exact aD _ _|exact ax (by simp[aC,goInt])
   |_=>simp only[bQ,bj,bJ,bZ,bh,bz,bm,bk,bE,cj,bV];cases d<;>first|exact aD _ _|exact ax (by simp[aC,goInt])|(refine(cH _).bind ?_;rintro e _ rfl;cases e<;>first|exact aD _ _|exact ax (by simp[aC,goInt]))
def Pr(b t args):SE T F F' f (aC (ak f)) (Builtin.cap_ b t args) (Builtin.cap_ b t (args.map (ak f))):=by
 unfold Builtin.cap_;rw[a5N];cases b[0]? with
 |none=>exact aD _ _
 |some u=>
  cases args[0]? with
  |none=>exact aD _ _
  |some x=>
   dsimp only[Option.map_some];refine(cH u).bind ?_;rintro d _ rfl;cases x with
   |slice a l c=>rw[bg];cases d<;>first|exact aD _ _|exact ax (by simp[aC,goInt])|(refine(cH _).bind ?_;rintro e _ rfl;cases e<;>first|exact aD _ _|exact ax (by simp[aC,goInt]))
   |chan r=>
    rw[bY];cases r with
    |none=>cases d<;>first|exact aD _ _|exact ax (by simp[aC,goInt])|(refine(cH _).bind ?_;rintro e _ rfl;cases e<;>first|exact aD _ _|exact ax (by simp[aC,goInt]))
    |some r=>
     cases d<;>first|exact aD _ _|exact ax (by simp[aC,goInt])|(refine(cH _).bind ?_;rintro e _ rfl;cases e<;>first|exact aD _ _|exact ax (by simp[aC,goInt]))|skip
     refine(mE r).bind ?_;rintro o _ (⟨rfl,_⟩|⟨rfl,_⟩);rotate_left
     .exact aD _ _
     cases o<;>first|exact aD _ _|exact ax (by simp[aC,goInt])
   |_=>simp only[bQ,bj,bJ,bZ,bD,bh,cg,bz,bm,bk,bE,cj,bV];cases d<;>first|exact aD _ _|exact ax (by simp[aC,goInt])|(refine(cH _).bind ?_;rintro e _ rfl;cases e<;>first|exact aD _ _|exact ax (by simp[aC,goInt]))
def Pv(b t args):SE T F F' f (aC (ak f)) (Builtin.copy_ b t args) (Builtin.copy_ b t (args.map (ak f))):=by
 unfold Builtin.copy_;rw[a5N,a5N];cases b[0]? <;>cases args[0]? <;>cases args[1]? <;>try exact aD _ _
 rename_i u x y;dsimp only[Option.map_some];refine(cH u).bind ?_;rintro d _ rfl;cases d<;>try exact aD _ _
 cases x<;>simp only[bQ,bj,bJ,bZ,bD,bh,bg,cg,bY,bz,bm,bk,bE,cj,bV]<;>try exact aD _ _
 rename_i a l c;refine(yU y).bind ?_;rintro n _ rfl;refine(fW _).bind ?_;rintro s _ rfl;refine(nr s _ y).bind ?_;rintro e _ rfl;cases a with
 |none=>exact ax (by simp[aC,goInt])
 |some a=>have:=oA (T:=T) (F:=F) (F':=F') (f:=f) a e.toList 0;rw[<-iZ]at this;refine aE.bind this ?_;rintro _ _ _;exact ax (by simp[aC,goInt])
def tR{z}(h:z.map (ak f)=z)(n):(Builtin.zeroCells z n).map (ak f)=Builtin.zeroCells z n:=A8 h _
def Pt(h:Fit T f)(b t args):SE T F F' f (aC (ak f)) (Builtin.clear_ b t args) (Builtin.clear_ b t (args.map (ak f))):=by
 unfold Builtin.clear_;rw[a5N];cases b[0]? <;>cases args[0]? <;>try exact aD _ _
 rename_i u x;dsimp only[Option.map_some];refine(cH u).bind ?_;rintro d _ rfl;have fin:SE T F F' f (aC (ak f)) (pure (Value.tuple #[])) (pure (Value.tuple #[])):=ax (by simp[aC]);cases x with
 |map r=>
  rw[cg];cases r with
  |none=>cases d<;>exact fin
  |some r=>
   cases d<;>(
    refine(mE r).bind ?_;rintro o _ (⟨rfl,_⟩|⟨rfl,_⟩);rotate_left
    .exact aD _ _
    cases o<;>try exact aD _ _
    rename_i j g _;simp only[ct];exact aE.bind (R:=Eq) (⟨rfl,by simp[ct],⟨trivial,by simp[dead]⟩,rfl⟩:SE T F F' f Eq (setObj r (.map #[] g)) (setObj (f r) (.map #[] g))) λ_ _ _=>fin)
 |slice a l c=>
  rw[bg];cases a with
  |none=>cases d<;>exact fin
  |some a=>
   cases l with
   |zero=>cases d<;>exact fin
   |succ l=>
    cases d<;>try exact aD _ _
    rename_i e;refine(lM h e).bind ?_;rintro _ z ⟨rfl,i⟩;have:=oA (T:=T) (F:=F) (F':=F') (f:=f) a (Builtin.zeroCells z.cells (l+1)).toList 0;rw[<-iZ,tR (nk i)]at this;refine aE.bind this ?_;rintro _ _ _;exact fin
 |_=>simp only[bQ,bj,bJ,bZ,bD,bh,bY,bz,bm,bk,bE,cj,bV];cases d<;>exact aD _ _
def PP(x y):SE T F F' f (aC (ak f)) (Builtin.min2 x y) (Builtin.min2 (ak f x) (ak f y)):=by
 cases x with
 |int k a=>
  cases y with
  |int c b=>rw[bj,bj];exact ax (by simp[aC])
  |pointer b=>rw[bj,bh];cases b<;>first|exact aD _ _|exact aX _ _
  |_=>simp only[bQ,bj,bJ,bZ,bD,bg,cg,bY,bz,bm,bk,bE,cj,bV];exact aD _ _
 |float k a=>
  cases y with
  |float c b=>
   rw[bJ,bJ];unfold Builtin.min2;dsimp only;cases k.format.order a b with
   |none=>exact(iU _).bind λ_ _ e=>e▸ax (by simp[aC])
   |some o=>cases o<;>exact ax (by simp[aC])
  |pointer b=>rw[bJ,bh];cases b<;>first|exact aD _ _|exact aX _ _
  |_=>simp only[bQ,bj,bJ,bZ,bD,bg,cg,bY,bz,bm,bk,bE,cj,bV];exact aD _ _
 |string a=>
  cases y with
  |string b=>rw[bD,bD];refine(D8 .leq a b).bind ?_;rintro v _ rfl;refine(Dt v).bind ?_;rintro q _ rfl;exact ax (by simp[aC])
  |pointer b=>rw[bD,bh];cases b<;>first|exact aD _ _|exact aX _ _
  |_=>simp only[bQ,bj,bJ,bZ,bD,bg,cg,bY,bz,bm,bk,bE,cj,bV];exact aD _ _
 |pointer a=>
  rw[bh];cases a with
  |some a=>cases y<;>exact aX _ _
  |none=>
   cases y with
   |pointer b=>rw[bh];cases b<;>first|exact aD _ _|exact aX _ _
   |_=>simp only[bQ,bj,bJ,bZ,bD,bg,cg,bY,bz,bm,bk,bE,cj,bV];exact aD _ _
 |_=>
  cases y with
  |pointer b=>simp only[bQ,bZ,bh,bg,cg,bY,bz,bm,bk,bE,cj,bV];cases b<;>first|exact aD _ _|exact aX _ _
  |_=>simp only[bQ,bj,bJ,bZ,bD,bg,cg,bY,bz,bm,bk,bE,cj,bV];exact aD _ _
theorem DC:∀(l:List af) (x),SE T F F' f (aC (ak f)) (l.foldlM Builtin.min2 x) ((l.map (ak f)).foldlM Builtin.min2 (ak f x))
 |[],x=>ax rfl
 |y::l,x=>by simp only[cA,a7i];refine(PP x y).bind ?_;rintro v _ rfl;exact DC l v
def PO(a t args):SE T F F' f (aC (ak f)) (Builtin.min_ a t args) (Builtin.min_ a t (args.map (ak f))):=by
 unfold Builtin.min_;rw[iZ];cases args.toList with
 |nil=>exact aD _ _
 |cons x l=>exact DC l x
def DI(a n):SE T F F' f Eq (Builtin.holdsCells a n) (Builtin.holdsCells (aH f a) n):=by refine(jL a.block).bind ?_;rintro s _ rfl;cases s<;>exact ax rfl
def DO(h:Fit T f)(s l n b x):SE T F F' f Eq (Builtin.mayShare s l n b x) (Builtin.mayShare s l n (b.map (aH f)) (ak f x)):=by
 have d:SE T F F' f Eq (match x with| .slice (some c) _ _=>(do pure (!(<-Builtin.holdsCells c (n*s))||b.any (·.block==c.block)))|_=>pure false) (match ak f x with| .slice (some c) _ _=>(do pure (!(<-Builtin.holdsCells c (n*s))||(b.map (aH f)).any (·.block==c.block)))|_=>pure false):=by
  cases x<;>simp only[bQ,bj,bJ,bZ,bD,bh,bg,cg,bY,bz,bm,bk,bE,cj,bV]<;>try exact ax rfl
  rename_i c _ _;cases c with
  |none=>exact ax rfl
  |some c=>refine(DI c _).bind ?_;rintro r _ rfl;refine ax ?_;cases b<;>simp[oe h]
 unfold Builtin.mayShare;cases b with
 |none=>exact d
 |some a=>refine(DI a _).bind ?_;rintro r _ rfl;have e:=mD (T:=T) (F:=F) (F':=F') (f:=f) (a.add (l / 2*s));rw[<-kP]at e;refine aE.bind e ?_;rintro q _ rfl;refine bq bv (λ_=>ax rfl) λ_=>d
def Pg(h:Fit T f)(v t args):SE T F F' f (aC (ak f)) (Builtin.append_ v t args) (Builtin.append_ v t (args.map (ak f))):=by
 unfold Builtin.append_;rw[a5N,a5N];rcases h0:v[0]? with _|u
 .exact aD _ _
 rcases I:args[0]? with _|s
 .exact aD _ _
 rcases J:args[1]? with _|x
 .exact aD _ _
 clear h0 I J;rw[Option.map_some,Option.map_some];refine(cH u).bind ?_;rintro d _ rfl;cases d<;>try exact aD _ _
 rename_i g;cases s<;>simp only[bQ,bj,bJ,bZ,bD,bh,bg,cg,bY,bz,bm,bk,bE,cj,bV]<;>try exact aD _ _
 rename_i base i q;refine(fW g).bind ?_;rintro j _ rfl;cases v[1]? with
 |none=>
  refine(yU x).bind ?_;rintro n _ rfl;refine bq bv (λ_=>?_) λ_=>?_
  .refine aE.bind (R:=aC (Array.map (ak f))) (nr j n x) ?_;rintro p _ rfl;cases base with
   |none=>exact ax (by simp[aC])
   |some a=>have w:=oA (T:=T) (F:=F) (F':=F') (f:=f) (a.add (i*j)) p.toList 0;rw[<-iZ,<-kP]at w;refine aE.bind w ?_;rintro _ _ _;exact ax (by simp[aC])
  .refine(fi g).bind ?_;rintro B _ rfl;refine bq bv (λ_=>lL h _) λ_=>?_;refine(fi g).bind ?_;rintro C _ rfl;refine bq bv (λ_=>aE.bind (R:=λ_ _=>False) ((DO h j i n base x).bind λb _ e=>by
     subst e;cases b
     .exact aE.bind (yW (m:=.noRoom) rfl) λ_ _ _=>aX _ _
     .exact aX _ _) λ_ _ x=>x.elim) λ_=>?_
   refine(iU _).bind ?_;rintro c _ rfl;refine(fi g).bind ?_;rintro D _ rfl;refine(uI _).bind ?_;rintro _ _ _;have o:=nr (T:=T) (F:=F) (F':=F') (f:=f) j i (.slice base i q);rw[bg]at o;refine aE.bind o ?_;rintro r _ rfl;refine aE.bind (R:=aC (Array.map (ak f))) (nr j n x) ?_;rintro p _ rfl;refine(lM h g).bind ?_;rintro _ z ⟨rfl,y⟩;have row:=nu (T:=T) (F:=F) (F':=F') (f:=f) g (r++p++Builtin.zeroCells z.cells (c - (i+n)));rw[iM,iM,tR (nk y)]at row;refine aE.bind row ?_;rintro a _ rfl;exact ax (by simp[aC])
 |some K=>
  refine(cH K).bind ?_;rintro k _ rfl;by_cases E:∃H,k=.int H
  .obtain⟨H,rfl⟩:=E;refine(pM x).bind ?_;rintro l _ rfl;refine bq bv (λ_=>lL h _) λ_=>?_;refine(fi g).bind ?_;rintro L _ rfl;refine bq bv (λ_=>?_) λ_=>?_
   .refine(iU _).bind ?_;rintro m _ rfl;exact lL h _
   .have A:∀n,SE T F F' f (aC (Array.map (ak f))) (if n*j=0 then pure #[]else (do pure (Builtin.zeroCells (<-zeroValue g).cells n))) (if n*j=0 then pure #[]else (do pure (Builtin.zeroCells (<-zeroValue g).cells n))):=by intro n;refine bq bv (λ_=>ax (by simp[aC])) λ_=>?_;refine(lM h g).bind ?_;rintro _ z ⟨rfl,y⟩;exact ax (tR (nk y) n).symm
    generalize M:(IntKind.i64.wrap l).toNat=n;simp only[A6];refine bq bv (λ_=>?_) λ_=>?_
    .refine aE.bind (R:=aC (Array.map (ak f))) (A n) ?_;rintro p _ rfl;cases base with
     |none=>exact ax (by simp[aC])
     |some a=>have w:=oA (T:=T) (F:=F) (F':=F') (f:=f) (a.add (i*j)) p.toList 0;rw[<-iZ,<-kP]at w;refine aE.bind w ?_;rintro _ _ _;exact ax (by simp[aC])
    .refine(fi g).bind ?_;rintro B _ rfl;refine bq bv (λ_=>lL h _) λ_=>?_;refine(fi g).bind ?_;rintro C _ rfl;refine bq bv (λ_=>aE.bind (R:=λ_ _=>False) (by rw[if_pos trivial,if_pos trivial];exact gE h _) λ_ _ x=>x.elim) λ_=>?_;refine(iU _).bind ?_;rintro c _ rfl;refine(fi g).bind ?_;rintro D _ rfl;refine(uI _).bind ?_;rintro _ _ _;have o:=nr (T:=T) (F:=F) (F':=F') (f:=f) j i (.slice base i q);rw[bg]at o;refine aE.bind o ?_;rintro r _ rfl;refine aE.bind (R:=aC (Array.map (ak f))) (A n) ?_;rintro p _ rfl;refine(lM h g).bind ?_;rintro _ z ⟨rfl,y⟩;have row:=nu (T:=T) (F:=F) (F':=F') (f:=f) g (r++p++Builtin.zeroCells z.cells (c - (i+n)));rw[iM,iM,tR (nk y)]at row;refine aE.bind row ?_;rintro a _ rfl;exact ax (by simp[aC])
  .cases k<;>first|exact absurd ⟨_,rfl⟩ E|skip
   all_goals(
    refine(yU x).bind ?_;rintro n _ rfl;refine bq bv (λ_=>?_) λ_=>?_
    .refine aE.bind (R:=aC (Array.map (ak f))) (nr j n x) ?_;rintro p _ rfl;cases base with
     |none=>exact ax (by simp[aC])
     |some a=>have w:=oA (T:=T) (F:=F) (F':=F') (f:=f) (a.add (i*j)) p.toList 0;rw[<-iZ,<-kP]at w;refine aE.bind w ?_;rintro _ _ _;exact ax (by simp[aC])
    .refine(fi g).bind ?_;rintro B _ rfl;refine bq bv (λ_=>lL h _) λ_=>?_;refine(fi g).bind ?_;rintro C _ rfl;refine bq bv (λ_=>aE.bind (R:=λ_ _=>False) ((DO h j i n base x).bind λb _ e=>by
       subst e;cases b
       .exact aE.bind (yW (m:=.noRoom) rfl) λ_ _ _=>aX _ _
       .exact aX _ _) λ_ _ x=>x.elim) λ_=>?_
     refine(iU _).bind ?_;rintro c _ rfl;refine(fi g).bind ?_;rintro D _ rfl;refine(uI _).bind ?_;rintro _ _ _;have o:=nr (T:=T) (F:=F) (F':=F') (f:=f) j i (.slice base i q);rw[bg]at o;refine aE.bind o ?_;rintro r _ rfl;refine aE.bind (R:=aC (Array.map (ak f))) (nr j n x) ?_;rintro p _ rfl;refine(lM h g).bind ?_;rintro _ z ⟨rfl,y⟩;have row:=nu (T:=T) (F:=F) (F':=F') (f:=f) g (r++p++Builtin.zeroCells z.cells (c - (i+n)));rw[iM,iM,tR (nk y)]at row;refine aE.bind row ?_;rintro a _ rfl;exact ax (by simp[aC]))
variable{T:Tables}{F F':Array Func}{f:Nat->Nat}
def oW(f:Nat->Nat):Place->Place
 | .val v=>.val (ak f v)
 | .var a=>.var (aH f a)
def rM(t x):SE T F F' f (aC (ak f)) (x.get t) ((oW f x).get t):=by
 cases x with
 |val v=>exact ax rfl
 |var a=>exact nt t a
theorem rL(h:Fit T f):∀p t x,SE T F F' f (aC λy=>(y.1,oW f y.2)) (follow p t x) (follow p t (oW f x))
 |[],t,x=>ax rfl
 |s::c,t,x=>by
  refine(cH s.struct).bind ?_;rintro d _ rfl;cases d<;>try exact aD _ _
  rename_i e;dsimp only;cases e[s.index]? with
  |none=>exact aD _ _
  |some g=>
   dsimp only;refine bq bv (λ_=>?_) λ_=>?_
   .refine(rM t x).bind ?_;rintro v _ rfl;refine(mC h v).bind ?_;rintro a _ rfl;refine(yP a g).bind ?_;rintro b _ rfl;exact rL h c g.type (.var b)
   .cases x with
    |var a=>refine(yP a g).bind ?_;rintro b _ rfl;exact rL h c g.type (.var b)
    |val v=>
     simp only[oW];cases v<;>simp only[bQ,bj,bJ,bZ,bD,bh,bg,cg,bY,bz,bm,bk,bE,cj,bV]<;>try exact aD _ _
     refine(kr _ _ _).bind ?_;rintro b _ rfl;exact rL h c g.type (.val b)
def Qh(h:Fit T f)(e t v a b):SE T F F' f (aC (ak f)) (Builtin.ssaWrapNilChk_ e t #[v,strVal a,strVal b]) (Builtin.ssaWrapNilChk_ e t #[ak f v,strVal a,strVal b]):=by
 cases v<;>simp only[bQ,bj,bJ,bZ,bD,bh,bg,cg,bY,bz,bm,bk,bE,cj,bV]<;>try exact aD _ _
 rename_i p;cases p with
 |some p=>exact ax (bh (f:=f) (some p)).symm
 |none=>
  refine(iU _).bind ?_;rintro c _ rfl;refine bq bv (λ_=>lL h _) λ_=>?_;dsimp only;cases e[0]? with
  |none=>exact aD _ _
  |some g=>
   refine(cH g).bind ?_;rintro d _ rfl;cases d<;>try exact aD _ _
   refine(fi _).bind ?_;rintro i _ rfl;split
   .split
    .split
     .exact gE h _
     .exact aX _ _
    .exact aD _ _
   .exact aD _ _
def DY(h:Fit T f)(g x b w):SE T F F' f (aC (ak f)) (receiverAt g x b w) (receiverAt g (oW f x) b w):=by
 refine(cH g).bind ?_;rintro d _ rfl;have c:∀e:aA,SE T F F' f (aC (ak f))
   (do let c<-x.get g;let c<-(match w with|some i=>Builtin.ssaWrapNilChk_ #[g] g #[c,strVal "",strVal i]|none=>(pure c:Sem af));loadVar e (<-asAddr c))
   (do let c<-(oW f x).get g;let c<-(match w with|some i=>Builtin.ssaWrapNilChk_ #[g] g #[c,strVal "",strVal i]|none=>(pure c:Sem af));loadVar e (<-asAddr c)):=by
  intro e;refine(rM g x).bind ?_;rintro v _ rfl;cases w with
  |none=>refine(mC h v).bind ?_;rintro a _ rfl;exact nt e a
  |some n=>refine(Qh h #[g] g v "" n).bind ?_;rintro v _ rfl;refine(mC h v).bind ?_;rintro a _ rfl;exact nt e a
 have j:SE T F F' f (aC (ak f)) (match b,x with|true,.var a=>pure (.pointer (some a))|true,.val _=>stuck "method row: a pointer method of a value without an address"|false,x=>x.get g) (match b,oW f x with|true,.var a=>pure (.pointer (some a))|true,.val _=>stuck "method row: a pointer method of a value without an address"|false,x=>x.get g):=by
  cases b with
  |false=>exact rM g x
  |true=>
   cases x with
   |var a=>exact ax (by simp[aC])
   |val v=>exact aD _ _
 cases w<;>cases d<;>cases b<;>cases x<;>first|exact j|exact rM g _|exact c _
def PX(h:Fit T f)(t v p b):SE T F F' f (aC (ak f)) (receiverVia t v p b) (receiverVia t (ak f v) p b):=by refine(rL h p.toList t (.val v)).bind ?_;rintro⟨a,x⟩ _ rfl;exact DY h a x b none
theorem DQ(h:Fit T f):∀n t v name,SE T F F' f (aC λy=>(y.1,ak f y.2)) (method n t v name) (method n t (ak f v) name)
 |0,_,_,_=>aX _ _
 |n+1,t,v,name=>by
  refine(fi t).bind ?_;rintro i _ rfl;dsimp only;cases i.methods.find? (·.name==name)with
  |none=>exact aD _ _
  |some m=>
   dsimp only;refine(rL h m.path.toList t (.val v)).bind ?_;rintro⟨a,x⟩ _ rfl;dsimp only;cases m.func with
   |none=>refine(rM a x).bind ?_;rintro y _ rfl;cases y<;>simp only[bQ,bj,bJ,bZ,bD,bh,bg,cg,bY,bz,bm,bk,bE,cj,bV]<;>first|exact aD _ _|exact DQ h n _ _ _|exact gE h _
   |some p=>obtain⟨g,b⟩:=p;dsimp only;refine(DY h a x b _).bind ?_;rintro r _ rfl;exact ax rfl
theorem uM:∀p t x,SE T F F' f (λa b=>b=a.map λy=>(y.1,y.2.map (ak f))) (followBlind p t x) (followBlind p t (x.map (ak f)))
 |[],t,x=>ax rfl
 |s::c,t,x=>by
  refine(cH s.struct).bind ?_;rintro d _ rfl;cases d<;>try exact aD _ _
  rename_i e;dsimp only;cases e[s.index]? with
  |none=>exact aD _ _
  |some g=>
   dsimp only;cases s.deref with
   |true=>
    cases x with
    |none=>exact ax rfl
    |some x=>
     simp only[Option.map_some];cases x<;>simp only[bQ,bj,bJ,bZ,bD,bh,bg,cg,bY,bz,bm,bk,bE,cj,bV]<;>try exact aD _ _
     rename_i a;cases a with
     |none=>exact ax rfl
     |some a=>exact uM c g.type none
   |false=>
    cases x with
    |none=>exact uM c g.type none
    |some x=>
     simp only[Option.map_some];cases x<;>simp only[bQ,bj,bJ,bZ,bD,bh,bg,cg,bY,bz,bm,bk,bE,cj,bV]<;>try exact aD _ _
     refine(kr _ _ _).bind ?_;rintro b _ rfl;exact uM c g.type (some b)
theorem DT:∀n t v name,SE T F F' f Eq (nilAhead n t v name) (nilAhead n t (ak f v) name)
 |0,_,_,_=>ax rfl
 |n+1,t,v,name=>by
  refine(fi t).bind ?_;rintro i _ rfl;cases i.methods.find? (·.name==name)with
  |none=>exact aD _ _
  |some m=>
   dsimp only;refine(uM m.path.toList t (some v)).bind ?_;rintro r _ rfl;cases r with
   |error r=>exact ax rfl
   |ok y=>
    obtain⟨b,x⟩:=y;simp only[Except.map];cases m.func with
    |none=>
     cases x with
     |none=>exact ax rfl
     |some x=>simp only[Option.map_some];cases x<;>simp only[bQ,bj,bJ,bZ,bD,bh,bg,cg,bY,bz,bm,bk,bE,cj,bV]<;>first|exact aD _ _|exact ax rfl|exact DT n _ _ _
    |some p=>
     obtain⟨g,c⟩:=p;cases c with
     |true=>exact ax rfl
     |false=>
      dsimp only;refine(cH b).bind ?_;rintro d _ rfl;cases d<;>try exact ax rfl
      cases x with
      |none=>exact ax rfl
      |some x=>
       simp only[Option.map_some];cases x<;>simp only[bQ,bj,bJ,bZ,bD,bh,bg,cg,bY,bz,bm,bk,bE,cj,bV]<;>try exact ax rfl
       rename_i a;cases a<;>exact ax rfl
variable{T:Tables}{F F':Array Func}{f:Nat->Nat}
def RN(F:Array Func)(G:Nat)(f:Nat->Nat):Next->Next->Prop
 | .value v,b=>b=.value (ak f v)
 | .skip,b=>b=.skip
 | .enter g e,b=>b=.enter g (e.map (ak f))/\∃i c,F[g]?=some i/\i.body=some c
 | .round l g h a c,b=>b=.round (f l) g (h.map (ak f)) a c/\(cV G a=true/\ep a=true)/\cV G c=true/\ep c=true
 | .defer d,b=>b=.defer (dJ f d)/\fG d.target=true
 |_,_=>False
def fB(T:Tables)(F F':Array Func)(e:Array af->Sem af):Prop:=∀f,Fit T f->∀a,SE T F F' f (aC (ak f)) (e a) (e (a.map (ak f)))
structure Twin (T:Tables) (F F':Array Func) (E:bc->Prop):Prop where
 size:F'.size=F.size
 zero:∀t i v,T.info? t=some i->i.zero=some v->bu v=true
 ahead:T.follows .staticDataAhead=true
 each:∀(g:bc) fn,F[g]?=some fn->∃fn',F'[g]?=some fn'/\fn'.results=fn.results/\fn'.norace=fn.norace/\(fn.name== "runtime.NumGoroutine")=false/\(fn'.name== "runtime.NumGoroutine")=false/\
  ((
   ∃c c',fn.body=some c/\fn'.body=some c'/\cV T.globals.size c=true/\(¬E g->fn'=fn))\/
   (fn.body=none/\fn'=fn/\Extern.findNext fn=none/\∃e,Extern.find fn=some e/\fB T F F' e)\/
   (fn.body=none/\fn'.body=none/\Extern.findNext fn=none/\Extern.find fn=none/\(fn.name.endsWith ".init" && !fn.name.startsWith "(" && !fn.name.startsWith "gosem.")=false))
class mj (P:ay):Prop where
 early:∀fr cs d g w,∃o w1 es,early P fr cs d g w=.ended o w1 es
def Y4{G}:∀{c},cV G c=true->readies c=[]:=by
 intro c;induction c with
 |region i m d=>intro h;simp only[cV,a6F]at h;simp only[readies,List.filterMap_eq_nil_iff];intro o n;have:=h o (by simpa using n);cases k:o.op<;>first|rfl|(rw[k]at this;simp[ij]at this)
 |seq a b e g=>intro h;simp only[cV,dW]at h;simp[readies,e h.1,g h.2]
 |cond x a b e g=>intro h;simp only[cV,dW]at h;simp[readies,e h.1.2,g h.2]
 |rangeFunc x l a b e g=>intro h;simp only[cV,dW]at h;simp[readies,e h.1.1.1.2,g h.1.1.2]
 |block i a j=>intro h;exact j h
 |loop a j=>intro h;exact j h
 |scope a j=>intro h;exact j h
 |_=>intro _;rfl
theorem Twin.early{E}(e:Twin T F F' E):mj ⟨T,F⟩:=by
 refine⟨λm n d g w=>?_⟩;have h:Program.stepOf ⟨T,F⟩ g=none:=by
  simp only[Program.stepOf,Array.findIdx?_eq_none_iff];intro o b;obtain⟨i,j,rfl⟩:=fI.1 b;obtain⟨_,_,_,_,_,_,k⟩:=e.each i _ (eF j);obtain⟨c,_,a,_,l,_⟩|⟨a,_⟩|⟨a,_⟩:=k
  .simp[a,Y4 l]
  .simp[a]
  .simp[a]
 simp only[Go.early,e.ahead,h,a6O,dj,if_false];exact⟨_,_,_,rfl⟩
def ox(h:Fit T f){E}(n:Twin T F F' E)(g args):SE T F F' f (RN F T.globals.size f) (callFunc g args) (callFunc g (args.map (ak f))):=by
 refine eI ?_;change SE T F F' f _ (match F[g]? with|none=>_|some d=>_) (match F'[g]? with|none=>_|some d=>_);cases m:F[g]? with
 |none=>exact aD _ _
 |some d=>
  obtain⟨o,i,_,_,p,j,q⟩:=n.each g d m;rw[i];dsimp only;simp only[p,j,dj,if_false];obtain⟨c,t,b,a,_,_⟩|⟨b,rfl,k,e,l,r⟩|⟨b,a,k,l,s⟩:=q
  .simp only[b,a,Option.isNone_some,dj,if_false];exact ax ⟨rfl,d,c,m,b⟩
  .simp only[b,a6Z,if_true];refine aE.bind (R:=Eq) (⟨⟨rfl,rfl⟩,rfl⟩:SE T F F' f Eq (mark (.extern g)) (mark (.extern g))) ?_;rintro _ _ _;simp only[k,l];refine aE.bind (r f h args) ?_;rintro v _ rfl;exact ax rfl
  .simp only[b,a,a6Z,if_true];refine aE.bind (R:=Eq) (⟨⟨rfl,rfl⟩,rfl⟩:SE T F F' f Eq (mark (.extern g)) (mark (.extern g))) ?_;rintro _ _ _;simp only[k,l,s,dj,if_false];exact aX _ _
def yM(h:Fit T f){E}(b:Twin T F F' E)(r name args):SE T F F' f (RN F T.globals.size f) (callMethod r name args) (callMethod (ak f r) name (args.map (ak f))):=by
 cases r<;>simp only[bQ,bj,bJ,bZ,bD,bh,bg,cg,bY,bz,bm,bk,bE,cj,bV]<;>try exact aD _ _
 .rename_i t v;refine eI ?_;refine(DQ h _ t v name).bind ?_;rintro⟨g,a⟩ _ rfl;have:=ox h b g (#[a]++args);rw[iM]at this;simpa using this
 .exact gE h .nilDeref
def Rn(l:List (Tmp×af)):∀(a:Array af),(l.foldl (λa x=>a.setIfInBounds x.1 x.2) a).map (ak f)=(l.map λx=>(x.1,ak f x.2)).foldl (λa x=>a.setIfInBounds x.1 x.2) (a.map (ak f)):=by
 induction l with
 |nil=>intro a;rfl
 |cons x l b=>intro a;simp only[a6D,cA];rw[b,a5K]
def rN(l):SE T F F' f (λa b=>b=nJ f a/\eM T.globals.size (.loop a)) (Instr.getLoop l) (Instr.getLoop (f l)):=by
 refine(mE l).bind ?_;rintro o _ (⟨rfl,c⟩|⟨rfl,_⟩);rotate_left
 .exact aD _ _
 cases o<;>first|exact aD _ _|exact ax ⟨rfl,c⟩
def Qi(l args):SE T F F' f (RN F T.globals.size f) (Instr.yield l args) (Instr.yield (f l) (args.map (ak f))):=by refine(rN l).bind ?_;rintro r _ ⟨rfl,a⟩;simp only[kK,nJ];refine bq bv (λ_=>aD _ _) λ_=>?_;refine ax ⟨?_,a.1,a.2.1⟩;congr 1;simp only[<-a6E];rw[Rn];congr 1;simp only[Array.toList_zip,iZ,List.zip_map_right];rfl
def Pp(h:Fit T f)(b)(c:okB b=true)(a t cs args):SE T F F' f (RN F T.globals.size f) (builtin b a t cs args) (builtin b a t cs (args.map (ak f))):=by
 cases b<;>simp only[okB,dj]at c
 .exact(Pg h a t args).bind λ_ _ e=>e▸ax rfl
 .exact(Pr a t args).bind λ_ _ e=>e▸ax rfl
 .exact(Pt h a t args).bind λ_ _ e=>e▸ax rfl
 .exact(Pv a t args).bind λ_ _ e=>e▸ax rfl
 .exact(PJ a t args).bind λ_ _ e=>e▸ax rfl
 .exact(PO a t args).bind λ_ _ e=>e▸ax rfl
def ns(h:Fit T f){E}(e:Twin T F F' E)(t)(m:fG t=true)(args):SE T F F' f (RN F T.globals.size f) (invoke t args) (invoke (iI f t) (args.map (ak f))):=by
 cases t with
 |nil=>exact gE h .nilDeref
 |builtin b i o q=>exact Pp h b m i o q args
 |collected r=>exact aD _ _
 |coroexit c=>simp[fG]at m
 |fn fn j=>
  cases fn with
  |func g=>have:=ox h e g (args++j);rw[iM]at this;exact this
  |method a=>
   change SE T F F' f _ (match args[0]? with|some r=>callMethod r a (args.extract 1 args.size)|_=>_) (match (args.map (ak f))[0]? with|some r=>callMethod r a ((args.map (ak f)).extract 1 (args.map (ak f)).size)|_=>_);rw[a5N];cases args[0]? with
   |none=>exact aD _ _
   |some r=>have:=yM h e r a (args.extract 1 args.size);rw[<-Am]at this;rw[kK];exact this
  |methodOf u a=>
   change SE T F F' f _ (match args[0]? with|some r=>(do let d<-underlying u;callMethod (match d with| .interface _=>r|_=>.iface u r) a (args.extract 1 args.size))|_=>_) (match (args.map (ak f))[0]? with|some r=>(do let d<-underlying u;callMethod (match d with| .interface _=>r|_=>.iface u r) a ((args.map (ak f)).extract 1 (args.map (ak f)).size))|_=>_);rw[a5N];cases args[0]? with
   |none=>exact aD _ _
   |some r=>refine(cH u).bind ?_;rintro d _ rfl;have n:=yM h e r a (args.extract 1 args.size);have k:=yM h e (.iface u r) a (args.extract 1 args.size);rw[<-Am]at n k;rw[bm]at k;rw[kK];cases d<;>first|exact k|exact n
  |via u p g b=>
   change SE T F F' f _ (match args[0]? with|some x=>(do callFunc g (#[<-receiverVia u x p b]++args.extract 1 args.size))|_=>_) (match (args.map (ak f))[0]? with|some x=>(do callFunc g (#[<-receiverVia u x p b]++(args.map (ak f)).extract 1 (args.map (ak f)).size))|_=>_);rw[a5N];cases args[0]? with
   |none=>exact aD _ _
   |some x=>refine(PX h u x p b).bind ?_;rintro r _ rfl;have:=ox h e g (#[r]++args.extract 1 args.size);rw[iM,<-Am]at this;rw[kK];simpa using this
  |yield l=>exact Qi l args
def rQ(v args):SE T F F' f (λa b=>b=dJ f a/\fG a.target=true) (Deferred.ofValue v args) (Deferred.ofValue (ak f v) (args.map (ak f))):=by
 cases v<;>simp only[bQ,bj,bJ,bZ,bD,bh,bg,cg,bY,bz,bm,bk,bE,cj,bV]<;>try exact aD _ _
 .exact ax ⟨by simp[dJ,iI],rfl⟩
 .exact ax ⟨rfl,rfl⟩
section
variable{ρ ρ':Operand->af}
def Ao{G}(c:∀x,jS G x=true->ρ' x=ak f (ρ x)){a:Array Operand}(b:a.all (jS G)=true):a.map ρ'=(a.map ρ).map (ak f):=by rw[a6P];apply lE;intro x d;rw[gO]at b;obtain⟨i,e,rfl⟩:=fI.1 d;exact c _ (b i e)
def DZ{G}(i:∀x,jS G x=true->ρ' x=ak f (ρ x))(c)(h:c.operands.all (jS G)=true)(m:GS c=true)(t):SE T F F' f (λa b=>b=dJ f a/\fG a.target=true) (resolve ρ c t) (resolve ρ' c t):=by
 obtain⟨d,e,n⟩:=c;have j:e.map ρ'=(e.map ρ).map (ak f):=by refine Ao i ?_;cases d<;>simp[Call.operands]at h<;>simp[h]
 cases d with
 |builtin b=>refine ax ⟨?_,m⟩;simp only[dJ,iI,j]
 |invoke r l=>have k:ρ' r=ak f (ρ r):=i r (by simp[Call.operands]at h;exact h.1);refine ax ⟨?_,rfl⟩;simp only[dJ,iI,jt,j,k];simp
 |value g=>have k:ρ' g=ak f (ρ g):=i g (by simp[Call.operands]at h;exact h.1);have:=rQ (T:=T) (F:=F) (F':=F') (f:=f) (ρ g) (e.map ρ);rw[<-k,<-j]at this;exact this
def PV(h:Fit T f)(x):SE T F F' f (aC (ak f)) (Instr.panic x) (Instr.panic (ak f x)):=by
 cases x<;>simp only[bQ,bj,bJ,bZ,bD,bh,bg,cg,bY,bz,bm,bk,bE,cj,bV]<;>first|exact aD _ _|exact oy _ _ (by simp;done)|skip
 refine aE.bind (R:=Eq) ?_ ?_
 .refine⟨rfl,rfl,λr=>?_⟩;cases r<;>first|exact aD _ _|exact eI (T:=T) (F:=F) (F':=F') (f:=f) (ax rfl)
 .rintro n _ rfl;exact bq bv (λ_=>oy _ _ (by simp)) λ_=>gE h _
def PT(h:Fit T f)(y:Operand)(i:ρ' y=ak f (ρ y))(dst g pos d guard):SE T F F' f (RN F T.globals.size f) (execOp ρ ⟨dst,.nilCheck y,g,pos,d,guard⟩) (execOp ρ' ⟨dst,.nilCheck y,g,pos,d,guard⟩):=by
 unfold execOp;dsimp only;rw[i];generalize ρ y=x;have c:SE T F F' f (RN F T.globals.size f) (pure (.value x)) (pure (.value (ak f x))):=ax rfl;cases x with
 |pointer a=>rw[bh]at*;cases a<;>first|exact gE h _|exact c
 |nilIface=>rw[bV];exact gE h _
 |nilFunc=>rw[cj];exact gE h _
 |func j first k=>
  rw[bz]at*;cases j with
  |method e=>
   simp only[jt]at c⊢;rw[a5N];cases first[0]? with
   |none=>exact c
   |some r=>
    simp only[Option.map_some];cases r<;>simp only[bQ,bj,bJ,bZ,bD,bh,bg,cg,bY,bz,bm,bk,bE,cj,bV]<;>try exact c
    .rename_i t w;refine eI ?_;refine(DT _ t w e).bind ?_;rintro b _ rfl;exact bq bv (λ_=>aX _ _) λ_=>c
    .exact gE h _
  |_=>exact c
 |_=>simp only[bQ,bj,bJ,bZ,bD,bg,cg,bY,bm,bk,bE]at c⊢;exact c
def gT{s s'}(h:SE T F F' f (aC (ak f)) s s'):SE T F F' f (RN F T.globals.size f) (do pure (.value (<-s))) (do pure (.value (<-s'))):=aE.bind h λ_ _ e=>e▸ax rfl
def Qd{s s'}(h:SE T F F' f Eq s s'):SE T F F' f (RN F T.globals.size f) (do s;pure .skip) (do s';pure .skip):=aE.bind h λ_ _ _=>ax rfl
def uL(h:Fit T f){E}(O:Twin T F F' E)(v:∀x,jS T.globals.size x=true->ρ' x=ak f (ρ x))(o)(K:ij T.globals.size o.op=true):SE T F F' f (RN F T.globals.size f) (execOp ρ o) (execOp ρ' o):=by
 obtain⟨P,k,L,Q,B,guard⟩:=o;simp only[ij,dW]at K;obtain⟨j,w⟩:=K;have one:∀x,x∈k.operands->ρ' x=ak f (ρ x):=λx m=>v x (by
  rw[gO]at j;obtain⟨i,r,rfl⟩:=fI.1 m;exact j i r)
 cases k with
 |move x=>exact ax (congrArg Next.value (one x (by simp[Op.operands])))
 |assign x=>exact ax (congrArg Next.value (one x (by simp[Op.operands])))
 |pick c a b=>
  have C:=one c (by simp[Op.operands]);have D:=one a (by simp[Op.operands]);have R:=one b (by simp[Op.operands]);have l:=Dt (T:=T) (F:=F) (F':=F') (f:=f) (ρ c);rw[<-C]at l;refine aE.bind l ?_;rintro q _ rfl;cases q
  .exact ax (congrArg Next.value R)
  .exact ax (congrArg Next.value D)
 |alloc e=>exact gT (Pe h e)
 |box e x=>have g:=one x (by simp[Op.operands]);have l:=Pm (T:=T) (F:=F) (F':=F') (f:=f) e (ρ x);rw[<-g]at l;exact gT l
 |load t x=>have g:=one x (by simp[Op.operands]);have l:=yV (T:=T) (F:=F) (F':=F') (f:=f) t (ρ x);rw[<-g]at l;exact gT l
 |store t a x=>have D:=one a (by simp[Op.operands]);have g:=one x (by simp[Op.operands]);have l:=P7 (T:=T) (F:=F) (F':=F') (f:=f) t (ρ a) (ρ x);rw[<-D,<-g]at l;exact Qd l
 |build t p=>
  have H:(p.map λx=>(x.1,ρ' x.2))=(p.map λx=>(x.1,ρ x.2)).map λx=>(x.1,ak f x.2):=by rw[a6P];apply lE;intro x m;simp only[Function.comp];rw[one x.2 (by simp only[Op.operands,dK,eS];exact⟨x,by simpa using m,rfl⟩)]
  have l:=Pn (F:=F) (F':=F') h t (p.map λx=>(x.1,ρ x.2));rw[<-H]at l;exact gT l
 |buildSlice t n p=>
  have H:(p.map λx=>(x.1,ρ' x.2))=(p.map λx=>(x.1,ρ x.2)).map λx=>(x.1,ak f x.2):=by rw[a6P];apply lE;intro x m;simp only[Function.comp];rw[one x.2 (by simp only[Op.operands,dK,eS];exact⟨x,by simpa using m,rfl⟩)]
  have l:=Po (F:=F) (F':=F') h t n (p.map λx=>(x.1,ρ x.2));rw[<-H]at l;exact gT l
 |nilCheck x=>have g:=one x (by simp[Op.operands]);exact PT h x g _ _ _ _ _
 |binOp k t x y u=>have g:=one x (by simp[Op.operands]);have S:=one y (by simp[Op.operands]);have M:=Px (T:=T) (F:=F) (F':=F') (f:=f) k t x y (ρ x) (ρ y);have N:=Pk (F:=F) (F':=F') h k t (ρ x) (ρ y);rw[<-g,<-S]at M N;exact gT (aE.bind M λ_ _ _=>N)
 |unOp k t x=>have g:=one x (by simp[Op.operands]);have l:=Qe (T:=T) (F:=F) (F':=F') (f:=f) k (ρ x);rw[<-g]at l;exact gT l
 |convert s d x=>have g:=one x (by simp[Op.operands]);have l:=rK (T:=T) (F:=F) (F':=F') (f:=f) s d (ρ x);rw[<-g]at l;exact gT l
 |makeInterface t x=>have g:=one x (by simp[Op.operands]);have l:=PK (T:=T) (F:=F) (F':=F') (f:=f) t (ρ x);rw[<-g]at l;exact gT l
 |makeFunc fn a b=>
  have U:a.map ρ'=(a.map ρ).map (ak f):=Ao v (by simp[Op.operands]at j;simp[j]);have V:b.map ρ'=(b.map ρ).map (ak f):=Ao v (by simp[Op.operands]at j;simp[j]);have W:jt f fn=fn:=by cases fn<;>first|rfl|simp[GU]at w
  refine ax ?_;change Next.value (.func fn (a.map ρ') (b.map ρ'))=.value (ak f (.func fn (a.map ρ) (b.map ρ)));rw[bz,W,U,V]
 |makeSlice t l c=>have X:=one l (by simp[Op.operands]);have C:=one c (by simp[Op.operands]);have q:=PL (F:=F) (F':=F') h t (ρ l) (ρ c);rw[<-X,<-C]at q;exact gT q
 |slice t x z r A=>
  have g:=one x (by simp[Op.operands]);have Y:z.map ρ'=(z.map ρ).map (ak f):=by cases z<;>simp;exact one _ (by simp[Op.operands])
  have Z:r.map ρ'=(r.map ρ).map (ak f):=by cases r<;>simp;exact one _ (by simp[Op.operands])
  have m:A.map ρ'=(A.map ρ).map (ak f):=by cases A<;>simp;exact one _ (by simp[Op.operands])
  have l:=P4 (F:=F) (F':=F') h t (ρ x) (z.map ρ) (r.map ρ) (A.map ρ);rw[<-g,<-Y,<-Z,<-m]at l;exact gT l
 |fieldAddr t x i=>have g:=one x (by simp[Op.operands]);have l:=PA (T:=T) (F:=F) (F':=F') (f:=f) t (ρ x) i;rw[<-g]at l;exact gT l
 |field t x i=>have g:=one x (by simp[Op.operands]);have l:=Pz (T:=T) (F:=F) (F':=F') (f:=f) t (ρ x) i;rw[<-g]at l;exact gT l
 |indexAddr t x i=>have g:=one x (by simp[Op.operands]);have I:=one i (by simp[Op.operands]);have l:=PE (F:=F) (F':=F') h t (ρ x) (ρ i);rw[<-g,<-I]at l;exact gT l
 |index t x i=>have g:=one x (by simp[Op.operands]);have I:=one i (by simp[Op.operands]);have l:=PD (F:=F) (F':=F') h t (ρ x) (ρ i);rw[<-g,<-I]at l;exact gT l
 |typeAssert x s t ok=>have g:=one x (by simp[Op.operands]);have l:=Qc (F:=F) (F':=F') h (ρ x) s t ok;rw[<-g]at l;exact gT l
 |extract x i=>have g:=one x (by simp[Op.operands]);have l:=Py (T:=T) (F:=F) (F':=F') (f:=f) (ρ x) i;rw[<-g]at l;exact gT l
 |panic x=>have g:=one x (by simp[Op.operands]);have l:=PV (F:=F) (F':=F') h (ρ x);rw[<-g]at l;exact gT l
 |call c=>refine aE.bind (DZ v c j w L) ?_;rintro d _ ⟨rfl,J⟩;exact ns h O d.target J d.args
 |defer c=>refine aE.bind (DZ v c j w L) ?_;rintro d _ ⟨rfl,J⟩;exact ax ⟨rfl,J⟩
 |_=>simp at w
end
end Go.Mir
end
