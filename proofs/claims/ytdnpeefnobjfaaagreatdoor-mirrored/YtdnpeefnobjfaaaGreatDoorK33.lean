import Derived.Test.YtdnpeefnobjfaaaGreatDoorK11
import Derived.Test.YtdnpeefnobjfaaaGreatDoorK14
set_option maxRecDepth 100000
set_option maxHeartbeats 4000000
set_option linter.all false
section
namespace Go.Mir
open Go.Extern
variable{T:Tables}{F F':Array Func}{f:Nat->Nat}
theorem FL(ms):Program.mayEmbedAPacks ⟨T,F'⟩ ms=Program.mayEmbedAPacks ⟨T,F⟩ ms:=rfl
def U1(d):∀t,Program.methodsOfAPack ⟨T,F'⟩ d t=Program.methodsOfAPack ⟨T,F⟩ d t:=by
 induction d with
 |zero=>intros;rfl
 |succ d a=>intro t;unfold Program.methodsOfAPack;simp only[wH (F:=F) (F':=F'),lY (F:=F) (F':=F'),FL (F:=F) (F':=F'),a]
def Va(d):∀t,Program.namesPacked ⟨T,F'⟩ d t=Program.namesPacked ⟨T,F⟩ d t:=by
 induction d with
 |zero=>intros;rfl
 |succ d a=>intro t;unfold Program.namesPacked;simp only[wH (F:=F) (F':=F'),FL (F:=F) (F':=F'),a];rfl
def yR{b a}(h:a=b)(u)(c:eO (.unsupported u)=true):SE T F F' f Eq (if b=true then unsupported u else (pure ():Sem Unit)) (if a=true then unsupported u else (pure ():Sem Unit)):=by
 subst h;cases a
 .exact ax rfl
 .exact jZ c _
def uR(s t):SE T F F' f Eq (Rtype.noPack s t) (Rtype.noPack s t):=eI (yR (wH t) _ rfl)
def rO(s t):SE T F F' f Eq (Rtype.noPackMethods s t) (Rtype.noPackMethods s t):=eI (eI (yR (U1 _ t) _ rfl))
def PU(s t):SE T F F' f Eq (Rtype.noPackNamed s t) (Rtype.noPackNamed s t):=eI (eI (yR (Va _ t) _ rfl))
def y9(t):SE T F F' f Eq (Rtype.spelt t) (Rtype.spelt t):=(PU _ t).bind λ_ _ _=>Ec t
def yY(h:Fit T f)(v):SE T F F' f Eq (Rtype.ofHandle v) (Rtype.ofHandle (ak f v)):=by
 refine eI ?_;have b:handleType ⟨T,F'⟩ (ak f v)=handleType ⟨T,F⟩ v:=by
  cases v<;>simp only[bQ,bj,bJ,bZ,bD,bh,bg,cg,bY,bz,bm,bk,bE,cj,bV]<;>try rfl
  rename_i a;cases a with
  |none=>rfl
  |some a=>
   have:(f a.block==T.globals.size)=(a.block==T.globals.size):=by have c:=oe h a.block T.globals.size;rw[h.low T.globals.size (by omega)]at c;exact c
   simp only[Option.map_some,handleType,qn,wT,this]
 rw[b];cases handleType ⟨T,F⟩ v with
 |none=>exact aD _ _
 |some t=>exact ax rfl
def DG(h:Fit T f)(t):SE T F F' f (aC (ak f)) (Rtype.handle t) (Rtype.handle t):=by refine eI ?_;refine ax ?_;simp[aC,typeHandle,aH,h.low T.globals.size (by omega)]
def Dv(s):SE T F F' f Eq (cutType s) (cutType s):=by
 refine eI ?_;change SE T F F' f Eq (match T.cutTypes.find? (·.1==s)with|some (_,t)=>pure t|none=>stuck _) (match T.cutTypes.find? (·.1==s)with|some (_,t)=>pure t|none=>stuck _);cases T.cutTypes.find? (·.1==s)with
 |none=>exact aD _ _
 |some x=>exact ax rfl
def pP(t):SE T F F' f Eq (Rtype.under t) (Rtype.under t):=by
 refine(fi t).bind ?_;rintro i _ rfl;split
 .exact(fi _).bind λ_ _ e=>e▸ax rfl
 .exact ax rfl
def uO(t):SE T F F' f Eq (Rtype.kind t) (Rtype.kind t):=by refine(pP t).bind ?_;rintro⟨u,i⟩ _ rfl;dsimp only;split<;>first|exact ax rfl|exact aD _ _
def Dx(t):SE T F F' f Eq (Rtype.elem? t) (Rtype.elem? t):=by refine(pP t).bind ?_;rintro⟨u,i⟩ _ rfl;dsimp only;split<;>exact ax rfl
def DH(t):SE T F F' f Eq (Rtype.hasName t) (Rtype.hasName t):=by refine(fi t).bind ?_;rintro i _ rfl;split<;>exact ax rfl
def yS(a b):SE T F F' f Eq (Rtype.implements a b) (Rtype.implements a b):=by
 refine(rO _ b).bind ?_;rintro _ _ _;refine(rO _ a).bind ?_;rintro _ _ _;refine(pP a).bind ?_;rintro⟨u,i⟩ _ rfl;refine(pP b).bind ?_;rintro⟨u2,c⟩ _ rfl;dsimp only;split
 .exact ax rfl
 .exact(fi _).bind λ_ _ e=>e▸ax rfl
 .exact ax rfl
def Dw(a b):SE T F F' f Eq (Rtype.directlyAssignable a b) (Rtype.directlyAssignable a b):=by unfold Rtype.directlyAssignable;dsimp only;refine bq bv (λ_=>ax rfl) λ_=>?_;refine(DH a).bind ?_;rintro x _ rfl;refine(DH b).bind ?_;rintro y _ rfl;refine bq bv (λ_=>ax rfl) λ_=>?_;refine(pP a).bind ?_;rintro⟨u,i⟩ _ rfl;refine(pP b).bind ?_;rintro⟨u2,c⟩ _ rfl;dsimp only;split<;>exact ax rfl
def y7{α β R}(s):SE T F F' f R (panicString (α:=α) s) (panicString (α:=β) s):=by refine eI ?_;exact oy _ _ (by simp[strVal])
def DW{α β γ δ R}(s){g:γ->Sem α}{g':δ->Sem β}:SE T F F' f R (panicString s>>=g) (panicString s>>=g'):=aE.bind (R:=λ_ _=>False) (y7 s) λ_ _ x=>x.elim
def oB{α β R}(m k):SE T F F' f R (ReflectliteValue.valueError (α:=α) m k) (ReflectliteValue.valueError (α:=β) m k):=by refine(Dv _).bind ?_;rintro t _ rfl;refine(yN t).bind ?_;rintro e _ rfl;have:=pO (T:=T) (F:=F) (F':=F') (f:=f) e (.agg #[strVal m,.int .u8 (Int.ofNat k)]);simp only[bk,iu,cA,d7,bj,strVal,bD]at this;refine aE.bind this ?_;rintro x _ rfl;exact oy _ _ (by simp)
def Ee{α β γ δ R}(m k){g:γ->Sem α}{g':δ->Sem β}:SE T F F' f R (ReflectliteValue.valueError m k>>=g) (ReflectliteValue.valueError m k>>=g'):=aE.bind (R:=λ_ _=>False) (oB m k) λ_ _ x=>x.elim
def za(h:Fit T f)(t):SE T F F' f (aC (ak f)) (ReflectliteType.toType t) (ReflectliteType.toType t):=by refine(Dv _).bind ?_;rintro c _ rfl;refine(DG h t).bind ?_;rintro v _ rfl;exact ax (by simp[aC])
def DS(h:Fit T f)(t a b):SE T F F' f (aC (ak f)) (ReflectliteValue.mk t a b) (ReflectliteValue.mk t (aH f a) b):=by refine(DG h t).bind ?_;rintro v _ rfl;refine(uO t).bind ?_;rintro k _ rfl;exact ax (by simp[aC])
def Ed(h:Fit T f)(v):SE T F F' f (aC (ak f)) (ReflectliteValue.unpack v) (ReflectliteValue.unpack (ak f v)):=by
 cases v<;>simp only[bQ,bj,bJ,bZ,bD,bh,bg,cg,bY,bz,bm,bk,bE,cj,bV]<;>try exact aD _ _
 .rename_i t v;refine(pO t v).bind ?_;rintro a _ rfl;exact DS h t a 0
 .exact ax (by simp[aC,ReflectliteValue.zeroV])
def a4N:fB T F F' (λa=>ReflectliteValue.unpack (a.getD 0 (.tuple #[]))):=by
 intro f h a;have:(a.map (ak f)).getD 0 (.tuple #[])=ak f (a.getD 0 (.tuple #[])):=by simp only[fR,fp];cases a[0]? <;>simp
 dsimp only;rw[this];exact Ed h _
def a4J:fB T F F' Atomic.storeT:=by
 intro f h d;obtain⟨_|⟨a,_|⟨b,_|⟨c,l⟩⟩⟩⟩:=d<;>simp only[iu,cA,d7]<;>try exact aD _ _
 refine(mC h a).bind ?_;rintro x _ rfl;refine(rR .atomic x b).bind ?_;rintro _ _ _;exact ax (by simp[aC,Atomic.none_])
def a4F:fB T F F' (Atomic.loadT .ptr):=by
 intro f h c;obtain⟨_|⟨a,_|⟨b,l⟩⟩⟩:=c<;>simp only[iu,cA,d7]<;>try exact aD _ _
 refine(mC h a).bind ?_;rintro x _ rfl;refine(uP .atomic x).bind ?_;rintro v _ rfl;cases v<;>simp only[bQ,bj,bJ,bZ,bD,bh,bg,cg,bY,bz,bm,bk,bE,cj,bV]<;>first|exact aX _ _|exact ax (by simp[aC])
variable{T:Tables}{F F':Array Func}{f:Nat->Nat}
def Bb(f:Nat->Nat)(o:Option (aA×ap×Nat)):Option (aA×ap×Nat):=o.map λx=>(x.1,aH f x.2.1,x.2.2)
def DV(h:Fit T f)(v):SE T F F' f (aC (Bb f)) (ReflectliteValue.partsAny v) (ReflectliteValue.partsAny (ak f v)):=by
 cases v<;>simp only[bQ,bj,bJ,bZ,bD,bh,bg,cg,bY,bz,bm,bk,bE,cj,bV]<;>try exact aD _ _
 rename_i a;obtain⟨_|⟨x,_|⟨y,_|⟨z,_|⟨w,l⟩⟩⟩⟩⟩:=a<;>simp only[iu,cA,d7]<;>try exact aD _ _
 cases z<;>simp only[bQ,bj,bJ,bZ,bD,bh,bg,cg,bY,bz,bm,bk,bE,cj,bV]<;>try exact(by unfold ReflectliteValue.partsAny;exact aD _ _)
 rename_i k n;cases k<;>try exact aD _ _
 have b:∀n:Int,n≠0->∀v,ReflectliteValue.partsAny (.agg #[x,v,.int .u64 n])=(match v with| .pointer (some a)=>(do pure (some (<-Rtype.ofHandle x,a,n.toNat)))|_=>stuck "reflectlite: a Value expected")/\ReflectliteValue.partsAny (.agg #[ak f x,v,.int .u64 n])=(match v with| .pointer (some a)=>(do pure (some (<-Rtype.ofHandle (ak f x),a,n.toNat)))|_=>stuck "reflectlite: a Value expected"):=by
  intro n c v;obtain(_|m)|m:=n
  .exact absurd rfl c
  all_goals cases v<;>first|exact⟨rfl,rfl⟩|(rename_i o;cases o<;>exact⟨rfl,rfl⟩)
 by_cases h0:n=0
 .subst h0;exact ax rfl
 .rw[(b n h0 y).1,(b n h0 (ak f y)).2];cases y<;>simp only[bQ,bj,bJ,bZ,bD,bh,bg,cg,bY,bz,bm,bk,bE,cj,bV]<;>try exact aD _ _
  rename_i o;cases o with
  |none=>exact aD _ _
  |some a=>refine(yY h x).bind ?_;rintro t _ rfl;exact ax rfl
def y8(h:Fit T f)(v):SE T F F' f (aC (Bb f)) (ReflectliteValue.parts v) (ReflectliteValue.parts (ak f v)):=by
 refine(DV h v).bind ?_;rintro o _ rfl;cases o with
 |none=>exact ax rfl
 |some x=>obtain⟨t,a,b⟩:=x;refine(uR _ t).bind ?_;rintro _ _ _;exact ax rfl
def JC(z g)(d:∀f,Fit T f->SE T F F' f (aC (ak f)) z z)(e:∀f,Fit T f->∀t a k n,SE T F F' f (aC (ak f)) (g t a k n) (g t (aH f a) k n)):fB T F F' (ReflectliteValue.method z g):=by
 intro f h c;obtain⟨_|⟨a,_|⟨b,l⟩⟩⟩:=c<;>simp only[iu,cA,d7]<;>try exact aD _ _
 refine(y8 h a).bind ?_;rintro o _ rfl;cases o with
 |none=>exact d f h
 |some x=>exact e f h _ _ _ _
def a4G(z g)(d:∀f,Fit T f->SE T F F' f (aC (ak f)) z z)(e:∀f,Fit T f->∀t a k n,SE T F F' f (aC (ak f)) (g t a k n) (g t (aH f a) k n)):fB T F F' (ReflectliteValue.methodAny z g):=by
 intro f h c;obtain⟨_|⟨a,_|⟨b,l⟩⟩⟩:=c<;>simp only[iu,cA,d7]<;>try exact aD _ _
 refine(DV h a).bind ?_;rintro o _ rfl;cases o with
 |none=>exact d f h
 |some x=>exact e f h _ _ _ _
def a4K:fB T F F' (ReflectliteValue.methodAny (ReflectliteValue.valueError "reflectlite.Value.Type" 0) λt _ _ _=>ReflectliteType.toType t):=
 a4G _ _ (λ_ _=>oB _ _) λ_ h t _ _ _=>za h t
def a4D:fB T F F' (ReflectliteValue.method (ReflectliteValue.valueError "reflectlite.Value.IsNil" 0) ReflectliteValue.isNil):=by
 refine JC _ _ (λ_ _=>oB _ _) λf h t a k n=>?_;have b:SE T F F' f (aC (ak f)) (do match<-loadVar t a with| .chan none| .nilFunc| .nilIface| .map none| .pointer none| .slice none _ _=>pure (.bool true)|_=>pure (.bool false)) (do match<-loadVar t (aH f a)with| .chan none| .nilFunc| .nilIface| .map none| .pointer none| .slice none _ _=>pure (.bool true)|_=>pure (.bool false)):=by
  refine(nt t a).bind ?_;rintro v _ rfl;cases v<;>simp only[bQ,bj,bJ,bZ,bD,bh,bg,cg,bY,bz,bm,bk,bE,cj,bV]<;>first|exact ax (by simp[aC])|skip
  all_goals first|(rename_i o;cases o<;>exact ax (by simp[aC]))|(rename_i o _ _;cases o<;>exact ax (by simp[aC]))
 unfold ReflectliteValue.isNil;refine bq bv (λ_=>Ee _ _) λ_=>?_;exact b
def a4B:fB T F F' (ReflectliteValue.method (ReflectliteValue.valueError "reflectlite.Value.Elem" 0) ReflectliteValue.elem):=by
 refine JC _ _ (λ_ _=>oB _ _) λf h t a k n=>?_;unfold ReflectliteValue.elem;refine bq bv (λ_=>Ee _ _) λ_=>?_;refine(nt t a).bind ?_;rintro v _ rfl;refine(Dx t).bind ?_;rintro e _ rfl;by_cases b:n=20
 .subst b;exact Ed h v
 by_cases c:n=22
 .subst c;cases v<;>simp only[bQ,bj,bJ,bZ,bD,bh,bg,cg,bY,bz,bm,bk,bE,cj,bV]<;>first|exact oB _ _|skip
  rename_i o;cases o with
  |none=>exact ax (by simp[aC,ReflectliteValue.zeroV])
  |some p=>cases e<;>first|exact oB _ _|exact DS h _ _ _
 .split<;>rename_i d g x3<;>first|exact absurd rfl b|exact absurd rfl c|skip
  split<;>first|exact absurd rfl b|exact absurd rfl c|exact oB _ _
def a4M:fB T F F' ReflectliteType.typeOf:=by
 intro f h c;obtain⟨_|⟨a,_|⟨b,l⟩⟩⟩:=c<;>simp only[iu,cA,d7]<;>try exact aD _ _
 .cases a<;>simp only[bQ,bj,bJ,bZ,bD,bh,bg,cg,bY,bz,bm,bk,bE,cj,bV]<;>first|exact aD _ _|exact za h _|exact ax (by simp[aC])
def yZ(h:Fit T f)(v):SE T F F' f Eq (ReflectliteType.ofRtype v) (ReflectliteType.ofRtype (ak f v)):=by
 cases v<;>simp only[bQ,bj,bJ,bZ,bD,bh,bg,cg,bY,bz,bm,bk,bE,cj,bV]<;>try exact aD _ _
 rename_i a;obtain⟨_|⟨x,_|⟨y,l⟩⟩⟩:=a<;>simp only[iu,cA,d7]<;>try exact aD _ _
 refine(yY h x).bind ?_;rintro t _ rfl;refine(uR _ t).bind ?_;rintro _ _ _;exact ax rfl
def a4L(g)(d:∀f,Fit T f->∀t,SE T F F' f (aC (ak f)) (g t) (g t)):fB T F F' (ReflectliteType.method g):=by
 intro f h c;obtain⟨_|⟨a,_|⟨b,l⟩⟩⟩:=c<;>simp only[iu,cA,d7]<;>try exact aD _ _
 refine(yZ h a).bind ?_;rintro t _ rfl;exact d f h t
def a4A:fB T F F' (ReflectliteType.method ReflectliteType.elem):=by
 refine a4L _ λf h t=>?_;refine(Dx t).bind ?_;rintro e _ rfl;cases e with
 |some e=>exact za h e
 |none=>exact(y9 t).bind λ_ _ e=>e▸y7 _
def a4E:fB T F F' (ReflectliteType.abiMethod λt=>do pure (.int .u8 (<-Rtype.kind t))):=by
 intro f h c;obtain⟨_|⟨a,_|⟨b,l⟩⟩⟩:=c<;>simp only[iu,cA,d7]<;>try exact aD _ _
 refine(yY h a).bind ?_;rintro t _ rfl;refine(uR _ t).bind ?_;rintro _ _ _;refine(uO t).bind ?_;rintro k _ rfl;exact ax (by simp[aC])
def JD(d g)(i:∀f,Fit T f->∀t u,SE T F F' f Eq (g t u) (g t u)):fB T F F' (ReflectliteType.relation d g):=by
 intro f h e;obtain⟨_|⟨a,_|⟨b,_|⟨c,l⟩⟩⟩⟩:=e<;>simp only[iu,cA,d7]<;>try exact aD _ _
 .cases b<;>simp only[bQ,bj,bJ,bZ,bD,bh,bg,cg,bY,bz,bm,bk,bE,cj,bV]<;>first|exact aD _ _|exact y7 _|skip
  rename_i t u;refine(yZ h u).bind ?_;rintro x _ rfl;refine(yZ h a).bind ?_;rintro y _ rfl;refine(i f h x y).bind ?_;rintro b _ rfl;exact ax (by simp[aC])
def a4C:fB T F F' (ReflectliteType.relation "Implements" ReflectliteType.implements_):=by refine JD _ _ λf h u t=>?_;refine(uO u).bind ?_;rintro k _ rfl;refine bq bv (λ_=>DW _) λ_=>?_;refine(rO _ t).bind ?_;rintro _ _ _;refine(uR _ u).bind ?_;rintro _ _ _;exact yS u t
def a4y:fB T F F' (ReflectliteType.relation "AssignableTo" ReflectliteType.assignableTo):=by
 refine JD _ _ λf h u t=>?_;have a:SE T F F' f Eq (do pure ((<-Rtype.directlyAssignable u t)||(<-Rtype.implements u t)):Sem Bool) (do pure ((<-Rtype.directlyAssignable u t)||(<-Rtype.implements u t)):Sem Bool):=by refine(Dw u t).bind ?_;rintro x _ rfl;refine(yS u t).bind ?_;rintro y _ rfl;exact ax rfl
 unfold ReflectliteType.assignableTo;refine bq bv (λ_=>?_) λ_=>?_
 .refine(rO _ t).bind ?_;rintro _ _ _;refine(rO _ u).bind ?_;rintro _ _ _;exact a
 .exact a
variable{T:Tables}{F F':Array Func}{f:Nat->Nat}
def a4I:fB T F F' ReflectliteValue.set:=by
 intro f h j;obtain⟨_|⟨v,_|⟨x,_|⟨c,l⟩⟩⟩⟩:=j<;>simp only[iu,cA,d7]<;>try exact aD _ _
 unfold ReflectliteValue.set;refine(y8 h v).bind ?_;rintro o _ rfl;refine(y8 h x).bind ?_;rintro n _ rfl;cases o with
 |none=>exact jZ rfl _
 |some p=>
 cases n with
 |none=>exact jZ rfl _
 |some q=>
 obtain⟨e,a,t⟩:=p;obtain⟨g,b,r⟩:=q;simp only[Bb,Option.map_some];refine bq bv (λ_=>jZ rfl _) λ_=>?_;refine(nt g b).bind ?_;rintro i _ rfl;have fin:∀{y z:Sem Unit},SE T F F' f Eq y z->SE T F F' f (aC (ak f)) (y>>=λ_=>pure (.tuple #[])) (z>>=λ_=>pure (.tuple #[])):=by intro y z m;refine aE.bind m ?_;rintro _ _ _;exact ax (by simp[aC])
 refine(Dw e g).bind ?_;rintro d _ rfl;refine bq bv (λ_=>fin (uV e a i)) λ_=>?_;refine(yS e g).bind ?_;rintro u _ rfl;refine bq bv (λ_=>?_) λ_=>?_
 .refine(uO g).bind ?_;rintro k _ rfl;refine bq bv (λ_=>?_) λ_=>?_
  .have:=uV (T:=T) (F:=F) (F':=F') (f:=f) e a i;cases i<;>simp only[bQ,bj,bJ,bZ,bD,bh,bg,cg,bY,bz,bm,bk,bE,cj,bV]at this⊢ <;>first|exact jZ rfl _|exact fin this
  .have:=uV (T:=T) (F:=F) (F':=F') (f:=f) e a (.iface g i);rw[bm]at this;exact fin this
 .refine(y9 g).bind ?_;rintro s _ rfl;refine(y9 e).bind ?_;rintro s2 _ rfl;exact DW _
def a4H(p s):fB T F F' (SlicesOverlaps.overlaps p s):=by
 intro f h i;obtain⟨_|⟨v,_|⟨x,_|⟨c,l⟩⟩⟩⟩:=i<;>simp only[iu,cA,d7]<;>try exact(by first|exact aD _ _|(unfold SlicesOverlaps.overlaps;exact aD _ _))
 cases v<;>simp only[bQ,bj,bJ,bZ,bD,bh,bg,cg,bY,bz,bm,bk,bE,cj,bV]<;>try exact aD _ _
 rename_i a q u;cases x<;>simp only[bQ,bj,bJ,bZ,bD,bh,bg,cg,bY,bz,bm,bk,bE,cj,bV]<;>try exact aD _ _
 rename_i b r w;unfold SlicesOverlaps.overlaps;cases p[0]? with
 |none=>exact aD _ _
 |some t=>
 refine(cH t).bind ?_;rintro d _ rfl;cases d<;>try exact aD _ _
 rename_i j;refine(fW j).bind ?_;rintro e _ rfl;cases a with
 |none=>cases b<;>exact ax (by simp[aC])
 |some a=>
 cases b with
 |none=>exact ax (by simp[aC])
 |some b=>
 simp only[Option.map_some];have k:=oe h a.block b.block;refine bq bv (λ_=>ax (by simp[aC])) λ_=>?_;have o:((aH f a).block !=(aH f b).block)=(a.block !=b.block):=by simp only[qn,bne,k]
 have g:SE T F F' f (aC (ak f)) (pure (.bool (a.block==b.block&&decide (a.off<b.off+r*e)&&decide (b.off<a.off+q*e)))) (pure (.bool ((aH f a).block==(aH f b).block&&decide ((aH f a).off<(aH f b).off+r*e)&&decide ((aH f b).off<(aH f a).off+q*e)))):=by refine ax ?_;simp only[aC,qn,wT,k,bQ];rfl
 refine(mD a).bind ?_;rintro x _ rfl;refine(mD b).bind ?_;rintro y _ rfl;refine bq (by rw[o]) (λ_=>jZ rfl _) λ_=>?_;refine bq (by rw[o]) (λ_=>?_) λ_=>g;refine(rP a).bind ?_;rintro _ _ _;refine(rP b).bind ?_;rintro _ _ _;refine(DN a b).bind ?_;rintro m _ rfl;refine bq bv (λ_=>?_) λ_=>g;refine(iU _).bind ?_;rintro n _ rfl;exact ax (by simp[aC])
end Go.Mir
end
section
namespace Go.Mir
open Go Go.Extern
variable{T:Tables}{F F':Array Func}{f:Nat->Nat}
theorem Ds(at_):∀(l:List Nat),SE T F F' f Eq (l.anyM λi=>frozen {at_ with off:=at_.off+i,spot:=none}) (l.anyM λi=>frozen {aH f at_ with off:=(aH f at_).off+i,spot:=none})
 |[]=>ax rfl
 |x::l=>by
  refine aE.bind (mD {at_ with off:=at_.off+x,spot:=none}) ?_;rintro b _ rfl;cases b with
  |true=>exact ax rfl
  |false=>exact Ds at_ l
def Qb(a):SE T F F' f Eq (Atomic.touchesFrozen a) (Atomic.touchesFrozen (aH f a)):=by
 refine(uX a.block).bind ?_;rintro o _ rfl;cases o with
 |none=>exact mD a
 |some q=>
  refine(fi q.2).bind ?_;rintro i _ rfl;dsimp only;split
  .exact jZ rfl _
  .exact Ds q.1 _
def DX(k)(b:k≠.u64)(a):SE T F F' f (λv c=>c=v/\∃n,v=.int k n) (Atomic.read (.int k) a) (Atomic.read (.int k) (aH f a)):=by
 refine(uP .atomic a).bind ?_;rintro v _ rfl;cases v<;>simp only[bQ,bj,bJ,bZ,bD,bh,bg,cg,bY,bz,bm,bk,bE,cj,bV]
 case int d n=>
  by_cases h:k=d
  .subst h;simp only[if_true];exact ax ⟨rfl,n,rfl⟩
  .simp only[h,if_false];exact aX _ _
 case pointer p=>
  cases p with
  |none=>cases k<;>first|exact aX _ _|exact absurd rfl b
  |some p=>cases k<;>first|exact aX _ _|exact absurd rfl b
 all_goals(cases k<;>exact aX _ _)
def a4z:fB T F F' (Atomic.casT (.int .i32)):=by
 intro f h g;obtain⟨_|⟨a,_|⟨b,_|⟨c,_|⟨d,l⟩⟩⟩⟩⟩:=g<;>simp only[iu,cA,d7]<;>try exact aD _ _
 refine(mC h a).bind ?_;rintro x _ rfl;refine(Qb x).bind ?_;rintro q _ rfl;cases q with
 |true=>exact aX _ _
 |false=>
  refine(DX .i32 (by decide) x).bind ?_;rintro v _ ⟨rfl,n,rfl⟩;cases b<;>simp only[bQ,bj,bJ,bZ,bD,bh,bg,cg,bY,bz,bm,bk,bE,cj,bV]<;>try exact aD _ _
  case int k m=>
   refine aE.bind (R:=Eq) (ax rfl) ?_;rintro e _ rfl;cases e with
   |true=>refine(rR .atomic x c).bind ?_;rintro _ _ _;exact ax (by simp[aC])
   |false=>exact ax (by simp[aC])
  case pointer p=>
   cases p with
   |none=>exact aD _ _
   |some p=>
    obtain(_|n)|n:=n
    .refine aE.bind (R:=Eq) (ax rfl) ?_;rintro e _ rfl;cases e with
     |true=>refine(rR .atomic x c).bind ?_;rintro _ _ _;exact ax (by simp[aC])
     |false=>exact ax (by simp[aC])
    .exact jZ rfl _
    .exact jZ rfl _
def a4x:fB T F F' (Atomic.update (Op.intArith .add) .i32 true):=by
 intro f h d;obtain⟨_|⟨a,_|⟨b,_|⟨c,l⟩⟩⟩⟩:=d<;>simp only[iu,cA,d7]<;>try exact aD _ _
 refine(mC h a).bind ?_;rintro x _ rfl;refine(DX .i32 (by decide) x).bind ?_;rintro v _ ⟨rfl,n,rfl⟩;have e:SE T F F' f Eq (asInt (.int .i32 n)) (asInt (.int .i32 n)):=by
  have:=pM (T:=T) (F:=F) (F':=F') (f:=f) (.int .i32 n)
  rwa [bj]at this
 refine e.bind ?_;rintro i _ rfl;refine(pM b).bind ?_;rintro j _ rfl;refine(yT .add .i32 i j).bind ?_;rintro v _ rfl;refine(rR .atomic x v).bind ?_;rintro _ _ _;exact ax (by simp[aC])
end Go.Mir
end
section
namespace Go.Mir
def kn(T:Tables)(F F':Array Func)(E:bc->Prop)(g:bc):Prop:=∀fn,F[g]?=some fn->∃t,F'[g]?=some t/\t.results=fn.results/\t.norace=fn.norace/\(fn.name== "runtime.NumGoroutine")=false/\(t.name== "runtime.NumGoroutine")=false/\
 ((
  ∃c d,fn.body=some c/\t.body=some d/\cV T.globals.size c=true/\(¬E g->t=fn))\/
  (fn.body=none/\t=fn/\Extern.findNext fn=none/\∃e,Extern.find fn=some e/\(∀b f,fB T b f e)/\∀b a,NF ⟨T,b⟩ (e a))\/
  (fn.body=none/\t.body=none/\Extern.findNext fn=none/\Extern.find fn=none/\(fn.name.endsWith ".init" && !fn.name.startsWith "(" && !fn.name.startsWith "gosem.")=false))
variable{T:Tables}{F F':Array Func}{E:bc->Prop}{g:bc}{fn t:Func}
def a2Q(h:F[g]?=some fn)(f:F'[g]?=some fn)(d:(fn.body.any (cV T.globals.size)&& !(fn.name== "runtime.NumGoroutine"))=true):kn T F F' E g:=by
 intro x i;obtain rfl:fn=x:=dk (h.symm.trans i);simp only[dW,a6y]at d;obtain⟨b,e⟩:=d;cases a:fn.body with
 |none=>simp[a]at b
 |some c=>rw[a]at b;exact⟨fn,f,rfl,rfl,e,e,.inl ⟨c,c,by first|exact a|rfl,by first|exact a|rfl,by simpa using b,λ_=>rfl⟩⟩
def xC(h:F[g]?=some fn)(f:F'[g]?=some t)(i:E g)(j:t.results=fn.results)(k:t.norace=fn.norace)(e:(fn.body.any (cV T.globals.size)&&t.body.isSome&& !(fn.name== "runtime.NumGoroutine")&& !(t.name== "runtime.NumGoroutine"))=true):kn T F F' E g:=by
 intro x l;obtain rfl:fn=x:=dk (h.symm.trans l);simp only[dW,a6y]at e;obtain⟨⟨⟨a,m⟩,o⟩,p⟩:=e;obtain⟨q,b⟩:=Option.isSome_iff_exists.1 m;cases d:fn.body with
 |none=>simp[d]at a
 |some c=>rw[d]at a;exact⟨t,f,j,k,o,p,.inl ⟨c,q,by first|exact d|rfl,b,by simpa using a,λn=>absurd i n⟩⟩
def iX{e}(h:F[g]?=some fn)(i:F'[g]?=some fn)(d:(fn.body.isNone&& !(fn.name== "runtime.NumGoroutine"))=true)(j:Extern.findNext fn=none)(k:Extern.find fn=some e)(l:∀b m,fB T b m e)(n:∀b a,NF ⟨T,b⟩ (e a)):kn T F F' E g:=by intro x c;obtain rfl:fn=x:=dk (h.symm.trans c);simp only[dW,a6y]at d;obtain⟨o,f⟩:=d;exact⟨fn,i,rfl,rfl,f,f,.inr (.inl ⟨by simpa using o,rfl,j,e,k,l,n⟩)⟩
theorem Uu:Extern.allGenericRows.lookup "-" =none:=by kernel_rfl
theorem Ux:Extern.allTypedRows.lookup "-" =none:=by kernel_rfl
theorem Uw:Extern.allRows.lookup "-" =none:=by kernel_rfl
theorem Uv:Extern.allNextRows.lookup "-" =none:=by kernel_rfl
def Q3(fn):Extern.find (kQ fn)=none:=by simp only[Extern.find,kQ,Uu,Ux,Uw,kl];rfl
def Vk(fn):Extern.findNext (kQ fn)=none:=by simp only[Extern.findNext,kQ,Uv,kl];rfl
def a2P(h:F[g]?=some (kQ fn))(c:F'[g]?=some fn)(a:(fn.body.isNone&& !(fn.name== "runtime.NumGoroutine"))=true)(d:Extern.find (kQ fn)=none)(e:Extern.findNext (kQ fn)=none):kn T F F' E g:=by intro x f;obtain rfl:kQ fn=x:=dk (h.symm.trans f);simp only[dW,a6y]at a;obtain⟨b,i⟩:=a;exact⟨fn,c,rfl,rfl,by kernel_rfl,i,.inr (.inr ⟨by simpa[kQ]using b,by simpa using b,e,d,by kernel_rfl⟩)⟩
def kn.lB(h:kn T F F' E g)(fn)(i:F[g]?=some fn):∃t,F'[g]?=some t/\t.results=fn.results/\t.norace=fn.norace/\(fn.name== "runtime.NumGoroutine")=false/\(t.name== "runtime.NumGoroutine")=false/\((∃c j,fn.body=some c/\t.body=some j/\cV T.globals.size c=true/\(¬E g->t=fn))\/(fn.body=none/\t=fn/\Extern.findNext fn=none/\∃e,Extern.find fn=some e/\fB T F F' e)\/(fn.body=none/\t.body=none/\Extern.findNext fn=none/\Extern.find fn=none/\(fn.name.endsWith ".init" && !fn.name.startsWith "(" && !fn.name.startsWith "gosem.")=false)):=by
 obtain⟨t,k,l,n,o,p,f⟩:=h fn i;refine⟨t,k,l,n,o,p,?_⟩;obtain f|⟨a,b,c,e,d,m,_⟩|f:=f
 .exact .inl f
 .exact .inr (.inl ⟨a,b,c,e,d,m F F'⟩)
 .exact .inr (.inr f)
def kn.self(h:kn T F F' E g):kn T F F (λ_=>False) g:=by
 intro fn f;obtain⟨t,k,l,n,i,o,j⟩:=h fn f;refine⟨fn,f,rfl,rfl,i,i,?_⟩;obtain⟨c,p,a,_,b,_⟩|⟨a,_,c,e,d,m⟩|⟨a,_,b,c,d⟩:=j
 .exact .inl ⟨c,c,a,a,b,λ_=>rfl⟩
 .exact .inr (.inl ⟨a,rfl,c,e,d,m⟩)
 .exact .inr (.inr ⟨a,a,b,c,d⟩)
def kn.ext(h:kn T F F' E g){fn e}(f:F[g]?=some fn)(i:fn.body=none)(b:Extern.find fn=some e)(d a):NF ⟨T,d⟩ (e a):=by
 obtain⟨t,k,l,n,o,p,j⟩:=h fn f;obtain⟨c,r,q,_⟩|⟨_,_,_,s,q,_,m⟩|⟨_,_,_,q,_⟩:=j
 .rw[i]at q;cases q
 .rw[b]at q;cases q;exact m d a
 .rw[b]at q;cases q
def oF:Nat->af->Bool
 |0,_=>false
 |n+1,v=>match v with
  | .pointer a=>a.isNone
  | .slice a _ _=>a.isNone
  | .map r=>r.isNone
  | .chan r=>r.isNone
  | .func .. =>false
  | .iface .. =>false
  | .tuple b=>b.all (oF n)
  | .agg b=>b.all (oF n)
  |_=>true
def uf{cs}(h:∀x∈cs,bu x=true):bu (.agg cs)=true:=by simp only[bu,gO];intro i a;exact h _ (by simp)
def a2u{cs}(h:∀x∈cs,bu x=true):bu (.tuple cs)=true:=by simp only[bu,gO];intro i a;exact h _ (by simp)
theorem zB:∀n v,oF n v=true->bu v=true
 |0,_,h=>by simp[oF]at h
 |n+1,v,h=>by
  cases v<;>simp only[oF,dj]at h<;>first|(simp only[bu];done)|(simp only[bu];exact h)|skip
  .refine uf λx a=>zB n x ?_;obtain⟨i,b,rfl⟩:=fI.1 a;exact(gO.1 h) i b
  .refine a2u λx a=>zB n x ?_;obtain⟨i,b,rfl⟩:=fI.1 a;exact(gO.1 h) i b
def CG{v}(h:bu v=true):∀x∈v.cells,bu x=true:=by
 intro x a;cases v<;>simp only[Value.cells]at a<;>try(simp only[dK,ft]at a;subst a;exact h)
 simp only[bu,gO]at h;obtain⟨i,b,rfl⟩:=fI.1 a;have:=h i (by simpa using b);simpa using this
def mg(i:TypeInfo):Prop:=∀v,i.zero=some v->bu v=true
def qQ{d s z c b}(h:bu z=true):mg (Made.word d s z c b):=by intro v a;obtain rfl:=dk a;exact h
def a1v{β:Type}(I:β->Prop):ForInStep β->Prop
 | .yield b=>I b
 | .done b=>I b
theorem EU{α β:Type}(I){body}(e:∀a b r,I b->body a b=some r->a1v I r):∀(l:List α) (c r:β),I c->forIn l c body=some r->I r
 |[],c,r,h0,h=>by simp only[a7v]at h;obtain rfl:=dk h;exact h0
 |a::l,c,r,h0,h=>by
  rw[a7m]at h;cases d:body a c with
  |none=>rw[d]at h;exact absurd h (by simp)
  |some x=>
   rw[d]at h;have f:=e a c x h0 d;cases x with
   |done b=>obtain rfl:=dk h;exact f
   |yield b=>exact EU I e l b r f h
def a1E{e}(w:∀t i,e t=some i->mg i){n i}(h:Made.reckonStruct e n=some i):mg i:=by
 unfold Made.reckonStruct at h;dsimp only at h;rw[a6q,a6f]at h;obtain⟨s,o,h⟩:=h;rw[<-l7]at o;have k:=EU (λs:Array Field×Nat×Nat×Nat×Nat×Bool×Bool×Option (Array af)×String=> ∀a,s.2.2.2.2.2.2.2.1=some a->∀x∈a,bu x=true) ?_ n.toList _ s ?_ o
 .have fin:∀j:TypeInfo,j.zero=Option.map Value.agg s.2.2.2.2.2.2.2.1->mg j:=by intro j A v p;rw[A]at p;obtain⟨a,d,rfl⟩:=fA.1 p;exact uf (k a d)
  split at h
  .obtain rfl:=dk h;exact fin _ rfl
  .obtain rfl:=dk h;exact fin _ rfl
 .intro f b r B c;rw[a6q,a6f]at c;obtain⟨u,l,c⟩:=c;have fin:∀(x:Array Field×Nat×Nat×Nat×Nat×Bool×Bool×Option (Array af)×String),x.2.2.2.2.2.2.2.1=(if b.2.1+u.size>Made.mostCells then none else do
    let z<-b.2.2.2.2.2.2.2.1;let y<-u.zero
    pure (z++y.cells))->∀a,x.2.2.2.2.2.2.2.1=some a->∀y∈a,bu y=true:=by
   intro x m a d y g;rw[m]at d;split at d
   .exact absurd d (by simp)
   .rw[a6q,a6f]at d;obtain⟨z,C,d⟩:=d;rw[a6q,a6f]at d;obtain⟨q,D,d⟩:=d;obtain rfl:=dk d;obtain g|g:=l8.1 g
    .exact B z C y g
    .exact CG (w _ _ l q D) y g
  split at c
  .exact absurd c (by simp)
  .split at c
   .exact absurd c (by simp)
   .split at c
    .split at c
     .obtain rfl:=dk c;exact fin _ rfl
     .obtain rfl:=dk c;exact fin _ rfl
    .rw[a6q,a6f]at c;obtain⟨E,_,c⟩:=c;split at c
     .obtain rfl:=dk c;exact fin _ rfl
     .obtain rfl:=dk c;exact fin _ rfl
 .intro a d x m;obtain rfl:=dk d;simp at m
def ja{α β:Type}{o:Option α}{k}{b:β}(h:(o>>=k)=some b):∃a,o=some a/\k a=some b:=by rw[a6q]at h;exact a6f.1 h
def Y8{a}(g:∀t i,a t=some i->mg i){d i}(h:Made.reckon a d=some i):mg i:=by
 cases d<;>simp only[Made.reckon,reduceCtorEq]at h
 case pointer e=>
  obtain⟨x,_,h⟩:=ja h;split at h
  .exact absurd h (by simp)
  .split at h
   .exact absurd h (by simp)
   .obtain⟨_,_,h⟩:=ja h;obtain rfl:=dk h;exact qQ (by simp[bu])
  .obtain⟨_,_,h⟩:=ja h;obtain rfl:=dk h;exact qQ (by simp[bu])
 case slice e=>obtain⟨_,_,h⟩:=ja h;obtain⟨_,_,h⟩:=ja h;obtain rfl:=dk h;exact qQ (by simp[bu])
 case map k e=>obtain⟨_,_,h⟩:=ja h;obtain⟨_,_,h⟩:=ja h;obtain⟨_,_,h⟩:=ja h;obtain⟨_,_,h⟩:=ja h;obtain rfl:=dk h;exact qQ (by simp[bu])
 case chan j e=>obtain⟨_,_,h⟩:=ja h;obtain⟨_,_,h⟩:=ja h;obtain rfl:=dk h;exact qQ (by simp[bu])
 case func o p v=>obtain⟨_,_,h⟩:=ja h;obtain rfl:=dk h;exact qQ (by simp[bu])
 case array n e=>
  obtain⟨x,l,h⟩:=ja h;obtain⟨_,_,h⟩:=ja h;obtain rfl:=dk h;intro v b;dsimp only at b;split at b
  .exact absurd b (by simp)
  .split at b
   .obtain rfl:=dk b;exact uf (by simp)
   .obtain⟨z,m,rfl⟩:=fA.1 b;refine uf λy c=>?_;obtain⟨q,f,c⟩:=Array.mem_flatten.1 c;obtain rfl:=(a7t.1 f).2;exact CG (g _ _ l z m) y c
 case struct r=>exact a1E g h
theorem Fl{T}(a:∀(t:Nat) i,T.types[t]?=some i->mg i):∀n t i,Made.infoAt T n t=some i->mg i
 |0,_,_,h=>by simp[Made.infoAt]at h
 |n+1,t,i,h=>by
  unfold Made.infoAt at h;split at h
  .exact a t i h
  .obtain⟨d,_,h⟩:=a6f.1 h;exact Y8 (Fl a n) h
def JK{T:Tables}(h:(T.types.all λi=>i.zero.all (oF 9))=true):∀t i v,T.info? t=some i->i.zero=some v->bu v=true:=by
 have d:∀(t:Nat) i,T.types[t]?=some i->mg i:=by intro t i a v b;obtain⟨c,rfl⟩:=bW.1 a;have:=gO.1 h t c;rw[b]at this;exact zB 9 v this
 intro t i v a b;unfold Tables.info? at a;split at a
 .exact d t i a v b
 .exact Fl d _ t i a v b
end Go.Mir
end
section
namespace Go.Mir
open Go.Proofs
def kw(g:bc):Prop:=g=106\/g=144\/g=145\/g=154
abbrev gd.{u}(g:Nat):Prop:=kn Tryz.progTables Gh.funcs.{u} Tryz.funcs kw g
def a2N:gd 79:=iX Gh.func79 Tryz.func79 (by kernel_rfl) (by kernel_rfl) (by kernel_rfl) (λ_ _=>a4J) (λ_=>XB)
def a2v:gd 101:=iX Gh.func101 Tryz.func101 (by kernel_rfl) (by kernel_rfl) (by kernel_rfl) (λ_ _=>a4F) (λ_=>Xz)
def a2R(b:Bool):((Gh.yi b).body.any (cV Tryz.progTables.globals.size)&&Tryz.f106.body.isSome&& !((Gh.yi b).name== "runtime.NumGoroutine")&& !(Tryz.f106.name== "runtime.NumGoroutine"))=true:=by cases b<;>kernel_rfl
def a2w:gd 106:=xC Gh.funcU106 Tryz.func106 (by simp[kw]) rfl rfl (a2R _)
def a2x:gd 139:=iX Gh.func139 Tryz.func139 (by kernel_rfl) (by kernel_rfl) (by kernel_rfl) (λ_ _=>a4N) (λ_=>XE)
def a2y:gd 140:=iX Gh.func140 Tryz.func140 (by kernel_rfl) (by kernel_rfl) (by kernel_rfl) (λ_ _=>a4K) (λ_=>XC)
def a2z:gd 141:=iX Gh.func141 Tryz.func141 (by kernel_rfl) (by kernel_rfl) (by kernel_rfl) (λ_ _=>a4D) (λ_=>Xx)
def a2S(b:Bool):((Gh.yj b).body.any (cV Tryz.progTables.globals.size)&&Tryz.f144.body.isSome&& !((Gh.yj b).name== "runtime.NumGoroutine")&& !(Tryz.f144.name== "runtime.NumGoroutine"))=true:=by cases b<;>kernel_rfl
def a2A:gd 144:=xC Gh.funcU144 Tryz.func144 (by simp[kw]) rfl rfl (a2S _)
def a2T(b:Bool):((Gh.yk b).body.any (cV Tryz.progTables.globals.size)&&Tryz.f145.body.isSome&& !((Gh.yk b).name== "runtime.NumGoroutine")&& !(Tryz.f145.name== "runtime.NumGoroutine"))=true:=by cases b<;>kernel_rfl
def a2B:gd 145:=xC Gh.funcU145 Tryz.func145 (by simp[kw]) rfl rfl (a2T _)
def a2C:gd 154:=xC Gh.func154 Tryz.func154 (by simp[kw]) rfl rfl (by kernel_rfl)
def a2D:gd 180:=iX Gh.func180 Tryz.func180 (by kernel_rfl) (by kernel_rfl) (by kernel_rfl) (λ_ _=>a4M) (λ_=>XD)
def a2E:gd 181:=iX Gh.func181 Tryz.func181 (by kernel_rfl) (by kernel_rfl) (by kernel_rfl) (λ_ _=>a4B) (λ_=>Xv)
def a2F:gd 182:=iX Gh.func182 Tryz.func182 (by kernel_rfl) (by kernel_rfl) (by kernel_rfl) (λ_ _=>a4I) (λ_=>XA)
def a2G:gd 185:=iX Gh.func185 Tryz.func185 (by kernel_rfl) (by kernel_rfl) (by kernel_rfl) (λ_ _=>a4z) (λ_=>Xt)
def a2H:gd 190:=iX Gh.func190 Tryz.func190 (by kernel_rfl) (by kernel_rfl) (by kernel_rfl) (λ_ _=>a4x) (λ_=>Xr)
def a2I:gd 194:=iX Gh.func194 Tryz.func194 (by kernel_rfl) (by kernel_rfl) (by kernel_rfl) (λ_ _=>a4H Tryz.f194.params Tryz.f194.resultTypes) (λ_=>a2i _ _)
def a2J:gd 260:=iX Gh.func260 Tryz.func260 (by kernel_rfl) (by kernel_rfl) (by kernel_rfl) (λ_ _=>a4E) (λ_=>Xy)
def a2K:gd 270:=iX Gh.func270 Tryz.func270 (by kernel_rfl) (by kernel_rfl) (by kernel_rfl) (λ_ _=>a4y) (λ_=>Xs)
def a2L:gd 272:=iX Gh.func272 Tryz.func272 (by kernel_rfl) (by kernel_rfl) (by kernel_rfl) (λ_ _=>a4A) (λ_=>Xu)
def a2M:gd 273:=iX Gh.func273 Tryz.func273 (by kernel_rfl) (by kernel_rfl) (by kernel_rfl) (λ_ _=>a4C) (λ_=>Xw)
def xv:List Nat:=[79,101,106,139,140,141,144,145,154,180,181,182,185,190,194,260,270,272,273]
def BL(G i:Nat)(f:Func):Bool:=xv.contains i|| !(f.name== "runtime.NumGoroutine")&&bif Nat.testBit 31057978348605504680721396973745225086780683440476649954084754009309622363461412454403 i then f.body.isNone else f.body.any (cV G)
def BM(G:Nat):Nat->List Func->Bool
 |_,[]=>true
 |i,f::l=>BL G i f&&BM G (i+1) l
theorem Jg{G:Nat}:∀{l:List Func} {i k:Nat} {f:Func},BM G i l=true->l[k]?=some f->BL G (i+k) f=true
 |x::l,i,0,f,h,e=>by
  obtain rfl:x=f:=by simpa using e
  exact(dW _ _▸h).1
 |x::l,i,k+1,f,h,e=>by
  have:=Jg (k:=k) (f:=f) (dW _ _▸h).2 (by simpa using e)
  rwa [show i+1+k=i+(k+1)by omega]at this
theorem a2O:BM Tryz.progTables.globals.size 0 Tryz.funcs.toList=true:=by kernel_rfl
def BN.{u}(g:Nat):gd.{u} g:=by
 cases c:Tryz.funcs[g]? with
 |none=>intro m i;rw[Gh.get,c]at i;cases i
 |some f=>
  have a:=Jg a2O (k:=g) (f:=f) (by simpa using c);rw[dG]at a;have b:=Gh.get.{u} g;rw[c,Option.map_some]at b;cases d:xv.contains g with
  |true=>
   simp only[xv,List.contains_eq_mem,decide_eq_true_eq,cm,dP,or_false]at d;obtain rfl|rfl|rfl|rfl|rfl|rfl|rfl|rfl|rfl|rfl|rfl|rfl|rfl|rfl|rfl|rfl|rfl|rfl|rfl:=d
   .exact a2N
   .exact a2v
   .exact a2w
   .exact a2x
   .exact a2y
   .exact a2z
   .exact a2A
   .exact a2B
   .exact a2C
   .exact a2D
   .exact a2E
   .exact a2F
   .exact a2G
   .exact a2H
   .exact a2I
   .exact a2J
   .exact a2K
   .exact a2L
   .exact a2M
  |false=>
   have l:Gh.mod.{u} g f=bif Nat.testBit 31057978348605504680721396973745225086780683440476649954084754009309622363461412454403 g then kQ f else f:=by
    simp only[xv,List.contains_eq_mem,decide_eq_false_iff_not,cm,dP,or_false,not_or]at d;have e:∀k,¬g=k->(g==k)=false:=λk h=>by simpa using h
    simp only[Gh.mod,e 106 (by omega),e 144 (by omega),e 145 (by omega),e 154 (by omega),cond_false]
   rw[l]at b;simp only[BL,d,Bool.false_or,dW]at a;cases j:Nat.testBit 31057978348605504680721396973745225086780683440476649954084754009309622363461412454403 g with
   |true=>rw[j]at b a;exact a2P b c (by simp only[dW];exact a.symm) (Q3 f) (Vk f)
   |false=>rw[j]at b a;exact a2Q b c (by simp only[dW];exact a.symm)
theorem JL:(Tryz.progTables.types.all λi=>i.zero.all (oF 9))=true:=by kernel_rfl
def lB.{u}:Twin Tryz.progTables Gh.funcs.{u} Tryz.funcs kw:=
 ⟨by kernel_rfl,JK JL,by kernel_rfl,λg a b=>(BN.{u} g).lB a b⟩
def g9.{u}:Twin Tryz.progTables Gh.funcs.{u} Gh.funcs.{u} (λ_=>False):=
 ⟨rfl,JK JL,by kernel_rfl,λg a b=>(BN.{u} g).self.lB a b⟩
instance a5H.{u}:mj ⟨Tryz.progTables,Gh.funcs.{u}⟩:=g9.{u}.early
def cT.{u}:ib Tryz.progTables Gh.funcs.{u} where
 ext g fn e hg hb he a:=(BN.{u} g).ext hg hb he _ a
 eqs t h:=by
  have hp:(zg.all (lR ⟨Tryz.progTables,Gh.funcs.{u}⟩ 4))=true:=by kernel_rfl
  exact a6M.1 hp t (by simpa using h)
 ux s d h:=by
  have h1:(vO.all λs=>vO.all λd=>pF ⟨Tryz.progTables,Gh.funcs.{u}⟩ s d)=true:=by kernel_rfl
  have h2:(C2.all λp=>pF ⟨Tryz.progTables,Gh.funcs.{u}⟩ p.1 p.2)=true:=by kernel_rfl
  simp only[AS,a6V,dW]at h;obtain⟨a,b⟩|h:=h
  .exact a6M.1 (a6M.1 h1 s (by simpa using a)) d (by simpa using b)
  .exact a6M.1 h2 (s,d) (by simpa using h)
theorem sO.{u}:Tryz.progTables.inits.idxOf? Gh.funcs.{u}.size=none:=by kernel_rfl
end Go.Mir
end
section
namespace Go.Mir
open Go Go.Conc
def NP(P:ay){α:Type}(Q:α->Prop):Sem α->Prop
 | .pure a=>Q a
 | .load _ _ k=> ∀v,NP P Q (k v)
 | .store _ _ _ k=>NP P Q k
 | .new _ k=> ∀r,NP P Q (k r)
 | .shape _ k=> ∀s,NP P Q (k s)
 | .freeze _ _ k=>NP P Q k
 | .frozen _ k=> ∀b,NP P Q (k b)
 | .getObj _ k=> ∀o,NP P Q (k o)
 | .setObj _ _ k=>NP P Q k
 | .choose _ k=> ∀n,NP P Q (k n)
 | .sys _ k=> ∀r,NP P Q (k r)
 | .program k=>NP P Q (k P)
 | .mark _ k=>NP P Q k
 | .halt (.panic _)=>False
 | .halt _=>True
def NP.bind{P α β Q}{R:β->Prop}{f}(d:∀a,Q a->NP P R (f a)):∀{s:Sem α},NP P Q s->NP P R (s>>=f):=by
 intro s;change NP P Q s->NP P R (s.bind f);induction s with
 |pure a=>intro h;exact d a h
 |load m a k b=>intro h v;exact b v (h v)
 |store m a v k b=>intro h;exact b h
 |new o k b=>intro h v;exact b v (h v)
 |shape r k b=>intro h v;exact b v (h v)
 |freeze a n k b=>intro h;exact b h
 |frozen a k b=>intro h v;exact b v (h v)
 |getObj r k b=>intro h v;exact b v (h v)
 |setObj r o k b=>intro h;exact b h
 |choose q k b=>intro h v;exact b v (h v)
 |sys c k b=>intro h v;exact b v (h v)
 |program k b=>intro h;exact b P h
 |mark m k b=>intro h;exact b h
 |halt h=>intro e;cases h<;>first|exact e.elim|trivial
def QV{P}{u w':aa}{a b e α}(h:u.farLoad P a b=.error e):∀x w1,(.halt e w':Result α)≠.halt (.panic x) w1:=by intro x w1 c;cases c;exact vm (α:=α) (w':=w') h trivial
def QS{P}{u w':aa}{a v b e α}(h:u.farStore P a v b=.error e):∀x w1,(.halt e w':Result α)≠.halt (.panic x) w1:=by intro x w1 c;cases c;exact zw (α:=α) (w':=w') h trivial
def NP.run{P α Q}:∀(s:Sem α) (w) (es),NP P Q s->(∀a w1,(s.runT P w es).1=.ok a w1->Q a)/\∀x w1,(s.runT P w es).1≠.halt (.panic x) w1:=by
 intro s;induction s with
 |pure a=>intro w es h;exact⟨λa w1 e=>(by cases e;exact h),λ_ _ e=>(by cases e)⟩
 |load m a k b=>
  intro w es h;simp only[Sem.runT];split
  .exact b _ _ _ (h _)
  .split
   .exact b _ _ _ (h _)
   .rename_i e d;exact⟨λ_ _ e=>(by cases e),QV d⟩
 |store m a v k b=>
  intro w es h;obtain⟨f,g⟩|⟨c,rfl⟩|⟨c,rfl⟩:=xz v
  .rw[xe f g];split
   .split
    .exact⟨λ_ _ e=>(by cases e),λ_ _ e=>(by cases e)⟩
    .exact b _ _ h
   .split
    .exact b _ _ h
    .rename_i e d;exact⟨λ_ _ e=>(by cases e),QS d⟩
  .exact⟨λ_ _ e=>(by cases e),λ_ _ e=>(by cases e)⟩
  .exact⟨λ_ _ e=>(by cases e),λ_ _ e=>(by cases e)⟩
 |new o k b=>intro w es h;exact b _ _ _ (h _)
 |shape r k b=>intro w es h;exact b _ _ _ (h _)
 |freeze a n k b=>intro w es h;exact b _ _ h
 |frozen a k b=>intro w es h;exact b _ _ _ (h _)
 |getObj r k b=>
  intro w es h;simp only[Sem.runT];split
  .exact⟨λ_ _ e=>(by cases e),λ_ _ e=>(by cases e)⟩
  .exact b _ _ _ (h _)
  .exact⟨λ_ _ e=>(by cases e),λ_ _ e=>(by cases e)⟩
 |setObj r o k b=>
  intro w es h;simp only[Sem.runT];split
  .exact⟨λ_ _ e=>(by cases e),λ_ _ e=>(by cases e)⟩
  .exact b _ _ h
  .exact⟨λ_ _ e=>(by cases e),λ_ _ e=>(by cases e)⟩
 |choose q k b=>
  intro w es h;simp only[Sem.runT];split
  .exact b _ _ _ (h _)
  .exact b _ _ _ (h _)
 |sys c k b=>intro w es h;exact b _ _ _ (h _)
 |program k b=>intro w es h;exact b _ _ _ h
 |mark m k b=>intro w es h;exact b _ _ h
 |halt h=>intro w es i;refine⟨λ_ _ e=>(by cases e),λx w1 e=>?_⟩;cases e;exact i
section
variable{T:Tables}{F F':Array Func}{E:bc->Prop}{Z:Nat->Prop}{K:Nat->Obj}{cs:List ah}{D:Nat->Prop}{aj:Nat->Nat}{w y v:aa}{fr rf:ah}{gs ab:List ah}
def a0N{s s'}(r:NF ⟨T,F⟩ s)(t:∀f,aQ D aj f->SE T F F' f (RN F T.globals.size f) s s')(hF:bK Z K y w)(R:Rel T cs D aj y v fr gs rf ab)(c){x o es}(u:s.runT ⟨T,F⟩ (re w v.tape c) #[]=(.ok (.value x) o,es)):∃(j:aa) (k:Nat->Prop) (d:Nat->Nat) (m:af) (l:aa) (es':Array aJ),s'.runT ⟨T,F'⟩ (v.at c) #[]=(.ok (.value m) l,es')/\bK Z K j o/\Rel T cs k d j l fr gs rf ab/\(∀f,aQ k d f->m=ak f x)/\a5J D k aj d (re y v.tape c) j (v.at c) l es es':=by
 obtain⟨j,z,A,C⟩:=a5U s (re y v.tape c) (re w v.tape c) #[] r (hF.re _ _) _ _ u trivial;have B:dh T.globals.size D aj (re y v.tape c) (v.at c):=R.heap.same rfl rfl;obtain⟨a,H,h,k,d,b,l,es',q1,p,q3,q,g⟩|⟨_,_,h,_⟩|⟨_,_,h,_⟩:=mS (R:=λf=>RN F T.globals.size f) B R.os R.all t z (λ_ i _=>rfl)
 .simp only[jl,Result.ok.injEq]at h;obtain⟨rfl,rfl⟩:=h;have e:=q _ (aN p 0);cases b with
  |value m=>
   refine⟨j,k,d,m,l,es',q1,A,?_,λf n=>?_,g⟩
   .exact⟨p,by rw[g.os,g.mV];exact R.os,λb e=>⟨(g.more b (R.low b e).1).1,by rw[(g.more b (R.low b e).1).2,(R.low b e).2]⟩,q3,R.ok,R.cF,λf n=>R.aZ f ⟨λb e=>by rw[n.on b (g.more b e).1,(g.more b e).2],n.inj⟩⟩
   .have:=q f n;simpa[RN]using this
  |_=>cases e
 .cases h
 .cases h
def sQ[mj ⟨T,F⟩]{trap Stop}(u:∀fr I w,Stop fr I w->I=[]){d g}(z:g≠[])(j:Fin ⟨T,F⟩ trap Stop d g w){s s'}(M:∀w,stepG ⟨T,F⟩ true (an d (g++[trap])) w=stepG.apply ⟨T,F⟩ true d (g++[trap]) none s w)(N:(d.kind==.early)=false){Q:af->Prop}(k:NP ⟨T,F⟩ (λn=> ∃x,n=.value x/\Q x) s)(O:NF ⟨T,F⟩ s)(A:SE T F F id (RN F T.globals.size id) s s)(P:∀f,aQ D aj f->SE T F F' f (RN F T.globals.size f) s s')(hF:bK Z K y w)(R:Rel T cs D aj y v fr gs rf ab)(c):∃(x:af) (i:aa) (t:Array aJ) (l:aa) (m:Nat->Prop) (b:Nat->Nat) (o:af) (p:aa) (es':Array aJ),Q x/\Fin ⟨T,F⟩ trap Stop (d.finish x) g i/\Reach ⟨T,F⟩ trap Stop d g w (d.finish x) g i/\s'.runT ⟨T,F'⟩ (v.at c) #[]=(.ok (.value o) p,es')/\bK Z K l i/\Rel T cs m b l p fr gs rf ab/\(∀f,aQ m b f->o=ak f x)/\a5J D m aj b (re y v.tape c) l (v.at c) p t es':=by
 have q:cO T.globals.size (re w v.tape c):=pA (hF.re v.tape c) (R.ls v.tape c).all;obtain⟨x,i,t,J,S,U⟩:=EN u z j M N v.tape c (λr t V=>by
  have B:=NP.run s (re w v.tape c) #[] k;have L:=(kG s s (re w v.tape c) #[] A q).2;rw[V]at B L;cases r with
  |ok a i=>obtain⟨x,rfl,_⟩:=B.1 a i rfl;exact .inl ⟨x,i,rfl⟩
  |halt h i=>
   obtain⟨x,C⟩|C:=L
   .subst C;exact absurd rfl (B.2 x i)
   .exact .inr ⟨h,i,rfl,C⟩)
 have H:Q x:=by obtain⟨o,e,H⟩:=(NP.run s (re w v.tape c) #[] k).1 _ _ (by rw[J]);cases e;exact H
 obtain⟨l,m,b,o,p,es',q1,W,q3,X,Y⟩:=a0N O P hF R c J;exact⟨x,i,t,l,m,b,o,p,es',H,S,U,q1,W,q3,X,Y⟩
end
end Go.Mir
end
