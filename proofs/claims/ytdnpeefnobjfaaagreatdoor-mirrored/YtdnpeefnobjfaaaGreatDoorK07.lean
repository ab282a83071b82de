import Derived.Test.YtdnpeefnobjfaaaGreatDoorK06
set_option maxRecDepth 100000
set_option maxHeartbeats 4000000
set_option linter.all false
section
namespace Go.Mir
open Go Go.Extern
section
attribute [local simp] NF.stuck NF.unsupported NF.pure NF.bind
variable{P:ay}
@[simp] theorem W9(t):NF P (typeStr t):=by unfold typeStr;repeat' (first|(simp[*];done)|with_reducible refine NF.bind ?_ λ_=>?_|split|dsimp only)
@[simp] theorem AB(s t):NF P (Rtype.noPack s t):=by unfold Rtype.noPack;repeat' (first|(simp[*];done)|with_reducible refine NF.bind ?_ λ_=>?_|split)
@[simp] theorem WG(s t):NF P (Rtype.noPackMethods s t):=by unfold Rtype.noPackMethods;repeat' (first|(simp[*];done)|with_reducible refine NF.bind ?_ λ_=>?_|split)
@[simp] theorem WH(s t):NF P (Rtype.noPackNamed s t):=by unfold Rtype.noPackNamed;repeat' (first|(simp[*];done)|with_reducible refine NF.bind ?_ λ_=>?_|split)
@[simp] theorem WY(t):NF P (Rtype.spelt t):=by unfold Rtype.spelt;simp[*]
@[simp] theorem ws(v):NF P (Rtype.ofHandle v):=by unfold Rtype.ofHandle;repeat' (first|(simp[*];done)|with_reducible refine NF.bind ?_ λ_=>?_|split)
@[simp] theorem Wf(t):NF P (Rtype.handle t):=by unfold Rtype.handle;repeat' (first|(simp[*];done)|with_reducible refine NF.bind ?_ λ_=>?_|split)
@[simp] theorem VS(s):NF P (cutType s):=by unfold cutType;repeat' (first|(simp[*];done)|with_reducible refine NF.bind ?_ λ_=>?_|split)
@[simp] theorem WQ(t):NF P (Rtype.under t):=by unfold Rtype.under;repeat' (first|(simp[*];done)|with_reducible refine NF.bind ?_ λ_=>?_|split)
@[simp] theorem Gf(t):NF P (Rtype.kind t):=by unfold Rtype.kind;repeat' (first|(simp[*];done)|with_reducible refine NF.bind ?_ λ_=>?_|split)
@[simp] theorem WN(t):NF P (Rtype.elem? t):=by unfold Rtype.elem?;repeat' (first|(simp[*];done)|with_reducible refine NF.bind ?_ λ_=>?_|split)
@[simp] theorem Wg(t):NF P (Rtype.hasName t):=by unfold Rtype.hasName;repeat' (first|(simp[*];done)|with_reducible refine NF.bind ?_ λ_=>?_|split)
@[simp] theorem Wh(a b):NF P (Rtype.implements a b):=by unfold Rtype.implements;repeat' (first|(simp[*];done)|with_reducible refine NF.bind ?_ λ_=>?_|split)
@[simp] theorem VT(a b):NF P (Rtype.directlyAssignable a b):=by unfold Rtype.directlyAssignable;repeat' (first|(simp[*];done)|with_reducible refine NF.bind ?_ λ_=>?_|split)
@[simp] theorem Gs{α}(s):NF P (panicString s:Sem α):=by unfold panicString;simp[*]
@[simp] theorem wz{α}(m k):NF P (ReflectliteValue.valueError m k:Sem α):=by unfold ReflectliteValue.valueError;repeat' (first|(simp[*];done)|with_reducible refine NF.bind ?_ λ_=>?_|split)
@[simp] theorem AJ(t):NF P (ReflectliteType.toType t):=by unfold ReflectliteType.toType;repeat' (first|(simp[*];done)|with_reducible refine NF.bind ?_ λ_=>?_|split)
@[simp] theorem Wz(t a b):NF P (ReflectliteValue.mk t a b):=by unfold ReflectliteValue.mk;repeat' (first|(simp[*];done)|with_reducible refine NF.bind ?_ λ_=>?_|split)
@[simp] theorem GA(v):NF P (ReflectliteValue.unpack v):=by unfold ReflectliteValue.unpack;repeat' (first|(simp[*];done)|split)
@[simp] theorem wv(v):NF P (ReflectliteType.ofRtype v):=by
 cases v<;>first|exact NF.stuck _|skip
 rename_i a;obtain⟨_|⟨x,_|⟨y,l⟩⟩⟩:=a<;>first|exact NF.stuck _|skip
 exact NF.bind (ws _) λ_=>NF.bind (AB _ _) λ_=>NF.pure _
@[simp] theorem Gt(v):NF P (ReflectliteValue.partsAny v):=by
 cases v<;>first|exact NF.stuck _|skip
 rename_i a;obtain⟨_|⟨x,_|⟨y,_|⟨z,_|⟨c,l⟩⟩⟩⟩⟩:=a<;>first|exact NF.stuck _|skip
 have b:∀a f,NF P (do let __do_lift<-Rtype.ofHandle x;pure (some (__do_lift,a,f)):Sem (Option (aA×ap×Nat))):=λa f=>NF.bind (ws _) λ_=>NF.pure _;cases z with
 |int k n=>
  cases k<;>first|exact NF.stuck _|skip
  obtain(_|n)|n:=n
  .exact NF.pure _
  all_goals(cases y<;>first|exact NF.stuck _|skip)
  all_goals(rename_i p;cases p<;>first|exact NF.stuck _|exact b _ _)
 |_=>cases y<;>exact NF.stuck _
@[simp] theorem sL(v):NF P (ReflectliteValue.parts v):=by unfold ReflectliteValue.parts;repeat' (first|(simp[*];done)|with_reducible refine NF.bind ?_ λ_=>?_|split)
def XE(a:Array af):NF P ((λb=>ReflectliteValue.unpack (b.getD 0 (.tuple #[]))) a):=GA _
def XB(a):NF P (Atomic.storeT a):=by
 obtain⟨_|⟨x,_|⟨y,_|⟨z,l⟩⟩⟩⟩:=a<;>first|exact NF.stuck _|skip
 exact NF.bind (oP x) λ_=>NF.bind (ww _ _ _) λ_=>NF.pure _
@[simp] theorem AF(t a):NF P (Atomic.read t a):=by unfold Atomic.read;repeat' (first|(simp[*];done)|with_reducible refine NF.bind ?_ λ_=>?_|split)
def Xz(a):NF P (Atomic.loadT .ptr a):=by
 obtain⟨_|⟨x,_|⟨y,l⟩⟩⟩:=a<;>first|exact NF.stuck _|skip
 exact NF.bind (oP x) λ_=>AF _ _
def XC(a):NF P (ReflectliteValue.methodAny (ReflectliteValue.valueError "reflectlite.Value.Type" 0) (λt _ _ _=>ReflectliteType.toType t) a):=by
 obtain⟨_|⟨x,_|⟨y,l⟩⟩⟩:=a<;>first|exact NF.stuck _|skip
 refine NF.bind (Gt x) λr=>?_;obtain _|⟨t,a,b⟩:=r
 .exact wz _ _
 .exact AJ _
@[simp] theorem Wp(t a x k):NF P (ReflectliteValue.isNil t a x k):=by unfold ReflectliteValue.isNil;repeat' (first|(simp[*];done)|with_reducible refine NF.bind ?_ λ_=>?_|split)
@[simp] theorem VW(t a x k):NF P (ReflectliteValue.elem t a x k):=by unfold ReflectliteValue.elem;repeat' (first|(simp[*];done)|with_reducible refine NF.bind ?_ λ_=>?_|split)
def Xx(a):NF P (ReflectliteValue.method (ReflectliteValue.valueError "reflectlite.Value.IsNil" 0) ReflectliteValue.isNil a):=by
 obtain⟨_|⟨x,_|⟨y,l⟩⟩⟩:=a<;>first|exact NF.stuck _|skip
 refine NF.bind (sL x) λr=>?_;obtain _|⟨t,a,b⟩:=r
 .exact wz _ _
 .exact Wp _ _ _ _
def Xv(a):NF P (ReflectliteValue.method (ReflectliteValue.valueError "reflectlite.Value.Elem" 0) ReflectliteValue.elem a):=by
 obtain⟨_|⟨x,_|⟨y,l⟩⟩⟩:=a<;>first|exact NF.stuck _|skip
 refine NF.bind (sL x) λr=>?_;obtain _|⟨t,a,b⟩:=r
 .exact wz _ _
 .exact VW _ _ _ _
def XD(a):NF P (ReflectliteType.typeOf a):=by
 obtain⟨_|⟨x,_|⟨y,l⟩⟩⟩:=a<;>first|exact NF.stuck _|skip
 .cases x<;>first|exact NF.stuck _|exact NF.pure _|exact AJ _
@[simp] theorem VV(t):NF P (ReflectliteType.elem t):=by unfold ReflectliteType.elem;repeat' (first|(simp[*];done)|with_reducible refine NF.bind ?_ λ_=>?_|split)
def Xu(a):NF P (ReflectliteType.method ReflectliteType.elem a):=by
 obtain⟨_|⟨x,_|⟨y,l⟩⟩⟩:=a<;>first|exact NF.stuck _|skip
 exact NF.bind (wv x) λt=>VV t
def Xy(a):NF P (ReflectliteType.abiMethod (λt=>do pure (.int .u8 (<-Rtype.kind t))) a):=by
 obtain⟨_|⟨x,_|⟨y,l⟩⟩⟩:=a<;>first|exact NF.stuck _|skip
 exact NF.bind (ws x) λt=>NF.bind (AB _ _) λ_=>NF.bind (Gf _) λ_=>NF.pure _
def Gv(b){g}(c:∀t u,NF P (g t u))(a):NF P (ReflectliteType.relation b g a):=by
 obtain⟨_|⟨x,_|⟨y,_|⟨z,l⟩⟩⟩⟩:=a<;>first|exact NF.stuck _|skip
 .cases y<;>first|exact NF.stuck _|exact Gs _|skip
  exact NF.bind (wv _) λt=>NF.bind (wv _) λu=>NF.bind (c _ _) λ_=>NF.pure _
def Xw(a):NF P (ReflectliteType.relation "Implements" ReflectliteType.implements_ a):=Gv _ (λt u=>by unfold ReflectliteType.implements_;repeat' (first|(simp[*];done)|with_reducible refine NF.bind ?_ λ_=>?_|split)) a
def Xs(a):NF P (ReflectliteType.relation "AssignableTo" ReflectliteType.assignableTo a):=Gv _ (λt u=>by unfold ReflectliteType.assignableTo;repeat' (first|(simp[*];done)|with_reducible refine NF.bind ?_ λ_=>?_|split)) a
def XA(a):NF P (ReflectliteValue.set a):=by
 obtain⟨_|⟨x,_|⟨y,_|⟨z,l⟩⟩⟩⟩:=a<;>first|exact NF.stuck _|skip
 refine NF.bind (sL x) λr=>NF.bind (sL y) λq=>?_;obtain _|⟨t,a,c⟩:=r
 .exact NF.unsupported _
 obtain _|⟨d,a2,b⟩:=q
 .exact NF.unsupported _
 dsimp only
 repeat' (first|(simp[*];done)|with_reducible refine NF.bind ?_ λ_=>?_|split)
def xh(a w es):(∃b,(noView a).runT P w es=(.ok () w,b))\/∃h b,(noView a).runT P w es=(.halt h w,b)/\¬Yields (.halt h w:Result Unit):=by
 unfold noView viewAt;simp only[bind,Sem.bind,shape,Sem.runT,getObj];cases w.shape? a.block with
 |some q=>exact .inl ⟨_,rfl⟩
 |none=>
  simp only[Option.isSome_none,dj,if_false,Sem.bind,Sem.runT];split
  .exact .inr ⟨_,_,rfl,id⟩
  .rename_i o _ _;cases o<;>first|exact .inl ⟨_,rfl⟩|exact .inr ⟨_,_,rfl,id⟩
  .exact .inr ⟨_,_,rfl,id⟩
def mb(w:aa)(a b:ap):Bool:=
 let st (a:ap):Bool:=w.frozen? a||(match w.shape? a.block with|some (_,n)=>w.frozen? {block:=a.block,off:=n}|none=>false);let no (a:ap):Bool:=match w.shape? a.block with|some (_,0)=>true|_=>false
 (st a&&st b)||(st a&&no a)||(st b&&no b)
def H5(a:ap)(w:aa)(es:Array aJ):(stringish a).runT P w es=(.ok (w.frozen? a||(match w.shape? a.block with|some (_,n)=>w.frozen? {block:=a.block,off:=n}|none=>false)) w,es):=by
 unfold stringish;simp only[bind,Sem.bind,shape,Sem.runT,frozen];cases w.frozen? a with
 |true=>rfl
 |false=>
  simp only[dj,if_false,Sem.runT];cases w.shape? a.block with
  |none=>rfl
  |some q=>rfl
def a0o(a b w es):(mayBeOne a b).runT P w es=(.ok (mb w a b) w,es):=by have h:mayBeOne a b=(stringish a).bind λc=>(stringish b).bind λd=>.shape a.block λx=>.shape b.block λy=>.pure ((c&&d)||(c&&(x matches some (_,0)))||(d&&(y matches some (_,0)))):=rfl;rw[h,Sem.runT_bind',H5];dsimp only;rw[Sem.runT_bind',H5];dsimp only;simp only[Sem.runT,mb]
def UY{Z K w u}(h:bK Z K w u)(a b):mb w a b=false:=by
 have:∀a:ap,(w.frozen? a||(match w.shape? a.block with|some (_,n)=>w.frozen? {block:=a.block,off:=n}|none=>false))=false:=by
  intro a;rw[h.qK a];cases w.shape? a.block with
  |none=>rfl
  |some q=>exact h.qK _
 simp only[mb,this,Bool.false_and,a8c]
def UX{Z K w u}(h:bK Z K w u)(a b)(l:(u.frozen? a&&u.frozen? b)=false):mb u a b=false:=by
 have d:∀a:ap,(u.frozen? a||(match u.shape? a.block with|some (_,n)=>u.frozen? {block:=a.block,off:=n}|none=>false))=u.frozen? a:=by
  intro a;cases j:u.shape? a.block with
  |none=>simp
  |some q=>
   obtain⟨e,n⟩:=q;have:u.frozen? {block:=a.block,off:=n}=false:=by
    cases f:u.frozen? {block:=a.block,off:=n}with
    |false=>rfl
    |true=>obtain⟨_,c,m,g,k⟩:=h.frozen f;rw[h.shape]at j;simp only[World.shape?,g,cw,gQ]at j;dsimp only at k;omega
   simp[this]
 have i:∀a:ap,u.frozen? a=true->(match u.shape? a.block with|some (_,0)=>true|_=>false)=false:=by
  intro a f;obtain⟨_,c,m,g,k⟩:=h.frozen f;rw[h.shape];simp only[World.shape?,g];split
  .rename_i o;simp only[cw,gQ]at o;omega
  .rfl
 simp only[mb,d,l,Bool.false_or];cases p:u.frozen? a<;>cases r:u.frozen? b<;>simp[i _,p,r]
def a2j(a b)(j:af)(g:af)(Z K w u es)(hF:bK Z K w u)(A:(u.frozen? a&&u.frozen? b)=false)(k)(B:k false=.pure j)(r h)(c:((noView a).bind λ_=>(noView b).bind λ_=>(mayBeOne a b).bind k).runT P u es=(r,h))(v:Yields r):∃y,((noView a).bind λ_=>(noView b).bind λ_=>(mayBeOne a b).bind k).runT P w es=(jl y r,h)/\bK Z K y (fH r)/\∀e∈h,e∈es\/i8 Z e:=by
 rw[Sem.runT_bind']at c⊢;obtain⟨d,m⟩|⟨x,d,m,n⟩:=xh (P:=P) a u es;rotate_left
 .rw[m]at c;cases c;cases x<;>first|exact v.elim|exact(n trivial).elim
 rw[m]at c;obtain⟨w1,q1,E,q3⟩:=a5U _ w u es (AE a) hF _ _ m trivial;have o:w1=w:=by
  obtain⟨i,f⟩|⟨x,i,f,_⟩:=xh (P:=P) a w es
  .rw[f]at q1;cases q1;rfl
  .rw[f]at q1;cases q1
 subst o;rw[q1];dsimp only[jl]at c⊢;rw[Sem.runT_bind']at c⊢;obtain⟨i,f⟩|⟨x,i,f,n⟩:=xh (P:=P) b u d;rotate_left
 .rw[f]at c;cases c;cases x<;>first|exact v.elim|exact(n trivial).elim
 rw[f]at c;obtain⟨z,l,F,C⟩:=a5U _ w1 u d (AE b) hF _ _ f trivial;have p:z=w1:=by
  obtain⟨q,s⟩|⟨x,q,s,_⟩:=xh (P:=P) b w1 d
  .rw[s]at l;cases l;rfl
  .rw[s]at l;cases l
 subst p;rw[l];dsimp only[jl]at c⊢;rw[Sem.runT_bind',a0o]at c⊢;rw[UX hF a b A]at c;rw[UY hF a b];dsimp only at c⊢;rw[B]at c⊢;simp only[Sem.runT,gQ]at c⊢;obtain⟨rfl,rfl⟩:=c;refine⟨z,⟨rfl,rfl⟩,hF,λe D=>?_⟩;obtain t|t:=C e D
 .exact q3 e t
 .exact .inr t
def a2i(g k a):NF P (SlicesOverlaps.overlaps g k a):=by
 obtain⟨_|⟨x,_|⟨y,_|⟨z,l⟩⟩⟩⟩:=a<;>first|exact NF.stuck _|skip
 cases x<;>first|exact NF.stuck _|skip
 cases y<;>first|exact NF.stuck _|skip
 rename_i x o p y q s;unfold SlicesOverlaps.overlaps;dsimp only;cases g[0]? with
 |none=>exact NF.stuck _
 |some t=>
  refine NF.bind (mM _) λd=>?_;cases d<;>first|exact NF.stuck _|skip
  refine NF.bind (AH _) λh=>?_;cases x with
  |none=>exact NF.pure _
  |some x=>
   cases y with
   |none=>exact NF.pure _
   |some y=>
    dsimp only;refine NF.ite (λ_=>NF.pure _) λ_=>?_;refine Or.inr (Or.inr ?_);intro Z K w u m hF r c b i;simp only[bind,Sem.bind,frozen,Sem.runT,hF.qK,Bool.and_false,dj,if_false]at b⊢;by_cases j:(x.block !=y.block)=true
    .simp only[j,if_true,a8d]at b⊢;cases f:(u.frozen? x&&u.frozen? y)with
     |true=>rw[f]at b;cases b;exact i.elim
     |false=>rw[f]at b;exact a2j x y _ (.bool false) Z K w u m hF f _ rfl r c b i
    .simp only[j,if_false,Bool.false_and,dj]at b⊢;cases b;exact⟨w,rfl,hF,λe n=>.inl n⟩
def Al{α}{k:Bool->Sem α}(a:dD (k true))(f:Nat->ap):∀(l:List Nat),NF P (k false)->NF P ((l.anyM λi=>frozen (f i))>>=k):=by
 intro l;induction l with
 |nil=>intro h;exact h
 |cons x l b=>intro h;exact .inr (.inl ⟨a,b h⟩)
def W6{α}{k:Bool->Sem α}(b:dD (k true))(c:NF P (k false))(a):NF P (Atomic.touchesFrozen a>>=k):=by
 have:=nN;unfold Atomic.touchesFrozen;rw[bind_assoc];refine NF.bind (AK _) λo=>?_;obtain _|⟨d,as⟩:=o
 .exact .inr (.inl ⟨b,c⟩)
 .dsimp only;rw[bind_assoc];refine NF.bind (wx _) λi=>?_;split
  .trivial
  .exact Al b _ _ c
def Xt(a):NF P (Atomic.casT (.int .i32) a):=by
 obtain⟨_|⟨x,_|⟨y,_|⟨z,_|⟨c,l⟩⟩⟩⟩⟩:=a<;>first|exact NF.stuck _|skip
 refine NF.bind (oP x) λa=>?_;refine W6 ?_ ?_ a
 .trivial
 .refine NF.bind (AF _ _) λv=>?_
  repeat' (first|(simp[*];done)|with_reducible refine We (λ_=>?_) (by with_unfolding_all trivial)|with_reducible refine NF.bind ?_ λ_=>?_|with_reducible refine NF.ite (λ_=>?_) (λ_=>?_)|split|dsimp only)
  all_goals(rename_i b d;cases b)
def Xr(a):NF P (Atomic.update (Op.intArith .add) .i32 true a):=by
 obtain⟨_|⟨x,_|⟨y,_|⟨z,l⟩⟩⟩⟩:=a<;>first|exact NF.stuck _|skip
 exact NF.bind (oP x) λa=>NF.bind (AF _ _) λv=>NF.bind (we _) λ_=>NF.bind (we _) λ_=>NF.bind (Gd _ _ _ _) λ_=>NF.bind (ww _ _ _) λ_=>NF.pure _
end
end Go.Mir
end
section
namespace Go.Mir
def cB(f:Nat->Nat):Item->Item
 | .inRangeFunc l=>.inRangeFunc (f l)
 | .endRangeFunc l=>.endRangeFunc (f l)
 | .call d w r s=>.call (dJ f d) w r (s.map (ak f))
 | .extern r a=>.extern r (a.map (ak f))
 |i=>i
def tj(f:Nat->Nat)(e:PanicEntry):PanicEntry:={e with v:=ak f e.v}
def eB(f:Nat->Nat):FrameMode->FrameMode
 | .panicking c=>.panicking (c.map (tj f))
 |m=>m
def aR(f:Nat->Nat)(fr:ah):ah:={fr with tmps:=fr.tmps.map (ak f),todo:=fr.todo.map (cB f),defers:=fr.defers.map (dJ f),mode:=eB f fr.mode,roundOf:=fr.roundOf.map f}
def an(fr:ah)(cs:List ah):aw:={frame:=fr,callers:=cs,status:=.running,dying:=none}
def dt(G:Nat):Item->Bool
 | .code c=>cV G c
 | .inLoop c=>cV G c
 | .inScope c=>cV G c
 | .inRegion a _=>a.all λo=>ij G o.op
 | .call .. =>false
 | .extern .. =>false
 |_=>true
def gL:Item->Bool
 | .code c=>ep c
 | .inLoop c=>ep c
 | .inScope c=>ep c
 | .inRegion a _=>a.all λo=>match o.op with| .defer _=>false|_=>true
 |_=>true
structure cJ (G:Nat) (fr:ah):Prop where
 items:∀i∈fr.todo,dt G i=true
 defers:∀d∈fr.defers,fG d.target=true
 kind:fr.kind=.normal\/fr.kind=.deferred
 round:fr.roundOf≠none->∀i∈fr.todo,gL i=true
 last:fr.roundOf≠none->fr.mode≠.returning
 calm:∀c,fr.mode=.panicking c->∀e∈c,e.recovered=false
section
variable{U:Prop}{lz:Nat->Obj->Prop}{T:Tables}{F F':Array Func}{E:bc->Prop}{D:Nat->Prop}{aj f:Nat->Nat}{w v:aa}
def nA(e:Twin T F F' E)(a:∀b,b<T.globals.size+1->D b/\aj b=b)(c:aQ D aj f):Fit T f:=⟨c.inj,λb d=>by rw[c.on b (a b d).1,(a b d).2],e.zero⟩
def mS{α β}{R:(Nat->Nat)->α->β->Prop}{s s'}(I:cL U lz T.globals.size D aj w v)(N:v.os=w.os)(O:cO T.globals.size w)(J:∀f,aQ D aj f->aE ⟨T,F⟩ ⟨T,F'⟩ f (R f) s s'){r es}(K:s.runT ⟨T,F⟩ w #[]=(r,es))(B:qY r->gy w v (fH r).drawn):(∃a d,r=.ok a d/\∃e c b i es',s'.runT ⟨T,F'⟩ v #[]=(.ok b i,es')/\cL U lz T.globals.size e c d i/\cO T.globals.size d/\(∀f,aQ e c f->R f a b)/\a5J D e aj c w d v i es es')\/(∃x d,r=.halt (.panic x) d/\∃e c L i es',s'.runT ⟨T,F'⟩ v #[]=(.halt (.panic L) i,es')/\cL U lz T.globals.size e c d i/\cO T.globals.size d/\(∀f,aQ e c f->L=ak f x)/\a5J D e aj c w d v i es es')\/(∃h d,r=.halt h d/\eO h=true):=by
 have g:=kG s s' w #[] (J _ (aN I 0)) O;rw[K]at g;have C:=H2 ⟨T,F⟩ s w #[];have k:=H2 ⟨T,F'⟩ s' v #[];rw[K]at C;have B:=B g.2;have p:∀(q:α⊕af) (w1:aa),nj r=.ok q w1->∃e c b i es',nj (s'.runT ⟨T,F'⟩ v #[]).1=.ok b i/\(s'.runT ⟨T,F'⟩ v #[]).2=es'/\cL U lz T.globals.size e c w1 i/\(∀f,aQ e c f->xV f (R f) q b)/\a5J D e aj c w w1 v i es es':=by
  intro q w1 t;have H:fH r=w1:=by
   cases r with
   |ok a P=>simp only[nj,Result.ok.injEq]at t;exact t.2
   |halt h P=>cases h<;>simp only[nj,Result.ok.injEq,reduceCtorEq]at t;exact t.2
  rw[H]at B;simp only[t]at C;obtain⟨e,c,b,i,u,Q,j,y,l,m,z⟩:=a0p (R:=λf=>xV f (R f)) (fC s) (fC s') D aj w v w1 #[] es #[] q I B N (λf S=>a0L (J f S)) C;rw[j]at k;simp only[gQ]at k;refine⟨e,c,b,i,Q,k.1.symm,by rw[<-k.2];simp,l,m,?_⟩;rw[y];simpa using z
 cases r with
 |ok a d=>
  obtain⟨e,c,b,i,es',j,y,l,m,z⟩:=p (.inl a) d rfl;refine .inl ⟨a,d,rfl,e,c,?_⟩;cases n:(s'.runT ⟨T,F'⟩ v #[]).1 with
  |ok M A=>rw[n]at j;simp only[nj,Result.ok.injEq]at j;obtain⟨rfl,rfl⟩:=j;exact⟨M,A,es',km n y,l,g.1,m,z⟩
  |halt h A=>rw[n]at j;cases h<;>first|(cases j;exact(m _ (aN l 0)).elim)|cases j
 |halt h d=>
  obtain⟨x,rfl⟩|o:=g.2
  .obtain⟨e,c,b,i,es',j,y,l,m,z⟩:=p (.inr x) d rfl;refine .inr (.inl ⟨x,d,rfl,e,c,?_⟩);cases n:(s'.runT ⟨T,F'⟩ v #[]).1 with
   |ok M A=>rw[n]at j;cases j;exact(m _ (aN l 0)).elim
   |halt h A=>rw[n]at j;cases h<;>simp only[nj,Result.ok.injEq,reduceCtorEq]at j;obtain⟨rfl,rfl⟩:=j;exact⟨_,A,es',km n y,l,g.1,m,z⟩
  .exact .inr (.inr ⟨h,d,rfl,o⟩)
def ny(e:aJ):Option bc:=match e.loc with
 | .mark (.extern g)=>some g
 |_=>none
def QH(e):ny (cz f e)=ny e:=by
 obtain⟨a,wr,b⟩:=e;cases a<;>try rfl
 rename_i m;cases m<;>rfl
def seen_eq(P:ay)(fn:bc)(es:Array aJ):seen P fn es=(es.foldl (λ(x:Bool×Array aJ) e=>match ny e with|some g=>((P.funcs[g]?).any (·.norace),x.2)|none=>(x.1,if x.1&& !e.sync then x.2 else x.2.push e)) ((P.funcs[fn]?).any (·.norace),#[])).2:=by
 unfold seen;dsimp only;congr 2;funext x e;obtain⟨a,wr,b⟩:=e;cases a<;>try rfl
 rename_i m;cases m<;>rfl
def Ie(P fn es){e}(h:e∈seen P fn es):e∈es:=by
 rw[seen_eq]at h;have b:∀(l:List aJ) (q:Bool) (a:Array aJ),e∈(l.foldl (λ(x:Bool×Array aJ) e=>match ny e with|some g=>((P.funcs[g]?).any (·.norace),x.2)|none=>(x.1,if x.1&& !e.sync then x.2 else x.2.push e)) (q,a)).2->e∈a\/e∈l:=by
  intro l;induction l with
  |nil=>intro q a h;exact .inl h
  |cons x l c=>
   intro q a h;simp only[a6D]at h;cases d:ny x with
   |some g=>
    rw[d]at h;obtain h|h:=c _ _ h
    .exact .inl h
    .exact .inr (fJ _ h)
   |none=>
    rw[d]at h;dsimp only at h;obtain h|h:=c _ _ h
    .split at h
     .exact .inl h
     .rcases kJ.1 h with h|rfl
      .exact .inl h
      .exact .inr ga
    .exact .inr (fJ _ h)
 rw[<-a6E]at h;obtain h|h:=b _ _ _ h
 .simp at h
 .simpa using h
def a0H(i:Twin T F F' E)(fn es):seen ⟨T,F'⟩ fn (es.map (cz f))=(seen ⟨T,F⟩ fn es).map (cz f):=by
 have b:∀g:bc,(F'[g]?).any (·.norace)=(F[g]?).any (·.norace):=by
  intro g;cases c:F[g]? with
  |none=>
   have:F'[g]?=none:=by rw[a7A]at c⊢;rw[i.size];exact c
   rw[this]
  |some fn=>obtain⟨k,m,_,n,_⟩:=i.each g fn c;rw[m];simp[n]
 rw[seen_eq,seen_eq];simp only[<-a6E,iZ];have d:∀(l:List aJ) (q:Bool) (a:Array aJ),
   ((l.map (cz f)).foldl (λ(x:Bool×Array aJ) e=>match ny e with|some g=>((F'[g]?).any (·.norace),x.2)|none=>(x.1,if x.1&& !e.sync then x.2 else x.2.push e)) (q,a.map (cz f))).2=
   ((l.foldl (λ(x:Bool×Array aJ) e=>match ny e with|some g=>((F[g]?).any (·.norace),x.2)|none=>(x.1,if x.1&& !e.sync then x.2 else x.2.push e)) (q,a)).2).map (cz f):=by
  intro l;induction l with
  |nil=>intros;rfl
  |cons e l h=>
   intro q a;simp only[cA,a6D,QH,show(cz f e).sync=e.sync from rfl];cases ny e with
   |some g=>simp only[b];have:=h ((F[g]?).any (·.norace)) a;simp only[b]at this;exact this
   |none=>
    dsimp only;by_cases j:(q&& !e.sync)=true
    .simp only[j,if_true];exact h _ _
    .simp only[j];have:=h q (a.push e);rw[a7U]at this;exact this
 have:=d es.toList ((F[fn]?).any (·.norace)) #[];simp only[b]at this⊢;simpa using this
end
structure fg (lk:Prop) (lz:Nat->Obj->Prop) (T:Tables) (cs:List ah) (D:Nat->Prop) (aj:Nat->Nat) (w v:aa) (fr:ah) (gs:List ah) (rf:ah) (b0:List ah):Prop where
 heap:cL lk lz T.globals.size D aj w v
 os:v.os=w.os
 low:∀b,b<T.globals.size+1->D b/\aj b=b
 all:cO T.globals.size w
 ok:cJ T.globals.size fr
 cF:∀x∈gs,cJ T.globals.size x
 aZ:∀f,aQ D aj f->rf=aR f fr/\b0=gs.map (aR f)++cs
abbrev Rel:=fg False wB
def iz(lk:Prop)(lz:Nat->Obj->Prop)(T:Tables)(F F':Array Func)(E:bc->Prop)(cs:List ah)(trap:ah)(below:List ah)(D:Nat->Prop)(aj:Nat->Nat)(w v:aa)(g':aw)(w':aa)(es:Array aJ)(m:GStep):Prop:=
 ∃(j:Nat->Prop) (a:Nat->Nat) (l:aa) (i:Array aJ) (rg:aw),m=.go rg l i/\a5J D j aj a w w' v l es i/\
  ((
   ∃c d e b,g'=an c (d++trap::below)/\rg=an e b/\fg lk lz T cs j a w' l c d e b)\/
   (∃q h k g c d e b,(E q/\(k=.normal\/k=.deferred))/\g'=an (Frame.enter ⟨T,F⟩ q h k) (c::d++trap::below)/\rg=an (Frame.enter ⟨T,F'⟩ q g k) (e::b)/\(∀f,aQ j a f->g=h.map (ak f))/\fg lk lz T cs j a w' l c d e b))
section
variable{lk:Prop}{lz:Nat->Obj->Prop}{T:Tables}{F F':Array Func}{E:bc->Prop}{cs:List ah}{trap:ah}{below:List ah}{main:Bool}{D:Nat->Prop}{aj:Nat->Nat}{w v:aa}{fr:ah}{gs:List ah}{rf:ah}{b0:List ah}
def fg.next(R:fg lk lz T cs D aj w v fr gs rf b0){D':Nat->Prop}{past':Nat->Nat}{w' v':aa}{u u':Array aJ}{fr' rf':ah}{gs' rcs':List ah}(hg:a5J D D' aj past' w w' v v' u u')(hh:cL lk lz T.globals.size D' past' w' v')(ha:cO T.globals.size w')
  (ok:cJ T.globals.size fr') (cF:∀x∈gs',cJ T.globals.size x) (aZ:∀f,aQ D' past' f->rf'=aR f fr'/\rcs'=gs'.map (aR f)++cs):fg lk lz T cs D' past' w' v' fr' gs' rf' rcs' where
 heap:=hh
 os:=by rw[hg.os,hg.mV,R.os]
 low b hb:=⟨(hg.more b (R.low b hb).1).1,by rw[(hg.more b (R.low b hb).1).2,(R.low b hb).2]⟩
 all:=ha
 ok:=ok
 cF:=cF
 aZ:=aZ
def ej{a b:ah}{c d:List ah}(h:an a c=an b d):a=b/\c=d:=by simp only[an,Goroutine.mk.injEq,and_true]at h;exact h
def a3l(R:fg lk lz T cs D aj w v fr gs rf b0){fr':ah}(a:cJ T.globals.size fr')(g:∀f,stepG ⟨T,F'⟩ main (an (aR f fr) (gs.map (aR f)++cs)) v=.go (an (aR f fr') (gs.map (aR f)++cs)) v #[]):iz lk lz T F F' E cs trap below D aj w v (an fr' (gs++trap::below)) w #[] (stepG ⟨T,F'⟩ main (an rf b0) v):=by have h0:=R.aZ _ (aN R.heap 0);have c:=g (λb=> @ite _ (D b) (Classical.propDecidable _) (aj b) (v.heap.size+0+b));rw[<-h0.1,<-h0.2]at c;refine⟨D,aj,v,#[],_,c,a5J.refl,.inl ⟨fr',gs,_,_,rfl,rfl,R.next a5J.refl R.heap R.all a R.cF λf h=>?_⟩⟩;have d:=R.aZ f h;have e:=g f;rw[<-d.1,<-d.2,c]at e;simp only[GStep.go.injEq,and_true]at e;exact⟨(ej e).1,d.2⟩
theorem zp(f:Nat->Nat)(id:Nat):∀k:List Item,exitTo id (k.map (cB f))=(exitTo id k).map (List.map (cB f))
 |[]=>rfl
 |i::k=>by cases i<;>simp only[cA,cB,exitTo,zp f id k];split<;>rfl
theorem zo(id:Nat):∀(k a:List Item),exitTo id k=some a->∀i∈a,i∈k
 |[],_,h=>by simp[exitTo]at h
 |x::k,a,h=>by
  intro i b;cases x<;>simp only[exitTo]at h<;>try exact fJ _ (zo id k a h i b)
  split at h
  .cases h;exact fJ _ b
  .exact fJ _ (zo id k a h i b)
def vf(f:Nat->Nat)(a:∀b,b<T.globals.size+1->f b=b)(fr:ah)(x:Operand)(d:jS T.globals.size x=true):(aR f fr).eval x=ak f (fr.eval x):=by
 cases x with
 |tmp t=>simp only[Frame.eval,aR,fR,fp];cases fr.tmps[t]? <;>simp[undef]
 |const c=>simp only[Frame.eval];exact(lq f c d).symm
 |global g=>simp only[jS,decide_eq_true_eq]at d;simp[Frame.eval,aH,a g (by omega)]
 |func g=>simp[Frame.eval,jt]
def cJ.drop{G:Nat}{i:Item}{k c:List Item}(h:cJ G fr)(d:fr.todo=i::k)(e:∀x∈c,x∈k\/(dt G x=true/\(fr.roundOf≠none->gL x=true))):cJ G {fr with todo:=c}:=by
 refine⟨λx b=>?_,h.defers,h.kind,λf x b=>?_,h.last,h.calm⟩
 .rcases e x b with a|a
  .exact h.items x (by rw[d];exact fJ _ a)
  .exact a.1
 .rcases e x b with a|a
  .exact h.round f x (by rw[d];exact fJ _ a)
  .exact a.2 f
def oE(f:Nat->Nat)(fr:ah)(x:af):(aR f fr).finish (ak f x)=aR f (fr.finish x):=by
 obtain⟨n,g,a,c,h,m,b⟩:=fr;obtain _|⟨i,k⟩:=a
 .rfl
 .cases i<;>try rfl
  .rename_i e l;obtain _|⟨j,l⟩:=l
   .rfl
   .simp only[aR,cA,cB,Frame.finish];cases (e[j]?).bind (·.dst)with
    |none=>rfl
    |some d=>simp only[a5K]
  .simp only[aR,cA,cB,Frame.finish,a7U]
  .simp[aR,cB,Frame.finish]
def EO(fr:ah)(x:af):(fr.finish x).fn=fr.fn/\(fr.finish x).defers=fr.defers/\(fr.finish x).mode=fr.mode/\(fr.finish x).kind=fr.kind/\(fr.finish x).roundOf=fr.roundOf:=by unfold Frame.finish;split<;>exact⟨rfl,rfl,rfl,rfl,rfl⟩
def cJ.finish{G:Nat}(h:cJ G fr)(x:af):cJ G (fr.finish x):=by
 obtain⟨_,t,p,u,q⟩:=EO fr x;have b:∀i∈(fr.finish x).todo,dt G i=true/\(fr.roundOf≠none->gL i=true):=by
  intro i b;have c:∀j∈fr.todo,dt G j=true/\(fr.roundOf≠none->gL j=true):=λj s=>⟨h.items j s,λg=>h.round g j s⟩;unfold Frame.finish at b;split at b
  .rename_i m j f k e;obtain rfl|b:=cm.1 b
   .exact c (.inRegion m (j::f)) (by rw[e];simp)
   .exact c i (by rw[e];simp[b])
  .rename_i l k e;obtain rfl|b:=cm.1 b
   .exact⟨rfl,λ_=>rfl⟩
   .exact c i (by rw[e];simp[b])
  .rename_i k e;exact c i (by rw[e];simp[b])
  .rename_i d wr n y k e;have:=h.items (.call d wr n y) (by rw[e];simp);simp[dt]at this
  .rename_i r a k e;have:=h.items (.extern r a) (by rw[e];simp);simp[dt]at this
  .exact c i b
 exact⟨λi o=>(b i o).1,by rw[t];exact h.defers,by rw[u];exact h.kind,by rw[q];exact λg i o=>(b i o).2 g,by rw[q,p];exact h.last,by rw[p];exact h.calm⟩
def wQ(f:Nat->Nat)(fr:ah)(es:List PanicEntry):(aR f fr).raise (es.map (tj f))=aR f (fr.raise es):=by obtain⟨h,d,e,c,a,g,b⟩:=fr;cases a<;>simp[aR,eB,Frame.raise]
def cJ.raise{G:Nat}(h:cJ G fr){es:List PanicEntry}(d:∀e∈es,e.recovered=false):cJ G (fr.raise es):=by
 unfold Frame.raise;split
 .rename_i c f;refine⟨h.items,h.defers,h.kind,h.round,λ_=>by simp,λg b e a=>?_⟩;simp only[FrameMode.panicking.injEq]at b;subst b;obtain a|a:=kf.1 a
  .exact d e a
  .exact h.calm c f e a
 .refine⟨h.items,h.defers,h.kind,h.round,λ_=>by simp,λg b e a=>?_⟩;simp only[FrameMode.panicking.injEq]at b;subst b;exact d e a
def mo(trap t:ah):Prop:=t=trap\/(∃x,t=trap.finish x)\/∃a,t=trap.raise a
def yD{P:ay}{fr c:ah}{a:List ah}{x:af}{w:aa}(d:fr.kind=.deferred)(f:∀b,c.mode=.panicking b->∀e∈b,e.recovered=false):doReturn P main fr (c::a) none x w=.go (an c a) w #[]:=by
 simp only[doReturn,d];cases g:c.mode with
 |run=>rfl
 |returning=>rfl
 |panicking b=>
  obtain _|⟨⟨h,i,j⟩,l⟩:=b
  .rfl
  .have:=f _ g _ ga;simp only at this;subst this;rfl
def Bf(z:∀A,trap.mode=.panicking A->∀e∈A,e.recovered=false)(R:fg lk lz T cs D aj w v fr gs rf b0){x x':af}(K:∀f,aQ D aj f->x'=ak f x){g':aw}{w':aa}{es:Array aJ}(d:doReturn ⟨T,F⟩ true fr (gs++trap::below) none x w=.go g' w' es):(∃l m n k,g'=an l (m++trap::below)/\w'=w/\es=#[]/\doReturn ⟨T,F'⟩ main rf b0 none x' v=.go (an n k) v #[]/\fg lk lz T cs D aj w v l m n k)\/(gs=[]/\∃t,g'=an t below/\mo trap t):=by
 cases gs with
 |nil=>
  refine .inr ⟨rfl,?_⟩;simp only[gP]at d;obtain i|i:=R.ok.kind
  .simp only[doReturn,i,GStep.go.injEq]at d;exact⟨_,d.1.symm,.inr (.inl ⟨x,rfl⟩)⟩
  .rw[yD i z]at d;simp only[GStep.go.injEq]at d;exact⟨_,d.1.symm,.inl rfl⟩
 |cons c a=>
  refine .inl ?_;have h0:=R.aZ _ (aN R.heap 0);have q:cJ T.globals.size c:=R.cF c (by simp);have g:∀y∈a,cJ T.globals.size y:=λy L=>R.cF y (by simp[L]);have h:rf.kind=fr.kind:=by rw[h0.1];rfl
  obtain i|i:=R.ok.kind
  .simp only[fy,doReturn,i,GStep.go.injEq]at d;obtain⟨rfl,rfl,rfl⟩:=d;refine⟨c.finish x,a,(aR (λb=> @ite _ (D b) (Classical.propDecidable _) (aj b) (v.heap.size+0+b)) c).finish x',a.map (aR (λb=> @ite _ (D b) (Classical.propDecidable _) (aj b) (v.heap.size+0+b)))++cs,rfl,rfl,rfl,?_,?_⟩
   .rw[h0.2];simp only[cA,fy,doReturn,h,i];rfl
   .refine⟨R.heap,R.os,R.low,R.all,q.finish x,g,λf r=>?_⟩;have j:=R.aZ f r;rw[h0.2]at j;simp only[cA,fy,f9]at j;rw[j.2.1,K f r,oE];exact⟨rfl,j.2.2⟩
  .rw[fy,yD i q.calm]at d;simp only[GStep.go.injEq]at d;obtain⟨rfl,rfl,rfl⟩:=d;refine⟨c,a,aR (λb=> @ite _ (D b) (Classical.propDecidable _) (aj b) (v.heap.size+0+b)) c,a.map (aR (λb=> @ite _ (D b) (Classical.propDecidable _) (aj b) (v.heap.size+0+b)))++cs,rfl,rfl,rfl,?_,?_⟩
   .rw[h0.2];simp only[cA,fy];refine yD (h.trans i) ?_;intro A s e M;obtain⟨O,H,I,u,o,J,p⟩:=c;cases o with
    |panicking B=>simp only[aR,eB,FrameMode.panicking.injEq]at s;subst s;obtain⟨N,C,rfl⟩:=eS.1 M;exact q.calm B rfl N C
    |run=>simp[aR,eB]at s
    |returning=>simp[aR,eB]at s
   .refine⟨R.heap,R.os,R.low,R.all,q,g,λf r=>?_⟩;have j:=R.aZ f r;rw[h0.2]at j;simp only[cA,fy,f9]at j;exact⟨j.2.1,j.2.2⟩
def a5J.seen(d:Twin T F F' E){c:Nat->Prop}{a:Nat->Nat}{w' v':aa}{u u':Array aJ}(h:a5J D c aj a w w' v v' u u')(fn:bc):a5J D c aj a w w' v v' (seen ⟨T,F⟩ fn u) (seen ⟨T,F'⟩ fn u'):=
 ⟨h.more,h.new,h.size,h.nS,h.frame,h.tape,h.os,h.output,h.nT,h.mV,h.po,h.drawn,λf g=>by rw[h.ev f g,a0H d],h.gr,λe b=>h.qu e (Ie _ _ _ b),λe b=>h.lw e (Ie _ _ _ b)⟩
def oc{s:GStep}{u es:Array aJ}{g':aw}{w':aa}(h:s.after u=.go g' w' es):∃es2,s=.go g' w' es2:=by cases s<;>simp only[GStep.after,GStep.go.injEq,reduceCtorEq]at h;obtain⟨rfl,rfl,_⟩:=h;exact⟨_,rfl⟩
def ye{P:ay}[ne:mj P]{fr:ah}{cs:List ah}{s:Sem Next}{w w':aa}{g':aw}{es d:Array aJ}{r:Result Next}(i:s.runT P w #[]=(r,d))(e:qY r)(b:stepG.apply P true fr cs none s w=.go g' w' es):fH r=w':=by
 unfold stepG.apply at b;simp only[i,if_true]at b;cases r with
 |halt h g=>
  obtain⟨x,rfl⟩|e:=e
  .simp only[GStep.after,GStep.go.injEq]at b;exact b.2.1
  .cases h<;>simp[eO]at e<;>simp[GStep.after]at b;rename_i u;cases u<;>first|(simp at b;done)|(obtain⟨o,j,f,q⟩:=ne.early fr cs none (by assumption) g;simp[q]at b)
 |ok a g=>
  obtain⟨f,c⟩:=oc b;clear b;cases a<;>simp only[]at c
  all_goals(try(repeat' split at c))
  all_goals(try simp only[endThrow,dieOf,GStep.go.injEq,reduceCtorEq]at c)
  all_goals(first|exact c.2.1|exact c.elim)
def gy.behind{n:Nat}(h:gy w v n){c:Nat->Prop}{a:Nat->Nat}{w' v':aa}{u u':Array aJ}(b:a5J D c aj a w w' v v' u u'):gy w' v' n:=by intro i f;obtain⟨j,d,e⟩:=b.drawn;rw[b.tape,b.nT,d,e,lG,lG];exact h (j+i) (by omega)
def yd(tw:Twin T F F' E)(R:fg lk lz T cs D aj w v fr gs rf b0){s s':Sem Next}(hE:∀f,aQ D aj f->aE ⟨T,F⟩ ⟨T,F'⟩ f (RN F T.globals.size f) s s'){g':aw}{w':aa}{es:Array aJ}(t:stepG.apply ⟨T,F⟩ true fr (gs++trap::below) none s w=.go g' w' es)(N:gy w v w'.drawn):iz lk lz T F F' E cs trap below D aj w v g' w' es (stepG.apply ⟨T,F'⟩ true rf b0 none s' v):=by
 have h0:=R.aZ _ (aN R.heap 0);have ag:rf.fn=fr.fn:=by rw[h0.1];rfl
 have O:(fr.kind==CallKind.early)=false:=by obtain h|h:=R.ok.kind<;>rw[h]<;>rfl
 have Q:(rf.kind==CallKind.early)=false:=by rw[h0.1];exact O
 have al:(match fr.todo with| .call _ true _ _::_=>CallKind.wrapped|_=>.normal)=.normal:=by
  split
  .rename_i N;have:=R.ok.items _ (by rw[N];exact ga);simp[dt]at this
  .rfl
 have S:(match rf.todo with| .call _ true _ _::_=>CallKind.wrapped|_=>.normal)=.normal:=by
  rw[h0.1];split
  .rename_i d _ _ _ N;simp only[aR]at N;rcases Z:fr.todo with _|⟨i,k⟩
   .rw[Z]at N;simp at N
   .have:=R.ok.items i (by rw[Z];exact ga);rw[Z]at N;cases i<;>simp[cB,dt]at N this
  .rfl
 rcases hr:s.runT ⟨T,F⟩ w #[]with⟨r,bo⟩;have ne:=tw.early;obtain⟨a,w1,rfl,H,e,b,J,aP,ab,P,U,V,I⟩|⟨x,w1,rfl,H,e,x',J,aP,ab,P,U,V,I⟩|⟨h,w1,rfl,ad⟩:=mS R.heap R.os R.all hE hr (λm=>by rw[ye hr m t];exact N)
 .have z:=I.seen tw fr.fn;have j:∀f,aQ H e f->rf=aR f fr/\b0=gs.map (aR f)++cs:=λf m=>R.aZ f (m.less I.more);have K:=V _ (aN P 0);unfold stepG.apply at t⊢;simp only[hr,ab,if_true,O,Q,dj,if_false,ag,GStep.after]at t⊢;cases a with
  |value x=>simp only[RN]at K;subst K;simp only[GStep.go.injEq,ir]at t;obtain⟨rfl,rfl,rfl⟩:=t;refine⟨H,e,J,_,_,rfl,by simpa using z,.inl ⟨fr.finish x,gs,_,_,rfl,rfl,R.next I P U (R.ok.finish x) R.cF λf m=>?_⟩⟩;have A:=j f m;have C:=V f m;simp only[RN,Next.value.injEq]at C;rw[C,<-oE];exact⟨by rw[<-A.1],A.2⟩
  |skip=>
   simp only[RN]at K;subst K;simp only[GStep.go.injEq,ir]at t;obtain⟨rfl,rfl,rfl⟩:=t;refine⟨H,e,J,_,_,rfl,by simpa using z,.inl ⟨fr.finish undef,gs,_,_,rfl,rfl,R.next I P U (R.ok.finish undef) R.cF λf m=>?_⟩⟩;have A:=j f m;have hu:ak f undef=undef:=by simp[undef]
   rw[<-oE,hu];exact⟨by rw[<-A.1],A.2⟩
  |enter g n=>
   simp only[RN]at K;obtain⟨rfl,fn,c,L,p⟩:=K;simp only[GStep.go.injEq,ir]at t;obtain⟨rfl,rfl,rfl⟩:=t;by_cases hg:E g
   .refine⟨H,e,J,_,_,rfl,by simpa using z,.inr ⟨g,n,.normal,_,fr,gs,rf,b0,⟨hg,.inl rfl⟩,congrArg (λk=>an (Frame.enter ⟨T,F⟩ g n k) (fr::gs++trap::below)) al,congrArg (λk=>an (Frame.enter ⟨T,F'⟩ g (n.map (ak (λb=> @ite _ (H b) (Classical.propDecidable _) (e b) (J.heap.size+0+b)))) k) (rf::b0)) S,λf m=>?_,R.next I P U R.ok R.cF j⟩⟩;have:=(V f m).1;simp only[Next.enter.injEq,true_and]at this;exact this
   .obtain⟨bp,ba,bn,_,_,_,bb⟩:=tw.each g fn L;obtain⟨c1,c2,B,br,ao,ae⟩|⟨B,_⟩|⟨B,_⟩:=bb
    .have aq:=ae hg;subst aq;have bd:c1=c:=by rw[p]at B;exact(dk B).symm
     subst bd;refine⟨H,e,J,_,_,rfl,by simpa using z,.inl ⟨Frame.enter ⟨T,F⟩ g n .normal,fr::gs,Frame.enter ⟨T,F'⟩ g (n.map (ak (λb=> @ite _ (H b) (Classical.propDecidable _) (e b) (J.heap.size+0+b)))) .normal,rf::b0,congrArg (λk=>an (Frame.enter ⟨T,F⟩ g n k) (fr::gs++trap::below)) al,congrArg (λk=>an (Frame.enter ⟨T,F'⟩ g (n.map (ak (λb=> @ite _ (H b) (Classical.propDecidable _) (e b) (J.heap.size+0+b)))) k) (rf::b0)) S,R.next I P U ?_ ?_ λf m=>?_⟩⟩
     .refine⟨λi W=>?_,λd hd=>by simp[Frame.enter]at hd,.inl rfl,λh=>by simp[Frame.enter]at h,λh=>by simp[Frame.enter]at h,λc h=>by simp[Frame.enter]at h⟩;simp only[Frame.enter,L,p,lH,i6,ft]at W;subst W;exact ao
     .intro y M;obtain rfl|M:=cm.1 M
      .exact R.ok
      .exact R.cF y M
     .have A:=j f m;have C:=(V f m).1;simp only[Next.enter.injEq,true_and]at C;refine⟨?_,by rw[A.1,A.2];rfl⟩;rw[C];simp only[Frame.enter,aR,L,ba,Option.map_some,i6,lH,p,cA,d7,cB,eB,kl,kK];congr 1;rw[iM];congr 1;rw[a6R];simp[undef]
    .rw[p]at B;cases B
    .rw[p]at B;cases B
  |round l g ar bl body=>
   simp only[RN]at K;obtain⟨rfl,X,Y⟩:=K;simp only[GStep.go.injEq,ir]at t;obtain⟨rfl,rfl,rfl⟩:=t;refine⟨H,e,J,_,_,rfl,by simpa using z,.inl ⟨Frame.round l g ar bl body .normal,fr::gs,_,_,rfl,rfl,R.next I P U ?_ ?_ λf m=>?_⟩⟩
   .refine⟨λi W=>?_,λd hd=>by simp[Frame.round]at hd,.inl rfl,λ_ i W=>?_,λ_=>by simp[Frame.round],λc h=>by simp[Frame.round]at h⟩
    .simp only[Frame.round,cm,dP,or_false]at W;obtain rfl|rfl|rfl:=W
     .exact X.1
     .rfl
     .exact Y.1
    .simp only[Frame.round,cm,dP,or_false]at W;obtain rfl|rfl|rfl:=W
     .exact X.2
     .rfl
     .exact Y.2
   .intro y M;obtain rfl|M:=cm.1 M
    .exact R.ok
    .exact R.cF y M
   .have A:=j f m;have C:=(V f m).1;simp only[Next.round.injEq,and_true,true_and]at C;refine⟨?_,by rw[A.1,A.2];rfl⟩;rw[C.1,C.2];rfl
  |defer d=>
   simp only[RN]at K;obtain⟨rfl,au⟩:=K;simp only[GStep.go.injEq,ir]at t;obtain⟨rfl,rfl,rfl⟩:=t;have av:cJ T.globals.size {fr with defers:=d::fr.defers}:=⟨R.ok.items,λy M=>by
    obtain rfl|M:=cm.1 M
    .exact au
    .exact R.ok.defers y M,R.ok.kind,R.ok.round,R.ok.last,R.ok.calm⟩
   refine⟨H,e,J,_,_,rfl,by simpa using z,.inl ⟨({fr with defers:=d::fr.defers}:ah).finish undef,gs,_,_,rfl,rfl,R.next I P U (av.finish undef) R.cF λf m=>?_⟩⟩;have A:=j f m;have hu:ak f undef=undef:=by simp[undef]
   have C:=(V f m).1;simp only[Next.defer.injEq]at C;rw[<-oE,hu,C];exact⟨by rw[A.1];rfl,A.2⟩
  |_=>exact K.elim
 .have z:=I.seen tw fr.fn;have j:∀f,aQ H e f->rf=aR f fr/\b0=gs.map (aR f)++cs:=λf m=>R.aZ f (m.less I.more);unfold stepG.apply at t⊢;simp only[hr,ab,if_true,O,Q,dj,if_false,ag,GStep.after,GStep.go.injEq,ir]at t⊢;obtain⟨rfl,rfl,rfl⟩:=t;refine⟨H,e,J,_,_,rfl,by simpa using z,.inl ⟨fr.raise [{v:=x,recovered:=false}],gs,_,_,rfl,rfl,R.next I P U (R.ok.raise (by simp)) R.cF λf m=>?_⟩⟩;have A:=j f m;have C:=V f m;rw[C,<-wQ];exact⟨by rw[A.1];rfl,A.2⟩
 .exfalso;unfold stepG.apply at t;simp only[hr,if_true,O,dj,if_false,GStep.after]at t;cases h<;>simp[eO]at ad<;>simp at t;rename_i u;cases u<;>first|(simp at t;done)|(obtain⟨o,w2,bs,q⟩:=tw.early.early fr (gs++trap::below) none (by assumption) w1;simp[q]at t)
end
variable{u:Prop}{lz:Nat->Obj->Prop}{T:Tables}{F F':Array Func}{E:bc->Prop}{cs:List ah}{trap:ah}{main:Bool}{D:Nat->Prop}{aj f:Nat->Nat}{w v:aa}{fr:ah}{gs:List ah}{s:ah}{q:List ah}
def Pw(l j)(b:∀c,j=some c->cV T.globals.size c=true/\ep c=true):SE T F F' f (aC (ak f)) (Instr.endRound l j) (Instr.endRound (f l) j):=by refine(rN l).bind ?_;rintro r _ ⟨rfl,a⟩;refine aE.bind (R:=Eq) (uS l (o:=.loop {r with state:=if j.isNone then .ready else .done,pending:=j}) ⟨a.1,a.2.1,b⟩) ?_;rintro _ _ _;exact ax (by simp[aC])
def yL(h:Fit T f)(l):SE T F F' f Eq (Instr.beginRound l) (Instr.beginRound (f l)):=by refine(rN l).bind ?_;rintro r _ ⟨rfl,a⟩;refine aE.bind (R:=Eq) (uS l (o:=.loop {r with state:=.busy}) a) ?_;rintro _ _ _;obtain⟨b,d,e,g,i,c,j,k⟩:=r;cases b<;>first|exact ax rfl|exact gE h _
def Dy(h:Fit T f)(l):SE T F F' f (λa b=>b=a/\∀c,a=some c->cV T.globals.size c=true/\ep c=true) (Instr.endLoop l) (Instr.endLoop (f l)):=by refine(rN l).bind ?_;rintro r _ ⟨rfl,d⟩;refine bq (c:=(r.state==LoopState.busy)=true) bv (λ_=>lL h _) λ_=>?_;refine aE.bind (R:=Eq) (uS l (o:=.loop {r with state:=.exhausted}) d) ?_;rintro _ _ _;exact ax ⟨rfl,d.2.2⟩
def uJ(fn tmps g a b)(i:cV T.globals.size a=true/\ep a=true)(j:cV T.globals.size b=true/\ep b=true)(h):SE T F F' f (λx y=>y=(f x.1,x.2.map (dJ f))/\∀d∈x.2,fG d.target=true) (Instr.enterLoop fn tmps g a b h) (Instr.enterLoop fn (tmps.map (ak f)) g a b (h.map f)):=by
 have e:∀(r:Nat) (m:List Deferred),(∀d∈m,fG d.target=true)->SE T F F' f (λx y=>y=(f x.1,x.2.map (dJ f))/\∀d∈x.2,fG d.target=true)
   (do pure (<-newObj (.loop {state:=.ready,pending:=none,fn,tmps,params:=g,assign:=a,body:=b,defers:=r}),m))
   (do pure (<-newObj (.loop {state:=.ready,pending:=none,fn,tmps:=tmps.map (ak f),params:=g,assign:=a,body:=b,defers:=f r}),m.map (dJ f))):=by
  intro r m k;refine aE.bind (pN (o:=.loop {state:=.ready,pending:=none,fn,tmps,params:=g,assign:=a,body:=b,defers:=r}) ⟨i,j,λc n=>by cases n⟩) ?_;rintro x _ rfl;exact ax ⟨rfl,k⟩
 cases h with
 |some l=>refine(rN l).bind ?_;rintro r _ ⟨rfl,p⟩;exact e r.defers [] (by simp)
 |none=>refine aE.bind (pN (o:=.deferred (some [])) (by simp[eM])) ?_;rintro x _ rfl;have t:=e x [{target:=.collected x,args:=#[]}] (by simp[fG]);simp only[cA,d7,dJ,iI,Array.map_empty]at t;exact t
def Qa(b):SE T F F' f (λx y=>y=x.map (dJ f)/\∀d∈x,fG d.target=true) (Instr.takeDeferred b) (Instr.takeDeferred (f b)):=by
 refine(mE b).bind ?_;rintro o _ (⟨rfl,c⟩|⟨rfl,_⟩);rotate_left
 .exact aD _ _
 cases o<;>try exact aD _ _
 rename_i a;cases a with
 |none=>exact aD _ _
 |some a=>refine aE.bind (R:=Eq) (uS b (o:=.deferred none) trivial) ?_;rintro _ _ _;exact ax ⟨rfl,c⟩
def PY(h:Fit T f)(fn tmps):SE T F F' f (aC (ak f)) (results fn tmps) (results fn (tmps.map (ak f))):=by
 have:=nN;have b:∀t:Nat,(tmps.map (ak f)).getD t undef=ak f (tmps.getD t undef):=by intro t;simp only[fR,fp];cases tmps[t]? <;>simp[undef]
 unfold results;simp only[a6U];have c:∀l:List ResultVar,SE T F F' f (aC (List.map (ak f))) (l.mapM fun| .tmp t=>pure (tmps.getD t undef)| .cell a t=>do loadVar t (<-asAddr (tmps.getD a undef)))
   (l.mapM fun| .tmp t=>pure ((tmps.map (ak f)).getD t undef)| .cell a t=>do loadVar t (<-asAddr ((tmps.map (ak f)).getD a undef))):=by
  intro l;induction l with
  |nil=>simp only[a8b];exact ax rfl
  |cons r l d=>
   simp only[a7V];refine aE.bind (R:=aC (ak f)) ?_ ?_
   .cases r with
    |tmp t=>dsimp only;rw[b];exact ax rfl
    |cell a t=>dsimp only;rw[b];refine(mC h _).bind ?_;rintro x _ rfl;exact nt t x
   .rintro x _ rfl;refine aE.bind d ?_;rintro e _ rfl;exact ax rfl
 refine aE.bind (R:=aC (Array.map (ak f))) ?_ ?_
 .refine aE.bind (c fn.results.toList) ?_;rintro e _ rfl;exact ax (by simp[aC])
 .rintro g _ rfl;refine ax ?_;simp only[aC,kK];split<;>simp
def JH(ops tmps j):yielded ops (tmps.map (ak f)) j=yielded ops tmps j:=by
 unfold yielded;cases (ops[j]?).bind (·.dst)with
 |none=>rfl
 |some d=>
  simp only[lH,fp];cases tmps[d]? with
  |none=>rfl
  |some x=>cases x<;>simp
end Go.Mir
end
