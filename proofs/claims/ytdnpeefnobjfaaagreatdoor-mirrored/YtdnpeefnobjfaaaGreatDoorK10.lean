import Derived.Conc.AtomicLaws2
import Derived.Conc.Beside
import Derived.Conc.MarkLaws
import Derived.Conc.SmallLaws
import Derived.Laws.LoneSync
import Derived.Test.YtdnpeefnobjfaaaGreatDoorK09
set_option maxRecDepth 100000
set_option maxHeartbeats 4000000
set_option linter.all false
section
namespace Go.Mir
open Go
section
variable{T:Tables}{F F':Array Func}{E:bc->Prop}{Z:Nat->Prop}{K:Nat->Obj}{cs:List ah}{D:Nat->Prop}{aj:Nat->Nat}{w u v:aa}{fr rf:ah}{gs rcs:List ah}{main:Bool}
def pA{G}(h:bK Z K w u)(f:cO G w):cO G u:=by
 intro b o a;by_cases g:Z b
 .rcases h.old b g with⟨c,e,i,_,d⟩|⟨i,_,d⟩|⟨i,j,d⟩
  .rw[d]at a;cases a;trivial
  .rw[d]at a;cases a;trivial
  .rw[d]at a;exact f b o (j.trans a)
 .rw[h.other b g]at a;exact f b o a
def bK.re(h:bK Z K w u)(τ:Nat->Question->Nat)(d:Nat):bK Z K (re w τ d) (re u τ d):=⟨rfl,rfl,h.os,h.output,h.size,h.other,h.old,h.thin⟩
def Rel.ls(R:Rel T cs D aj w v fr gs rf rcs)(τ d):Rel T cs D aj (re w τ d) v fr gs rf rcs:=
 ⟨R.heap.same rfl rfl,R.os,R.low,R.all,R.ok,R.cF,R.aZ⟩
def dS(T:Tables)(Z:Nat->Prop)(K:Nat->Obj)(cs:List ah)(D:Nat->Prop)(aj:Nat->Nat)(w v:aa)(fr:ah)(gs:List ah)(rf:ah)(rcs:List ah):Prop:=
 ∃x,bK Z K x w/\Rel T cs D aj x v fr gs rf rcs
def rY(M:Twin T F F' E)(y:Twin T F F (λ_=>False))(cT:ib T F){fr1 gs1 u1 es}(h:stepG ⟨T,F⟩ true (an fr (gs++[aB ⟨T,F⟩])) (re u v.tape v.drawn)=.go (an fr1 (gs1++[aB ⟨T,F⟩])) u1 es)(R:dS T Z K cs D aj u v fr gs rf rcs):∃(n:Nat->Prop) (a:Nat->Nat) (o:aa) (j:Array aJ) (rg:aw) (x z:aa),stepG ⟨T,F'⟩ main (an rf rcs) v=.go rg o j/\bK Z K z u1/\a5J D n aj a x z v o es j/\(∀e∈es,i8 Z e)/\dh T.globals.size n a z o/\((∃A l,rg=an A l/\Rel T cs n a z o fr1 gs1 A l)\/∃q d k c B C H m,(E q/\(k=.normal\/k=.deferred))/\fr1=Frame.enter ⟨T,F⟩ q d k/\gs1=B::C/\rg=an (Frame.enter ⟨T,F'⟩ q c k) (H::m)/\(∀f,aQ n a f->c=d.map (ak f))/\Rel T cs n a z o B C H m):=by
 obtain⟨w,hF,R⟩:=R;have N:=Fa (cs:=gs++[aB ⟨T,F⟩]) y cT (u:=re u v.tape v.drawn) (w:=re w v.tape v.drawn) R.ok (pA (hF.re v.tape v.drawn) (R.ls v.tape v.drawn).all) (by simp) (hF.re _ _);obtain⟨O,P,Q,S⟩:=N _ _ _ _ h;have U:=tF (main:=main) (below:=[]) (up (trap:=aB ⟨T,F⟩) rfl) M (R.ls v.tape v.drawn) P (λi hi=>rfl);obtain⟨n,a,o,j,rg,V,I,W⟩|⟨_,t,X,_⟩:=U
 .refine⟨n,a,o,j,rg,_,O,V,Q,I,S,?_⟩;obtain⟨fr1,gs1,p,g,J,rfl,s⟩|⟨q,d,k,c,fr1,gs1,p,g,Y,J,rfl,ha,s⟩:=W
  .obtain⟨L,r⟩:=ej J;have r:=jA r;rw[<-L,<-r]at s;exact⟨s.heap,.inl ⟨p,g,rfl,s⟩⟩
  .obtain⟨L,r⟩:=ej J;have r:=jA (b:=fr1::gs1) r;exact⟨s.heap,.inr ⟨q,d,k,c,fr1,gs1,p,g,Y,L,r,rfl,ha,s⟩⟩
 .exfalso;have:=(ej X).2;simp at this
def a5W{Stop}(d:∀fr gs w,Stop fr gs w->fr.mode=.returning){q fn s}(e:F[q]?=some fn)(f:fn.body=some (.refuse s)){args k}: ¬Fin ⟨T,F⟩ (aB ⟨T,F⟩) Stop (Frame.enter ⟨T,F⟩ q args k) gs u:=by
 intro g;have a:(Frame.enter ⟨T,F⟩ q args k).mode=.run:=rfl;have b:(Frame.enter ⟨T,F⟩ q args k).todo=[.code (.refuse s)]:=by simp[Frame.enter,e,f]
 cases g with
 |stop h=>have:=d _ _ _ h;rw[a]at this;cases this
 |step i j l m c _=>have c:=c u.tape u.drawn;rw[ip a]at c;unfold stepG.exec at c;simp only[b]at c;cases c
end
end Go.Mir
end
section
namespace Go.Mir
open Go.Conc
def dS.ls{T Z K cs D aj w v fr a gs rcs}(R:dS T Z K cs D aj w v fr gs a rcs)(τ d e):dS T Z K cs D aj (re w τ d) (v.at e) fr gs a rcs:=by obtain⟨x,b,R⟩:=R;exact⟨re x τ d,b.re τ d,R.heap.same rfl rfl,R.os,R.low,R.all,R.ok,R.cF,R.aZ⟩
inductive Reach (P:ay) (trap:ah) (Stop:ah->List ah->aa->Prop):ah->List ah->aa->ah->List ah->aa->Prop
 |refl {fr:ah} {gs:List ah} {w:aa}:Reach P trap Stop fr gs w fr gs w
 |step {fr fr1 fr2:ah} {gs gs1 gs2:List ah} {w w1 w2:aa} {es:Array aJ} (τ:Nat->Question->Nat) (d:Nat) (hn: ¬Stop fr gs w) (hs:stepG P true (an fr (gs++[trap])) (re w τ d)=.go (an fr1 (gs1++[trap])) w1 es) (hr:Reach P trap Stop fr1 gs1 w1 fr2 gs2 w2):Reach P trap Stop fr gs w fr2 gs2 w2
def cK(SB:Nat->Prop):Loc->Prop
 | .cell a=>SB a.block
 |_=>False
def oo(w:aa):=(w.os,w.output)
structure Old where
 p:Nat->Nat
 D:Nat->Prop
 J:Nat->Prop
 H:Nat->Option Obj
 w:aa
def Old.Kept(Od:Old)(D:Nat->Prop)(aj:Nat->Nat)(SB:Nat->Prop)(v:aa):Prop:=(∀b,Od.D b->D b/\aj b=Od.p b)/\(∀c,Od.J c->SB c/\v.heap[c]?=Od.H c)/\oo v=oo Od.w
structure mr (T:Tables) (P:ay) (Z:Nat->Prop) (K:Nat->Obj) (cs:List ah) (Od:Old) (D:Nat->Prop) (aj:Nat->Nat) (w:aa) (fr:ah) (fs:List ah) (gs:Array aw) (v:aa) (t:aY) (q:Nat->Nat) (SB:Nat->Prop):Prop where
 rel:∃rf rcs,gs[0]?=some (an rf rcs)/\dS T Z K cs D aj w v fr fs rf rcs
 iV:Leavers P t gs q
 trace:Past (cK SB) v.heap.size t
 apart:∀b,D b->¬SB (aj b)
 low:∀c,SB c->c<v.heap.size
 keep:Od.Kept D aj SB v
def Ends(P:ay)(Post:af->aa->Prop)(m:Machine)(t:aY):Prop:=
 ∃N a o w' b,runNT P (N+1) m t=(.ended o w',b)/\runN P N m=.next a/\step P a=.ended o w'/\Good P Post a o w' b
def Ends.one{P Post m a t ops}(b:stepT P m=(.next a,ops))(h:Ends P Post a (t++ops)):Ends P Post m t:=by obtain⟨n,last,o,w,t',h1,h2,h3,h4⟩:=h;exact⟨n+1,last,o,w,t',by rw[runNT_succ_next b];exact h1,by rw[runN_succ_next b];exact h2,h3,h4⟩
theorem Ends.many{P Post}:∀{N} {m c} {t d},runNT P N m t=(.next c,d)->Ends P Post c d->Ends P Post m t
 |0,m,c,t,d,a,h=>by simp only[runNT,gQ,Stepped.next.injEq]at a;rw[a.1,a.2];exact h
 |N+1,m,c,t,d,a,h=>by
  simp only[runNT]at a;rcases b:stepT P m with⟨s,e⟩;rw[b]at a;cases s with
  |next f=>exact Ends.one b (Ends.many a h)
  |ended o w=>simp at a
section
variable{T:Tables}{F F':Array Func}{E:bc->Prop}{D B:Nat->Prop}{aj A:Nat->Nat}{w w' v v':aa}{u u':Array aJ}
def zl{G}(h:dh G B A w' v')(d:a5J D B aj A w w' v v' u u'):∀e∈u',∃j∈u,(∀f,aQ B A f->e=cz f j):=by intro e g;have h0:=d.ev _ (aN h 0);rw[h0]at g;obtain⟨i,b,rfl⟩:=fI.1 g;refine⟨u[i]'(by simpa using b),a7D _,λf k=>?_⟩;have l:=d.ev f k;have m:=h0.symm.trans l;have c:=congrArg (λa:Array aJ=>a[i]?) m;simp only[fp]at c;simp only[kK]at b;rw[eF b]at c;simpa using c
def v8{G}(a:dh G B A w' v'){b c}(h:∀f,aQ B A f->c=f b):∃b,B b/\A b=c:=by
 by_cases d:B b
 .exact⟨b,d,(h _ (aN a 0)).trans (by simp[d])|>.symm⟩
 .have e:=h _ (aN a 0);have g:=h _ (aN a 1);simp only[d,if_false]at e g;omega
def nd{SB:Nat->Prop}(a:a5J D B aj A w w' v v' u u')(e:∀b,D b->¬SB (aj b))(f:∀c,SB c->c<v.heap.size):∀b,B b->¬SB (A b):=by
 intro b g d;obtain h|h:=a.new b g
 .exact e b h (by rw[<-(a.more b h).2];exact d)
 .have:=f _ d;omega
def Old.Kept.gone{Od:Old}{SB}(h:Od.Kept D aj SB v)(a:a5J D B aj A w w' v v' u u')(g:∀b,D b->¬SB (aj b))(i:∀c,SB c->c<v.heap.size):Od.Kept B A SB v':=
 ⟨λb d=>⟨(a.more b (h.1 b d).1).1,by rw[(a.more b (h.1 b d).1).2,(h.1 b d).2]⟩,λc f=>⟨(h.2.1 c f).1,(a.frame c (i c (h.2.1 c f).1) λb d e=>g b d (e▸(h.2.1 c f).1)).trans (h.2.1 c f).2⟩,(km a.os a.output:oo v'=oo v).trans h.2.2⟩
def nx{G SB}(j:dh G B A w' v')(p:a5J D B aj A w w' v v' u u')(s:∀b,B b->¬SB (A b)):∀e∈u',EvL (cK SB) v'.heap.size e:=by
 intro e t;obtain⟨⟨n,wr,q⟩,h0,d⟩:=zl j p e t;have y:=p.qu _ h0;have hex:=d _ (aN j 0);cases n with
 |cell a=>
  have k:∃b,B b/\A b=(match e.loc with| .cell a=>a.block|_=>0):=v8 j (b:=a.block) λf o=>by rw[d f o];rfl
  rw[hex]at k⊢;obtain⟨b,h,g⟩:=k;refine⟨λx c i=>?_,by simp[cz,cX],by simp[cz,cX],?_⟩
  .simp only[cz,cX,MemAct.ofEvent,MemAct.touch?,cw]at c;subst c;simp only[cz,cX]at g;exact absurd (g▸i) (s b h)
  .have:=j.fO b h;rw[g]at this;exact this
 |obj r=>
  have k:∃b,B b/\A b=(match e.loc with| .obj a=>a|_=>0):=v8 j (b:=r) λf o=>by rw[d f o];rfl
  rw[hex]at k⊢;obtain⟨b,h,g⟩:=k;have l:=j.fO b h;rw[g]at l;refine⟨λx c i=>?_,by simp[cz,cX],by simp[cz,cX],?_⟩
  .cases wr<;>cases q<;>simp only[cz,cX,MemAct.ofEvent,MemAct.touch?,cw,reduceCtorEq]at c
   all_goals subst c;exact i.elim
  .cases wr<;>cases q<;>exact l
 |mark m=>
  have z:=y m rfl;rw[hex];cases m with
  |noRoom=>exact⟨λx c=>by simp[cz,cX,jU,MemAct.ofEvent,MemAct.touch?]at c,by simp[cz,cX,jU],by simp[cz,cX,jU],trivial⟩
  |extern f=>exact⟨λx c=>by simp[cz,cX,jU,MemAct.ofEvent,MemAct.touch?]at c,by simp[cz,cX,jU],by simp[cz,cX,jU],trivial⟩
  |_=>cases z
 |output=>rw[hex];refine⟨λx c i=>?_,by simp[cz,cX],by simp[cz,cX],trivial⟩;simp only[cz,cX,MemAct.ofEvent,MemAct.touch?,cw]at c;subst c;exact i.elim
 |goroutines=>rw[hex];refine⟨λx c i=>?_,by simp[cz,cX],by simp[cz,cX],trivial⟩;simp only[cz,cX,MemAct.ofEvent,MemAct.touch?,cw]at c;subst c;exact i.elim
end
end Go.Mir
end
section
namespace Go.Mir
open Go.Conc
open Go.ConcN (sumTo upd sumTo_upd upd_ne upd_same)
section
variable{T:Tables}{F F':Array Func}{E:bc->Prop}{P:ay}{D:Nat->Prop}{aj:Nat->Nat}{w v:aa}{fr rf:ah}{fs rcs cs:List ah}{gs:Array aw}{t:aY}{q:Nat->Nat}{SB:Nat->Prop}
def lf(d:Leavers P t gs q)(i:0<gs.size){g g' w' fn pos es}:Leavers P (t++MemOp.ofEvents 0 fn pos es) ((gs.map (woken P g g' w')).setIfInBounds 0 g') q:=
 ⟨λj x b f=>by
  have c:0≠j:=by omega
  rw[di c,fp]at f;obtain⟨y,k,rfl⟩:=fA.1 f;have h:=d.old j y b k;rw[woken_quitsD h,Deaf_other t (by omega) _ (λl a=>by obtain⟨e,_,rfl⟩:=Go.Conc.mem_ofEvents a;rfl)];exact h,λj b=>by
  rw[Deaf_other t (g':=0) (by simp at b;omega) _ (λl a=>by obtain⟨e,_,rfl⟩:=Go.Conc.mem_ofEvents a;rfl)];exact d.above j (by simpa using b)⟩
def Uf(m:Leavers P t gs q){i k g g' w' fn pos es}(n:gs[i]?=some g)(l:QuitsD P k (deafBehind (Deaf t i) es) g'):Leavers P (t++MemOp.ofEvents i fn pos es) ((gs.map (woken P g g' w')).setIfInBounds i g') (upd q i k):=
 ⟨λj x f h=>by
  have c:i<gs.size:=(bW.1 n).1;by_cases a:i=j
  .subst a;rw[j8 (by simpa using c)]at h;obtain rfl:=dk h;rw[upd_same,Deaf_own];exact l
  .rw[di a,fp]at h;obtain⟨y,o,rfl⟩:=fA.1 h;have d:=m.old j y f o;rw[woken_quitsD d,upd_ne q k (Ne.symm a),Deaf_other t a _ (λp b=>by obtain⟨e,_,rfl⟩:=Go.Conc.mem_ofEvents b;rfl)];exact d,λj f=>by
  have c:i<gs.size:=(bW.1 n).1;rw[Deaf_other t (g':=i) (by simp at f;omega) _ (λp b=>by obtain⟨e,_,rfl⟩:=Go.Conc.mem_ofEvents b;rfl)];exact m.above j (by simpa using f)⟩
def Mf(e:Leavers P t gs q){a}(h0:gs[0]?=some a)(b:a.status=.running):∀g∈gs,awake g:=by
 intro g f;obtain⟨i,d,rfl⟩:=fI.1 f;obtain rfl|c:=kh i
 .have:gs[0]=a:=by simpa[eF d]using h0
  rw[this];exact awake_of (.inl b)
 .exact awake_of ((e.old i _ c (eF d)).status.elim .inl λx=>.inr (.inr x))
def lQ{a sl}(y:Leavers P t gs q)(h0:gs[0]?=some a)(c:a.status=.running):(∃d b,stepT P (crowd gs v sl)=runT P (crowd gs (v.at d) b) 0)\/∃d b f L ops,stepT P (crowd gs v sl)=(.next (crowd f (v.at d) b),ops)/\f.size=gs.size/\f[0]?=some a/\Leavers P (t++ops) f L/\sumTo f.size L<sumTo gs.size q/\(∃i,0<i/\∀r∈ops,r.g=i/\r.act.touch?=none/\∀B,r.act.low B)/\∀{h} {B},Past h B t->Past h B (t++ops):=by
 obtain⟨i,g,d,b,s,u,n⟩:=crowd_pick (P:=P) (w:=v) (sl:=sl) (Mf y h0 c) ⟨0,a,h0,c⟩;obtain rfl|j:=kh i
 .exact .inl ⟨d,b,n⟩
 .refine .inr ?_;have x:=y.old i g j s;have z:(i==0)=false:=by simp;omega
  have A:i<gs.size:=(bW.1 s).1;cases l:q i with
  |zero=>rw[l]at x;rw[x.1]at u;cases u
  |succ k=>
   rw[l]at x;obtain⟨O,_⟩|⟨_,M,R,C,o,H⟩:=x
   .rw[O]at u;cases u
   have m:=runT_crowd_go (P:=P) (sl:=b) (i:=i) s (by rw[z];exact o (v.at d));have p:((gs.map (woken P g M (v.at d))).setIfInBounds i M).size=gs.size:=by simp
   refine⟨d,b,_,upd q i k,_,n.trans m,p,?_,Uf y s H,?_,⟨i,j,λr I=>?_⟩,λQ=>Q.mute (by omega) C⟩
   .have J:i≠0:=by omega
    rw[di J,fp,h0];simp[woken_run c]
   .rw[p];have S:sumTo gs.size (upd q i k)+(k+1)=sumTo gs.size q+k:=by have:=sumTo_upd q k id A;simpa[l]using this
    omega
   .obtain⟨e,N,rfl⟩:=Go.Conc.mem_ofEvents I;exact⟨rfl,touch_mute (C e N),λB=>low_mute (C e N) B⟩
end
def tS(T:Tables)(F F':Array Func)(E:bc->Prop)(Z:Nat->Prop)(K:Nat->Obj)(cs:List ah)(Od:Old)(Stop:ah->List ah->aa->Prop):Prop:=
 ∀(f:bc) (a:Array af) (k:CallKind) (d:Array af) (fr:ah) (fs:List ah) (rf:ah) (rcs:List ah) (D:Nat->Prop) (aj:Nat->Nat) (w v:aa) (gs:Array aw) (t:aY) (q:Nat->Nat) (SB:Nat->Prop) (r:Option (Nat×Nat)),
  E f->(k=.normal\/k=.deferred)->Fin ⟨T,F⟩ (aB ⟨T,F⟩) Stop (Frame.enter ⟨T,F⟩ f a k) (fr::fs) w->(∀g,aQ D aj g->d=a.map (ak g))->dS T Z K cs D aj w v fr fs rf rcs->
  gs[0]?=some (an (Frame.enter ⟨T,F'⟩ f d k) (rf::rcs))->Leavers ⟨T,F'⟩ t gs q->Past (cK SB) v.heap.size t->(∀b,D b->¬SB (aj b))->(∀c,SB c->c<v.heap.size)->Od.Kept D aj SB v->
  ∃M h n l o s m u e i j p,runNT ⟨T,F'⟩ M (crowd gs v r) t=(.next (crowd h n l),o)/\
   Reach ⟨T,F⟩ (aB ⟨T,F⟩) Stop (Frame.enter ⟨T,F⟩ f a k) (fr::fs) w i j p/\mr T ⟨T,F'⟩ Z K cs Od u e p i j h n o s m
section
variable{T:Tables}{F F':Array Func}{E:bc->Prop}{Z:Nat->Prop}{K:Nat->Obj}{cs:List ah}{Od:Old}{Stop:ah->List ah->aa->Prop}{Post:af->aa->Prop}
def a1r(tw:Twin T F F' E)(J:Twin T F F (λ_=>False))(cT:ib T F){fr fs w}{Y:(Nat->Question->Nat)->Nat->ah}{ng:(Nat->Question->Nat)->Nat->List ah}{nw:(Nat->Question->Nat)->Nat->aa}{ne:(Nat->Question->Nat)->Nat->Array aJ}(h:∀τ d,stepG ⟨T,F⟩ true (an fr (fs++[aB ⟨T,F⟩])) (re w τ d)=.go (an (Y τ d) (ng τ d++[aB ⟨T,F⟩])) (nw τ d) (ne τ d))(next:∀τ d D aj gs v t q SB sl,mr T ⟨T,F'⟩ Z K cs Od D aj (nw τ d) (Y τ d) (ng τ d) gs v t q SB->Ends ⟨T,F'⟩ Post (crowd gs v sl) t)(kw:∀τ d f m k j L N O z D aj v gs t q SB sl,E f->(k=.normal\/k=.deferred)->Y τ d=Frame.enter ⟨T,F⟩ f m k->ng τ d=L::N->(∀g,aQ D aj g->j=m.map (ak g))->dS T Z K cs D aj (nw τ d) v L N O z->gs[0]?=some (an (Frame.enter ⟨T,F'⟩ f j k) (O::z))->Leavers ⟨T,F'⟩ t gs q->Past (cK SB) v.heap.size t->(∀b,D b->¬SB (aj b))->(∀c,SB c->c<v.heap.size)->Od.Kept D aj SB v->Ends ⟨T,F'⟩ Post (crowd gs v sl) t):∀M D aj gs v t q SB sl,sumTo gs.size q<=M->mr T ⟨T,F'⟩ Z K cs Od D aj w fr fs gs v t q SB->Ends ⟨T,F'⟩ Post (crowd gs v sl) t:=by
 have Q:∀(D:Nat->Prop) (aj:Nat->Nat) (gs:Array aw) (v:aa) (t:aY) (q:Nat->Nat) (SB:Nat->Prop) (sl a:Option (Nat×Nat)) (d:Nat),mr T ⟨T,F'⟩ Z K cs Od D aj w fr fs gs v t q SB->stepT ⟨T,F'⟩ (crowd gs v sl)=runT ⟨T,F'⟩ (crowd gs (v.at d) a) 0->Ends ⟨T,F'⟩ Post (crowd gs v sl) t:=by
  intro D aj gs v t q SB sl a d e l;obtain⟨rf,rcs,h0,R⟩:=e.rel;have R1:dS T Z K cs D aj w (v.at d) fr fs rf rcs:=R.ls w.tape w.drawn d;have n:0<gs.size:=(bW.1 h0).1;obtain⟨D',o,S,ag,rg,x,x',hq,U,X,_,hh,hc⟩:=rY (main:=true) (v:=v.at d) tw J cT (h v.tape d) R1;have B:=runT_crowd_go (P:=⟨T,F'⟩) (sl:=a) (i:=0) h0 (show stepG ⟨T,F'⟩ (0==0) (an rf rcs) (v.at d)=_ from hq);have C:=nd X e.apart e.low;have u:v.heap.size<=S.heap.size:=X.size;have hP:=(e.trace.mono u).own (fn:=(an rf rcs).frame.fn) (pos:=(an rf rcs).frame.place) (nx hh X C);have A:∀c,SB c->c<S.heap.size:=λc hc=>cG (e.low c hc) u;have p:=Old.Kept.gone (v:=v.at d) e.keep X e.apart e.low;have r:((gs.map (woken ⟨T,F'⟩ (an rf rcs) rg S)).setIfInBounds 0 rg)[0]?=some rg:=by simp[n]
  refine Ends.one (l.trans B) ?_;obtain⟨H,s,rfl,R2⟩|⟨f,m,k,j,ab,y,H,s,hE,e1,e2,rfl,I,R2⟩:=hc
  .exact next v.tape d D' o _ S _ q SB a ⟨⟨H,s,r,x',U,R2⟩,lf e.iV n,hP,C,A,p⟩
  .exact kw v.tape d f m k j ab y H s D' o S _ _ q SB a hE.1 hE.2 e1 e2 I ⟨x',U,R2⟩ r (lf e.iV n) hP C A p
 intro M;induction M with
 |zero=>
  intro D aj gs v t q SB sl hM e;obtain⟨rf,rcs,h0,R⟩:=e.rel;obtain⟨d,a,l⟩|⟨d,a,y,q',V,l,u,r,W,ad,_,_⟩:=lQ (P:=⟨T,F'⟩) (v:=v) (sl:=sl) e.iV h0 rfl
  .exact Q D aj gs v t q SB sl a d e l
  .omega
 |succ M ih=>
  intro D aj gs v t q SB sl hM e;obtain⟨rf,rcs,h0,R⟩:=e.rel;obtain⟨d,a,l⟩|⟨d,a,y,q',V,l,u,r,W,ad,_,ae⟩:=lQ (P:=⟨T,F'⟩) (v:=v) (sl:=sl) e.iV h0 rfl
  .exact Q D aj gs v t q SB sl a d e l
  .refine Ends.one l (ih D aj y (v.at d) (t++V) q' SB a (by omega) ⟨⟨rf,rcs,r,?_⟩,W,ae e.trace,e.apart,e.low,e.keep⟩);exact R.ls w.tape w.drawn d
def a0i(U:Twin T F F' E)(i:Twin T F F (λ_=>False))(cT:ib T F)(z:tS T F F' E Z K cs Od Stop)(j:∀fr fs w D aj gs v t q SB sl,Stop fr fs w->mr T ⟨T,F'⟩ Z K cs Od D aj w fr fs gs v t q SB->Ends ⟨T,F'⟩ Post (crowd gs v sl) t){fr fs w}(hF:Fin ⟨T,F⟩ (aB ⟨T,F⟩) Stop fr fs w):∀fr2 a l,Reach ⟨T,F⟩ (aB ⟨T,F⟩) Stop fr fs w fr2 a l->∀D aj gs v t q SB sl,mr T ⟨T,F'⟩ Z K cs Od D aj l fr2 a gs v t q SB->Ends ⟨T,F'⟩ Post (crowd gs v sl) t:=by
 induction hF with
 |stop g=>
  intro fr2 a l m;cases m with
  |refl=>intro D aj gs v t q SB sl n;exact j _ _ _ _ _ _ _ _ _ _ _ g n
  |step τ d S=>exact absurd g S
 | @step fr fs w nf ng V ne h A B=>
  intro fr2 a l m;cases m with
  |refl=>intro D aj gs v t q SB sl n;refine a1r (Post:=Post) U i cT h (λτ d D aj gs v t q SB sl n=>B τ d _ _ _ .refl D aj gs v t q SB sl n) ?_ _ D aj gs v t q SB sl (aF _) n;intro τ d f o k c C H I p D aj v gs t q SB sl W X J r e R h0 Y hP L s N;have u:=A τ d;have x:=B τ d;rw[J,r]at u x;obtain⟨M,ab,v',ad,t',q',ae,D',O,fr2,a,l,y,b,Q⟩:=z f o k c C H I p D aj (V τ d) v gs t q SB sl W X u e R h0 Y hP L s N;exact Ends.many y (x _ _ _ b _ _ _ _ _ _ _ _ Q)
  |step τ d S g m=>rw[h τ d]at g;simp only[GStep.go.injEq]at g;obtain⟨hg,rfl,rfl⟩:=g;obtain⟨J,r⟩:=ej hg;have r:=jA r;subst J r;exact B τ d _ _ _ m
end
def aG(P:ay)(main:Bool):Nat->aw->aw
 |0,g=>g
 |n+1,g=>match stepG P main g default with
  | .go a _ _=>aG P main n a
  |_=>g
def fin(g:aw)(v:af):aw:=an (g.frame.finish v) g.callers
def nH:List Item->Array Oper
 | .inRegion a _::_=>a
 |_=> #[]
def p7:List Item->Nat
 | .inRegion _ (i::_)::_=>i
 |_=>0
def tn:List Item->List Nat
 | .inRegion _ (_::r)::_=>r
 |_=> []
def cI(g:aw):Oper:=((nH g.frame.todo)[p7 g.frame.todo]?).getD {dst:=none,op:=.move (.tmp 0),type:=0,pos:= "",after:=#[],guard:=none}
structure d8 (g:aw) (o:Oper):Prop where
 form:g=an g.frame g.callers
 mode:g.frame.mode=.run
 round:g.frame.roundOf=none
 todo:g.frame.todo=.inRegion (nH g.frame.todo) (p7 g.frame.todo::tn g.frame.todo)::g.frame.todo.tail
 op:(nH g.frame.todo)[p7 g.frame.todo]?=some o
 wanted:Region.wanted o (yielded (nH g.frame.todo) g.frame.tmps)=true
 kind:g.frame.kind=.normal\/g.frame.kind=.deferred
section
variable{P:ay}{main:Bool}{g:aw}{o:Oper}{w w':aa}{v:af}{es:Array aJ}
def d8.eq(h:d8 g o):g=G (g.frame.at ⟨g.frame.tmps,g.frame.defers⟩ (.inRegion (nH g.frame.todo) (p7 g.frame.todo::tn g.frame.todo)::g.frame.todo.tail)) g.callers:=by
 conv=>lhs;rw[h.form]
 have:g.frame=g.frame.at ⟨g.frame.tmps,g.frame.defers⟩ (.inRegion (nH g.frame.todo) (p7 g.frame.todo::tn g.frame.todo)::g.frame.todo.tail):=by rw[<-h.todo];have d:=h.mode;have e:=h.round;generalize g.frame=c at*;obtain⟨l,f,i,b,j,k,a⟩:=c;simp only at d e;subst d e;rfl
 exact congrArg (λc=>an c g.callers) this
def d8.fin(h:d8 g o):fin g v=G (g.frame.at ((⟨g.frame.tmps,g.frame.defers⟩:Act).put o.dst v) (.inRegion (nH g.frame.todo) (tn g.frame.todo)::g.frame.todo.tail)) g.callers:=by have e:=congrArg Goroutine.frame h.eq;unfold Mir.fin;rw[e];simp only[G];rw[Frame.finish_at,h.op];rfl
def d8.step(h:d8 g o)(a:(execOp (⟨g.frame.tmps,g.frame.defers⟩:Act).eval o).run P w=.ok (.value v) w'):stepG P main g w=.go (Mir.fin g v) w' (listed P g.frame.fn ⟨g.frame.tmps,g.frame.defers⟩ o w):=by
 rw[h.fin]
 conv=>lhs;rw[h.eq]
 exact stepG_value h.op h.wanted (by obtain k|k:=h.kind<;>rw[k]<;>simp) a
end
structure dO (Shun:Loc->Prop) (B:Nat) (t:aY):Prop where
 clean:∀said,¬Race said t
 known:∀i a,touchAt t i=some a->a.loc.isMemory=true->Knows t 0 i\/(Shun a.loc/\a.kind=.atomic)
 over:t.HandedOver
 seen:∀op∈t,op.act.low B
def dO.of{a B t}(h:Past a B t):dO a B t:=⟨h.clean,h.known,h.over,h.seen⟩
def dO.aj{a B t}(h:dO a B t)(b:Deaf t 0=0):Past a B t:=⟨h.clean,h.known,h.over,b,h.seen⟩
def dO.mono{a B c t}(h:dO a B t)(d:B<=c):dO a c t:=⟨h.clean,h.known,h.over,λe b=>MemAct.low_mono d (h.seen e b)⟩
def EvM(a:Loc->Prop)(B:Nat)(e:aJ):Prop:=(∀x,(MemAct.ofEvent e).touch?=some x->a x.loc->x.kind≠.plain)/\(MemAct.ofEvent e).low B
def dO.own{d B t}(h:dO d B t){fn pos es}(k:∀e∈es,EvM d B e):dO d B (t++MemOp.ofEvents 0 fn pos es):=by
 have m:∀j∈MemOp.ofEvents 0 fn pos es,j.g=0:=λj c=>by obtain⟨e,_,rfl⟩:=Go.Conc.mem_ofEvents c;rfl
 refine⟨λl=>noRace_append (h.clean l) m λi a n j c b D p=>?_,λi a n E=>?_,handedOver_app h.over λj c=>.inl (m j c),seen_app h.seen λj c=>?_⟩
 .obtain⟨e,q,rfl⟩:=Go.Conc.mem_ofEvents c;obtain F|⟨r,s⟩:=h.known i a n p.2.1
  .exact F
  .have u:=(k e q).1 b D (p.1▸r);obtain⟨_,_,_,f⟩:=p;rw[s]at f;obtain x|x|⟨_,x,_⟩:=f
   .cases x
   .exact absurd x u
   .cases x
 .obtain⟨x,C,y⟩:=touch_of n;obtain⟨_,z⟩|⟨_,A⟩:=getElem?_append_cases C
  .exact(h.known i a (by rw[touchAt_of z];exact y) E).imp (·.app _) id
  .have:=knows_own C;rw[m x A]at this;exact .inl this
 .obtain⟨e,q,rfl⟩:=Go.Conc.mem_ofEvents c;exact(k e q).2
def dO.mute{d B t u g}(h:dO d B t)(p:∀c∈u,c.g=g)(k:∀c∈u,c.act.touch?=none)(q:∀c∈u,c.act.low B):dO d B (t++u):=by
 refine⟨λj=>noRace_append (h.clean j) p λi a _ c e b n _=>(by rw[k c e]at n;cases n),λi a r s=>?_,handedOver_app h.over λc e=>.inr (k c e),seen_app h.seen q⟩;obtain⟨x,y,f⟩:=touch_of r;obtain⟨_,l⟩|⟨_,m⟩:=getElem?_append_cases y
 .exact(h.known i a (by rw[touchAt_of l];exact f) s).imp (·.app u) id
 .rw[k x m]at f;cases f
inductive Row (P:ay) (Shun:Loc->Prop):aw->aa->Nat->aw->aa->Nat->Prop
 |nil {g:aw} {v:aa} {d:Nat}:Row P Shun g v d g v d
 |cons {g g1 g2:aw} {v v1 v2:aa} {d d2:Nat} (es:Array aJ) (hs:g.status=.running) (hg:∀c,stepG P true g (v.at c)=.go g1 (v1.at c) es) (hz:v.heap.size<=v1.heap.size) (he:∀e∈es,EvM Shun v1.heap.size e) (h:Row P Shun g1 v1 (deafBehind d es) g2 v2 d2):Row P Shun g v d g2 v2 d2
def Row.trans{P a g b c v e f d i d2}(h:Row P a g v d b e i)(k:Row P a b e i c f d2):Row P a g v d c f d2:=by
 induction h with
 |nil=>exact k
 |cons es j l m n _ p=>exact .cons es j l m n (p k)
section
variable{P:ay}{SB:Nat->Prop}
def o7{g g' v v' d d'}(h:Row P (cK SB) g v d g' v' d'):∀gs t q sl c,gs[0]?=some g->Leavers P t gs q->dO (cK SB) v.heap.size t->Deaf t 0=d->∃N a b j r s,runNT P N (crowd gs (v.at c) sl) t=(.next (crowd a (v'.at s) b),j)/\a.size=gs.size/\a[0]?=some g'/\Leavers P j a r/\dO (cK SB) v'.heap.size j/\Deaf j 0=d':=by
 induction h with
 |nil=>intro gs t q sl c h0 u z A;exact⟨0,gs,sl,t,q,c,rfl,rfl,h0,u,z,A⟩
 | @cons g L Z v S T d d2 es U V W X _ Y=>
  have main:∀(M:Nat) (gs:Array aw) (t:aY) (q:Nat->Nat) (sl:Option (Nat×Nat)) (c:Nat),sumTo gs.size q<=M->gs[0]?=some g->Leavers P t gs q->dO (cK SB) v.heap.size t->Deaf t 0=d->
    ∃N a b j r s,runNT P N (crowd gs (v.at c) sl) t=(.next (crowd a (T.at s) b),j)/\a.size=gs.size/\a[0]?=some Z/\Leavers P j a r/\dO (cK SB) T.heap.size j/\Deaf j 0=d2:=by
   intro M;induction M with
   |zero=>
    intro gs t q sl c hM h0 u z A;obtain⟨e,b,n⟩|⟨e,b,a,r,x,n,B,C,D,O,_,_⟩:=lQ (P:=P) (v:=v.at c) (sl:=sl) u h0 U
    .have f:0<gs.size:=(bW.1 h0).1;have k:=runT_crowd_go (P:=P) (sl:=b) (i:=0) h0 (show stepG P (0==0) g (v.at e)=_ from V e);obtain⟨N,a,p,j,r,s,E,F,H,I,J,K⟩:=Y ((gs.map (woken P g L (S.at e))).setIfInBounds 0 L) (t++MemOp.ofEvents 0 g.frame.fn g.frame.place es) q b e (by simp[f]) (lf u f) ((z.mono W).own X) (by rw[Deaf_own,A]);exact⟨N+1,a,p,j,r,s,by simp only[runNT,n];rw[show((v.at c).at e)=v.at e from rfl,k];exact E,by rw[F];simp,H,I,J,K⟩
    .omega
   |succ M Q=>
    intro gs t q sl c hM h0 u z A;obtain⟨e,b,n⟩|⟨e,b,a,r,x,n,B,C,D,O,⟨i,hi,m⟩,_⟩:=lQ (P:=P) (v:=v.at c) (sl:=sl) u h0 U
    .have f:0<gs.size:=(bW.1 h0).1;have k:=runT_crowd_go (P:=P) (sl:=b) (i:=0) h0 (show stepG P (0==0) g (v.at e)=_ from V e);obtain⟨N,a,p,j,r,s,E,F,H,I,J,K⟩:=Y ((gs.map (woken P g L (S.at e))).setIfInBounds 0 L) (t++MemOp.ofEvents 0 g.frame.fn g.frame.place es) q b e (by simp[f]) (lf u f) ((z.mono W).own X) (by rw[Deaf_own,A]);exact⟨N+1,a,p,j,r,s,by simp only[runNT,n];rw[show((v.at c).at e)=v.at e from rfl,k];exact E,by rw[F];simp,H,I,J,K⟩
    .obtain⟨N,R,p,j,q2,s,E,F,H,I,J,K⟩:=Q a (t++x) r b e (by omega) C D (z.mute (λy l=>(m y l).1) (λy l=>(m y l).2.1) (λy l=>(m y l).2.2 _)) (by rw[Deaf_other t (g':=i) (by omega) x (λy l=>(m y l).1)];exact A);exact⟨N+1,R,p,j,q2,s,by simp only[runNT,n];exact E,F.trans B,H,I,J,K⟩
  exact λgs t q sl c=>main _ gs t q sl c (aF _)
end
end Go.Mir
end
section
namespace Go.Mir
open Go.Conc
def pf(P:ay)(main:Bool):Nat->aw->aa->List GStep
 |0,_,_=> []
 |n+1,g,w=>stepG P main g w::pf P main n (aG P main 1 g) w
def oI(P:ay)(main:Bool):Nat->aw->aa->List GStep
 |0,_,_=> []
 |n+1,g,w=>.go (aG P main 1 g) w #[]::oI P main n (aG P main 1 g) w
def qx(P:ay)(main:Bool):Nat->aw->List GoStatus
 |0,_=> []
 |n+1,g=>g.status::qx P main n (aG P main 1 g)
inductive aS (P:ay) (main:Bool):Nat->aw->aw->Prop
 |nil {g:aw}:aS P main 0 g g
 |cons {n:Nat} {g g1 g2:aw} (hs:g.status=.running) (hg:∀w,stepG P main g w=.go g1 w #[]) (h:aS P main n g1 g2):aS P main (n+1) g g2
theorem cq{P main}:∀{n} {g},(∀w,pf P main n g w=oI P main n g w)->qx P main n g=List.replicate n .running->aS P main n g (aG P main n g)
 |0,g,_,_=>.nil
 |n+1,g,h,c=>by
  have b:∀w,stepG P main g w=.go (aG P main 1 g) w #[]:=λw=>(a7B (h w)).1;have d:∀w,pf P main n (aG P main 1 g) w=oI P main n (aG P main 1 g) w:=λw=>(a7B (h w)).2;have a:=a7B (c.trans (List.replicate_succ ..));have e:aG P main (n+1) g=aG P main n (aG P main 1 g):=by
   conv=>lhs;unfold aG
   rw[b default]
  rw[e];exact .cons a.1 b (cq d a.2)
def eN{P main n g g'}(h:∀w,pf P main n g w=oI P main n g w)(a:qx P main n g=List.replicate n .running)(b:aG P main n g=g'):aS P main n g g':=b▸cq h a
section
variable{P:ay}{main:Bool}{g:aw}{w:aa}
def rt(h:d8 g (cI g)){src dst t x}(b:(cI g).op=.convert src dst x){a v}(d:(⟨g.frame.tmps,g.frame.defers⟩:Act).eval x=.pointer (some a))(e:P.underlying src=some (.pointer t))(f:P.underlying dst=some .unsafePointer)(c:(P.info? t).map (λi=>decide (i.size=0))=some false)(j:w.cell? a=some v):stepG P main g w=.go (fin g (.pointer (some a))) w #[]:=by
 have k:(execOp (⟨g.frame.tmps,g.frame.defers⟩:Act).eval (cI g)).run P w=.ok (.value (.pointer (some a))) w:=by unfold execOp;rw[b];dsimp only;rw[d];simp[run_convert_to_unsafe (P:=P) e f c j]
 rw[h.step k];have l:(execOp (⟨g.frame.tmps,g.frame.defers⟩:Act).eval (cI g)).events P w #[]=#[]:=by unfold execOp;rw[b];dsimp only;rw[d];simp[events_convert_to_unsafe (P:=P) e f c j]
 unfold listed;rw[l,seen_none]
def xZ(h:d8 g (cI g)){f fn x y c}(e:(cI g).op=.call {callee:=.value (.func f),args:=#[x,y],argTypes:=c})(i:P.funcs[f]?=some fn)(a:(fn.name== "runtime.NumGoroutine")=false)(j:fn.body.isNone=true)(l:Extern.findNext fn=none)(k)(m:Extern.find fn=some (Extern.Atomic.update (Op.intArith .add) k true)){b v d}(n:(⟨g.frame.tmps,g.frame.defers⟩:Act).eval x=.pointer (some b))(o:(⟨g.frame.tmps,g.frame.defers⟩:Act).eval y=.int k d)(p:w.cell? b=some (.int k v))(q:w.frozen? b=false):stepG P main g w=.go (fin g (.int k (k.wrap (v+d)))) (w.setCell b (.int k (k.wrap (v+d)))) #[⟨.cell b,false,true⟩,⟨.cell b,true,true⟩]:=by
 rw[h.fin]
 conv=>lhs;rw[h.eq]
 exact stepG_add_atomic h.op h.wanted (by obtain k|k:=h.kind<;>rw[k]<;>simp) e i a j l k m n o p q
def Ah(h:d8 g (cI g)){f fn x b}(c:(cI g).op=.call {callee:=.value (.func f),args:=#[x],argTypes:=b})(e:P.funcs[f]?=some fn)(a:(fn.name== "runtime.NumGoroutine")=false)(i:fn.body.isNone=true)(j:Extern.findNext fn=none)(k)(l:Extern.find fn=some (Extern.Atomic.loadT (.int k))){d v}(m:(⟨g.frame.tmps,g.frame.defers⟩:Act).eval x=.pointer (some d))(n:w.cell? d=some (.int k v)):stepG P main g w=.go (fin g (.int k v)) w #[⟨.cell d,false,true⟩]:=by
 rw[h.fin]
 conv=>lhs;rw[h.eq]
 exact stepG_load_atomic h.op h.wanted (by obtain k|k:=h.kind<;>rw[k]<;>simp) c e a i j k l m n
def a1B(h:d8 g (cI g)){f fn x y c}(d:(cI g).op=.call {callee:=.value (.func f),args:=#[x,y],argTypes:=c})(e:P.funcs[f]?=some fn)(a:(fn.name== "runtime.NumGoroutine")=false)(i:fn.body.isNone=true)(j:Extern.findNext fn=none)(l:Extern.find fn=some Extern.Atomic.storeT){b k v u}(m:(⟨g.frame.tmps,g.frame.defers⟩:Act).eval x=.pointer (some b))(n:(⟨g.frame.tmps,g.frame.defers⟩:Act).eval y=.int k v)(o:w.cell? b=some u)(p:w.frozen? b=false):stepG P main g w=.go (fin g (.tuple #[])) (w.setCell b (.int k v)) #[⟨.cell b,true,true⟩]:=by
 rw[h.fin]
 conv=>lhs;rw[h.eq]
 exact stepG_store_atomic h.op h.wanted (by obtain k|k:=h.kind<;>rw[k]<;>simp) d e a i j l m n o p
def Tl(h:d8 g (cI g)){f fn x y z c}(d:(cI g).op=.call {callee:=.value (.func f),args:=#[x,y,z],argTypes:=c})(i:P.funcs[f]?=some fn)(a:(fn.name== "runtime.NumGoroutine")=false)(j:fn.body.isNone=true)(l:Extern.findNext fn=none)(k)(m:Extern.find fn=some (Extern.Atomic.casT (.int k))){b v n}(o:(⟨g.frame.tmps,g.frame.defers⟩:Act).eval x=.pointer (some b))(p:(⟨g.frame.tmps,g.frame.defers⟩:Act).eval y=.int k v)(e:(⟨g.frame.tmps,g.frame.defers⟩:Act).eval z=.int k n)(q:w.cell? b=some (.int k v))(r:w.frozen? b=false):stepG P main g w=.go (fin g (.bool true)) (w.setCell b (.int k n)) #[⟨.cell b,false,true⟩,⟨.cell b,true,true⟩]:=by
 rw[h.fin]
 conv=>lhs;rw[h.eq]
 exact stepG_cas_hit h.op h.wanted (by obtain k|k:=h.kind<;>rw[k]<;>simp) d i a j l k m o p e q r
def U6(h:d8 g (cI g)){f fn x y z d}(e:(cI g).op=.call {callee:=.value (.func f),args:=#[x,y,z],argTypes:=d})(l:P.funcs[f]?=some fn)(a:(fn.name== "runtime.NumGoroutine")=false)(m:fn.body.isNone=true)(o:Extern.findNext fn=none)(k)(p:Extern.find fn=some (Extern.Atomic.casT (.int k))){c v b n}(q:(⟨g.frame.tmps,g.frame.defers⟩:Act).eval x=.pointer (some c))(r:(⟨g.frame.tmps,g.frame.defers⟩:Act).eval y=.int k b)(i:(⟨g.frame.tmps,g.frame.defers⟩:Act).eval z=.int k n)(s:w.cell? c=some (.int k v))(t:w.frozen? c=false)(j: ¬v=b):stepG P main g w=.go (fin g (.bool false)) w #[⟨.cell c,false,true⟩]:=by
 rw[h.fin]
 conv=>lhs;rw[h.eq]
 exact stepG_cas_miss h.op h.wanted (by obtain k|k:=h.kind<;>rw[k]<;>simp) e l a m o k p q r i s t j
end
def sq(u:Nat->af):Nat->Nat->List af->List af
 |_,0,L=>L
 |i,n+1,L=>u i::sq u (i+1) n L
def ru(f:Nat->Nat)(u:Nat->af)(j:Nat):af:=ak f (u j)
theorem xx(f u L):∀n i,(sq u i n L).map (ak f)=sq (ru f u) i n (L.map (ak f))
 |0,_=>rfl
 |n+1,i=>congrArg (_::·) (xx f u L n (i+1))
theorem IW{u v}:∀n i L,(∀j,i<=j->u j=v j)->sq u i n L=sq v i n L
 |0,_,_,_=>rfl
 |n+1,i,L,h=>by simp only[sq];rw[h i (aF _),IW n (i+1) L λj a=>h j (by omega)]
theorem BG:∀n i l,n<=l.length->∃u L,l=sq u i n L
 |0,_,l,_=>⟨λ_=>undef,l,rfl⟩
 |n+1,i,x::l,h=>by obtain⟨u,L,rfl⟩:=BG n (i+1) l (by simpa using h);refine⟨λj=>if j=i then x else u j,L,?_⟩;simp only[sq,if_pos];rw[IW n (i+1) L λj a=>(if_neg (by omega):(if j=i then x else u j)=u j)]
def IX(n){l}(h:n+1<=l.length):∃x u L,l=x::sq u 1 n L:=by
 cases l with
 |nil=>simp at h
 |cons x l=>obtain⟨u,L,rfl⟩:=BG n 1 l (by simpa using h);exact⟨x,u,L,rfl⟩
section
variable{P:ay}{main:Bool}{g:aw}{w:aa}{f:bc}{fn:Func}{as:Array Operand}{q:Array aA}{p:ap}
def a0P(h:d8 g (cI g))(b:(cI g).op=.call {callee:=.value (.func f),args:=as,argTypes:=q})(c:P.funcs[f]?=some fn)(a:(fn.name== "runtime.NumGoroutine")=false)(d:fn.body.isNone=true)(e:Extern.findNext fn=none)(i:Extern.find fn=some Extern.Sync.semrelease)(j:(as.map (⟨g.frame.tmps,g.frame.defers⟩:Act).eval)[0]?=some (.pointer (some p))){n}(l:w.cell? p=some (.int .u32 n))(m:w.frozen? p=false):stepG P main g w=.go (fin g (.tuple #[])) (w.setCell p (.int .u32 (IntKind.u32.wrap (n+1)))) (semEvents p):=by
 rw[h.fin]
 conv=>lhs;rw[h.eq]
 exact stepG_semrelease h.op h.wanted (by obtain k|k:=h.kind<;>rw[k]<;>simp) b c a d e i j l m
def a0O(h:d8 g (cI g))(b:(cI g).op=.call {callee:=.value (.func f),args:=as,argTypes:=q})(d:P.funcs[f]?=some fn)(a:(fn.name== "runtime.NumGoroutine")=false)(e:fn.body.isNone=true)(i:Extern.findNext fn=none)(j:Extern.find fn=some Extern.Sync.semacquire)(l:(as.map (⟨g.frame.tmps,g.frame.defers⟩:Act).eval)[0]?=some (.pointer (some p))){n}(m:w.cell? p=some (.int .u32 n))(c:n≠0)(o:w.frozen? p=false):stepG P main g w=.go (fin g (.tuple #[])) (w.setCell p (.int .u32 (n - 1))) (semEvents p):=by
 rw[h.fin]
 conv=>lhs;rw[h.eq]
 exact stepG_semacquire h.op h.wanted (by obtain k|k:=h.kind<;>rw[k]<;>simp) b d a e i j l m c o
def a0Q(h:d8 g (cI g))(b:(cI g).op=.call {callee:=.value (.func f),args:=as,argTypes:=q})(c:P.funcs[f]?=some fn)(a:(fn.name== "runtime.NumGoroutine")=false)(d:fn.body.isNone=true)(i:Extern.findNext fn=none)(j:Extern.find fn=some Extern.Sync.semacquire)(k:(as.map (⟨g.frame.tmps,g.frame.defers⟩:Act).eval)[0]?=some (.pointer (some p)))(l:w.cell? p=some (.int .u32 0)):stepG P main g w=.go {g with status:=.blocked} w #[]:=by
 have e:({g with status:=.blocked}:aw)={G (g.frame.at ⟨g.frame.tmps,g.frame.defers⟩ (.inRegion (nH g.frame.todo) (p7 g.frame.todo::tn g.frame.todo)::g.frame.todo.tail)) g.callers with status:=.blocked}:=by
  conv=>lhs;rw[h.eq]
 rw[e]
 conv=>lhs;rw[h.eq]
 exact stepG_semacquire_wait h.op h.wanted b c a d i j k l
def i9{s v w' es}(h:stepG P main g w=stepG.apply P true g.frame g.callers none s w)(a:s.runT P w #[]=(.ok (.value v) w',es))(b:(g.frame.kind==.early)=false):stepG P main g w=.go (fin g v) w' (seen P g.frame.fn es):=by rw[h];unfold stepG.apply;simp only[a,if_true,b,dj,if_false,GStep.after,fin,an,ir]
def yc{s w' es}(h:stepG P main g w=stepG.apply P true g.frame g.callers none s w)(a:s.runT P w #[]=(.ok .skip w',es))(b:(g.frame.kind==.early)=false):stepG P main g w=.go (fin g undef) w' (seen P g.frame.fn es):=by rw[h];unfold stepG.apply;simp only[a,if_true,b,dj,if_false,GStep.after,fin,an,ir]
def oK{a v}{K:af->Sem Next}{es}(b:w.cell? a=some v):(Sem.load .plain a K).runT P w es=(K v).runT P w (es.push ⟨.cell a,false,false⟩):=by
 conv=>lhs;unfold Sem.runT
 rw[b];rfl
def BH{a v u}{K:Sem Next}{es}(d:∀c,u≠.agg c)(i:∀c,u≠.tuple c)(j:w.cell? a=some v)(k:w.frozen? a=false):(Sem.store .plain a u K).runT P w es=K.runT P (w.setCell a u) (es.push ⟨.cell a,true,false⟩):=by
 have e:(Sem.store .plain a u K).runT P w es=match w.cell? a with
   |some _=>if w.frozen? a then (.halt (.unsupported (.unsafePointer "a write to bytes that a string shares")) w,es)else K.runT P (w.setCell a u) (es.push ⟨.cell a,true,Mode.plain==.atomic⟩)
   |none=>match w.farStore P a u (Mode.plain==.atomic)with
    | .ok (w,b)=>K.runT P w (es++b.toArray.map (⟨.cell ·,true,Mode.plain==.atomic⟩))
    | .error h=>(.halt h w,es):=by
  cases u<;>first|rfl|exact absurd rfl (d _)|exact absurd rfl (i _)
 rw[e,j];dsimp only;rw[k];rfl
end
end Go.Mir
end
