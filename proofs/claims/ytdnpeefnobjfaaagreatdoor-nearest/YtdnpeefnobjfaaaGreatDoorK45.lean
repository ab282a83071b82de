import Derived.Test.YtdnpeefnobjfaaaGreatDoorK34
set_option maxRecDepth 100000
set_option maxHeartbeats 4000000
set_option linter.all false
section
namespace Go.Mir
open Go Go.Proofs Go.Conc
noncomputable abbrev PG:aA:=⟨Tryz.progTables,Gh.funcs.{0}⟩
noncomputable abbrev PR:aA:=⟨Tryz.progTables,Tryz.funcs⟩
def oS(f:bW)(c:Code)(k:CallKind)(l:List aj):ah:={fn:=f,tmps:=⟨l⟩,todo:=[.code c],defers:=[],mode:=.run,kind:=k,roundOf:=none}
noncomputable def Ig:Code:=Gh.nQ.body.getD .skip
noncomputable def Cg:Code:=Tryz.f144.body.getD .skip
def rZ{P f fn c}(a:P.funcs[f]?=some fn)(d:fn.body=some c)(args k):Frame.enter P f args k=oS f c k (args.toList++List.replicate (fn.ntmps - args.size) undef):=by simp only[Frame.enter,a,d,bY,kO,b0c,oS];congr 1;apply Array.ext';simp
def kd(k:Bool):CallKind:=cond k .deferred .normal
def a9v(k:Bool)(cf:ah):ah:=cond k cf (cf.finish (.tuple #[]))
def zn{P}(k){fr cf cs w}(a:fr.kind=kd k)(d:∀c,cf.mode=.panicking c->∀e∈c,e.recovered=false):doReturn P true fr (cf::cs) none (.tuple #[]) w=.go (am (a9v k cf) cs) w #[]:=by
 cases k with
 |false=>have a:fr.kind=.normal:=a;simp only[doReturn,a];rfl
 |true=>
  have a:fr.kind=.deferred:=a;simp only[doReturn,a];cases f:cf.mode with
  |panicking c=>
   cases c with
   |nil=>rfl
   |cons e c=>have:=d _ f e a9i;obtain⟨v,r,g⟩:=e;simp only at this;subst this;rfl
  |_=>rfl
def mI:GStep->Bool
 | .ended .. =>true
 |_=>false
section
variable(k:Bool)(b o:Nat)(s:Option Nat)(u:Nat->aj)(L:List aj)(cf:ah)(cs:List ah)
noncomputable def jB(x:aj):aw:=am (oS 144 Ig (kd k) (x::sq u 1 12 L)) (cf::cs)
noncomputable def Di:aw:=am (oS 144 Cg (kd k) (.pointer (some ⟨b,o,s⟩)::sq u 1 12 L)) (cf::cs)
noncomputable def su:aw:=aD PG true 10 (jB k u L cf cs (.pointer (some ⟨b,o,s⟩)))
noncomputable def lX(B:Bool):aw:=fin (su k b o s u L cf cs) (.bool B)
noncomputable def sw:aw:=aD PG true 6 (lX k b o s u L cf cs true)
noncomputable def sx(a:aF):aw:=fin (sw k b o s u L cf cs) (.pointer (some a))
noncomputable def yo(a:aF):aw:=aD PG true 2 (sx k b o s u L cf cs a)
noncomputable def Dj:aw:=aD PR true 2 (Di k b o s u L cf cs)
noncomputable def Dk:aw:=aD PR true 1 (Dj k b o s u L cf cs)
noncomputable def qN:aw:=aD PR true 7 (Dk k b o s u L cf cs)
noncomputable def zq:aw:=fin (qN k b o s u L cf cs) (.bool true)
noncomputable def Dl:aw:=aD PR true 6 (zq k b o s u L cf cs)
noncomputable def Dm:aw:=aD PR true 1 (Dl k b o s u L cf cs)
noncomputable def qO:aw:=aD PR true 3 (Dm k b o s u L cf cs)
noncomputable def zr(a:aF):aw:=fin (qO k b o s u L cf cs) (.pointer (some a))
noncomputable def Dn(a:aF):aw:=aD PR true 1 (zr k b o s u L cf cs a)
noncomputable def zp(a:aF):aw:=aD PR true 2 (Dn k b o s u L cf cs a)
def iV{f n}{c:List ah}(h:(List.range n).map f=List.replicate n c)(i)(a:i<n):f i=c:=by have:=congrArg (λl=>l[i]?) h;simp only[b0I,b1b a,bY]at this;rw[List.getElem?_replicate,if_pos a]at this;exact db this
def US:aR PG true 10 (jB k u L cf cs (.pointer (some ⟨b,o,s⟩))) (su k b o s u L cf cs):=by cases k<;>exact sgo
def UT(i)(a:i<=10):(aD PG true i (jB k u L cf cs (.pointer (some ⟨b,o,s⟩)))).callers=cf::cs:=by
 have:((List.range 11).map λi=>(aD PG true i (jB k u L cf cs (.pointer (some ⟨b,o,s⟩)))).callers)=List.replicate 11 (cf::cs):=by cases k<;>kernel_rfl
 exact iV this i a9h
def UU:aR PG true 6 (lX k b o s u L cf cs true) (sw k b o s u L cf cs):=by cases k<;>exact sgo
def UV(i)(a:i<=6):(aD PG true i (lX k b o s u L cf cs true)).callers=cf::cs:=by
 have:((List.range 7).map λi=>(aD PG true i (lX k b o s u L cf cs true)).callers)=List.replicate 7 (cf::cs):=by cases k<;>kernel_rfl
 exact iV this i a9h
def UW(a):aR PG true 2 (sx k b o s u L cf cs a) (yo k b o s u L cf cs a):=by cases k<;>exact sgo
def UX(a i)(c:i<=2):(aD PG true i (sx k b o s u L cf cs a)).callers=cf::cs:=by
 have:((List.range 3).map λi=>(aD PG true i (sx k b o s u L cf cs a)).callers)=List.replicate 3 (cf::cs):=by cases k<;>kernel_rfl
 exact iV this i a9h
def a2l:aR PR true 2 (Di k b o s u L cf cs) (Dj k b o s u L cf cs):=by cases k<;>exact sgo
def a2n:aR PR true 7 (Dk k b o s u L cf cs) (qN k b o s u L cf cs):=by cases k<;>exact sgo
def a2o:aR PR true 6 (zq k b o s u L cf cs) (Dl k b o s u L cf cs):=by cases k<;>exact sgo
def a2p:aR PR true 3 (Dm k b o s u L cf cs) (qO k b o s u L cf cs):=by cases k<;>exact sgo
def a2m(a):aR PR true 2 (Dn k b o s u L cf cs a) (zp k b o s u L cf cs a):=by cases k<;>exact sgo
def UK(w):stepG PG true (su k b o s u L cf cs) w=stepG.apply PG true (su k b o s u L cf cs).frame (su k b o s u L cf cs).callers none (callFunc 185 #[.pointer (some ⟨b,o,s⟩),.int .i32 0,.int .i32 1]) w:=by cases k<;>kernel_rfl
def UL(w):stepG PG true (sw k b o s u L cf cs) w=stepG.apply PG true (sw k b o s u L cf cs).frame (sw k b o s u L cf cs).callers none (do pure (.value (<-convert 302 112 (.pointer (some ⟨b,o,s⟩))))) w:=by cases k<;>kernel_rfl
def UP(a w):stepG PG true (yo k b o s u L cf cs a) w=doReturn PG true (yo k b o s u L cf cs a).frame (cf::cs) none (.tuple #[]) w:=by cases k<;>kernel_rfl
def a2d(w):stepG PR true (qN k b o s u L cf cs) w=stepG.apply PR true (qN k b o s u L cf cs).frame (qN k b o s u L cf cs).callers none (callFunc 185 #[.pointer (some ⟨b,o,s⟩),.int .i32 0,.int .i32 1]) w:=by cases k<;>kernel_rfl
def a2e(w):stepG PR true (qO k b o s u L cf cs) w=stepG.apply PR true (qO k b o s u L cf cs).frame (qO k b o s u L cf cs).callers none (do pure (.value (<-convert 302 112 (.pointer (some ⟨b,o,s⟩))))) w:=by cases k<;>kernel_rfl
def a2f(w):stepG PR true (Dj k b o s u L cf cs) w=.go (Dk k b o s u L cf cs) w #[⟨.mark .disable,false,true⟩]:=by cases k<;>kernel_rfl
def a2g(w):stepG PR true (Dl k b o s u L cf cs) w=.go (Dm k b o s u L cf cs) w #[⟨.mark .enable,false,true⟩]:=by cases k<;>kernel_rfl
def a2j(a w):stepG PR true (zr k b o s u L cf cs a) w=.go (Dn k b o s u L cf cs a) w #[⟨.mark (.acquire a),false,true⟩]:=by cases k<;>kernel_rfl
def a2k(a w):stepG PR true (zp k b o s u L cf cs a) w=doReturn PR true (zp k b o s u L cf cs a).frame (cf::cs) none (.tuple #[]) w:=by cases k<;>kernel_rfl
def UM(a):(yo k b o s u L cf cs a).frame.kind=kd k:=by cases k<;>kernel_rfl
def a2h(a):(zp k b o s u L cf cs a).frame.kind=kd k:=by cases k<;>kernel_rfl
def UN(w):mI (stepG PG true (aD PG true 3 (lX k b o s u L cf cs false)) w)=true:=by cases k<;>kernel_rfl
def U0:aR PG true 3 (lX k b o s u L cf cs false) (aD PG true 3 (lX k b o s u L cf cs false)):=by cases k<;>exact sgo
def U1(i)(a:i<=3):(aD PG true i (lX k b o s u L cf cs false)).callers=cf::cs:=by
 have:((List.range 4).map λi=>(aD PG true i (lX k b o s u L cf cs false)).callers)=List.replicate 4 (cf::cs):=by cases k<;>kernel_rfl
 exact iV this i a9h
def UO(w):mI (stepG PG true (aD PG true 6 (jB k u L cf cs (.pointer none))) w)=true:=by cases k<;>kernel_rfl
def UQ:aR PG true 6 (jB k u L cf cs (.pointer none)) (aD PG true 6 (jB k u L cf cs (.pointer none))):=by cases k<;>exact sgo
def UR(i)(a:i<=6):(aD PG true i (jB k u L cf cs (.pointer none))).callers=cf::cs:=by
 have:((List.range 7).map λi=>(aD PG true i (jB k u L cf cs (.pointer none))).callers)=List.replicate 7 (cf::cs):=by cases k<;>kernel_rfl
 exact iV this i a9h
def UJ(x)(a:∀p,x≠.pointer p)(w):mI (stepG PG true (aD PG true 2 (jB k u L cf cs x)) w)=true:=by cases k<;>(cases x<;>first|exact absurd rfl (a _)|kernel_rfl)
def UY(x):aR PG true 2 (jB k u L cf cs x) (aD PG true 2 (jB k u L cf cs x)):=by cases k<;>exact sgo
def UZ(x i)(a:i<=2):(aD PG true i (jB k u L cf cs x)).callers=cf::cs:=by
 have:((List.range 3).map λi=>(aD PG true i (jB k u L cf cs x)).callers)=List.replicate 3 (cf::cs):=by cases k<;>kernel_rfl
 exact iV this i a9h
end
section
variable{P:aA}{trap:ah}{Stop:ah->List ah->aa->Prop}{fr:ah}{gs:List ah}{w:aa}
def qc(a:∀fr d w,Stop fr d w->d=[])(b:gs≠[]){cs}(c:cs=gs++[trap]){n g g'}(f:aR P true n g g')(j:g=am fr cs)(k:∀i,i<=n->(aD P true i g).callers=cs)(l:∀w,mI (stepG P true g' w)=true)(hF:Fin P trap Stop fr gs w):False:=by obtain⟨o,q1,p,_⟩:=mH a b c f j k hF;obtain⟨q,r,s,t,e,_⟩:=uI p (λh=>b (a _ _ _ h)) w.tape w.drawn;have:=l w;rw[q1,c]at this;rw[mc]at e;rw[e]at this;cases this
end
theorem runNT_add{P}:∀{N M} {m b} {t c} {r},runNT P N m t=(.next b,c)->runNT P M b c=r->runNT P (N+M) m t=r
 |0,M,m,b,t,c,r,a,d=>by simp only[runNT,b0N,Stepped.next.injEq]at a;rw[dC,a.1,a.2];exact d
 |N+1,M,m,b,t,c,r,a,d=>by
  rw[b0k];simp only[runNT]at a⊢;rcases e:stepT P m with⟨x,f⟩;rw[e]at a;cases x with
  |next g=>exact runNT_add a d
  |ended o w=>simp at a
def JZ{f}(k cf):a9v k (aO f cf)=aO f (a9v k cf):=by
 cases k with
 |true=>rfl
 |false=>have:=oV f cf (.tuple #[]);simpa[a9v]using this
def Ji{G}(k){cf}(h:bJ G cf):bJ G (a9v k cf):=by
 cases k with
 |true=>exact h
 |false=>exact h.finish _
theorem LM:PG.underlying 302=some (.pointer 107):=by kernel_rfl
theorem px:PG.underlying 112=some .unsafePointer:=by kernel_rfl
def si{SB B m}(c:(MemAct.ofEvent ⟨.mark m,false,true⟩).touch?=none)(d:(MemAct.ofEvent ⟨.mark m,false,true⟩).low B):∀e∈(#[⟨.mark m,false,true⟩]:Array aT),EvM (cn SB) B e:=by intro e a;simp only[lI,fM]at a;subst a;exact⟨λx b=>(by rw[c]at b;cases b),d⟩
def Xa{Z K cs Od Stop}(A:∀fr j w,Stop fr j w->j=[])(args k rargs fr j z i D ai w v gs t q SB sl)(hk:k=.normal\/k=.deferred)(N:Fin PG (ay PG) Stop (Frame.enter PG 144 args k) (fr::j) w)(ba:∀g,aQ D ai g->rargs=args.map (al g))(R:de Tryz.progTables Z K cs D ai w v fr j z i)(h0:gs[0]?=some (am (Frame.enter PR 144 rargs k) (z::i)))(hL:Leavers PR t gs q)(hP:Past (cn SB) v.heap.size t)(bX:∀b,D b->¬SB (ai b))(av:∀c,SB c->c<v.heap.size)(b0:Od.Kept D ai SB v):∃M br v' b1 t' q' SB' D' bb bs bw w2,runNT PR M (crowd gs v sl) t=(.next (crowd br v' b1),t')/\Reach PG (ay PG) Stop (Frame.enter PG 144 args k) (fr::j) w bs bw w2/\nA Tryz.progTables PR Z K cs Od D' bb w2 bs bw br v' t' q' SB':=by
 obtain⟨kb,rfl⟩:∃kb,k=kd kb:=by
  obtain rfl|rfl:=hk
  .exact⟨false,rfl⟩
  .exact⟨true,rfl⟩
 obtain⟨y,hF,R⟩:=R;have eG:=rZ (P:=PG) (show PG.funcs[144]?=some Gh.nQ from Gh.func144) (show Gh.nQ.body=some Ig from rfl) args (kd kb);have eR:=rZ (P:=PR) (show PR.funcs[144]?=some Tryz.f144 from Tryz.func144) (show Tryz.f144.body=some Cg from rfl) rargs (kd kb);have nG:Gh.nQ.ntmps=13:=Gh.ntmps144;have nR:Tryz.f144.ntmps=13:=Tryz.ntmps144;rw[nG]at eG;rw[nR]at eR;have bx:13<=(args.toList++List.replicate (13 - args.size) undef).length:=a9l
 have ao:=aL R.heap 0;generalize ek:(ag D ai (v.heap.size+0))=f0 at ao;have ap:∀f,aQ D ai f->rargs.toList++List.replicate (13 - rargs.size) undef=(args.toList++List.replicate (13 - args.size) undef).map (al f):=by intro f U;have:=ba f U;rw[this];simp[undef]
 obtain⟨x,u,L,hl⟩:=Lf 12 bx;rw[hl]at eG ap;rw[eG]at N⊢;have C:(fr::j)≠[]:=a9i
 have V:fr::(j++[ay PG])=(fr::j)++[ay PG]:=rfl;obtain⟨p,rfl⟩:∃p,x=.pointer p:=by refine eQ λhn=>?_;have hx:∀p,x≠.pointer p:=λp hp=>hn ⟨p,hp⟩;exact qc A C V (UY kb u L fr (j++[ay PG]) x) rfl (UZ kb u L fr (j++[ay PG]) x) (UJ kb u L fr (j++[ay PG]) x hx) N
 cases p with
 |none=>exact(qc A C V (UQ kb u L fr (j++[ay PG])) rfl (UR kb u L fr (j++[ay PG])) (UO kb u L fr (j++[ay PG])) N).elim
 |some a=>
 obtain⟨b,o,s⟩:=a;have bc:D b:=by refine l5 R.heap (c:=f0 b) λf U=>?_;have I:=ap f0 ao;rw[ap f U]at I;simp only[dq,iq,gU,bY,Value.pointer.injEq,cK,aG,Addr.mk.injEq]at I;exact I.1.1.symm
 have bd:Frame.enter PR 144 rargs (kd kb)=oS 144 Cg (kd kb) (.pointer (some ⟨ai b,o,s⟩)::sq (ru f0 u) 1 12 (L.map (al f0))):=by rw[eR,ap f0 ao];simp only[dq,zR,gU,bY,aG,ao.on b bc]
 rw[bd]at h0;obtain⟨g1,e1,F1,r1⟩:=mH A C V (US kb b o s u L fr (j++[ay PG])) rfl (UT kb b o s u L fr (j++[ay PG])) N;have bA:Row PR (cn SB) (Di kb (ai b) o s (ru f0 u) (L.map (al f0)) z i) v 0 (qN kb (ai b) o s (ru f0 u) (L.map (al f0)) z i) v 1:=
  (mj (a2l kb (ai b) o s (ru f0 u) (L.map (al f0)) z i) v 0).trans (.cons _ (by cases kb<;>kernel_rfl) (λc=>a2f kb (ai b) o s (ru f0 u) (L.map (al f0)) z i _) (az _) (si rfl trivial) (mj (a2n kb (ai b) o s (ru f0 u) (L.map (al f0)) z i) v 1))
 obtain⟨N1,b2,b3,t1,q1,c1,b4,eb,b5,b6,b7,b8⟩:=qP bA gs t q sl v.drawn h0 hL (dE.of hP) hP.hears;have b9:(g1.kind==.early)=false:=by
  have I:(su kb b o s u L fr (j++[ay PG])).frame.kind=kd kb:=by cases kb<;>kernel_rfl
  rw[e1]at I;have I:g1.kind=kd kb:=I;rw[I];cases kb<;>rfl
 have bB:∀B,lX kb b o s u L fr (j++[ay PG]) B=am (g1.finish (.bool B)) (fr::(j++[ay PG])):=λB=>by unfold lX fin;rw[e1];rfl
 have ca:Fit Tryz.progTables id:=⟨λa b h=>h,λ_ _=>rfl,im.{0}.zero⟩;obtain⟨N2,cb,cc,t2,q2,c2,gx,J,el,cd,ec,ce,cf,ck,bC,rfl,bF,w1,y1,D1,r,F2,r2,bl,R1,⟨cl,bG⟩,O,co⟩:=sS (P:=PR) (SB:=SB) (g:=qN kb (ai b) o s (ru f0 u) (L.map (al f0)) z i) (v:=v) (d:=1) (by cases kb<;>kernel_rfl)
  (Q:=λ_ gx J es=>gx=zq kb (ai b) o s (ru f0 u) (L.map (al f0)) z i/\deafBehind 1 es=1/\∃(w1 y1:aa) (D1:Nat->Prop) (r:Nat->Nat),Fin PG (ay PG) Stop (g1.finish (.bool true)) (fr::j) w1/\Reach PG (ay PG) Stop g1 (fr::j) w (g1.finish (.bool true)) (fr::j) w1/\bj Z K y1 w1/\Rel Tryz.progTables cs D1 r y1 J fr j z i/\((∀b,D b->D1 b/\r b=ai b)/\Od.Kept D1 r SB J)/\(∀b,D1 b->¬SB (r b))/\v.heap.size<=J.heap.size)
  (λc=>by
   have aq:(#[.pointer (some ⟨b,o,s⟩),.int .i32 0,.int .i32 1]:Array aj).map (al id)=#[.pointer (some ⟨b,o,s⟩),.int .i32 0,.int .i32 1]:=by simp[aG]
   obtain⟨x,w1,es,y1,D1,r,x',J,cp,⟨B,rfl⟩,F2,r2,ab,bl,R1,ar,W⟩:=vN (F':=Tryz.funcs) A C F1 (s:=callFunc 185 #[.pointer (some ⟨b,o,s⟩),.int .i32 0,.int .i32 1]) (s':=callFunc 185 #[.pointer (some ⟨ai b,o,s⟩),.int .i32 0,.int .i32 1])
    (λw=>by
     have:=UK kb b o s u L fr (j++[ay PG]) w;rw[e1]at this;exact this) b9 (Q:=λx=> ∃B,x=.bool B) (I6 (P:=PG) (show PG.funcs[185]?=some Tryz.f185 from Gh.func185) a9k a9k a9k a9k (Zv ⟨b,o,s⟩)) (yH im cL _ _)
    (by
     have:=qa (F:=Gh.funcs.{0}) (F':=Gh.funcs.{0}) ca im 185 #[.pointer (some ⟨b,o,s⟩),.int .i32 0,.int .i32 1];rw[aq]at this;exact this)
    (λf U=>by
     have:=qa (F:=Gh.funcs.{0}) (F':=Tryz.funcs) (oW ml.{0} R.low U) ml 185 #[.pointer (some ⟨b,o,s⟩),.int .i32 0,.int .i32 1];have e:(#[.pointer (some ⟨b,o,s⟩),.int .i32 0,.int .i32 1]:Array aj).map (al f)=#[.pointer (some ⟨ai b,o,s⟩),.int .i32 0,.int .i32 1]:=by simp[aG,U.on b bc]
     rw[e]at this;exact this) hF R c
   have O:=oG W bX av;have E:=oT R1.heap W O;cases B with
   |false=>exact(qc A C V (U0 kb b o s u L fr (j++[ay PG])) (bB false) (U1 kb b o s u L fr (j++[ay PG])) (UN kb b o s u L fr (j++[ay PG])) F2).elim
   |true=>
    have cq:x'=.bool true:=by
     have:=ar _ (aL R1.heap 0)
     rwa [sW]at this
    subst cq;have bI:=jv (main:=true) (a2d kb (ai b) o s (ru f0 u) (L.map (al f0)) z i (v.at c)) ab (by cases kb<;>kernel_rfl);exact⟨_,J,_,bI,W.size,λe X=>⟨(E e (eM X)).1,(E e (eM X)).2.2.2⟩,rfl,deafBehind_still (λe X=>⟨(E e (eM X)).2.1,(E e (eM X)).2.2.1⟩) 1,w1,y1,D1,r,F2,r2,bl,R1,⟨λb hb=>W.more b hb,Old.Kept.gone (v:=v.at c) b0 W⟩,O,W.size⟩)
  b2 t1 q1 b3 c1 b5 b6 b7 b8
 rw[bF]at bC;obtain⟨g3,e3,F3,r3⟩:=mH A C V (UU kb b o s u L fr (j++[ay PG])) (bB true) (UV kb b o s u L fr (j++[ay PG])) F2;have bN:Row PR (cn SB) (zq kb (ai b) o s (ru f0 u) (L.map (al f0)) z i) J 1 (qO kb (ai b) o s (ru f0 u) (L.map (al f0)) z i) J 0:=
  (mj (a2o kb (ai b) o s (ru f0 u) (L.map (al f0)) z i) J 1).trans (.cons _ (by cases kb<;>kernel_rfl) (λc=>a2g kb (ai b) o s (ru f0 u) (L.map (al f0)) z i _) (az _) (si rfl trivial) (mj (a2p kb (ai b) o s (ru f0 u) (L.map (al f0)) z i) J 0))
 obtain⟨N3,cr,cu,t3,q3,c3,cv,eg,cx,cy,cN,cS⟩:=qP bN cb t2 q2 cc J.drawn ce cf ck bC;have aP:=(cl b bc);have c0:(g3.kind==.early)=false:=by
  have I:(sw kb b o s u L fr (j++[ay PG])).frame.kind=kd kb:=by cases kb<;>kernel_rfl
  rw[e3]at I;have I:g3.kind=kd kb:=I;rw[I];cases kb<;>rfl
 have c6:∀a,sx kb b o s u L fr (j++[ay PG]) a=am (g3.finish (.pointer (some a))) (fr::(j++[ay PG])):=λa=>by unfold sx fin;rw[e3];rfl
 have ad:∀c,SB c->c<J.heap.size:=λc hc=>bL (av c hc) co;obtain⟨N4,c7,c8,t4,q4,c4,gx,Y,eo,c9,eh,dc,df,dl,bO,a1,a2,rfl,bP,w2,y2,D2,l,F4,r4,bn,H,⟨ep,bR⟩,S,dr,ds⟩:=sS (P:=PR) (SB:=SB) (g:=qO kb (ai b) o s (ru f0 u) (L.map (al f0)) z i) (v:=J) (d:=0) (by cases kb<;>kernel_rfl)
  (Q:=λ_ gx Y es=> ∃a1 a2:aF,gx=zr kb (ai b) o s (ru f0 u) (L.map (al f0)) z i a2/\deafBehind 0 es=0/\∃(w2 y2:aa) (D2:Nat->Prop) (l:Nat->Nat),Fin PG (ay PG) Stop (g3.finish (.pointer (some a1))) (fr::j) w2/\Reach PG (ay PG) Stop g3 (fr::j) w1 (g3.finish (.pointer (some a1))) (fr::j) w2/\bj Z K y2 w2/\Rel Tryz.progTables cs D2 l y2 Y fr j z i/\((∀b,D1 b->D2 b/\l b=r b)/\Od.Kept D2 l SB Y)/\(∀b,D2 b->¬SB (l b))/\J.heap.size<=Y.heap.size/\a2.block<Y.heap.size)
  (λc=>by
   obtain⟨x,w2,es,y2,D2,l,x',Y,cp,⟨a1,rfl⟩,F4,r4,ab,bn,H,ar,W⟩:=vN (F':=Tryz.funcs) A C F3 (s:=(do pure (.value (<-convert 302 112 (.pointer (some ⟨b,o,s⟩)))))) (s':=(do pure (.value (<-convert 302 112 (.pointer (some ⟨ai b,o,s⟩))))))
    (λw=>by
     have:=UL kb b o s u L fr (j++[ay PG]) w;rw[e3]at this;exact this) c0 (Q:=λx=> ∃a,x=.pointer (some a)) (NP.bind (P:=PG) (R:=λn:Next=> ∃x,n=.value x/\∃a,x=.pointer (some a)) (f:=λx=>(Sem.pure (.value x):Sem Next)) (λx hx=>(⟨x,rfl,hx⟩:∃y,Next.value x=.value y/\∃a,y=.pointer (some a))) (I7 LM px ⟨b,o,s⟩)) (NF.bind (Cv (cL.xn 302 112 rfl) _) λ_=>NF.pure _)
    (by
     have:=ux (T:=Tryz.progTables) (F:=Gh.funcs.{0}) (F':=Gh.funcs.{0}) (f:=id) 302 112 (.pointer (some ⟨b,o,s⟩));rw[kq]at this;refine this.bind ?_;rintro v _ rfl;exact ax rfl)
    (λf U=>by
     have:=ux (T:=Tryz.progTables) (F:=Gh.funcs.{0}) (F':=Tryz.funcs) (f:=f) 302 112 (.pointer (some ⟨b,o,s⟩));have e:al f (.pointer (some ⟨b,o,s⟩))=.pointer (some ⟨ai b,o,s⟩):=by simp[aG,U.on b aP.1,aP.2]
     rw[e]at this;refine this.bind ?_;rintro v _ rfl;exact ax rfl) bl R1 c
   have S:=oG W O ad;have E:=oT H.heap W S;obtain⟨a2,dy⟩:∃a2,x'=.pointer (some a2):=⟨_,by have:=ar _ (aL H.heap 0);rw[gU]at this;exact this⟩;subst dy;have bS:∃d,D2 d/\l d=a2.block:=yD H.heap (b:=a1.block) λf U=>by have:=ar f U;simp only[gU,bY,Value.pointer.injEq,cK]at this;rw[this];rfl
   obtain⟨d,hd,dD⟩:=bS;have bT:=H.heap.fQ d hd;rw[dD]at bT;have bU:=jv (main:=true) (a2e kb (ai b) o s (ru f0 u) (L.map (al f0)) z i (J.at c)) ab (by cases kb<;>kernel_rfl);exact⟨_,Y,_,bU,W.size,λe X=>⟨(E e (eM X)).1,(E e (eM X)).2.2.2⟩,a1,a2,rfl,deafBehind_still (λe X=>⟨(E e (eM X)).2.1,(E e (eM X)).2.2.1⟩) 0,w2,y2,D2,l,F4,r4,bn,H,⟨λb hb=>W.more b hb,Old.Kept.gone (v:=J.at c) bG W⟩,S,W.size,bT⟩)
  cr t3 q3 cu c3 cx cy cN cS
 rw[bP]at bO;obtain⟨g5,e5,F5,r5⟩:=mH A C V (UW kb b o s u L fr (j++[ay PG]) a1) (c6 a1) (UX kb b o s u L fr (j++[ay PG]) a1) F4;have ae:=H.ok.calm;have dT:=(H.aX _ (aL H.heap 0)).1;have au:∀ch,z.mode=.panicking ch->∀e∈ch,e.recovered=false:=by
  intro ch hm e X;rw[dT]at hm;cases bo:fr.mode with
  |panicking c=>simp only[aO,bo,dZ,FrameMode.panicking.injEq]at hm;subst hm;obtain⟨e',d0,rfl⟩:=eS.1 X;exact ae c bo e' d0
  |_=>simp[aO,bo,dZ]at hm
 have bp:stepG PG true (am g5 ((fr::j)++[ay PG])) w2=.go (am (a9v kb fr) (j++[ay PG])) w2 #[]:=by have I:=UP kb b o s u L fr (j++[ay PG]) a1 w2;have h2:=UM kb b o s u L fr (j++[ay PG]) a1;rw[zn kb h2 ae,e5]at I;exact I
 have r6:Reach PG (ay PG) Stop g5 (fr::j) w2 (a9v kb fr) j w2:=.step w2.tape w2.drawn (λh=>C (A _ _ _ h)) (by rw[mc];exact bp) .refl;have bV:Row PR (cn SB) (zr kb (ai b) o s (ru f0 u) (L.map (al f0)) z i a2) Y 0 (am (a9v kb z) i) Y 0:=
  .cons _ (by cases kb<;>kernel_rfl) (λc=>a2j kb (ai b) o s (ru f0 u) (L.map (al f0)) z i a2 _) (az _) (si rfl ds) ((mj (a2m kb (ai b) o s (ru f0 u) (L.map (al f0)) z i a2) Y 0).trans (.cons #[] (by cases kb<;>kernel_rfl) (λc=>by
   rw[a2k kb (ai b) o s (ru f0 u) (L.map (al f0)) z i a2];exact zn kb (a2h kb (ai b) o s (ru f0 u) (L.map (al f0)) z i a2) au) (az _) a9i .nil))
 obtain⟨N5,d1,d2,t5,q5,c5,d3,ei,d4,d5,d6,ea⟩:=qP bV c7 t4 q4 c8 Y.drawn dc df dl bO;refine⟨N1+(N2+(N3+(N4+N5))),d1,Y.at c5,d2,t5,q5,SB,D2,l,a9v kb fr,j,w2,?_,r1.trans (r2.trans (r3.trans (r4.trans (r5.trans r6)))),⟨⟨a9v kb z,i,d4,y2,bn,?_⟩,d5,d6.ai ea,S,λc hc=>bL (ad c hc) dr,bR⟩⟩
 .exact runNT_add b4 (runNT_add cd (runNT_add cv (runNT_add c9 d3)))
 .refine⟨H.heap.same rfl rfl,H.os,H.low,H.all,Ji kb H.ok,H.bQ,λf U=>⟨?_,(H.aX f U).2⟩⟩;rw[(H.aX f U).1,JZ]
noncomputable def LL:Code:=Gh.nS.body.getD .skip
noncomputable def DZ:Code:=Tryz.f145.body.getD .skip
section
variable(k:Bool)(b o:Nat)(s:Option Nat)(u:Nat->aj)(L:List aj)(cf:ah)(cs:List ah)
noncomputable def jC(x:aj):aw:=am (oS 145 LL (kd k) (x::sq u 1 20 L)) (cf::cs)
noncomputable def Kg:aw:=am (oS 145 DZ (kd k) (.pointer (some ⟨b,o,s⟩)::sq u 1 20 L)) (cf::cs)
noncomputable def uX:aw:=aD PG true 10 (jC k u L cf cs (.pointer (some ⟨b,o,s⟩)))
noncomputable def sC(x:aj):aw:=fin (uX k b o s u L cf cs) x
noncomputable def uY(x:aj):aw:=aD PG true 3 (sC k b o s u L cf cs x)
noncomputable def sD(x:aj)(a:aF):aw:=fin (uY k b o s u L cf cs x) (.pointer (some a))
noncomputable def uZ(x:aj)(a:aF):aw:=aD PG true 4 (sD k b o s u L cf cs x a)
noncomputable def sE(x:aj)(a:aF)(n:Int):aw:=fin (uZ k b o s u L cf cs x a) (.int .i32 n)
noncomputable def va(x:aj)(a:aF)(n:Int):aw:=aD PG true 6 (sE k b o s u L cf cs x a n)
noncomputable def lZ(x:aj)(a:aF)(n:Int)(B:Bool):aw:=am {(va k b o s u L cf cs x a n).frame with tmps:=(va k b o s u L cf cs x a n).frame.tmps.setIfInBounds 9 (.bool B)} (va k b o s u L cf cs x a n).callers
noncomputable def yt(x:aj)(a:aF)(n:Int):aw:=aD PG true 3 (lZ k b o s u L cf cs x a n true)
noncomputable def te:aw:=aD PR true 7 (Kg k b o s u L cf cs)
noncomputable def Dr(x:aj):aw:=fin (te k b o s u L cf cs) x
noncomputable def th(x:aj):aw:=aD PR true 4 (Dr k b o s u L cf cs x)
noncomputable def zx(x:aj)(a:aF):aw:=fin (th k b o s u L cf cs x) (.pointer (some a))
noncomputable def Ds(x:aj)(a:aF):aw:=aD PR true 1 (zx k b o s u L cf cs x a)
noncomputable def Dt(x:aj)(a:aF):aw:=aD PR true 2 (Ds k b o s u L cf cs x a)
noncomputable def Du(x:aj)(a:aF):aw:=aD PR true 1 (Dt k b o s u L cf cs x a)
noncomputable def qQ(x:aj)(a:aF):aw:=aD PR true 6 (Du k b o s u L cf cs x a)
noncomputable def zy(x:aj)(a:aF):aw:=fin (qQ k b o s u L cf cs x a) (.int .i32 0)
noncomputable def Dp(x:aj)(a:aF):aw:=aD PR true 11 (zy k b o s u L cf cs x a)
noncomputable def Dq(x:aj)(a:aF):aw:=aD PR true 1 (Dp k b o s u L cf cs x a)
noncomputable def zw(x:aj)(a:aF):aw:=aD PR true 2 (Dq k b o s u L cf cs x a)
def Vm:aR PG true 10 (jC k u L cf cs (.pointer (some ⟨b,o,s⟩))) (uX k b o s u L cf cs):=by cases k<;>exact sgo
def Vn(i)(a:i<=10):(aD PG true i (jC k u L cf cs (.pointer (some ⟨b,o,s⟩)))).callers=cf::cs:=by
 have:((List.range 11).map λi=>(aD PG true i (jC k u L cf cs (.pointer (some ⟨b,o,s⟩)))).callers)=List.replicate 11 (cf::cs):=by cases k<;>kernel_rfl
 exact iV this i a9h
def Vo(x):aR PG true 3 (sC k b o s u L cf cs x) (uY k b o s u L cf cs x):=by cases k<;>exact sgo
def Vp(x i)(a:i<=3):(aD PG true i (sC k b o s u L cf cs x)).callers=cf::cs:=by
 have:((List.range 4).map λi=>(aD PG true i (sC k b o s u L cf cs x)).callers)=List.replicate 4 (cf::cs):=by cases k<;>kernel_rfl
 exact iV this i a9h
def Vq(x a):aR PG true 4 (sD k b o s u L cf cs x a) (uZ k b o s u L cf cs x a):=by cases k<;>exact sgo
def Vr(x a i)(c:i<=4):(aD PG true i (sD k b o s u L cf cs x a)).callers=cf::cs:=by
 have:((List.range 5).map λi=>(aD PG true i (sD k b o s u L cf cs x a)).callers)=List.replicate 5 (cf::cs):=by cases k<;>kernel_rfl
 exact iV this i a9h
def Vs(x a n):aR PG true 6 (sE k b o s u L cf cs x a n) (va k b o s u L cf cs x a n):=by cases k<;>exact sgo
def Vt(x a n i)(c:i<=6):(aD PG true i (sE k b o s u L cf cs x a n)).callers=cf::cs:=by
 have:((List.range 7).map λi=>(aD PG true i (sE k b o s u L cf cs x a n)).callers)=List.replicate 7 (cf::cs):=by cases k<;>kernel_rfl
 exact iV this i a9h
def Vu(x a n):aR PG true 3 (lZ k b o s u L cf cs x a n true) (yt k b o s u L cf cs x a n):=by cases k<;>exact sgo
def Vv(x a n i)(c:i<=3):(aD PG true i (lZ k b o s u L cf cs x a n true)).callers=cf::cs:=by
 have:((List.range 4).map λi=>(aD PG true i (lZ k b o s u L cf cs x a n true)).callers)=List.replicate 4 (cf::cs):=by cases k<;>kernel_rfl
 exact iV this i a9h
def a2J:aR PR true 7 (Kg k b o s u L cf cs) (te k b o s u L cf cs):=by cases k<;>exact sgo
def a2M(x):aR PR true 4 (Dr k b o s u L cf cs x) (th k b o s u L cf cs x):=by cases k<;>exact sgo
def a2N(x a):aR PR true 2 (Ds k b o s u L cf cs x a) (Dt k b o s u L cf cs x a):=by cases k<;>exact sgo
def a2O(x a):aR PR true 6 (Du k b o s u L cf cs x a) (qQ k b o s u L cf cs x a):=by cases k<;>exact sgo
def a2K(x a):aR PR true 11 (zy k b o s u L cf cs x a) (Dp k b o s u L cf cs x a):=by cases k<;>exact sgo
def a2L(x a):aR PR true 2 (Dq k b o s u L cf cs x a) (zw k b o s u L cf cs x a):=by cases k<;>exact sgo
def Vd(w):stepG PG true (uX k b o s u L cf cs) w=stepG.apply PG true (uX k b o s u L cf cs).frame (uX k b o s u L cf cs).callers none (do pure (.value (<-Instr.loadAt 21 (.pointer (some ⟨b,o,s⟩))))) w:=by cases k<;>kernel_rfl
def Ve(x w):stepG PG true (uY k b o s u L cf cs x) w=stepG.apply PG true (uY k b o s u L cf cs x).frame (uY k b o s u L cf cs x).callers none (do pure (.value (<-convert 302 112 (.pointer (some ⟨b,o,s⟩))))) w:=by cases k<;>kernel_rfl
def Vf(x a w):stepG PG true (uZ k b o s u L cf cs x a) w=stepG.apply PG true (uZ k b o s u L cf cs x a).frame (uZ k b o s u L cf cs x a).callers none (callFunc 190 #[.pointer (some ⟨b,o,s⟩),.int .i32 (-1)]) w:=by cases k<;>kernel_rfl
def a2B(w):stepG PR true (te k b o s u L cf cs) w=stepG.apply PR true (te k b o s u L cf cs).frame (te k b o s u L cf cs).callers none (do pure (.value (<-Instr.loadAt 21 (.pointer (some ⟨b,o,s⟩))))) w:=by cases k<;>kernel_rfl
def a2C(x w):stepG PR true (th k b o s u L cf cs x) w=stepG.apply PR true (th k b o s u L cf cs x).frame (th k b o s u L cf cs x).callers none (do pure (.value (<-convert 302 112 (.pointer (some ⟨b,o,s⟩))))) w:=by cases k<;>kernel_rfl
def a2D(x a w):stepG PR true (qQ k b o s u L cf cs x a) w=stepG.apply PR true (qQ k b o s u L cf cs x a).frame (qQ k b o s u L cf cs x a).callers none (callFunc 190 #[.pointer (some ⟨b,o,s⟩),.int .i32 (-1)]) w:=by cases k<;>kernel_rfl
def VA(x a n):va k b o s u L cf cs x a n=lZ k b o s u L cf cs x a n (n==0):=by cases k<;>kernel_rfl
def Vj(x a n w):stepG PG true (yt k b o s u L cf cs x a n) w=doReturn PG true (yt k b o s u L cf cs x a n).frame (cf::cs) none (.tuple #[]) w:=by cases k<;>kernel_rfl
def a2I(x a w):stepG PR true (zw k b o s u L cf cs x a) w=doReturn PR true (zw k b o s u L cf cs x a).frame (cf::cs) none (.tuple #[]) w:=by cases k<;>kernel_rfl
def Vg(x a n):(yt k b o s u L cf cs x a n).frame.kind=kd k:=by cases k<;>kernel_rfl
def a2G(x a):(zw k b o s u L cf cs x a).frame.kind=kd k:=by cases k<;>kernel_rfl
def a2H(x a w):stepG PR true (zx k b o s u L cf cs x a) w=.go (Ds k b o s u L cf cs x a) w #[⟨.mark (.releaseMerge a),false,true⟩]:=by cases k<;>kernel_rfl
def a2E(x a w):stepG PR true (Dt k b o s u L cf cs x a) w=.go (Du k b o s u L cf cs x a) w #[⟨.mark .disable,false,true⟩]:=by cases k<;>kernel_rfl
def a2F(x a w):stepG PR true (Dp k b o s u L cf cs x a) w=.go (Dq k b o s u L cf cs x a) w #[⟨.mark .enable,false,true⟩]:=by cases k<;>kernel_rfl
def Vh(x a n w):mI (stepG PG true (aD PG true 1 (lZ k b o s u L cf cs x a n false)) w)=true:=by cases k<;>kernel_rfl
def Vy(x a n):aR PG true 1 (lZ k b o s u L cf cs x a n false) (aD PG true 1 (lZ k b o s u L cf cs x a n false)):=by cases k<;>exact sgo
def Vz(x a n i)(c:i<=1):(aD PG true i (lZ k b o s u L cf cs x a n false)).callers=cf::cs:=by
 have:((List.range 2).map λi=>(aD PG true i (lZ k b o s u L cf cs x a n false)).callers)=List.replicate 2 (cf::cs):=by cases k<;>kernel_rfl
 exact iV this i a9h
def Vi(w):mI (stepG PG true (aD PG true 6 (jC k u L cf cs (.pointer none))) w)=true:=by cases k<;>kernel_rfl
def Vk:aR PG true 6 (jC k u L cf cs (.pointer none)) (aD PG true 6 (jC k u L cf cs (.pointer none))):=by cases k<;>exact sgo
def Vl(i)(a:i<=6):(aD PG true i (jC k u L cf cs (.pointer none))).callers=cf::cs:=by
 have:((List.range 7).map λi=>(aD PG true i (jC k u L cf cs (.pointer none))).callers)=List.replicate 7 (cf::cs):=by cases k<;>kernel_rfl
 exact iV this i a9h
def Va(x)(a:∀p,x≠.pointer p)(w):mI (stepG PG true (aD PG true 2 (jC k u L cf cs x)) w)=true:=by cases k<;>(cases x<;>first|exact absurd rfl (a _)|kernel_rfl)
def Vw(x):aR PG true 2 (jC k u L cf cs x) (aD PG true 2 (jC k u L cf cs x)):=by cases k<;>exact sgo
def Vx(x i)(a:i<=2):(aD PG true i (jC k u L cf cs x)).callers=cf::cs:=by
 have:((List.range 3).map λi=>(aD PG true i (jC k u L cf cs x)).callers)=List.replicate 3 (cf::cs):=by cases k<;>kernel_rfl
 exact iV this i a9h
end
theorem I8{P}(a):∀n i b,NP P (λ_=>True) (loadCellsFrom a i n b)
 |0,_,_=>trivial
 |n+1,_,_=>λ_=>I8 a n _ _
def Zx{P}(t a):NP P (λ_=>True) (Instr.loadAt t (.pointer (some a))):=by
 refine NP.bind (Q:=λx=>x=a) (λx b=>?_) (show NP P (λx=>x=a) (Instr.sureAddr (.pointer (some a)))from rfl);subst b;unfold loadVar;refine NP.bind (Q:=λ_=>True) (λc _=>?_) ?_
 .cases c with
  |true=>refine NP.bind (Q:=λ_=>True) (λn _=>?_) (Ja _);exact NP.bind (P:=P) (Q:=λ_=>True) (R:=λ_=>True) (f:=λc=>(Sem.pure (.agg c):Sem aj)) (λ_ _=>trivial) (I8 _ _ _ _)
  |false=>intro v;trivial
 .unfold isAgg;refine NP.bind (Q:=λ_=>True) (s:=underlying t) (λd _=>?_) ?_
  .cases d<;>trivial
  .unfold underlying;refine NP.bind (Q:=λ_=>True) (s:=program) (λp _=>?_) trivial;split<;>trivial
def a5z{Z K cs Od Stop}(E:∀fr j w,Stop fr j w->j=[])(args k rargs fr j B i D ai w v gs t q SB sl)(hk:k=.normal\/k=.deferred)(Y:Fin PG (ay PG) Stop (Frame.enter PG 145 args k) (fr::j) w)(bl:∀g,aQ D ai g->rargs=args.map (al g))(R:de Tryz.progTables Z K cs D ai w v fr j B i)(h0:gs[0]?=some (am (Frame.enter PR 145 rargs k) (B::i)))(hL:Leavers PR t gs q)(hP:Past (cn SB) v.heap.size t)(b8:∀b,D b->¬SB (ai b))(bc:∀c,SB c->c<v.heap.size)(b9:Od.Kept D ai SB v):∃M bC v' ca t' q' SB' D' bn bF bG w2,runNT PR M (crowd gs v sl) t=(.next (crowd bC v' ca),t')/\Reach PG (ay PG) Stop (Frame.enter PG 145 args k) (fr::j) w bF bG w2/\nA Tryz.progTables PR Z K cs Od D' bn w2 bF bG bC v' t' q' SB':=by
 obtain⟨kb,rfl⟩:∃kb,k=kd kb:=by
  obtain rfl|rfl:=hk
  .exact⟨false,rfl⟩
  .exact⟨true,rfl⟩
 obtain⟨y,hF,R⟩:=R;have eG:=rZ (P:=PG) (show PG.funcs[145]?=some Gh.nS from Gh.func145) (show Gh.nS.body=some LL from rfl) args (kd kb);have eR:=rZ (P:=PR) (show PR.funcs[145]?=some Tryz.f145 from Tryz.func145) (show Tryz.f145.body=some DZ from rfl) rargs (kd kb);have nG:Gh.nS.ntmps=21:=Gh.ntmps145;have nR:Tryz.f145.ntmps=21:=Tryz.ntmps145;rw[nG]at eG;rw[nR]at eR;have bI:21<=(args.toList++List.replicate (21 - args.size) undef).length:=a9l
 have av:=aL R.heap 0;generalize f7:(ag D ai (v.heap.size+0))=f0 at av;have aP:∀f,aQ D ai f->rargs.toList++List.replicate (21 - rargs.size) undef=(args.toList++List.replicate (21 - args.size) undef).map (al f):=by intro f W;have:=bl f W;rw[this];simp[undef]
 obtain⟨x,u,L,hl⟩:=Lf 20 bI;rw[hl]at eG aP;rw[eG]at Y⊢;have H:(fr::j)≠[]:=a9i
 have S:fr::(j++[ay PG])=(fr::j)++[ay PG]:=rfl;obtain⟨p,rfl⟩:∃p,x=.pointer p:=by refine eQ λhn=>?_;have hx:∀p,x≠.pointer p:=λp hp=>hn ⟨p,hp⟩;exact qc E H S (Vw kb u L fr (j++[ay PG]) x) rfl (Vx kb u L fr (j++[ay PG]) x) (Va kb u L fr (j++[ay PG]) x hx) Y
 cases p with
 |none=>exact(qc E H S (Vk kb u L fr (j++[ay PG])) rfl (Vl kb u L fr (j++[ay PG])) (Vi kb u L fr (j++[ay PG])) Y).elim
 |some a=>
 obtain⟨b,o,s⟩:=a;have bo:D b:=by refine l5 R.heap (c:=f0 b) λf W=>?_;have h1:=aP f0 av;rw[aP f W]at h1;simp only[dq,iq,gU,bY,Value.pointer.injEq,cK,aG,Addr.mk.injEq]at h1;exact h1.1.1.symm
 have bp:Frame.enter PR 145 rargs (kd kb)=oS 145 DZ (kd kb) (.pointer (some ⟨ai b,o,s⟩)::sq (ru f0 u) 1 20 (L.map (al f0))):=by rw[eR,aP f0 av];simp only[dq,zR,gU,bY,aG,av.on b bo]
 rw[bp]at h0;have cb:Fit Tryz.progTables id:=⟨λa b h=>h,λ_ _=>rfl,im.{0}.zero⟩;have N:∀{g:aw} {h:ah} {c:List ah},g=am h c->g.frame.kind=kd kb->(h.kind==.early)=false:=λe h1=>by rw[e]at h1;have h1:_=kd kb:=h1;have h2:=h1;simp only[am]at h2;rw[h2];cases kb<;>rfl
 obtain⟨g1,e1,F1,r1⟩:=mH E H S (Vm kb b o s u L fr (j++[ay PG])) rfl (Vn kb b o s u L fr (j++[ay PG])) Y;obtain⟨N1,cc,cd,t1,q1,c1,ce,fz,cf,ck,cl,co⟩:=qP (SB:=SB) (mj (a2J kb (ai b) o s (ru f0 u) (L.map (al f0)) B i) v 0) gs t q sl v.drawn h0 hL (dE.of hP) hP.hears;have cp:=N e1 (by cases kb<;>kernel_rfl);have cq:∀x,sC kb b o s u L fr (j++[ay PG]) x=am (g1.finish x) (fr::(j++[ay PG])):=λx=>by unfold sC fin;rw[e1];rfl
 obtain⟨N2,cr,cu,t2,q2,c2,gx,v1,gb,cv,f1,cx,cy,cN,bN,x,I,rfl,bO,w1,y1,D1,r,F2,r2,br,R1,⟨cS,bP⟩,ab,c0⟩:=sS (P:=PR) (SB:=SB) (g:=te kb (ai b) o s (ru f0 u) (L.map (al f0)) B i) (v:=v) (d:=0) (by cases kb<;>kernel_rfl)
  (Q:=λ_ gx v1 es=> ∃x I,gx=Dr kb (ai b) o s (ru f0 u) (L.map (al f0)) B i I/\deafBehind 0 es=0/\∃(w1 y1:aa) (D1:Nat->Prop) (r:Nat->Nat),Fin PG (ay PG) Stop (g1.finish x) (fr::j) w1/\Reach PG (ay PG) Stop g1 (fr::j) w (g1.finish x) (fr::j) w1/\bj Z K y1 w1/\Rel Tryz.progTables cs D1 r y1 v1 fr j B i/\((∀b,D b->D1 b/\r b=ai b)/\Od.Kept D1 r SB v1)/\(∀b,D1 b->¬SB (r b))/\v.heap.size<=v1.heap.size)
  (λc=>by
   obtain⟨x,w1,es,y1,D1,r,I,v1,bR,_,F2,r2,U,br,R1,ap,J⟩:=vN (F':=Tryz.funcs) E H F1 (s:=(do pure (.value (<-Instr.loadAt 21 (.pointer (some ⟨b,o,s⟩)))))) (s':=(do pure (.value (<-Instr.loadAt 21 (.pointer (some ⟨ai b,o,s⟩))))))
    (λw=>by
     have:=Vd kb b o s u L fr (j++[ay PG]) w;rw[e1]at this;exact this) cp (Q:=λ_=>True) (NP.bind (P:=PG) (R:=λn:Next=> ∃x,n=.value x/\True) (f:=λx=>(Sem.pure (.value x):Sem Next)) (λx hx=>(⟨x,rfl,hx⟩:∃y,Next.value x=.value y/\True)) (Zx 21 ⟨b,o,s⟩)) (NF.bind (IL _ _) λ_=>NF.pure _)
    (by
     have:=Bf (T:=Tryz.progTables) (F:=Gh.funcs.{0}) (F':=Gh.funcs.{0}) (f:=id) 21 (.pointer (some ⟨b,o,s⟩));rw[kq]at this;refine this.bind ?_;rintro v _ rfl;exact ax rfl)
    (λf W=>by
     have:=Bf (T:=Tryz.progTables) (F:=Gh.funcs.{0}) (F':=Tryz.funcs) (f:=f) 21 (.pointer (some ⟨b,o,s⟩));have e:al f (.pointer (some ⟨b,o,s⟩))=.pointer (some ⟨ai b,o,s⟩):=by simp[aG,W.on b bo]
     rw[e]at this;refine this.bind ?_;rintro v _ rfl;exact ax rfl) hF R c
   have ab:=oG J b8 bc;have C:=oT R1.heap J ab;have bS:=jv (main:=true) (a2B kb (ai b) o s (ru f0 u) (L.map (al f0)) B i (v.at c)) U (by cases kb<;>kernel_rfl);exact⟨_,v1,_,bS,J.size,λe O=>⟨(C e (eM O)).1,(C e (eM O)).2.2.2⟩,x,I,rfl,deafBehind_still (λe O=>⟨(C e (eM O)).2.1,(C e (eM O)).2.2.1⟩) 0,w1,y1,D1,r,F2,r2,br,R1,⟨λb hb=>J.more b hb,Old.Kept.gone (v:=v.at c) b9 J⟩,ab,J.size⟩)
  cc t1 q1 cd c1 cf ck cl co
 rw[bO]at bN;obtain⟨g3,e3,F3,r3⟩:=mH E H S (Vo kb b o s u L fr (j++[ay PG]) x) (cq x) (Vp kb b o s u L fr (j++[ay PG]) x) F2;obtain⟨N3,c8,c9,t3,q3,c3,dc,f2,df,dl,dr,ds⟩:=qP (SB:=SB) (mj (a2M kb (ai b) o s (ru f0 u) (L.map (al f0)) B i I) v1 0) cr t2 q2 cu v1.drawn cx cy cN bN;have ad:=(cS b bo);have dy:=N e3 (by cases kb<;>kernel_rfl);have dD:∀a,sD kb b o s u L fr (j++[ay PG]) x a=am (g3.finish (.pointer (some a))) (fr::(j++[ay PG])):=λa=>by unfold sD fin;rw[e3];rfl
 have aq:∀c,SB c->c<v1.heap.size:=λc hc=>bL (bc c hc) c0;obtain⟨N4,dT,d0,t4,q4,c4,gx,V,gc,d1,f3,d2,d3,d4,bT,a1,a2,rfl,bU,w2,y2,D2,l,F4,r4,bs,R2,⟨d5,bV⟩,ae,d6,ea⟩:=sS (P:=PR) (SB:=SB) (g:=th kb (ai b) o s (ru f0 u) (L.map (al f0)) B i I) (v:=v1) (d:=0) (by cases kb<;>kernel_rfl)
  (Q:=λ_ gx V es=> ∃a1 a2:aF,gx=zx kb (ai b) o s (ru f0 u) (L.map (al f0)) B i I a2/\deafBehind 0 es=0/\∃(w2 y2:aa) (D2:Nat->Prop) (l:Nat->Nat),Fin PG (ay PG) Stop (g3.finish (.pointer (some a1))) (fr::j) w2/\Reach PG (ay PG) Stop g3 (fr::j) w1 (g3.finish (.pointer (some a1))) (fr::j) w2/\bj Z K y2 w2/\Rel Tryz.progTables cs D2 l y2 V fr j B i/\((∀b,D1 b->D2 b/\l b=r b)/\Od.Kept D2 l SB V)/\(∀b,D2 b->¬SB (l b))/\v1.heap.size<=V.heap.size/\a2.block<V.heap.size)
  (λc=>by
   obtain⟨z,w2,es,y2,D2,l,z',V,bR,⟨a1,rfl⟩,F4,r4,U,bs,R2,ap,J⟩:=vN (F':=Tryz.funcs) E H F3 (s:=(do pure (.value (<-convert 302 112 (.pointer (some ⟨b,o,s⟩)))))) (s':=(do pure (.value (<-convert 302 112 (.pointer (some ⟨ai b,o,s⟩))))))
    (λw=>by
     have:=Ve kb b o s u L fr (j++[ay PG]) x w;rw[e3]at this;exact this) dy (Q:=λx=> ∃a,x=.pointer (some a)) (NP.bind (P:=PG) (R:=λn:Next=> ∃x,n=.value x/\∃a,x=.pointer (some a)) (f:=λx=>(Sem.pure (.value x):Sem Next)) (λx hx=>(⟨x,rfl,hx⟩:∃y,Next.value x=.value y/\∃a,y=.pointer (some a))) (I7 LM px ⟨b,o,s⟩)) (NF.bind (Cv (cL.xn 302 112 rfl) _) λ_=>NF.pure _)
    (by
     have:=ux (T:=Tryz.progTables) (F:=Gh.funcs.{0}) (F':=Gh.funcs.{0}) (f:=id) 302 112 (.pointer (some ⟨b,o,s⟩));rw[kq]at this;refine this.bind ?_;rintro v _ rfl;exact ax rfl)
    (λf W=>by
     have:=ux (T:=Tryz.progTables) (F:=Gh.funcs.{0}) (F':=Tryz.funcs) (f:=f) 302 112 (.pointer (some ⟨b,o,s⟩));have e:al f (.pointer (some ⟨b,o,s⟩))=.pointer (some ⟨ai b,o,s⟩):=by simp[aG,W.on b ad.1,ad.2]
     rw[e]at this;refine this.bind ?_;rintro v _ rfl;exact ax rfl) br R1 c
   have ae:=oG J ab aq;have C:=oT R2.heap J ae;obtain⟨a2,eb⟩:∃a2,z'=.pointer (some a2):=⟨_,by have:=ap _ (aL R2.heap 0);rw[gU]at this;exact this⟩;subst eb;have bX:∃d,D2 d/\l d=a2.block:=yD R2.heap (b:=a1.block) λf W=>by have:=ap f W;simp only[gU,bY,Value.pointer.injEq,cK]at this;rw[this];rfl
   obtain⟨d,hd,ec⟩:=bX;have b0:=R2.heap.fQ d hd;rw[ec]at b0;have b1:=jv (main:=true) (a2C kb (ai b) o s (ru f0 u) (L.map (al f0)) B i I (v1.at c)) U (by cases kb<;>kernel_rfl);exact⟨_,V,_,b1,J.size,λe O=>⟨(C e (eM O)).1,(C e (eM O)).2.2.2⟩,a1,a2,rfl,deafBehind_still (λe O=>⟨(C e (eM O)).2.1,(C e (eM O)).2.2.1⟩) 0,w2,y2,D2,l,F4,r4,bs,R2,⟨λb hb=>J.more b hb,Old.Kept.gone (v:=v1.at c) bP J⟩,ae,J.size,b0⟩)
  c8 t3 q3 c9 c3 df dl dr ds
 rw[bU]at bT;obtain⟨g5,e5,F5,r5⟩:=mH E H S (Vq kb b o s u L fr (j++[ay PG]) x a1) (dD a1) (Vr kb b o s u L fr (j++[ay PG]) x a1) F4;have b2:Row PR (cn SB) (zx kb (ai b) o s (ru f0 u) (L.map (al f0)) B i I a2) V 0 (qQ kb (ai b) o s (ru f0 u) (L.map (al f0)) B i I a2) V 1:=
  .cons _ (by cases kb<;>kernel_rfl) (λc=>a2H kb (ai b) o s (ru f0 u) (L.map (al f0)) B i I a2 _) (az _) (si rfl ea) ((mj (a2N kb (ai b) o s (ru f0 u) (L.map (al f0)) B i I a2) V 0).trans (.cons _ (by cases kb<;>kernel_rfl) (λc=>a2E kb (ai b) o s (ru f0 u) (L.map (al f0)) B i I a2 _) (az _) (si rfl trivial) (mj (a2O kb (ai b) o s (ru f0 u) (L.map (al f0)) B i I a2) V 1)))
 obtain⟨N5,eg,eh,t5,q5,c5,ei,f4,ek,el,eo,ep⟩:=qP b2 dT t4 q4 d0 V.drawn d2 d3 d4 bT;have bd:=(d5 b ad.1);have eq:=N e5 (by cases kb<;>kernel_rfl);have er:∀n,sE kb b o s u L fr (j++[ay PG]) x a1 n=am (g5.finish (.int .i32 n)) (fr::(j++[ay PG])):=λn=>by unfold sE fin;rw[e5];rfl
 have ar:∀c,SB c->c<V.heap.size:=λc hc=>bL (aq c hc) d6;obtain⟨N6,et,eu,t6,q6,c6,gx,v3,ge,ev,f5,ew,ex,ey,b3,rfl,b4,w3,y3,D3,A,g7,e7,F7,r7,bw,X,⟨gf,b5⟩,ao,eD⟩:=sS (P:=PR) (SB:=SB) (g:=qQ kb (ai b) o s (ru f0 u) (L.map (al f0)) B i I a2) (v:=V) (d:=1) (by cases kb<;>kernel_rfl)
  (Q:=λ_ gx v3 es=>gx=zy kb (ai b) o s (ru f0 u) (L.map (al f0)) B i I a2/\deafBehind 1 es=1/\∃(w3 y3:aa) (D3:Nat->Prop) (A:Nat->Nat) (g7:ah),lZ kb b o s u L fr (j++[ay PG]) x a1 0 true=am g7 (fr::(j++[ay PG]))/\Fin PG (ay PG) Stop g7 (fr::j) w3/\Reach PG (ay PG) Stop g5 (fr::j) w2 g7 (fr::j) w3/\bj Z K y3 w3/\Rel Tryz.progTables cs D3 A y3 v3 fr j B i/\((∀b,D2 b->D3 b/\A b=l b)/\Od.Kept D3 A SB v3)/\(∀b,D3 b->¬SB (A b))/\V.heap.size<=v3.heap.size)
  (λc=>by
   have ba:(#[.pointer (some ⟨b,o,s⟩),.int .i32 (-1)]:Array aj).map (al id)=#[.pointer (some ⟨b,o,s⟩),.int .i32 (-1)]:=by simp[aG]
   obtain⟨z,w3,es,y3,D3,A,z',v3,bR,⟨n,rfl⟩,F6,r6,U,bw,X,ap,J⟩:=vN (F':=Tryz.funcs) E H F5 (s:=callFunc 190 #[.pointer (some ⟨b,o,s⟩),.int .i32 (-1)]) (s':=callFunc 190 #[.pointer (some ⟨ai b,o,s⟩),.int .i32 (-1)])
    (λw=>by
     have:=Vf kb b o s u L fr (j++[ay PG]) x a1 w;rw[e5]at this;exact this) eq (Q:=λx=> ∃n,x=.int .i32 n) (I6 (P:=PG) (show PG.funcs[190]?=some Tryz.f190 from Gh.func190) a9k a9k a9k a9k (Zu ⟨b,o,s⟩)) (yH im cL _ _)
    (by
     have:=qa (F:=Gh.funcs.{0}) (F':=Gh.funcs.{0}) cb im 190 #[.pointer (some ⟨b,o,s⟩),.int .i32 (-1)];rw[ba]at this;exact this)
    (λf W=>by
     have:=qa (F:=Gh.funcs.{0}) (F':=Tryz.funcs) (oW ml.{0} R2.low W) ml 190 #[.pointer (some ⟨b,o,s⟩),.int .i32 (-1)];have e:(#[.pointer (some ⟨b,o,s⟩),.int .i32 (-1)]:Array aj).map (al f)=#[.pointer (some ⟨ai b,o,s⟩),.int .i32 (-1)]:=by simp[aG,W.on b bd.1,bd.2,ad.2]
     rw[e]at this;exact this) bs R2 c
   have ao:=oG J ae ar;have C:=oT X.heap J ao;obtain⟨g7,e7,F7,r7⟩:=mH E H S (Vs kb b o s u L fr (j++[ay PG]) x a1 n) (er n) (Vt kb b o s u L fr (j++[ay PG]) x a1 n) F6;rw[VA]at e7;cases bx:(n==0)with
   |false=>rw[bx]at e7;exact(qc E H S (Vy kb b o s u L fr (j++[ay PG]) x a1 n) e7 (Vz kb b o s u L fr (j++[ay PG]) x a1 n) (Vh kb b o s u L fr (j++[ay PG]) x a1 n) F7).elim
   |true=>
    rw[bx]at e7;obtain rfl:n=0:=by simpa using bx
    have eP:z'=.int .i32 0:=by
     have:=ap _ (aL X.heap 0)
     rwa [jL]at this
    subst eP;have b6:=jv (main:=true) (a2D kb (ai b) o s (ru f0 u) (L.map (al f0)) B i I a2 (V.at c)) U (by cases kb<;>kernel_rfl);exact⟨_,v3,_,b6,J.size,λe O=>⟨(C e (eM O)).1,(C e (eM O)).2.2.2⟩,rfl,deafBehind_still (λe O=>⟨(C e (eM O)).2.1,(C e (eM O)).2.2.1⟩) 1,w3,y3,D3,A,g7,e7,F7,r6.trans r7,bw,X,⟨λb hb=>J.more b hb,Old.Kept.gone (v:=V.at c) bV J⟩,ao,J.size⟩)
  eg t5 q5 eh c5 ek el eo ep
 rw[b4]at b3;obtain⟨g8,e8,F8,r8⟩:=mH E H S (Vu kb b o s u L fr (j++[ay PG]) x a1 0) e7 (Vv kb b o s u L fr (j++[ay PG]) x a1 0) F7;have au:=X.ok.calm;have e0:=(X.aX _ (aL X.heap 0)).1;have bb:∀ch,B.mode=.panicking ch->∀e∈ch,e.recovered=false:=by
  intro ch hm e O;rw[e0]at hm;cases bA:fr.mode with
  |panicking c=>simp only[aO,bA,dZ,FrameMode.panicking.injEq]at hm;subst hm;obtain⟨e',e2,rfl⟩:=eS.1 O;exact au c bA e' e2
  |_=>simp[aO,bA,dZ]at hm
 have bB:stepG PG true (am g8 ((fr::j)++[ay PG])) w3=.go (am (a9v kb fr) (j++[ay PG])) w3 #[]:=by have h1:=Vj kb b o s u L fr (j++[ay PG]) x a1 0 w3;have h2:=Vg kb b o s u L fr (j++[ay PG]) x a1 0;rw[zn kb h2 au,e8]at h1;exact h1
 have r9:Reach PG (ay PG) Stop g8 (fr::j) w3 (a9v kb fr) j w3:=.step w3.tape w3.drawn (λh=>H (E _ _ _ h)) (by rw[mc];exact bB) .refl;have b7:Row PR (cn SB) (zy kb (ai b) o s (ru f0 u) (L.map (al f0)) B i I a2) v3 1 (am (a9v kb B) i) v3 0:=
  (mj (a2K kb (ai b) o s (ru f0 u) (L.map (al f0)) B i I a2) v3 1).trans (.cons _ (by cases kb<;>kernel_rfl) (λc=>a2F kb (ai b) o s (ru f0 u) (L.map (al f0)) B i I a2 _) (az _) (si rfl trivial) ((mj (a2L kb (ai b) o s (ru f0 u) (L.map (al f0)) B i I a2) v3 0).trans (.cons #[] (by cases kb<;>kernel_rfl) (λc=>by
   rw[a2I kb (ai b) o s (ru f0 u) (L.map (al f0)) B i I a2];exact zn kb (a2G kb (ai b) o s (ru f0 u) (L.map (al f0)) B i I a2) bb) (az _) a9i .nil)))
 obtain⟨N7,e4,e6,t7,q7,c7,fb,f6,fl,fm,fn,fv⟩:=qP b7 et t6 q6 eu v3.drawn ew ex ey b3;refine⟨N1+(N2+(N3+(N4+(N5+(N6+N7))))),e4,v3.at c7,e6,t7,q7,SB,D3,A,a9v kb fr,j,w3,?_,r1.trans (r2.trans (r3.trans (r4.trans (r5.trans (r7.trans (r8.trans r9)))))),⟨⟨a9v kb B,i,fl,y3,bw,?_⟩,fm,fn.ai fv,ao,λc hc=>bL (ar c hc) eD,b5⟩⟩
 .exact runNT_add ce (runNT_add cv (runNT_add dc (runNT_add d1 (runNT_add ei (runNT_add ev fb)))))
 .refine⟨X.heap.same rfl rfl,X.os,X.low,X.all,Ji kb X.ok,X.bQ,λf W=>⟨?_,(X.aX f W).2⟩⟩;rw[(X.aX f W).1,JZ]
def Ej(Z:Nat->Prop)(K:Nat->Obj)(cs:List ah)(Od:Old)(Stop:ah->List ah->aa->Prop):Prop:=
 ∀(d:Array aj) (k:CallKind) (e:Array aj) (o:ah) (p:List ah) (x:ah) (h:List ah) (D:Nat->Prop) (a:Nat->Nat) (w v:aa) (r:Array aw) (t:bm) (q:Nat->Nat) (n:Nat->Prop) (B:Option (Nat×Nat)),
  (k=.normal\/k=.deferred)->Fin PG (ay PG) Stop (Frame.enter PG 106 d k) (o::p) w->(∀g,aQ D a g->e=d.map (al g))->de Tryz.progTables Z K cs D a w v o p x h->
  r[0]?=some (am (Frame.enter PR 106 e k) (x::h))->Leavers PR t r q->Past (cn n) v.heap.size t->(∀b,D b->¬n (a b))->(∀c,n c->c<v.heap.size)->Od.Kept D a n v->
  ∃M i y s z C u E f j l A,runNT PR M (crowd r v B) t=(.next (crowd i y s),z)/\
   Reach PG (ay PG) Stop (Frame.enter PG 106 d k) (o::p) w j l A/\nA Tryz.progTables PR Z K cs Od E f A j l i y z C u
def PA{Z K cs Od Stop}(o:∀n u w,Stop n u w->u=[]/\n.mode=.returning/\n.defers=[]/\n.kind=.normal)(F:Ej Z K cs Od Stop):wB Tryz.progTables Gh.funcs.{0} Tryz.funcs ln Z K cs Od Stop:=by
 intro f i k d n u x p D j w v y t q z A H B g e R h0 C E r l s;obtain rfl|rfl|rfl|rfl:=H
 .exact F i k d n u x p D j w v y t q z A B g e R h0 C E r l s
 .exact Xa (λa b c h=>(o a b c h).1) i k d n u x p D j w v y t q z A B g e R h0 C E r l s
 .exact a5z (λa b c h=>(o a b c h).1) i k d n u x p D j w v y t q z A B g e R h0 C E r l s
 .exact(a9F (λa b c h=>(o a b c h).2.1) (show PG.funcs[154]?=some Gh.f154 from Gh.func154) rfl g).elim
end Go.Mir
end
