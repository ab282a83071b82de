import Derived.Test.YtdnpeefnobjfaaaGreatDoorK34
set_option maxRecDepth 100000
set_option maxHeartbeats 4000000
set_option linter.all false
section
namespace Go.Mir
open Go Go.Proofs Go.Conc
noncomputable abbrev PG:ay:=⟨Tryz.progTables,Gh.funcs.{0}⟩
noncomputable abbrev PR:ay:=⟨Tryz.progTables,Tryz.funcs⟩
def nv(f:bc)(c:Code)(k:CallKind)(l:List af):ah:={fn:=f,tmps:=⟨l⟩,todo:=[.code c],defers:=[],mode:=.run,kind:=k,roundOf:=none}
noncomputable def FE:Code:=Gh.mH.body.getD .skip
noncomputable def Aj:Code:=Tryz.f144.body.getD .skip
def pQ{P f fn c}(a:P.funcs[f]?=some fn)(d:fn.body=some c)(args k):Frame.enter P f args k=nv f c k (args.toList++List.replicate (fn.ntmps - args.size) undef):=by simp only[Frame.enter,a,d,Option.map_some,i6,lH,nv];congr 1;apply Array.ext';simp
def kd(k:Bool):CallKind:=cond k .deferred .normal
def a5Q(k:Bool)(cf:ah):ah:=cond k cf (cf.finish (.tuple #[]))
def wV{P}(k){fr cf cs w}(a:fr.kind=kd k)(d:∀c,cf.mode=.panicking c->∀e∈c,e.recovered=false):doReturn P true fr (cf::cs) none (.tuple #[]) w=.go (an (a5Q k cf) cs) w #[]:=by
 cases k with
 |false=>have a:fr.kind=.normal:=a;simp only[doReturn,a];rfl
 |true=>
  have a:fr.kind=.deferred:=a;simp only[doReturn,a];cases f:cf.mode with
  |panicking c=>
   cases c with
   |nil=>rfl
   |cons e c=>have:=d _ f e (by simp);obtain⟨v,r,g⟩:=e;simp only at this;subst this;rfl
  |_=>rfl
def lO:GStep->Bool
 | .ended .. =>true
 |_=>false
section
variable(k:Bool)(b o:Nat)(s:Option Nat)(u:Nat->af)(L:List af)(cf:ah)(cs:List ah)
noncomputable def ji(x:af):aw:=an (nv 144 FE (kd k) (x::sq u 1 12 L)) (cf::cs)
noncomputable def Bg:aw:=an (nv 144 Aj (kd k) (.pointer (some ⟨b,o,s⟩)::sq u 1 12 L)) (cf::cs)
noncomputable def pV:aw:=aG PG true 10 (ji k u L cf cs (.pointer (some ⟨b,o,s⟩)))
noncomputable def kY(B:Bool):aw:=fin (pV k b o s u L cf cs) (.bool B)
noncomputable def pW:aw:=aG PG true 6 (kY k b o s u L cf cs true)
noncomputable def pX(a:ap):aw:=fin (pW k b o s u L cf cs) (.pointer (some a))
noncomputable def vI(a:ap):aw:=aG PG true 2 (pX k b o s u L cf cs a)
noncomputable def Bh:aw:=aG PR true 2 (Bg k b o s u L cf cs)
noncomputable def Bi:aw:=aG PR true 1 (Bh k b o s u L cf cs)
noncomputable def o5:aw:=aG PR true 7 (Bi k b o s u L cf cs)
noncomputable def wY:aw:=fin (o5 k b o s u L cf cs) (.bool true)
noncomputable def Bj:aw:=aG PR true 6 (wY k b o s u L cf cs)
noncomputable def Bk:aw:=aG PR true 1 (Bj k b o s u L cf cs)
noncomputable def o6:aw:=aG PR true 3 (Bk k b o s u L cf cs)
noncomputable def wZ(a:ap):aw:=fin (o6 k b o s u L cf cs) (.pointer (some a))
noncomputable def Bl(a:ap):aw:=aG PR true 1 (wZ k b o s u L cf cs a)
noncomputable def wX(a:ap):aw:=aG PR true 2 (Bl k b o s u L cf cs a)
def iA{f n}{c:List ah}(h:(List.range n).map f=List.replicate n c)(i)(a:i<n):f i=c:=by have:=congrArg (λl=>l[i]?) h;simp only[List.getElem?_map,List.getElem?_range a,Option.map_some]at this;rw[List.getElem?_replicate,if_pos a]at this;exact dk this
def R9:aS PG true 10 (ji k u L cf cs (.pointer (some ⟨b,o,s⟩))) (pV k b o s u L cf cs):=by cases k<;>exact cq (λw=>by kernel_rfl) (by kernel_rfl)
def Sa(i)(a:i<=10):(aG PG true i (ji k u L cf cs (.pointer (some ⟨b,o,s⟩)))).callers=cf::cs:=by
 have:((List.range 11).map λi=>(aG PG true i (ji k u L cf cs (.pointer (some ⟨b,o,s⟩)))).callers)=List.replicate 11 (cf::cs):=by cases k<;>kernel_rfl
 exact iA this i (by omega)
def Sc:aS PG true 6 (kY k b o s u L cf cs true) (pW k b o s u L cf cs):=by cases k<;>exact cq (λw=>by kernel_rfl) (by kernel_rfl)
def Sd(i)(a:i<=6):(aG PG true i (kY k b o s u L cf cs true)).callers=cf::cs:=by
 have:((List.range 7).map λi=>(aG PG true i (kY k b o s u L cf cs true)).callers)=List.replicate 7 (cf::cs):=by cases k<;>kernel_rfl
 exact iA this i (by omega)
def Se(a):aS PG true 2 (pX k b o s u L cf cs a) (vI k b o s u L cf cs a):=by cases k<;>exact cq (λw=>by kernel_rfl) (by kernel_rfl)
def Sf(a i)(c:i<=2):(aG PG true i (pX k b o s u L cf cs a)).callers=cf::cs:=by
 have:((List.range 3).map λi=>(aG PG true i (pX k b o s u L cf cs a)).callers)=List.replicate 3 (cf::cs):=by cases k<;>kernel_rfl
 exact iA this i (by omega)
def ZP:aS PR true 2 (Bg k b o s u L cf cs) (Bh k b o s u L cf cs):=by cases k<;>exact cq (λw=>by kernel_rfl) (by kernel_rfl)
def ZR:aS PR true 7 (Bi k b o s u L cf cs) (o5 k b o s u L cf cs):=by cases k<;>exact cq (λw=>by kernel_rfl) (by kernel_rfl)
def ZS:aS PR true 6 (wY k b o s u L cf cs) (Bj k b o s u L cf cs):=by cases k<;>exact cq (λw=>by kernel_rfl) (by kernel_rfl)
def ZT:aS PR true 3 (Bk k b o s u L cf cs) (o6 k b o s u L cf cs):=by cases k<;>exact cq (λw=>by kernel_rfl) (by kernel_rfl)
def ZQ(a):aS PR true 2 (Bl k b o s u L cf cs a) (wX k b o s u L cf cs a):=by cases k<;>exact cq (λw=>by kernel_rfl) (by kernel_rfl)
def RS(w):stepG PG true (pV k b o s u L cf cs) w=stepG.apply PG true (pV k b o s u L cf cs).frame (pV k b o s u L cf cs).callers none (callFunc 185 #[.pointer (some ⟨b,o,s⟩),.int .i32 0,.int .i32 1]) w:=by cases k<;>kernel_rfl
def RU(w):stepG PG true (pW k b o s u L cf cs) w=stepG.apply PG true (pW k b o s u L cf cs).frame (pW k b o s u L cf cs).callers none (do pure (.value (<-convert 302 112 (.pointer (some ⟨b,o,s⟩))))) w:=by cases k<;>kernel_rfl
def RZ(a w):stepG PG true (vI k b o s u L cf cs a) w=doReturn PG true (vI k b o s u L cf cs a).frame (cf::cs) none (.tuple #[]) w:=by cases k<;>kernel_rfl
def ZH(w):stepG PR true (o5 k b o s u L cf cs) w=stepG.apply PR true (o5 k b o s u L cf cs).frame (o5 k b o s u L cf cs).callers none (callFunc 185 #[.pointer (some ⟨b,o,s⟩),.int .i32 0,.int .i32 1]) w:=by cases k<;>kernel_rfl
def ZI(w):stepG PR true (o6 k b o s u L cf cs) w=stepG.apply PR true (o6 k b o s u L cf cs).frame (o6 k b o s u L cf cs).callers none (do pure (.value (<-convert 302 112 (.pointer (some ⟨b,o,s⟩))))) w:=by cases k<;>kernel_rfl
def ZJ(w):stepG PR true (Bh k b o s u L cf cs) w=.go (Bi k b o s u L cf cs) w #[⟨.mark .disable,false,true⟩]:=by cases k<;>kernel_rfl
def ZK(w):stepG PR true (Bj k b o s u L cf cs) w=.go (Bk k b o s u L cf cs) w #[⟨.mark .enable,false,true⟩]:=by cases k<;>kernel_rfl
def ZN(a w):stepG PR true (wZ k b o s u L cf cs a) w=.go (Bl k b o s u L cf cs a) w #[⟨.mark (.acquire a),false,true⟩]:=by cases k<;>kernel_rfl
def ZO(a w):stepG PR true (wX k b o s u L cf cs a) w=doReturn PR true (wX k b o s u L cf cs a).frame (cf::cs) none (.tuple #[]) w:=by cases k<;>kernel_rfl
def RV(a):(vI k b o s u L cf cs a).frame.kind=kd k:=by cases k<;>kernel_rfl
def ZL(a):(wX k b o s u L cf cs a).frame.kind=kd k:=by cases k<;>kernel_rfl
def RX(w):lO (stepG PG true (aG PG true 3 (kY k b o s u L cf cs false)) w)=true:=by cases k<;>kernel_rfl
def Sj:aS PG true 3 (kY k b o s u L cf cs false) (aG PG true 3 (kY k b o s u L cf cs false)):=by cases k<;>exact cq (λw=>by kernel_rfl) (by kernel_rfl)
def Sk(i)(a:i<=3):(aG PG true i (kY k b o s u L cf cs false)).callers=cf::cs:=by
 have:((List.range 4).map λi=>(aG PG true i (kY k b o s u L cf cs false)).callers)=List.replicate 4 (cf::cs):=by cases k<;>kernel_rfl
 exact iA this i (by omega)
def RY(w):lO (stepG PG true (aG PG true 6 (ji k u L cf cs (.pointer none))) w)=true:=by cases k<;>kernel_rfl
def R7:aS PG true 6 (ji k u L cf cs (.pointer none)) (aG PG true 6 (ji k u L cf cs (.pointer none))):=by cases k<;>exact cq (λw=>by kernel_rfl) (by kernel_rfl)
def R8(i)(a:i<=6):(aG PG true i (ji k u L cf cs (.pointer none))).callers=cf::cs:=by
 have:((List.range 7).map λi=>(aG PG true i (ji k u L cf cs (.pointer none))).callers)=List.replicate 7 (cf::cs):=by cases k<;>kernel_rfl
 exact iA this i (by omega)
def RR(x)(a:∀p,x≠.pointer p)(w):lO (stepG PG true (aG PG true 2 (ji k u L cf cs x)) w)=true:=by cases k<;>(cases x<;>first|exact absurd rfl (a _)|kernel_rfl)
def Sg(x):aS PG true 2 (ji k u L cf cs x) (aG PG true 2 (ji k u L cf cs x)):=by cases k<;>exact cq (λw=>by kernel_rfl) (by kernel_rfl)
def Si(x i)(a:i<=2):(aG PG true i (ji k u L cf cs x)).callers=cf::cs:=by
 have:((List.range 3).map λi=>(aG PG true i (ji k u L cf cs x)).callers)=List.replicate 3 (cf::cs):=by cases k<;>kernel_rfl
 exact iA this i (by omega)
end
section
variable{P:ay}{trap:ah}{Stop:ah->List ah->aa->Prop}{fr:ah}{gs:List ah}{w:aa}
def oC(a:∀fr d w,Stop fr d w->d=[])(b:gs≠[]){cs}(c:cs=gs++[trap]){n g g'}(f:aS P true n g g')(j:g=an fr cs)(k:∀i,i<=n->(aG P true i g).callers=cs)(l:∀w,lO (stepG P true g' w)=true)(hF:Fin P trap Stop fr gs w):False:=by obtain⟨m,q1,o,_⟩:=lN a b c f j k hF;obtain⟨p,q,r,s,e,_⟩:=rW o (λh=>b (a _ _ _ h)) w.tape w.drawn;have:=l w;rw[q1,c]at this;rw[lp]at e;rw[e]at this;cases this
end
theorem runNT_add{P}:∀{N M} {m b} {t c} {r},runNT P N m t=(.next b,c)->runNT P M b c=r->runNT P (N+M) m t=r
 |0,M,m,b,t,c,r,a,d=>by simp only[runNT,gQ,Stepped.next.injEq]at a;rw[dG,a.1,a.2];exact d
 |N+1,M,m,b,t,c,r,a,d=>by
  rw[a6G];simp only[runNT]at a⊢;rcases e:stepT P m with⟨x,f⟩;rw[e]at a;cases x with
  |next g=>exact runNT_add a d
  |ended o w=>simp at a
def Hy{f}(k cf):a5Q k (aR f cf)=aR f (a5Q k cf):=by
 cases k with
 |true=>rfl
 |false=>have:=oE f cf (.tuple #[]);simpa[a5Q]using this
def GV{G}(k){cf}(h:cJ G cf):cJ G (a5Q k cf):=by
 cases k with
 |true=>exact h
 |false=>exact h.finish _
theorem Ji:PG.underlying 302=some (.pointer 107):=by kernel_rfl
theorem nP:PG.underlying 112=some .unsafePointer:=by kernel_rfl
def pS{SB B m}(c:(MemAct.ofEvent ⟨.mark m,false,true⟩).touch?=none)(d:(MemAct.ofEvent ⟨.mark m,false,true⟩).low B):∀e∈(#[⟨.mark m,false,true⟩]:Array aJ),EvM (cK SB) B e:=by intro e a;simp only[dK,ft]at a;subst a;exact⟨λx b=>(by rw[c]at b;cases b),d⟩
def Up{Z K cs Od Stop}(z:∀fr j w,Stop fr j w->j=[])(args k rargs fr j r i D aj w v gs t q SB sl)(hk:k=.normal\/k=.deferred)(O:Fin PG (aB PG) Stop (Frame.enter PG 144 args k) (fr::j) w)(av:∀g,aQ D aj g->rargs=args.map (ak g))(R:dS Tryz.progTables Z K cs D aj w v fr j r i)(h0:gs[0]?=some (an (Frame.enter PR 144 rargs k) (r::i)))(hL:Leavers PR t gs q)(hP:Past (cK SB) v.heap.size t)(bp:∀b,D b->¬SB (aj b))(ab:∀c,SB c->c<v.heap.size)(b0:Od.Kept D aj SB v):∃M br v' b1 t' q' SB' D' aP bs bw w2,runNT PR M (crowd gs v sl) t=(.next (crowd br v' b1),t')/\Reach PG (aB PG) Stop (Frame.enter PG 144 args k) (fr::j) w bs bw w2/\mr Tryz.progTables PR Z K cs Od D' aP w2 bs bw br v' t' q' SB':=by
 obtain⟨kb,rfl⟩:∃kb,k=kd kb:=by
  obtain rfl|rfl:=hk
  .exact⟨false,rfl⟩
  .exact⟨true,rfl⟩
 obtain⟨y,hF,R⟩:=R;have eG:=pQ (P:=PG) (show PG.funcs[144]?=some Gh.mH from Gh.func144) (show Gh.mH.body=some FE from rfl) args (kd kb);have eR:=pQ (P:=PR) (show PR.funcs[144]?=some Tryz.f144 from Tryz.func144) (show Tryz.f144.body=some Aj from rfl) rargs (kd kb);have nG:Gh.mH.ntmps=13:=Gh.ntmps144;have nR:Tryz.f144.ntmps=13:=Tryz.ntmps144;rw[nG]at eG;rw[nR]at eR;have bx:13<=(args.toList++List.replicate (13 - args.size) undef).length:=by simp;omega
 have ag:=aN R.heap 0;generalize ek:(λb=> @ite _ (D b) (Classical.propDecidable _) (aj b) (v.heap.size+0+b))=f0 at ag;have al:∀f,aQ D aj f->rargs.toList++List.replicate (13 - rargs.size) undef=(args.toList++List.replicate (13 - args.size) undef).map (ak f):=by intro f U;have:=av f U;rw[this];simp[undef]
 obtain⟨x,u,L,hl⟩:=IX 12 bx;rw[hl]at eG al;rw[eG]at O⊢;have A:(fr::j)≠[]:=by simp
 have V:fr::(j++[aB PG])=(fr::j)++[aB PG]:=rfl;obtain⟨p,rfl⟩:∃p,x=.pointer p:=by refine fx λhn=>?_;have hx:∀p,x≠.pointer p:=λp hp=>hn ⟨p,hp⟩;exact oC z A V (Sg kb u L fr (j++[aB PG]) x) rfl (Si kb u L fr (j++[aB PG]) x) (RR kb u L fr (j++[aB PG]) x hx) O
 cases p with
 |none=>exact(oC z A V (R7 kb u L fr (j++[aB PG])) rfl (R8 kb u L fr (j++[aB PG])) (RY kb u L fr (j++[aB PG])) O).elim
 |some a=>
 obtain⟨b,o,s⟩:=a;have ba:D b:=by refine k7 R.heap (c:=f0 b) λf U=>?_;have I:=al f0 ag;rw[al f U]at I;simp only[cA,f9,bh,Option.map_some,Value.pointer.injEq,cw,aH,Addr.mk.injEq]at I;exact I.1.1.symm
 have bb:Frame.enter PR 144 rargs (kd kb)=nv 144 Aj (kd kb) (.pointer (some ⟨aj b,o,s⟩)::sq (ru f0 u) 1 12 (L.map (ak f0))):=by rw[eR,al f0 ag];simp only[cA,xx,bh,Option.map_some,aH,ag.on b ba]
 rw[bb]at h0;obtain⟨g1,e1,F1,r1⟩:=lN z A V (R9 kb b o s u L fr (j++[aB PG])) rfl (Sa kb b o s u L fr (j++[aB PG])) O;have bA:Row PR (cK SB) (Bg kb (aj b) o s (ru f0 u) (L.map (ak f0)) r i) v 0 (o5 kb (aj b) o s (ru f0 u) (L.map (ak f0)) r i) v 1:=
  (lA (ZP kb (aj b) o s (ru f0 u) (L.map (ak f0)) r i) v 0).trans (.cons _ (by cases kb<;>kernel_rfl) (λc=>ZJ kb (aj b) o s (ru f0 u) (L.map (ak f0)) r i _) (aF _) (pS rfl trivial) (lA (ZR kb (aj b) o s (ru f0 u) (L.map (ak f0)) r i) v 1))
 obtain⟨N1,b2,b3,t1,q1,c1,b4,eb,b5,b6,b7,b8⟩:=o7 bA gs t q sl v.drawn h0 hL (dO.of hP) hP.hears;have b9:(g1.kind==.early)=false:=by
  have I:(pV kb b o s u L fr (j++[aB PG])).frame.kind=kd kb:=by cases kb<;>kernel_rfl
  rw[e1]at I;have I:g1.kind=kd kb:=I;rw[I];cases kb<;>rfl
 have bB:∀B,kY kb b o s u L fr (j++[aB PG]) B=an (g1.finish (.bool B)) (fr::(j++[aB PG])):=λB=>by unfold kY fin;rw[e1];rfl
 have ca:Fit Tryz.progTables id:=⟨λa b h=>h,λ_ _=>rfl,g9.{0}.zero⟩;obtain⟨N2,cb,cc,t2,q2,c2,gx,J,el,cd,ec,ce,cf,ck,bC,rfl,bF,w1,y1,D1,m,F2,r2,bd,R1,⟨cl,bG⟩,E,co⟩:=qk (P:=PR) (SB:=SB) (g:=o5 kb (aj b) o s (ru f0 u) (L.map (ak f0)) r i) (v:=v) (d:=1) (by cases kb<;>kernel_rfl)
  (Q:=λ_ gx J es=>gx=wY kb (aj b) o s (ru f0 u) (L.map (ak f0)) r i/\deafBehind 1 es=1/\∃(w1 y1:aa) (D1:Nat->Prop) (m:Nat->Nat),Fin PG (aB PG) Stop (g1.finish (.bool true)) (fr::j) w1/\Reach PG (aB PG) Stop g1 (fr::j) w (g1.finish (.bool true)) (fr::j) w1/\bK Z K y1 w1/\Rel Tryz.progTables cs D1 m y1 J fr j r i/\((∀b,D b->D1 b/\m b=aj b)/\Od.Kept D1 m SB J)/\(∀b,D1 b->¬SB (m b))/\v.heap.size<=J.heap.size)
  (λc=>by
   have ao:(#[.pointer (some ⟨b,o,s⟩),.int .i32 0,.int .i32 1]:Array af).map (ak id)=#[.pointer (some ⟨b,o,s⟩),.int .i32 0,.int .i32 1]:=by simp[aH]
   obtain⟨x,w1,es,y1,D1,m,x',J,cp,⟨B,rfl⟩,F2,r2,ad,bd,R1,aq,W⟩:=sQ (F':=Tryz.funcs) z A F1 (s:=callFunc 185 #[.pointer (some ⟨b,o,s⟩),.int .i32 0,.int .i32 1]) (s':=callFunc 185 #[.pointer (some ⟨aj b,o,s⟩),.int .i32 0,.int .i32 1])
    (λw=>by
     have:=RS kb b o s u L fr (j++[aB PG]) w;rw[e1]at this;exact this) b9 (Q:=λx=> ∃B,x=.bool B) (GI (P:=PG) (show PG.funcs[185]?=some Tryz.f185 from Gh.func185) (by kernel_rfl) (by kernel_rfl) (by kernel_rfl) (by kernel_rfl) (Xk ⟨b,o,s⟩)) (wg g9 cT _ _)
    (by
     have:=ox (F:=Gh.funcs.{0}) (F':=Gh.funcs.{0}) ca g9 185 #[.pointer (some ⟨b,o,s⟩),.int .i32 0,.int .i32 1];rw[ao]at this;exact this)
    (λf U=>by
     have:=ox (F:=Gh.funcs.{0}) (F':=Tryz.funcs) (nA lB.{0} R.low U) lB 185 #[.pointer (some ⟨b,o,s⟩),.int .i32 0,.int .i32 1];have e:(#[.pointer (some ⟨b,o,s⟩),.int .i32 0,.int .i32 1]:Array af).map (ak f)=#[.pointer (some ⟨aj b,o,s⟩),.int .i32 0,.int .i32 1]:=by simp[aH,U.on b ba]
     rw[e]at this;exact this) hF R c
   have E:=nd W bp ab;have C:=nx R1.heap W E;cases B with
   |false=>exact(oC z A V (Sj kb b o s u L fr (j++[aB PG])) (bB false) (Sk kb b o s u L fr (j++[aB PG])) (RX kb b o s u L fr (j++[aB PG])) F2).elim
   |true=>
    have cr:x'=.bool true:=by
     have:=aq _ (aN R1.heap 0)
     rwa [bQ]at this
    subst cr;have bI:=i9 (main:=true) (ZH kb (aj b) o s (ru f0 u) (L.map (ak f0)) r i (v.at c)) ad (by cases kb<;>kernel_rfl);exact⟨_,J,_,bI,W.size,λe X=>⟨(C e (fd X)).1,(C e (fd X)).2.2.2⟩,rfl,deafBehind_still (λe X=>⟨(C e (fd X)).2.1,(C e (fd X)).2.2.1⟩) 1,w1,y1,D1,m,F2,r2,bd,R1,⟨λb hb=>W.more b hb,Old.Kept.gone (v:=v.at c) b0 W bp ab⟩,E,W.size⟩)
  b2 t1 q1 b3 c1 b5 b6 b7 b8
 rw[bF]at bC;obtain⟨g3,e3,F3,r3⟩:=lN z A V (Sc kb b o s u L fr (j++[aB PG])) (bB true) (Sd kb b o s u L fr (j++[aB PG])) F2;have bN:Row PR (cK SB) (wY kb (aj b) o s (ru f0 u) (L.map (ak f0)) r i) J 1 (o6 kb (aj b) o s (ru f0 u) (L.map (ak f0)) r i) J 0:=
  (lA (ZS kb (aj b) o s (ru f0 u) (L.map (ak f0)) r i) J 1).trans (.cons _ (by cases kb<;>kernel_rfl) (λc=>ZK kb (aj b) o s (ru f0 u) (L.map (ak f0)) r i _) (aF _) (pS rfl trivial) (lA (ZT kb (aj b) o s (ru f0 u) (L.map (ak f0)) r i) J 0))
 obtain⟨N3,cu,cv,t3,q3,c3,cx,eg,cy,cN,cS,c0⟩:=o7 bN cb t2 q2 cc J.drawn ce cf ck bC;have au:=(cl b ba);have c6:(g3.kind==.early)=false:=by
  have I:(pW kb b o s u L fr (j++[aB PG])).frame.kind=kd kb:=by cases kb<;>kernel_rfl
  rw[e3]at I;have I:g3.kind=kd kb:=I;rw[I];cases kb<;>rfl
 have c7:∀a,pX kb b o s u L fr (j++[aB PG]) a=an (g3.finish (.pointer (some a))) (fr::(j++[aB PG])):=λa=>by unfold pX fin;rw[e3];rfl
 have N:∀c,SB c->c<J.heap.size:=λc hc=>cG (ab c hc) co;obtain⟨N4,c8,c9,t4,q4,c4,gx,Y,eo,dc,eh,df,dl,dr,bO,a1,a2,rfl,bP,w2,y2,D2,l,F4,r4,bl,H,⟨eq,bR⟩,S,ds,dy⟩:=qk (P:=PR) (SB:=SB) (g:=o6 kb (aj b) o s (ru f0 u) (L.map (ak f0)) r i) (v:=J) (d:=0) (by cases kb<;>kernel_rfl)
  (Q:=λ_ gx Y es=> ∃a1 a2:ap,gx=wZ kb (aj b) o s (ru f0 u) (L.map (ak f0)) r i a2/\deafBehind 0 es=0/\∃(w2 y2:aa) (D2:Nat->Prop) (l:Nat->Nat),Fin PG (aB PG) Stop (g3.finish (.pointer (some a1))) (fr::j) w2/\Reach PG (aB PG) Stop g3 (fr::j) w1 (g3.finish (.pointer (some a1))) (fr::j) w2/\bK Z K y2 w2/\Rel Tryz.progTables cs D2 l y2 Y fr j r i/\((∀b,D1 b->D2 b/\l b=m b)/\Od.Kept D2 l SB Y)/\(∀b,D2 b->¬SB (l b))/\J.heap.size<=Y.heap.size/\a2.block<Y.heap.size)
  (λc=>by
   obtain⟨x,w2,es,y2,D2,l,x',Y,cp,⟨a1,rfl⟩,F4,r4,ad,bl,H,aq,W⟩:=sQ (F':=Tryz.funcs) z A F3 (s:=(do pure (.value (<-convert 302 112 (.pointer (some ⟨b,o,s⟩)))))) (s':=(do pure (.value (<-convert 302 112 (.pointer (some ⟨aj b,o,s⟩))))))
    (λw=>by
     have:=RU kb b o s u L fr (j++[aB PG]) w;rw[e3]at this;exact this) c6 (Q:=λx=> ∃a,x=.pointer (some a)) (NP.bind (P:=PG) (R:=λn:Next=> ∃x,n=.value x/\∃a,x=.pointer (some a)) (f:=λx=>(Sem.pure (.value x):Sem Next)) (λx hx=>(⟨x,rfl,hx⟩:∃y,Next.value x=.value y/\∃a,y=.pointer (some a))) (GJ Ji nP ⟨b,o,s⟩)) (NF.bind (Au (cT.ux 302 112 rfl) _) λ_=>NF.pure _)
    (by
     have:=rK (T:=Tryz.progTables) (F:=Gh.funcs.{0}) (F':=Gh.funcs.{0}) (f:=id) 302 112 (.pointer (some ⟨b,o,s⟩));rw[jV]at this;refine this.bind ?_;rintro v _ rfl;exact ax rfl)
    (λf U=>by
     have:=rK (T:=Tryz.progTables) (F:=Gh.funcs.{0}) (F':=Tryz.funcs) (f:=f) 302 112 (.pointer (some ⟨b,o,s⟩));have e:ak f (.pointer (some ⟨b,o,s⟩))=.pointer (some ⟨aj b,o,s⟩):=by simp[aH,U.on b au.1,au.2]
     rw[e]at this;refine this.bind ?_;rintro v _ rfl;exact ax rfl) bd R1 c
   have S:=nd W E N;have C:=nx H.heap W S;obtain⟨a2,dB⟩:∃a2,x'=.pointer (some a2):=⟨_,by have:=aq _ (aN H.heap 0);rw[bh]at this;exact this⟩;subst dB;have bS:∃d,D2 d/\l d=a2.block:=v8 H.heap (b:=a1.block) λf U=>by have:=aq f U;simp only[bh,Option.map_some,Value.pointer.injEq,cw]at this;rw[this];rfl
   obtain⟨d,hd,dR⟩:=bS;have bT:=H.heap.fO d hd;rw[dR]at bT;have bU:=i9 (main:=true) (ZI kb (aj b) o s (ru f0 u) (L.map (ak f0)) r i (J.at c)) ad (by cases kb<;>kernel_rfl);exact⟨_,Y,_,bU,W.size,λe X=>⟨(C e (fd X)).1,(C e (fd X)).2.2.2⟩,a1,a2,rfl,deafBehind_still (λe X=>⟨(C e (fd X)).2.1,(C e (fd X)).2.2.1⟩) 0,w2,y2,D2,l,F4,r4,bl,H,⟨λb hb=>W.more b hb,Old.Kept.gone (v:=J.at c) bG W E N⟩,S,W.size,bT⟩)
  cu t3 q3 cv c3 cy cN cS c0
 rw[bP]at bO;obtain⟨g5,e5,F5,r5⟩:=lN z A V (Se kb b o s u L fr (j++[aB PG]) a1) (c7 a1) (Sf kb b o s u L fr (j++[aB PG]) a1) F4;have ae:=H.ok.calm;have dT:=(H.aZ _ (aN H.heap 0)).1;have ar:∀ch,r.mode=.panicking ch->∀e∈ch,e.recovered=false:=by
  intro ch hm e X;rw[dT]at hm;cases bn:fr.mode with
  |panicking c=>simp only[aR,bn,eB,FrameMode.panicking.injEq]at hm;subst hm;obtain⟨e',d0,rfl⟩:=eS.1 X;exact ae c bn e' d0
  |_=>simp[aR,bn,eB]at hm
 have bo:stepG PG true (an g5 ((fr::j)++[aB PG])) w2=.go (an (a5Q kb fr) (j++[aB PG])) w2 #[]:=by have I:=RZ kb b o s u L fr (j++[aB PG]) a1 w2;have h2:=RV kb b o s u L fr (j++[aB PG]) a1;rw[wV kb h2 ae,e5]at I;exact I
 have r6:Reach PG (aB PG) Stop g5 (fr::j) w2 (a5Q kb fr) j w2:=.step w2.tape w2.drawn (λh=>A (z _ _ _ h)) (by rw[lp];exact bo) .refl;have bX:Row PR (cK SB) (wZ kb (aj b) o s (ru f0 u) (L.map (ak f0)) r i a2) Y 0 (an (a5Q kb r) i) Y 0:=
  .cons _ (by cases kb<;>kernel_rfl) (λc=>ZN kb (aj b) o s (ru f0 u) (L.map (ak f0)) r i a2 _) (aF _) (pS rfl dy) ((lA (ZQ kb (aj b) o s (ru f0 u) (L.map (ak f0)) r i a2) Y 0).trans (.cons #[] (by cases kb<;>kernel_rfl) (λc=>by
   rw[ZO kb (aj b) o s (ru f0 u) (L.map (ak f0)) r i a2];exact wV kb (ZL kb (aj b) o s (ru f0 u) (L.map (ak f0)) r i a2) ar) (aF _) (by simp) .nil))
 obtain⟨N5,d1,d2,t5,q5,c5,d3,ei,d4,d5,d6,ea⟩:=o7 bX c8 t4 q4 c9 Y.drawn df dl dr bO;refine⟨N1+(N2+(N3+(N4+N5))),d1,Y.at c5,d2,t5,q5,SB,D2,l,a5Q kb fr,j,w2,?_,r1.trans (r2.trans (r3.trans (r4.trans (r5.trans r6)))),⟨⟨a5Q kb r,i,d4,y2,bl,?_⟩,d5,d6.aj ea,S,λc hc=>cG (N c hc) ds,bR⟩⟩
 .exact runNT_add b4 (runNT_add cd (runNT_add cx (runNT_add dc d3)))
 .refine⟨H.heap.same rfl rfl,H.os,H.low,H.all,GV kb H.ok,H.cF,λf U=>⟨?_,(H.aZ f U).2⟩⟩;rw[(H.aZ f U).1,Hy]
noncomputable def Jh:Code:=Gh.mI.body.getD .skip
noncomputable def BO:Code:=Tryz.f145.body.getD .skip
section
variable(k:Bool)(b o:Nat)(s:Option Nat)(u:Nat->af)(L:List af)(cf:ah)(cs:List ah)
noncomputable def jk(x:af):aw:=an (nv 145 Jh (kd k) (x::sq u 1 20 L)) (cf::cs)
noncomputable def H1:aw:=an (nv 145 BO (kd k) (.pointer (some ⟨b,o,s⟩)::sq u 1 20 L)) (cf::cs)
noncomputable def ss:aw:=aG PG true 10 (jk k u L cf cs (.pointer (some ⟨b,o,s⟩)))
noncomputable def pZ(x:af):aw:=fin (ss k b o s u L cf cs) x
noncomputable def su(x:af):aw:=aG PG true 3 (pZ k b o s u L cf cs x)
noncomputable def p4(x:af)(a:ap):aw:=fin (su k b o s u L cf cs x) (.pointer (some a))
noncomputable def sw(x:af)(a:ap):aw:=aG PG true 4 (p4 k b o s u L cf cs x a)
noncomputable def p5(x:af)(a:ap)(n:Int):aw:=fin (sw k b o s u L cf cs x a) (.int .i32 n)
noncomputable def sx(x:af)(a:ap)(n:Int):aw:=aG PG true 6 (p5 k b o s u L cf cs x a n)
noncomputable def kZ(x:af)(a:ap)(n:Int)(B:Bool):aw:=an {(sx k b o s u L cf cs x a n).frame with tmps:=(sx k b o s u L cf cs x a n).frame.tmps.setIfInBounds 9 (.bool B)} (sx k b o s u L cf cs x a n).callers
noncomputable def vM(x:af)(a:ap)(n:Int):aw:=aG PG true 3 (kZ k b o s u L cf cs x a n true)
noncomputable def qt:aw:=aG PR true 7 (H1 k b o s u L cf cs)
noncomputable def Bq(x:af):aw:=fin (qt k b o s u L cf cs) x
noncomputable def qv(x:af):aw:=aG PR true 4 (Bq k b o s u L cf cs x)
noncomputable def xa(x:af)(a:ap):aw:=fin (qv k b o s u L cf cs x) (.pointer (some a))
noncomputable def Br(x:af)(a:ap):aw:=aG PR true 1 (xa k b o s u L cf cs x a)
noncomputable def Bt(x:af)(a:ap):aw:=aG PR true 2 (Br k b o s u L cf cs x a)
noncomputable def Bu(x:af)(a:ap):aw:=aG PR true 1 (Bt k b o s u L cf cs x a)
noncomputable def o8(x:af)(a:ap):aw:=aG PR true 6 (Bu k b o s u L cf cs x a)
noncomputable def xb(x:af)(a:ap):aw:=fin (o8 k b o s u L cf cs x a) (.int .i32 0)
noncomputable def Bo(x:af)(a:ap):aw:=aG PR true 11 (xb k b o s u L cf cs x a)
noncomputable def Bp(x:af)(a:ap):aw:=aG PR true 1 (Bo k b o s u L cf cs x a)
noncomputable def w9(x:af)(a:ap):aw:=aG PR true 2 (Bp k b o s u L cf cs x a)
def SK:aS PG true 10 (jk k u L cf cs (.pointer (some ⟨b,o,s⟩))) (ss k b o s u L cf cs):=by cases k<;>exact cq (λw=>by kernel_rfl) (by kernel_rfl)
def SL(i)(a:i<=10):(aG PG true i (jk k u L cf cs (.pointer (some ⟨b,o,s⟩)))).callers=cf::cs:=by
 have:((List.range 11).map λi=>(aG PG true i (jk k u L cf cs (.pointer (some ⟨b,o,s⟩)))).callers)=List.replicate 11 (cf::cs):=by cases k<;>kernel_rfl
 exact iA this i (by omega)
def SM(x):aS PG true 3 (pZ k b o s u L cf cs x) (su k b o s u L cf cs x):=by cases k<;>exact cq (λw=>by kernel_rfl) (by kernel_rfl)
def SO(x i)(a:i<=3):(aG PG true i (pZ k b o s u L cf cs x)).callers=cf::cs:=by
 have:((List.range 4).map λi=>(aG PG true i (pZ k b o s u L cf cs x)).callers)=List.replicate 4 (cf::cs):=by cases k<;>kernel_rfl
 exact iA this i (by omega)
def SQ(x a):aS PG true 4 (p4 k b o s u L cf cs x a) (sw k b o s u L cf cs x a):=by cases k<;>exact cq (λw=>by kernel_rfl) (by kernel_rfl)
def SR(x a i)(c:i<=4):(aG PG true i (p4 k b o s u L cf cs x a)).callers=cf::cs:=by
 have:((List.range 5).map λi=>(aG PG true i (p4 k b o s u L cf cs x a)).callers)=List.replicate 5 (cf::cs):=by cases k<;>kernel_rfl
 exact iA this i (by omega)
def SS(x a n):aS PG true 6 (p5 k b o s u L cf cs x a n) (sx k b o s u L cf cs x a n):=by cases k<;>exact cq (λw=>by kernel_rfl) (by kernel_rfl)
def SU(x a n i)(c:i<=6):(aG PG true i (p5 k b o s u L cf cs x a n)).callers=cf::cs:=by
 have:((List.range 7).map λi=>(aG PG true i (p5 k b o s u L cf cs x a n)).callers)=List.replicate 7 (cf::cs):=by cases k<;>kernel_rfl
 exact iA this i (by omega)
def SV(x a n):aS PG true 3 (kZ k b o s u L cf cs x a n true) (vM k b o s u L cf cs x a n):=by cases k<;>exact cq (λw=>by kernel_rfl) (by kernel_rfl)
def SX(x a n i)(c:i<=3):(aG PG true i (kZ k b o s u L cf cs x a n true)).callers=cf::cs:=by
 have:((List.range 4).map λi=>(aG PG true i (kZ k b o s u L cf cs x a n true)).callers)=List.replicate 4 (cf::cs):=by cases k<;>kernel_rfl
 exact iA this i (by omega)
def a0b:aS PR true 7 (H1 k b o s u L cf cs) (qt k b o s u L cf cs):=by cases k<;>exact cq (λw=>by kernel_rfl) (by kernel_rfl)
def a0e(x):aS PR true 4 (Bq k b o s u L cf cs x) (qv k b o s u L cf cs x):=by cases k<;>exact cq (λw=>by kernel_rfl) (by kernel_rfl)
def a0f(x a):aS PR true 2 (Br k b o s u L cf cs x a) (Bt k b o s u L cf cs x a):=by cases k<;>exact cq (λw=>by kernel_rfl) (by kernel_rfl)
def a0g(x a):aS PR true 6 (Bu k b o s u L cf cs x a) (o8 k b o s u L cf cs x a):=by cases k<;>exact cq (λw=>by kernel_rfl) (by kernel_rfl)
def a0c(x a):aS PR true 11 (xb k b o s u L cf cs x a) (Bo k b o s u L cf cs x a):=by cases k<;>exact cq (λw=>by kernel_rfl) (by kernel_rfl)
def a0d(x a):aS PR true 2 (Bp k b o s u L cf cs x a) (w9 k b o s u L cf cs x a):=by cases k<;>exact cq (λw=>by kernel_rfl) (by kernel_rfl)
def Sy(w):stepG PG true (ss k b o s u L cf cs) w=stepG.apply PG true (ss k b o s u L cf cs).frame (ss k b o s u L cf cs).callers none (do pure (.value (<-Instr.loadAt 21 (.pointer (some ⟨b,o,s⟩))))) w:=by cases k<;>kernel_rfl
def Sz(x w):stepG PG true (su k b o s u L cf cs x) w=stepG.apply PG true (su k b o s u L cf cs x).frame (su k b o s u L cf cs x).callers none (do pure (.value (<-convert 302 112 (.pointer (some ⟨b,o,s⟩))))) w:=by cases k<;>kernel_rfl
def SC(x a w):stepG PG true (sw k b o s u L cf cs x a) w=stepG.apply PG true (sw k b o s u L cf cs x a).frame (sw k b o s u L cf cs x a).callers none (callFunc 190 #[.pointer (some ⟨b,o,s⟩),.int .i32 (-1)]) w:=by cases k<;>kernel_rfl
def Z3(w):stepG PR true (qt k b o s u L cf cs) w=stepG.apply PR true (qt k b o s u L cf cs).frame (qt k b o s u L cf cs).callers none (do pure (.value (<-Instr.loadAt 21 (.pointer (some ⟨b,o,s⟩))))) w:=by cases k<;>kernel_rfl
def Z4(x w):stepG PR true (qv k b o s u L cf cs x) w=stepG.apply PR true (qv k b o s u L cf cs x).frame (qv k b o s u L cf cs x).callers none (do pure (.value (<-convert 302 112 (.pointer (some ⟨b,o,s⟩))))) w:=by cases k<;>kernel_rfl
def Z5(x a w):stepG PR true (o8 k b o s u L cf cs x a) w=stepG.apply PR true (o8 k b o s u L cf cs x a).frame (o8 k b o s u L cf cs x a).callers none (callFunc 190 #[.pointer (some ⟨b,o,s⟩),.int .i32 (-1)]) w:=by cases k<;>kernel_rfl
def S4(x a n):sx k b o s u L cf cs x a n=kZ k b o s u L cf cs x a n (n==0):=by cases k<;>kernel_rfl
def SH(x a n w):stepG PG true (vM k b o s u L cf cs x a n) w=doReturn PG true (vM k b o s u L cf cs x a n).frame (cf::cs) none (.tuple #[]) w:=by cases k<;>kernel_rfl
def a0a(x a w):stepG PR true (w9 k b o s u L cf cs x a) w=doReturn PR true (w9 k b o s u L cf cs x a).frame (cf::cs) none (.tuple #[]) w:=by cases k<;>kernel_rfl
def SD(x a n):(vM k b o s u L cf cs x a n).frame.kind=kd k:=by cases k<;>kernel_rfl
def Z8(x a):(w9 k b o s u L cf cs x a).frame.kind=kd k:=by cases k<;>kernel_rfl
def Z9(x a w):stepG PR true (xa k b o s u L cf cs x a) w=.go (Br k b o s u L cf cs x a) w #[⟨.mark (.releaseMerge a),false,true⟩]:=by cases k<;>kernel_rfl
def Z6(x a w):stepG PR true (Bt k b o s u L cf cs x a) w=.go (Bu k b o s u L cf cs x a) w #[⟨.mark .disable,false,true⟩]:=by cases k<;>kernel_rfl
def Z7(x a w):stepG PR true (Bo k b o s u L cf cs x a) w=.go (Bp k b o s u L cf cs x a) w #[⟨.mark .enable,false,true⟩]:=by cases k<;>kernel_rfl
def SF(x a n w):lO (stepG PG true (aG PG true 1 (kZ k b o s u L cf cs x a n false)) w)=true:=by cases k<;>kernel_rfl
def S0(x a n):aS PG true 1 (kZ k b o s u L cf cs x a n false) (aG PG true 1 (kZ k b o s u L cf cs x a n false)):=by cases k<;>exact cq (λw=>by kernel_rfl) (by kernel_rfl)
def S3(x a n i)(c:i<=1):(aG PG true i (kZ k b o s u L cf cs x a n false)).callers=cf::cs:=by
 have:((List.range 2).map λi=>(aG PG true i (kZ k b o s u L cf cs x a n false)).callers)=List.replicate 2 (cf::cs):=by cases k<;>kernel_rfl
 exact iA this i (by omega)
def SG(w):lO (stepG PG true (aG PG true 6 (jk k u L cf cs (.pointer none))) w)=true:=by cases k<;>kernel_rfl
def SI:aS PG true 6 (jk k u L cf cs (.pointer none)) (aG PG true 6 (jk k u L cf cs (.pointer none))):=by cases k<;>exact cq (λw=>by kernel_rfl) (by kernel_rfl)
def SJ(i)(a:i<=6):(aG PG true i (jk k u L cf cs (.pointer none))).callers=cf::cs:=by
 have:((List.range 7).map λi=>(aG PG true i (jk k u L cf cs (.pointer none))).callers)=List.replicate 7 (cf::cs):=by cases k<;>kernel_rfl
 exact iA this i (by omega)
def Sw(x)(a:∀p,x≠.pointer p)(w):lO (stepG PG true (aG PG true 2 (jk k u L cf cs x)) w)=true:=by cases k<;>(cases x<;>first|exact absurd rfl (a _)|kernel_rfl)
def SY(x):aS PG true 2 (jk k u L cf cs x) (aG PG true 2 (jk k u L cf cs x)):=by cases k<;>exact cq (λw=>by kernel_rfl) (by kernel_rfl)
def SZ(x i)(a:i<=2):(aG PG true i (jk k u L cf cs x)).callers=cf::cs:=by
 have:((List.range 3).map λi=>(aG PG true i (jk k u L cf cs x)).callers)=List.replicate 3 (cf::cs):=by cases k<;>kernel_rfl
 exact iA this i (by omega)
end
theorem GK{P}(a):∀n i b,NP P (λ_=>True) (loadCellsFrom a i n b)
 |0,_,_=>trivial
 |n+1,_,_=>λ_=>GK a n _ _
def Xm{P}(t a):NP P (λ_=>True) (Instr.loadAt t (.pointer (some a))):=by
 refine NP.bind (Q:=λx=>x=a) (λx b=>?_) (show NP P (λx=>x=a) (Instr.sureAddr (.pointer (some a)))from rfl);subst b;unfold loadVar;refine NP.bind (Q:=λ_=>True) (λc _=>?_) ?_
 .cases c with
  |true=>refine NP.bind (Q:=λ_=>True) (λn _=>?_) (GM _);exact NP.bind (P:=P) (Q:=λ_=>True) (R:=λ_=>True) (f:=λc=>(Sem.pure (.agg c):Sem af)) (λ_ _=>trivial) (GK _ _ _ _)
  |false=>intro v;trivial
 .unfold isAgg;refine NP.bind (Q:=λ_=>True) (s:=underlying t) (λd _=>?_) ?_
  .cases d<;>trivial
  .unfold underlying;refine NP.bind (Q:=λ_=>True) (s:=program) (λp _=>?_) trivial;split<;>trivial
def a2V{Z K cs Od Stop}(C:∀fr j w,Stop fr j w->j=[])(args k rargs fr j A i D aj w v gs t q SB sl)(hk:k=.normal\/k=.deferred)(ad:Fin PG (aB PG) Stop (Frame.enter PG 145 args k) (fr::j) w)(bb:∀g,aQ D aj g->rargs=args.map (ak g))(R:dS Tryz.progTables Z K cs D aj w v fr j A i)(h0:gs[0]?=some (an (Frame.enter PR 145 rargs k) (A::i)))(hL:Leavers PR t gs q)(hP:Past (cK SB) v.heap.size t)(bA:∀b,D b->¬SB (aj b))(al:∀c,SB c->c<v.heap.size)(b8:Od.Kept D aj SB v):∃M bB v' b9 t' q' SB' D' bd bC bF w2,runNT PR M (crowd gs v sl) t=(.next (crowd bB v' b9),t')/\Reach PG (aB PG) Stop (Frame.enter PG 145 args k) (fr::j) w bC bF w2/\mr Tryz.progTables PR Z K cs Od D' bd w2 bC bF bB v' t' q' SB':=by
 obtain⟨kb,rfl⟩:∃kb,k=kd kb:=by
  obtain rfl|rfl:=hk
  .exact⟨false,rfl⟩
  .exact⟨true,rfl⟩
 obtain⟨y,hF,R⟩:=R;have eG:=pQ (P:=PG) (show PG.funcs[145]?=some Gh.mI from Gh.func145) (show Gh.mI.body=some Jh from rfl) args (kd kb);have eR:=pQ (P:=PR) (show PR.funcs[145]?=some Tryz.f145 from Tryz.func145) (show Tryz.f145.body=some BO from rfl) rargs (kd kb);have nG:Gh.mI.ntmps=21:=Gh.ntmps145;have nR:Tryz.f145.ntmps=21:=Tryz.ntmps145;rw[nG]at eG;rw[nR]at eR;have bG:21<=(args.toList++List.replicate (21 - args.size) undef).length:=by simp;omega
 have ar:=aN R.heap 0;generalize gb:(λb=> @ite _ (D b) (Classical.propDecidable _) (aj b) (v.heap.size+0+b))=f0 at ar;have au:∀f,aQ D aj f->rargs.toList++List.replicate (21 - rargs.size) undef=(args.toList++List.replicate (21 - args.size) undef).map (ak f):=by intro f X;have:=bb f X;rw[this];simp[undef]
 obtain⟨x,u,L,hl⟩:=IX 20 bG;rw[hl]at eG au;rw[eG]at ad⊢;have E:(fr::j)≠[]:=by simp
 have O:fr::(j++[aB PG])=(fr::j)++[aB PG]:=rfl;obtain⟨p,rfl⟩:∃p,x=.pointer p:=by refine fx λhn=>?_;have hx:∀p,x≠.pointer p:=λp hp=>hn ⟨p,hp⟩;exact oC C E O (SY kb u L fr (j++[aB PG]) x) rfl (SZ kb u L fr (j++[aB PG]) x) (Sw kb u L fr (j++[aB PG]) x hx) ad
 cases p with
 |none=>exact(oC C E O (SI kb u L fr (j++[aB PG])) rfl (SJ kb u L fr (j++[aB PG])) (SG kb u L fr (j++[aB PG])) ad).elim
 |some a=>
 obtain⟨b,o,s⟩:=a;have bl:D b:=by refine k7 R.heap (c:=f0 b) λf X=>?_;have h1:=au f0 ar;rw[au f X]at h1;simp only[cA,f9,bh,Option.map_some,Value.pointer.injEq,cw,aH,Addr.mk.injEq]at h1;exact h1.1.1.symm
 have bn:Frame.enter PR 145 rargs (kd kb)=nv 145 BO (kd kb) (.pointer (some ⟨aj b,o,s⟩)::sq (ru f0 u) 1 20 (L.map (ak f0))):=by rw[eR,au f0 ar];simp only[cA,xx,bh,Option.map_some,aH,ar.on b bl]
 rw[bn]at h0;have ca:Fit Tryz.progTables id:=⟨λa b h=>h,λ_ _=>rfl,g9.{0}.zero⟩;have J:∀{g:aw} {h:ah} {c:List ah},g=an h c->g.frame.kind=kd kb->(h.kind==.early)=false:=λe h1=>by rw[e]at h1;have h1:_=kd kb:=h1;have h2:=h1;simp only[an]at h2;rw[h2];cases kb<;>rfl
 obtain⟨g1,e1,F1,r1⟩:=lN C E O (SK kb b o s u L fr (j++[aB PG])) rfl (SL kb b o s u L fr (j++[aB PG])) ad;obtain⟨N1,cb,cc,t1,q1,c1,cd,fz,ce,cf,ck,cl⟩:=o7 (SB:=SB) (lA (a0b kb (aj b) o s (ru f0 u) (L.map (ak f0)) A i) v 0) gs t q sl v.drawn h0 hL (dO.of hP) hP.hears;have co:=J e1 (by cases kb<;>kernel_rfl);have cp:∀x,pZ kb b o s u L fr (j++[aB PG]) x=an (g1.finish x) (fr::(j++[aB PG])):=λx=>by unfold pZ fin;rw[e1];rfl
 obtain⟨N2,cr,cu,t2,q2,c2,gx,v1,gc,cv,f1,cx,cy,cN,bI,x,H,rfl,bN,w1,y1,D1,m,F2,r2,bo,R1,⟨cS,bO⟩,S,c0⟩:=qk (P:=PR) (SB:=SB) (g:=qt kb (aj b) o s (ru f0 u) (L.map (ak f0)) A i) (v:=v) (d:=0) (by cases kb<;>kernel_rfl)
  (Q:=λ_ gx v1 es=> ∃x H,gx=Bq kb (aj b) o s (ru f0 u) (L.map (ak f0)) A i H/\deafBehind 0 es=0/\∃(w1 y1:aa) (D1:Nat->Prop) (m:Nat->Nat),Fin PG (aB PG) Stop (g1.finish x) (fr::j) w1/\Reach PG (aB PG) Stop g1 (fr::j) w (g1.finish x) (fr::j) w1/\bK Z K y1 w1/\Rel Tryz.progTables cs D1 m y1 v1 fr j A i/\((∀b,D b->D1 b/\m b=aj b)/\Od.Kept D1 m SB v1)/\(∀b,D1 b->¬SB (m b))/\v.heap.size<=v1.heap.size)
  (λc=>by
   obtain⟨x,w1,es,y1,D1,m,H,v1,bP,_,F2,r2,U,bo,R1,ao,I⟩:=sQ (F':=Tryz.funcs) C E F1 (s:=(do pure (.value (<-Instr.loadAt 21 (.pointer (some ⟨b,o,s⟩)))))) (s':=(do pure (.value (<-Instr.loadAt 21 (.pointer (some ⟨aj b,o,s⟩))))))
    (λw=>by
     have:=Sy kb b o s u L fr (j++[aB PG]) w;rw[e1]at this;exact this) co (Q:=λ_=>True) (NP.bind (P:=PG) (R:=λn:Next=> ∃x,n=.value x/\True) (f:=λx=>(Sem.pure (.value x):Sem Next)) (λx hx=>(⟨x,rfl,hx⟩:∃y,Next.value x=.value y/\True)) (Xm 21 ⟨b,o,s⟩)) (NF.bind (Gj _ _) λ_=>NF.pure _)
    (by
     have:=yV (T:=Tryz.progTables) (F:=Gh.funcs.{0}) (F':=Gh.funcs.{0}) (f:=id) 21 (.pointer (some ⟨b,o,s⟩));rw[jV]at this;refine this.bind ?_;rintro v _ rfl;exact ax rfl)
    (λf X=>by
     have:=yV (T:=Tryz.progTables) (F:=Gh.funcs.{0}) (F':=Tryz.funcs) (f:=f) 21 (.pointer (some ⟨b,o,s⟩));have e:ak f (.pointer (some ⟨b,o,s⟩))=.pointer (some ⟨aj b,o,s⟩):=by simp[aH,X.on b bl]
     rw[e]at this;refine this.bind ?_;rintro v _ rfl;exact ax rfl) hF R c
   have S:=nd I bA al;have B:=nx R1.heap I S;have bR:=i9 (main:=true) (Z3 kb (aj b) o s (ru f0 u) (L.map (ak f0)) A i (v.at c)) U (by cases kb<;>kernel_rfl);exact⟨_,v1,_,bR,I.size,λe N=>⟨(B e (fd N)).1,(B e (fd N)).2.2.2⟩,x,H,rfl,deafBehind_still (λe N=>⟨(B e (fd N)).2.1,(B e (fd N)).2.2.1⟩) 0,w1,y1,D1,m,F2,r2,bo,R1,⟨λb hb=>I.more b hb,Old.Kept.gone (v:=v.at c) b8 I bA al⟩,S,I.size⟩)
  cb t1 q1 cc c1 ce cf ck cl
 rw[bN]at bI;obtain⟨g3,e3,F3,r3⟩:=lN C E O (SM kb b o s u L fr (j++[aB PG]) x) (cp x) (SO kb b o s u L fr (j++[aB PG]) x) F2;obtain⟨N3,c8,c9,t3,q3,c3,dc,f2,df,dl,dr,ds⟩:=o7 (SB:=SB) (lA (a0e kb (aj b) o s (ru f0 u) (L.map (ak f0)) A i H) v1 0) cr t2 q2 cu v1.drawn cx cy cN bI;have ae:=(cS b bl);have dy:=J e3 (by cases kb<;>kernel_rfl);have dB:∀a,p4 kb b o s u L fr (j++[aB PG]) x a=an (g3.finish (.pointer (some a))) (fr::(j++[aB PG])):=λa=>by unfold p4 fin;rw[e3];rfl
 have Y:∀c,SB c->c<v1.heap.size:=λc hc=>cG (al c hc) c0;obtain⟨N4,dR,dT,t4,q4,c4,gx,V,ge,d0,f3,d1,d2,d3,bS,a1,a2,rfl,bT,w2,y2,D2,l,F4,r4,bp,R2,⟨d4,bU⟩,W,d5,d6⟩:=qk (P:=PR) (SB:=SB) (g:=qv kb (aj b) o s (ru f0 u) (L.map (ak f0)) A i H) (v:=v1) (d:=0) (by cases kb<;>kernel_rfl)
  (Q:=λ_ gx V es=> ∃a1 a2:ap,gx=xa kb (aj b) o s (ru f0 u) (L.map (ak f0)) A i H a2/\deafBehind 0 es=0/\∃(w2 y2:aa) (D2:Nat->Prop) (l:Nat->Nat),Fin PG (aB PG) Stop (g3.finish (.pointer (some a1))) (fr::j) w2/\Reach PG (aB PG) Stop g3 (fr::j) w1 (g3.finish (.pointer (some a1))) (fr::j) w2/\bK Z K y2 w2/\Rel Tryz.progTables cs D2 l y2 V fr j A i/\((∀b,D1 b->D2 b/\l b=m b)/\Od.Kept D2 l SB V)/\(∀b,D2 b->¬SB (l b))/\v1.heap.size<=V.heap.size/\a2.block<V.heap.size)
  (λc=>by
   obtain⟨z,w2,es,y2,D2,l,z',V,bP,⟨a1,rfl⟩,F4,r4,U,bp,R2,ao,I⟩:=sQ (F':=Tryz.funcs) C E F3 (s:=(do pure (.value (<-convert 302 112 (.pointer (some ⟨b,o,s⟩)))))) (s':=(do pure (.value (<-convert 302 112 (.pointer (some ⟨aj b,o,s⟩))))))
    (λw=>by
     have:=Sz kb b o s u L fr (j++[aB PG]) x w;rw[e3]at this;exact this) dy (Q:=λx=> ∃a,x=.pointer (some a)) (NP.bind (P:=PG) (R:=λn:Next=> ∃x,n=.value x/\∃a,x=.pointer (some a)) (f:=λx=>(Sem.pure (.value x):Sem Next)) (λx hx=>(⟨x,rfl,hx⟩:∃y,Next.value x=.value y/\∃a,y=.pointer (some a))) (GJ Ji nP ⟨b,o,s⟩)) (NF.bind (Au (cT.ux 302 112 rfl) _) λ_=>NF.pure _)
    (by
     have:=rK (T:=Tryz.progTables) (F:=Gh.funcs.{0}) (F':=Gh.funcs.{0}) (f:=id) 302 112 (.pointer (some ⟨b,o,s⟩));rw[jV]at this;refine this.bind ?_;rintro v _ rfl;exact ax rfl)
    (λf X=>by
     have:=rK (T:=Tryz.progTables) (F:=Gh.funcs.{0}) (F':=Tryz.funcs) (f:=f) 302 112 (.pointer (some ⟨b,o,s⟩));have e:ak f (.pointer (some ⟨b,o,s⟩))=.pointer (some ⟨aj b,o,s⟩):=by simp[aH,X.on b ae.1,ae.2]
     rw[e]at this;refine this.bind ?_;rintro v _ rfl;exact ax rfl) bo R1 c
   have W:=nd I S Y;have B:=nx R2.heap I W;obtain⟨a2,ea⟩:∃a2,z'=.pointer (some a2):=⟨_,by have:=ao _ (aN R2.heap 0);rw[bh]at this;exact this⟩;subst ea;have bX:∃d,D2 d/\l d=a2.block:=v8 R2.heap (b:=a1.block) λf X=>by have:=ao f X;simp only[bh,Option.map_some,Value.pointer.injEq,cw]at this;rw[this];rfl
   obtain⟨d,hd,eb⟩:=bX;have b0:=R2.heap.fO d hd;rw[eb]at b0;have b1:=i9 (main:=true) (Z4 kb (aj b) o s (ru f0 u) (L.map (ak f0)) A i H (v1.at c)) U (by cases kb<;>kernel_rfl);exact⟨_,V,_,b1,I.size,λe N=>⟨(B e (fd N)).1,(B e (fd N)).2.2.2⟩,a1,a2,rfl,deafBehind_still (λe N=>⟨(B e (fd N)).2.1,(B e (fd N)).2.2.1⟩) 0,w2,y2,D2,l,F4,r4,bp,R2,⟨λb hb=>I.more b hb,Old.Kept.gone (v:=v1.at c) bO I S Y⟩,W,I.size,b0⟩)
  c8 t3 q3 c9 c3 df dl dr ds
 rw[bT]at bS;obtain⟨g5,e5,F5,r5⟩:=lN C E O (SQ kb b o s u L fr (j++[aB PG]) x a1) (dB a1) (SR kb b o s u L fr (j++[aB PG]) x a1) F4;have b2:Row PR (cK SB) (xa kb (aj b) o s (ru f0 u) (L.map (ak f0)) A i H a2) V 0 (o8 kb (aj b) o s (ru f0 u) (L.map (ak f0)) A i H a2) V 1:=
  .cons _ (by cases kb<;>kernel_rfl) (λc=>Z9 kb (aj b) o s (ru f0 u) (L.map (ak f0)) A i H a2 _) (aF _) (pS rfl d6) ((lA (a0f kb (aj b) o s (ru f0 u) (L.map (ak f0)) A i H a2) V 0).trans (.cons _ (by cases kb<;>kernel_rfl) (λc=>Z6 kb (aj b) o s (ru f0 u) (L.map (ak f0)) A i H a2 _) (aF _) (pS rfl trivial) (lA (a0g kb (aj b) o s (ru f0 u) (L.map (ak f0)) A i H a2) V 1)))
 obtain⟨N5,ec,eg,t5,q5,c5,eh,f4,ei,ek,el,eo⟩:=o7 b2 dR t4 q4 dT V.drawn d1 d2 d3 bS;have ba:=(d4 b ae.1);have eq:=J e5 (by cases kb<;>kernel_rfl);have er:∀n,p5 kb b o s u L fr (j++[aB PG]) x a1 n=an (g5.finish (.int .i32 n)) (fr::(j++[aB PG])):=λn=>by unfold p5 fin;rw[e5];rfl
 have ab:∀c,SB c->c<V.heap.size:=λc hc=>cG (Y c hc) d5;obtain⟨N6,et,eu,t6,q6,c6,gx,v3,gf,ev,f5,ew,ex,ey,b3,rfl,b4,w3,y3,D3,r,g7,e7,F7,r7,br,R3,⟨gl,b5⟩,ag,eD⟩:=qk (P:=PR) (SB:=SB) (g:=o8 kb (aj b) o s (ru f0 u) (L.map (ak f0)) A i H a2) (v:=V) (d:=1) (by cases kb<;>kernel_rfl)
  (Q:=λ_ gx v3 es=>gx=xb kb (aj b) o s (ru f0 u) (L.map (ak f0)) A i H a2/\deafBehind 1 es=1/\∃(w3 y3:aa) (D3:Nat->Prop) (r:Nat->Nat) (g7:ah),kZ kb b o s u L fr (j++[aB PG]) x a1 0 true=an g7 (fr::(j++[aB PG]))/\Fin PG (aB PG) Stop g7 (fr::j) w3/\Reach PG (aB PG) Stop g5 (fr::j) w2 g7 (fr::j) w3/\bK Z K y3 w3/\Rel Tryz.progTables cs D3 r y3 v3 fr j A i/\((∀b,D2 b->D3 b/\r b=l b)/\Od.Kept D3 r SB v3)/\(∀b,D3 b->¬SB (r b))/\V.heap.size<=v3.heap.size)
  (λc=>by
   have av:(#[.pointer (some ⟨b,o,s⟩),.int .i32 (-1)]:Array af).map (ak id)=#[.pointer (some ⟨b,o,s⟩),.int .i32 (-1)]:=by simp[aH]
   obtain⟨z,w3,es,y3,D3,r,z',v3,bP,⟨n,rfl⟩,F6,r6,U,br,R3,ao,I⟩:=sQ (F':=Tryz.funcs) C E F5 (s:=callFunc 190 #[.pointer (some ⟨b,o,s⟩),.int .i32 (-1)]) (s':=callFunc 190 #[.pointer (some ⟨aj b,o,s⟩),.int .i32 (-1)])
    (λw=>by
     have:=SC kb b o s u L fr (j++[aB PG]) x a1 w;rw[e5]at this;exact this) eq (Q:=λx=> ∃n,x=.int .i32 n) (GI (P:=PG) (show PG.funcs[190]?=some Tryz.f190 from Gh.func190) (by kernel_rfl) (by kernel_rfl) (by kernel_rfl) (by kernel_rfl) (Xj ⟨b,o,s⟩)) (wg g9 cT _ _)
    (by
     have:=ox (F:=Gh.funcs.{0}) (F':=Gh.funcs.{0}) ca g9 190 #[.pointer (some ⟨b,o,s⟩),.int .i32 (-1)];rw[av]at this;exact this)
    (λf X=>by
     have:=ox (F:=Gh.funcs.{0}) (F':=Tryz.funcs) (nA lB.{0} R2.low X) lB 190 #[.pointer (some ⟨b,o,s⟩),.int .i32 (-1)];have e:(#[.pointer (some ⟨b,o,s⟩),.int .i32 (-1)]:Array af).map (ak f)=#[.pointer (some ⟨aj b,o,s⟩),.int .i32 (-1)]:=by simp[aH,X.on b ba.1,ba.2,ae.2]
     rw[e]at this;exact this) bp R2 c
   have ag:=nd I W ab;have B:=nx R3.heap I ag;obtain⟨g7,e7,F7,r7⟩:=lN C E O (SS kb b o s u L fr (j++[aB PG]) x a1 n) (er n) (SU kb b o s u L fr (j++[aB PG]) x a1 n) F6;rw[S4]at e7;cases bs:(n==0)with
   |false=>rw[bs]at e7;exact(oC C E O (S0 kb b o s u L fr (j++[aB PG]) x a1 n) e7 (S3 kb b o s u L fr (j++[aB PG]) x a1 n) (SF kb b o s u L fr (j++[aB PG]) x a1 n) F7).elim
   |true=>
    rw[bs]at e7;obtain rfl:n=0:=by simpa using bs
    have eP:z'=.int .i32 0:=by
     have:=ao _ (aN R3.heap 0)
     rwa [bj]at this
    subst eP;have b6:=i9 (main:=true) (Z5 kb (aj b) o s (ru f0 u) (L.map (ak f0)) A i H a2 (V.at c)) U (by cases kb<;>kernel_rfl);exact⟨_,v3,_,b6,I.size,λe N=>⟨(B e (fd N)).1,(B e (fd N)).2.2.2⟩,rfl,deafBehind_still (λe N=>⟨(B e (fd N)).2.1,(B e (fd N)).2.2.1⟩) 1,w3,y3,D3,r,g7,e7,F7,r6.trans r7,br,R3,⟨λb hb=>I.more b hb,Old.Kept.gone (v:=V.at c) bU I W ab⟩,ag,I.size⟩)
  ec t5 q5 eg c5 ei ek el eo
 rw[b4]at b3;obtain⟨g8,e8,F8,r8⟩:=lN C E O (SV kb b o s u L fr (j++[aB PG]) x a1 0) e7 (SX kb b o s u L fr (j++[aB PG]) x a1 0) F7;have aq:=R3.ok.calm;have e0:=(R3.aZ _ (aN R3.heap 0)).1;have aP:∀ch,A.mode=.panicking ch->∀e∈ch,e.recovered=false:=by
  intro ch hm e N;rw[e0]at hm;cases bw:fr.mode with
  |panicking c=>simp only[aR,bw,eB,FrameMode.panicking.injEq]at hm;subst hm;obtain⟨e',e2,rfl⟩:=eS.1 N;exact aq c bw e' e2
  |_=>simp[aR,bw,eB]at hm
 have bx:stepG PG true (an g8 ((fr::j)++[aB PG])) w3=.go (an (a5Q kb fr) (j++[aB PG])) w3 #[]:=by have h1:=SH kb b o s u L fr (j++[aB PG]) x a1 0 w3;have h2:=SD kb b o s u L fr (j++[aB PG]) x a1 0;rw[wV kb h2 aq,e8]at h1;exact h1
 have r9:Reach PG (aB PG) Stop g8 (fr::j) w3 (a5Q kb fr) j w3:=.step w3.tape w3.drawn (λh=>E (C _ _ _ h)) (by rw[lp];exact bx) .refl;have b7:Row PR (cK SB) (xb kb (aj b) o s (ru f0 u) (L.map (ak f0)) A i H a2) v3 1 (an (a5Q kb A) i) v3 0:=
  (lA (a0c kb (aj b) o s (ru f0 u) (L.map (ak f0)) A i H a2) v3 1).trans (.cons _ (by cases kb<;>kernel_rfl) (λc=>Z7 kb (aj b) o s (ru f0 u) (L.map (ak f0)) A i H a2 _) (aF _) (pS rfl trivial) ((lA (a0d kb (aj b) o s (ru f0 u) (L.map (ak f0)) A i H a2) v3 0).trans (.cons #[] (by cases kb<;>kernel_rfl) (λc=>by
   rw[a0a kb (aj b) o s (ru f0 u) (L.map (ak f0)) A i H a2];exact wV kb (Z8 kb (aj b) o s (ru f0 u) (L.map (ak f0)) A i H a2) aP) (aF _) (by simp) .nil)))
 obtain⟨N7,e4,e6,t7,q7,c7,fb,f6,fl,fm,fn,fv⟩:=o7 b7 et t6 q6 eu v3.drawn ew ex ey b3;refine⟨N1+(N2+(N3+(N4+(N5+(N6+N7))))),e4,v3.at c7,e6,t7,q7,SB,D3,r,a5Q kb fr,j,w3,?_,r1.trans (r2.trans (r3.trans (r4.trans (r5.trans (r7.trans (r8.trans r9)))))),⟨⟨a5Q kb A,i,fl,y3,br,?_⟩,fm,fn.aj fv,ag,λc hc=>cG (ab c hc) eD,b5⟩⟩
 .exact runNT_add cd (runNT_add cv (runNT_add dc (runNT_add d0 (runNT_add eh (runNT_add ev fb)))))
 .refine⟨R3.heap.same rfl rfl,R3.os,R3.low,R3.all,GV kb R3.ok,R3.cF,λf X=>⟨?_,(R3.aZ f X).2⟩⟩;rw[(R3.aZ f X).1,Hy]
end Go.Mir
end
