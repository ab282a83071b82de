import Derived.Test.YtdnpeefnobjfaaaGreatDoorK41
set_option maxRecDepth 100000
set_option maxHeartbeats 4000000
set_option linter.all false
section
namespace Go.Mir
open Go Go.Conc
open Go.ConcN (upd upd_ne upd_same)
section
variable{C:aI}{p:ci C}{s s':St}{v v1:aa}{t0 t u:bm}{gs:Array aw}{B B':Nat}
structure NU (C:aI) (k:Nat) (sp:SP):Prop where
 aU:sp.aU C.n=k+1
 cB:sp.cB C.n=k+1
 made:sp.made C.n=k+1
 closed:sp.closed=false
 jH:∀G,G=.idle->sp.jH G
 lj:∀G,G=.idle->sp.lj G
 lF:match sp with| .mk k| .go k| .snd k=>k<C.n|_=>True
 oI:∀b m,sp=.ca b m->1<=m/\m<=8
 stage:∀s:St,s.sp=sp->C.stage s<28+3*(C.n - k)
 I2:∀b,sp≠.sb b
def zI(l:p.Ok){k g}(o:p.SN k (s.cb k) g)(q:k<C.n):∃d m g',NU C k d/\C.Quiet true C.dS m 0 (g.finishComm C.P #[scase (s.cb k) p.tv p.zS] .send 0 undef false) d.deaf g'/\∀s',s'.sp=d->p.pt s' d g':=by
 obtain⟨_,_,a,c⟩:=l.sn _ _ _ o;by_cases h:k+1<C.n
 .obtain⟨m,g',i,j⟩:=a h;refine⟨.mk (k+1),m,g',⟨rfl,rfl,rfl,rfl,λ_ h=>h,λ_ h=>h,h,λb m e=>(by cases e),λs r=>?_,λb e=>(by cases e)⟩,i,λ_ _=>j⟩
  grind[aI.stage]
 .have f:k+1=C.n:=a9h
  let ⟨m,g',i,j⟩:=c f;refine⟨.lw false,m,g',⟨f.symm,f.symm,f.symm,rfl,λ_ h=>h,λ_ h=>h,trivial,λb m e=>(by cases e),λs r=>?_,λb e=>(by cases e)⟩,i,λ_ _=>j⟩
  grind[aI.stage]
def DI{d g g' sp}(a:s.sp=sp)(c:∀b,sp≠.sb b)(e:C.Quiet true C.dS s.m0 d g sp.deaf g')(f:p.pt s sp g'):p.fX s d g:=by
 unfold ci.fX;rw[a]
 grind
def a3Q(hp:p.Ok)(hS:∀c,C.SB c->c<C.B0)(I:p.Inv t0 s gs v t){g sl}(hg:gs[0]?=some g){k}(f:s.sp=.snd k)(hA:p.SN k (s.cb k) g)(hd:Deaf t 0=0):p.Goes t0 s gs v t 0 sl:=by
 have Z:=I.pos;have W:k<C.n:=by have:=I.ctl.lF;rw[f]at this;exact this
 have ar:gs.size=C.N0+(k+1):=by have:=I.size;rw[f]at this;exact this
 have hG:s.G1=.idle:=by have:=I.ctl.s1;simp_all;exact this
 have ao:s.G2=.idle:=by have:=I.ctl.s2;simp_all;exact this
 let ⟨sp,m,g',hsent,hQ,hX⟩:=zI (s:=s) hp hA W;let ⟨_,hstep,_⟩:=hp.sn _ _ _ hA;have ab:stepG C.P (0==0) g v=.comm g #[scase (s.cb k) p.tv p.zS] true .send v #[]:=hstep v;have F:k<s.sp.made C.n:=by rw[f];exact lK k
 have M:=I.hp.ch k F;have au: ¬k<s.sp.cB C.n:=by rw[f];show¬k<k;omega
 rw[if_neg au]at M;let ⟨n1,n2,n3⟩:=uj I.cls F;have bx:0<gs.size:=a9h
 have av:C.stage s=28+3*(C.n - k):=by unfold aI.stage;rw[f]
 have y:∀i,i<k+1->i<s.sp.made C.n:=λi l=>by rw[f];exact l
 have aP:∀i x,i<k+1->i≠k->gs[C.N0+i]?=some x->offersAt x (s.cb k) false=[]:=by
  intro i x l ap o;have hW:=I.work i x (by rw[f];exact l) o;obtain⟨_,V,rfl⟩|⟨_,h|⟨_,h⟩⟩:=pz hp hW
  .refine offersAt_parked_off (λcc N=>?_) _;simp[ci.cases]at N;obtain rfl|rfl:=N
   .intro e;simp[rcase]at e;exact ap (AO I.cls (y i l) F e)
   .intro e;simp[rcase]at e;exact n3 e.symm
  .exact offersAt_of_not_blocked (by rw[h];simp) _ _
  .exact offersAt_of_not_blocked (by rw[h];simp) _ _
 have ad:∀j x,j≠C.N0+k->(gs.setIfInBounds 0 Conc.ph)[j]?=some x->offersAt x (s.cb k) false=[]:=by
  intro j x S o;obtain⟨_,rfl⟩|⟨h0,o⟩:=getElem?_stand gs 0 j x o
  .rfl
  .rcases ws I o with⟨h,_⟩|⟨_,_,hQ⟩|⟨i,rfl,l,_,_⟩
   .exact absurd h h0
   .refine offersAt_of_not_blocked ?_ _ _;obtain h|h:=hQ.status<;>rw[h]<;>simp
   .rw[f]at l;exact aP i x l (λe=>S (by rw[e])) o
 have D:(s.ph k).cC=false:=by
  cases e:(s.ph k).cC with
  |false=>rfl
  |true=>exact absurd (I.ctl.cC k W e) au
 have J:∀b:Nat->Ph,∀E,C.dx {s with sp:=sp,m0:=m,ph:=b,rk:=E} v.heap.size:=λb E=>by
  obtain⟨bn,sh,ba,ch,wk,ge⟩:=I.cls
  exact⟨bn,sh,ba,λi l=>ch i (y i (by rw[<-hsent.made];exact l)),λc i hc=>by
   have:=wk c i hc;rw[f]at this;show i<sp.aU C.n;rw[hsent.aU];exact this,ge⟩
 have ae:∀b:Nat->Ph,∀E,(∀i,i<C.n->i≠k->b i=s.ph i)->b k≠.unborn->b k≠.park1->7<=(b k).num->(b k≠.la1/\b k≠.lb1/\b k≠.lc1)->(b k≠.la2/\b k≠.lb2/\b k≠.lc2)->C.dJ {s with sp:=sp,m0:=m,ph:=b,rk:=E}:=by
  intro b E h1 h2 h3 h4 h5 h6;have X:=I.ctl;have O:∀{Q:Nat->Ph->Prop},(∀i,i<C.n->i≠k->Q i (s.ph i))->Q k (b k)->∀i,i<C.n->Q i (b i):=by
   intro Q q1 q2 i l;by_cases e:i=k
   .subst e;exact q2
   .rw[h1 i l e];exact q1 i l e
  refine⟨X.n8,hsent.lF,?_,?_,?_,λ_=>?_,λh=>?_,?_,X.eI,?_,X.eJ,?_,?_,hsent.jH _ hG,hsent.lj _ ao,hsent.oI⟩
  .show∀i,i<C.n->(b i=.unborn↔sp.aU C.n<=i);rw[hsent.aU];refine O (Q:=λi z=>z=.unborn↔k+1<=i) (λi l _=>?_) ⟨λe=>absurd e h2,λh=>a9h⟩;have:=X.born i l;rw[f]at this;exact this
  .show∀i,i<C.n->b i=.park1->sp.cB C.n<=i;rw[hsent.cB];refine O (Q:=λi z=>z=.park1->k+1<=i) (λi l ap o=>?_) (λe=>absurd e h3);have:=X.l9 i l o;rw[f]at this;have:k<=i:=this;omega
  .show∀i,i<C.n->(b i).cC=true->i<sp.cB C.n;rw[hsent.cB];refine O (Q:=λi z=>z.cC=true->i<k+1) (λi l ap o=>?_) (λ_=>a9h);have:=X.cC i l o;rw[f]at this;have:i<k:=this;omega
  .exact O (Q:=λi z=>7<=z.num) (λi l _=>X.opened (by rw[f];rfl) i l) h4
  .have h':sp.closed=true:=h;rw[hsent.closed]at h';cases h'
  .apply O (Q:=λi z=>(z=.la1↔s.G1=.la i)/\(z=.lb1↔s.G1=.lb i)/\(z=.lc1↔s.G1=.lc i)) (λi l _=>X.g1 i l);rw[hG];exact⟨⟨λe=>absurd e h5.1,λe=>(by cases e)⟩,⟨λe=>absurd e h5.2.1,λe=>(by cases e)⟩,⟨λe=>absurd e h5.2.2,λe=>(by cases e)⟩⟩
  .apply O (Q:=λi z=>(z=.la2↔s.G2=.la i)/\(z=.lb2↔s.G2=.lb i)/\(z=.lc2↔s.G2=.lc i)) (λi l _=>X.g2 i l);rw[ao];exact⟨⟨λe=>absurd e h6.1,λe=>(by cases e)⟩,⟨λe=>absurd e h6.2.1,λe=>(by cases e)⟩,⟨λe=>absurd e h6.2.2,λe=>(by cases e)⟩⟩
  .show s.G1.zz _;rw[hG];trivial
  .show s.G2.zz _;rw[ao];trivial
 have bb:∀b:Nat->Ph,∀E,(∀i,i<C.n->(b i).cX=(s.ph i).cX/\(b i).cY=(s.ph i).cY)->(∀i,i≠k->b i=s.ph i)->∀buf r1,(if (b k).cC then Obj.chan 1 #[] false 1 1 false else .chan 1 #[p.tv] false 1 0 false)=.chan 1 buf false 1 r1 false->p.Hp {s with sp:=sp,m0:=m,ph:=b,rk:=E} (v.setChan (s.cb k) 1 buf false 1 r1 false):=by
  intro b E h1 h2 buf r1 h3;obtain⟨R,_⟩:=xZ I.hp I.cls F (cap:=1) (buf:=buf) (cl:=false) (s1:=1) (r1:=r1) (tm:=false);refine⟨?_,R.tb,?_,R.old,R.os,λi l=>?_⟩
  .rw[kS n1.symm];show v.heap[C.r]?=some (C.fg (s.G1.st (cnt (λi=>(b i).cX) C.n)) _ (s.G2.st (cnt (λi=>(b i).cY) C.n)) _);rw[show cnt (λi=>(b i).cX) C.n=C.a1 s from oM λi l=>(h1 i l).1,show cnt (λi=>(b i).cY) C.n=C.a2 s from oM λi l=>(h1 i l).2];exact I.hp.rb
  .rw[kS n3.symm];have:=I.hp.dc;rw[f]at this;show _=some (Obj.chan 0 #[] sp.closed 0 0 false);rw[hsent.closed];exact this
  .have H:i<k+1:=by rw[<-hsent.made];exact l
   show _=some (if i<sp.cB C.n then (if (b i).cC then _ else _)else _);rw[hsent.cB,if_pos H];by_cases e:i=k
   .subst e;rw[h3];exact xh M
   .show(v.setChan (s.cb k) 1 buf false 1 r1 false).heap[s.cb i]?=_;rw[kS λh=>e (AO I.cls (y i H) F h),h2 i e,I.hp.ch i (y i H),if_pos (by rw[f];show i<k;omega)]
 have K:∀buf r1,(v.setChan (s.cb k) 1 buf false 1 r1 false).heap.size=v.heap.size:=λbuf r1=>by simp[World.setChan]
 have L:s.sp.aU C.n=k+1:=by rw[f];rfl
 by_cases T:s.ph k=.park1
 .
  let ⟨z,hz⟩:∃z,gs[C.N0+k]?=some z:=⟨_,eY a9h⟩;have hW:=I.work k z (by rw[f];exact lK k) hz;rw[T]at hW;obtain⟨V,bo,rfl,bp⟩:=hW;let ⟨_,_,hway⟩:=hp.s1 _ _ _ bo;have aq:partners (gs.setIfInBounds 0 Conc.ph) (s.cb k) false=[(C.N0+k,0)]:=by
   rw[partners_one (stand_get (i:=0) a9h hz) (λj x S o=>ad j x S o),offersAt_parked_at (k:=0) (c:=s.cb k) (z:=p.zT) (by simp[ci.cases]) (λm cc hm N=>by
    have:m=1:=by have:=(bz.1 N).1;simp[ci.cases]at this;omega
    subst this;simp[ci.cases]at N;subst N;intro e;simp[rcase]at e;exact n3 e.symm)]
   rfl
  have w:=crowd_send_meets_sel (sl:=sl) hg ab M (show C.N0+k≠0 by omega) hz (k:=0) (zj:=p.zT) (by simp[ci.cases]) aq;let ⟨R,hfr⟩:=xZ I.hp I.cls F (cap:=1) (buf:=#[]) (cl:=false) (s1:=0+1) (r1:=0+1) (tm:=false);let ⟨ρ,hρ⟩:=hway (s.own k) _ R (vQ I.cls (by simp[World.setChan]) k);let s':St:={s with sp:=sp,m0:=m,ph:=upd s.ph k .work,rk:=upd s.rk k ρ};have a:∀q∈(#[{g:=0,fn:=g.frame.fn,pos:=g.frame.place,act:=.send (s.cb k) 0},{g:=C.N0+k,fn:=V.frame.fn,pos:=V.frame.place,act:=.recv (s.cb k) 0 1},{g:=0,fn:=g.frame.fn,pos:=g.frame.place,act:=.sendDone (s.cb k) 0},{g:=C.N0+k,fn:=V.frame.fn,pos:=V.frame.place,act:=.recvDone (s.cb k) 0}]:bm),q.act.touch?=none/\q.g<C.N0+(k+1)/\q.act.low v.heap.size/\∀m,q.act≠.mark m:=by
   intro q d;have hl:=cV M;simp at d;obtain rfl|rfl|rfl|rfl:=d
   .exact⟨rfl,by show 0<_;omega,hl,λm=>a9i⟩
   .exact⟨rfl,by show C.N0+k<_;omega,hl,λm=>a9i⟩
   .exact⟨rfl,by show 0<_;omega,hl,λm=>a9i⟩
   .exact⟨rfl,by show C.N0+k<_;omega,hl,λm=>a9i⟩
  generalize hU:(#[{g:=0,fn:=g.frame.fn,pos:=g.frame.place,act:=.send (s.cb k) 0},{g:=C.N0+k,fn:=V.frame.fn,pos:=V.frame.place,act:=.recv (s.cb k) 0 1},{g:=0,fn:=g.frame.fn,pos:=g.frame.place,act:=.sendDone (s.cb k) 0},{g:=C.N0+k,fn:=V.frame.fn,pos:=V.frame.place,act:=.recvDone (s.cb k) 0}]:bm)=U at w a;have A:runT C.P (crowd gs v sl) 0=(.next (crowd ((gs.setIfInBounds (C.N0+k) (V.finishComm C.P (p.cases (s.cb k)) .select 0 p.tv true)).setIfInBounds 0 (g.finishComm C.P #[scase (s.cb k) p.tv p.zS] .send 0 undef false)) (v.setChan (s.cb k) 1 #[] false 1 1 false) sl),U):=by rw[w];simp[MemOp.ofEvents]
  have Y:∀j,Deaf (t++U) j=Deaf t j:=λj=>up λq d=>⟨(a q d).2.2.2 _,(a q d).2.2.2 _⟩;have bA:∀i,s'.own i=s.own i:=λi=>rfl;have bc:∀i,i≠k->s'.ph i=s.ph i:=λi l=>upd_ne _ _ l;have bd:s'.ph k=.work:=upd_same _ _ _;refine⟨_,_,_,s',A,⟨Z,?_,⟨_,by rw[lG a9l],?_⟩,?_,?_,?_,?_,?_,?_,?_⟩,?_⟩
  .show _=C.N0+sp.aU C.n;rw[hsent.aU];simpa using ar
  .rw[Y,hd];exact DI (sp:=sp) rfl hsent.I2 hQ (hX s' rfl)
  .intro j x h0 hN o;rw[dw a9h,dw a9h]at o;rw[Y];exact I.elder j x h0 hN o
  .intro i x l o;have H:i<k+1:=by rw[<-hsent.aU];exact l
   rw[dw a9h]at o;rw[Y];by_cases e:i=k
   .subst e;rw[lG a9h]at o;obtain rfl:=db o;show p.fa i (s.cb i) (upd s.ph i .work i) (upd s.rk i ρ i) _ (s.own i) _ _ _;rw[upd_same,upd_same,bp];exact hρ
   .rw[dw a9h]at o;show p.fa i (s.cb i) (upd s.ph k .work i) (upd s.rk k ρ i) _ (s.own i) _ _ _;rw[upd_ne _ _ e,upd_ne _ _ e];exact rn hp (I.work i x (by rw[f];exact H) o) (hfr i)
  .intro j S;rw[Y];exact I.above j (by simpa using S)
  .refine bb (upd s.ph k .work) (upd s.rk k ρ) (λi l=>?_) (λi l=>upd_ne _ _ l) #[] 1 (by rw[upd_same];rfl);by_cases e:i=k
   .subst e;rw[upd_same,T];exact⟨rfl,rfl⟩
   .rw[upd_ne _ _ e];exact⟨rfl,rfl⟩
  .rw[K];exact J _ _
  .apply ae _ _ (λi _ l=>upd_ne _ _ l)<;>rw[upd_same]<;>decide
  .rw[K];refine tJ I.gi (az _) (by rw[L];exact hsent.aU) (λ_ _ h=>h) (λq d=>(a q d).1) (λq d=>by rw[L];exact(a q d).2.1) (λq d=>(a q d).2.2.1) (λq d=>(a q d).2.2.2 _) (λi l o=>mR I.gi l ?_ λq d _=>(a q d).1);by_cases e:i=k
   .subst e;rw[bd]at o;cases o
   .rw[bc i e]at o;exact o
  .refine .inl (sj (i:=C.N0+k) a9h ?_ λj S=>?_)
   .have br: ¬(C.N0+k<C.N0):=a9h
    have bB:C.N0+k - C.N0=k:=a9h
    simp[aI.dM,br,s',upd_same,T];exact .num a9j
   .unfold aI.dM;by_cases bs:j<C.N0
    .simp[bs,s']
    .have:j - C.N0≠k:=a9h
     simp[s',upd_ne _ _ this]
 .
  have aq:partners (gs.setIfInBounds 0 Conc.ph) (s.cb k) false=[]:=by
   refine partners_nil λj x o=>?_;by_cases S:j=C.N0+k
   .subst S;obtain⟨h,_⟩|⟨_,o⟩:=getElem?_stand gs 0 _ x o
    .omega
    .have hW:=I.work k x (by rw[f];exact lK k) o;obtain⟨h|h,_⟩|⟨_,h|⟨_,h⟩⟩:=pz hp hW
     .exact absurd h T
     .rw[h]at D;cases D
     .exact offersAt_of_not_blocked (by rw[h];simp) _ _
     .exact offersAt_of_not_blocked (by rw[h];simp) _ _
   .exact ad j x S o
  have w:=crowd_send_room (sl:=sl) hg ab M a9i aq;let ⟨R,hfr⟩:=xZ I.hp I.cls F (cap:=1) (buf:=#[p.tv]) (cl:=false) (s1:=1) (r1:=0) (tm:=false);let s':St:={s with sp:=sp,m0:=m};have a:∀q∈(#[{g:=0,fn:=g.frame.fn,pos:=g.frame.place,act:=.send (s.cb k) 0},{g:=0,fn:=g.frame.fn,pos:=g.frame.place,act:=.sendDone (s.cb k) 0}]:bm),q.act.touch?=none/\q.g<C.N0+(k+1)/\q.act.low v.heap.size/\∀m,q.act≠.mark m:=by
   intro q d;have hl:=cV M;simp at d;obtain rfl|rfl:=d
   .exact⟨rfl,by show 0<_;omega,hl,λm=>a9i⟩
   .exact⟨rfl,by show 0<_;omega,hl,λm=>a9i⟩
  generalize hU:(#[{g:=0,fn:=g.frame.fn,pos:=g.frame.place,act:=.send (s.cb k) 0},{g:=0,fn:=g.frame.fn,pos:=g.frame.place,act:=.sendDone (s.cb k) 0}]:bm)=U at w a;have A:runT C.P (crowd gs v sl) 0=(.next (crowd (gs.setIfInBounds 0 (g.finishComm C.P #[scase (s.cb k) p.tv p.zS] .send 0 undef false)) (v.setChan (s.cb k) 1 #[p.tv] false 1 0 false) sl),U):=by rw[w];simp[MemOp.ofEvents]
  have Y:∀j,Deaf (t++U) j=Deaf t j:=λj=>up λq d=>⟨(a q d).2.2.2 _,(a q d).2.2.2 _⟩;refine⟨_,_,_,s',A,⟨Z,?_,⟨_,by rw[lG a9h],?_⟩,?_,?_,?_,?_,?_,?_,?_⟩,?_⟩
  .show _=C.N0+sp.aU C.n;rw[hsent.aU];simpa using ar
  .rw[Y,hd];exact DI (sp:=sp) rfl hsent.I2 hQ (hX s' rfl)
  .intro j x h0 hN o;rw[dw a9h]at o;rw[Y];exact I.elder j x h0 hN o
  .intro i x l o;have H:i<k+1:=by rw[<-hsent.aU];exact l
   rw[dw a9h]at o;rw[Y];exact rn hp (I.work i x (by rw[f];exact H) o) (hfr i)
  .intro j S;rw[Y];exact I.above j (by simpa using S)
  .exact bb s.ph s.rk (λ_ _=>⟨rfl,rfl⟩) (λ_ _=>rfl) #[p.tv] 0 (by rw[D];rfl)
  .rw[K];exact J _ _
  .have bl:=I.ctl.opened (by rw[f];rfl) k W;have bw:s.ph k≠.unborn:=λe=>by have:=(I.ctl.born k W).1 e;rw[f]at this;have:k+1<=k:=this;omega
   apply ae s.ph s.rk (λ_ _ _=>rfl) bw T bl
   .revert D;cases s.ph k<;>decide
   .revert D;cases s.ph k<;>decide
  .rw[K];exact tJ I.gi (az _) (by rw[L];exact hsent.aU) (λ_ _ h=>h) (λq d=>(a q d).1) (λq d=>by rw[L];exact(a q d).2.1) (λq d=>(a q d).2.2.1) (λq d=>(a q d).2.2.2 _) (λi l o=>mR I.gi l o λq d _=>(a q d).1)
  .exact .inr ⟨y9 rfl rfl rfl,.inl (by rw[av];exact hsent.stage s' rfl)⟩
end
section
variable{C:aI}{p:ci C}{s s':St}{v v1:aa}{t0 t u:bm}{gs:Array aw}{B B':Nat}
structure ci.End (p:ci C) (gs:Array aw) (v:aa) (t:bm) (s:St) (g:aw):Prop where
 zero:gs[0]?=some g
 fn:p.FN g
 size:gs.size=C.N0+C.n
 iZ:Leavers C.P t gs s.q
 ai:Past (λl=>cn C.SB l\/C.oH l) v.heap.size t
 hp:p.Hp s v
 cls:C.dx s v.heap.size
 told:∀i,i<C.n->p.TD i (s.own i) v
def Wk(c:p.Ok)(I:p.Inv t0 s gs v t)(d):p.Inv t0 s gs (v.at d) t:=by have a:p.Hp s (v.at d):=⟨I.hp.rb,I.hp.tb,I.hp.dc,I.hp.old,I.hp.os,I.hp.ch⟩;refine⟨I.pos,I.size,I.start,I.elder,λi g e f=>rn c (I.work i g e f) ⟨az _,λ_ _=>rfl,λh j k l=>?_,gA a⟩,I.above,a,I.cls,I.ctl,I.gi⟩;have b:(v.at d).heap[C.tb]?=some (.cells h C.tt):=k;rw[b]at l;simp_all
def Ou(I:p.Inv t0 s gs v t)(c:s.sp=.aq true):∀i,i<C.n->s.ph i=.leave:=by
 intro i b;have d:s.G2=.over:=by have:=I.ctl.s2;simp_all;exact this
 have f:C.a2 s=0:=by have:=I.ctl.z2;simp_all;exact this
 have g:(s.ph i).cY=false:=xj.1 f i b;have a:=I.ctl.g2 i b;rw[d]at a;have h:s.ph i≠.la2:=λe=>by have:=a.1.1 e;cases this
 have j:s.ph i≠.lb2:=λe=>by have:=a.2.1.1 e;cases this
 have k:s.ph i≠.lc2:=λe=>by have:=a.2.2.1 e;cases this
 revert g h j k;cases s.ph i<;>decide
def OD(hp:p.Ok)(hS:∀c,C.SB c->c<C.B0)(h0:t0.HandedOver)(I:p.Inv t0 s gs v t){g sl}(hg:gs[0]?=some g)(Z:s.sp=.aq true)(hA:p.AQ 4 g)(hd:Deaf t 0=0):∃ab ad g',runT C.P (crowd gs v sl) 0=(.next (crowd ab v sl),ad)/\p.End ab v (t++ad) s g':=by
 obtain⟨_,g6,Q,bd,_,ap⟩:=hp.aq _ _ hA;have ae:=Q v (gA I.hp);have bc:=I.pos;have ar:0<gs.size:=(bz.1 hg).1;have A:s.sp.aU C.n=C.n:=by rw[Z];rfl
 have au:gs.size=C.N0+C.n:=by rw[<-A];exact I.size
 have D:=runT_crowd_go (P:=C.P) (sl:=sl) (i:=0) hg (show stepG C.P (0==0) g v=_ from ae);have R:=Ou I Z;let acq:MemOp:={g:=0,fn:=g.frame.fn,pos:=g.frame.place,act:=.mark (.acquire (C.ca 4))};have L:MemOp.ofEvents 0 g.frame.fn g.frame.place #[⟨.mark (.acquire (C.ca 4)),false,true⟩]=#[acq]:=by simp[MemOp.ofEvents,MemAct.ofEvent,acq]
 rw[L]at D;have av:∀e∈(#[⟨.mark (.acquire (C.ca 4)),false,true⟩]:Array aT),Ev0 C s v.heap.size e:=by intro e he;simp at he;subst he;exact⟨λa M=>(by cases M),cV I.hp.rb,by simp[MemAct.ofEvent]⟩
 have f:C.fY s t0 (t++#[acq]) v.heap.size:=by rw[<-L];exact wj hS I av (az _) I.cls rfl (λ_ _ h=>h) (λ_ _ h=>h) _ _
 have hD:∀j,Deaf (t++#[acq]) j=Deaf t j:=λj=>up λd b=>by simp at b;subst b;exact⟨by simp[acq],by simp[acq]⟩
 have hq:(t++#[acq])[t.size]?=some acq:=a9i
 have S:(t++#[acq]).act? t.size=some (.mark (.acquire (C.ca 4))):=by rw[Trace.act?,hq];rfl
 have E:(t++#[acq]).g? t.size=some 0:=by rw[Trace.g?,hq];rfl
 have T:(t++#[acq]).heard t.size:=⟨0,E,by rw[deaf_old (az _)];exact hd⟩;have bl:(t++#[acq]).size=t.size+1:=a9i
 have hrel:∀i,i<C.n->∃x,ConcN.RelBy (C.ca 4) (t++#[acq]) (C.N0+i) x/\x<t.size/\∀k d a,x<k->(t++#[acq])[k]?=some d->d.g=C.N0+i->d.act.touch?=some a->C.oH a.loc:=by
  intro i r;obtain⟨x,o,H⟩:=f.rel i r (by rw[R i r];rfl);refine⟨x,o,?_,H⟩;have h3:=lt_of_act? o.act;have h4:x≠t.size:=λe=>by have:=o.g;rw[e,E]at this;simp at this;omega
  omega
 have N:∀k d,t0.size<=k->(t++#[acq])[k]?=some d->d.g≠0->d.act.touch?=none\/∃i,i<C.n/\d.g=C.N0+i:=by
  intro k d U b J;have o:=f.born k d U b;rw[A]at o;by_cases H:d.g<C.N0
  .exact .inl (f.elder k d U b a9h H)
  .exact .inr ⟨d.g - C.N0,a9h,a9h⟩
 have V:∀i x,i<C.n->ConcN.RelBy (C.ca 4) (t++#[acq]) (C.N0+i) x->x<t.size->∀k,k<=x->(t++#[acq]).g? k=some (C.N0+i)->HappensBefore (t++#[acq]) k t.size:=by
  intro i x r o H k U hg;have O:HappensBefore (t++#[acq]) x t.size:=.single (.inr ⟨.marked H (.inr o.act) S (λk _ _=>f.norel k),o.heard,T⟩);obtain h3|h3:=b1m k x
  .exact .trans (.single (.inl ⟨h3,_,hg,o.g⟩)) O
  .obtain rfl:k=x:=a9h
   exact O
 have W:(t++#[acq]).HandedOver:=by
  obtain⟨w,hw⟩:=f.pre;rw[hw]at S E T⊢;refine a4P h0 (λk gk U F J hc=>?_) (by rw[<-hw];exact f.norel) S E T;rw[<-hw]at F hc⊢;obtain⟨d,b,rfl⟩:=gn.1 F;obtain h|⟨i,r,K⟩:=N k d U b J
  .obtain⟨a,M,_⟩:=hc;obtain⟨z,hz,ao⟩:=touch_of M;rw[b]at hz;cases hz;rw[h]at ao;cases ao
  .obtain⟨x,o,H,_⟩:=hrel i r;exact⟨x,by rw[K];exact o,H⟩
 have X:Past (λl=>cn C.SB l\/C.oH l) v.heap.size (t++#[acq]):=by
  refine gI.ai f.tF (.inl rfl) (λl hl=>.inl hl) (λk d a U b M hm J=>?_) W (by rw[hD];exact hd) f.low
  .rcases N k d U b J with h|⟨i,r,K⟩
   .rw[h]at M;cases M
   .obtain⟨x,o,H,h3⟩:=hrel i r;have F:(t++#[acq]).g? k=some (C.N0+i):=by rw[Trace.g?,b];simp[K]
    by_cases aP:k<=x
    .exact .inr (Wp E (V i x r o H k aP F))
    .refine .inl ⟨?_,.inr (h3 k d a a9h b K M)⟩;apply eQ;intro ba;exact o.after k a9h F ⟨a,by rw[Trace.act?,b];simpa using M,hm,.inl ba⟩
 have Y:Leavers C.P (t++#[acq]) ((gs.map (woken C.P g g6 v)).setIfInBounds 0 g6) s.q:=by
  refine⟨λj x hj hx=>?_,λj hj=>?_⟩
  .rw[dw a9h,ip]at hx;obtain⟨y,hy,rfl⟩:=gn.1 hx;have hQ:QuitsD C.P (s.q j) (Deaf t j) y:=by
    obtain⟨h,_⟩|⟨_,_,hQ⟩|⟨i,rfl,r,bb,hW⟩:=ws I hy
    .omega
    .exact hQ
    .rw[R i bb]at hW;exact hW.2
   rw[woken_quitsD hQ,hD];exact hQ
  .rw[hD];exact I.above j (by simpa using hj)
 refine⟨_,_,g6,D,⟨by simp[ar],ap rfl,by simpa using au,Y,X,I.hp,I.cls,λi r=>?_⟩⟩;obtain⟨z,hz⟩:∃z,gs[C.N0+i]?=some z:=⟨_,eY a9h⟩;have hW:=I.work i z (by rw[A];exact r) hz;rw[R i r]at hW;exact hW.1
def a3Z(j:p.Ok)(l:∀c,C.SB c->c<C.B0)(h0:t0.HandedOver)(I:p.Inv t0 s gs v t){g sl}(i:gs[0]?=some g)(z:g.status=.running):p.Goes t0 s gs v t 0 sl\/∃f h g',runT C.P (crowd gs v sl) 0=(.next (crowd f v sl),h)/\p.End f v (t++h) s g':=by
 obtain⟨H,r,n⟩:=I.start;rw[i]at r;cases r;have quiet:∀{g':aw},(∀b,s.sp≠.sb b)->C.Quiet true C.dS s.m0 (Deaf t 0) g s.sp.deaf g'->p.pt s s.sp g'->(Deaf t 0=s.sp.deaf->p.pt s s.sp g->p.Goes t0 s gs v t 0 sl\/∃f h g',runT C.P (crowd gs v sl) 0=(.next (crowd f v sl),h)/\p.End f v (t++h) s g')->
   p.Goes t0 s gs v t 0 sl\/∃f h g',runT C.P (crowd gs v sl) 0=(.next (crowd f v sl),h)/\p.End f v (t++h) s g':=by
  intro g' o w q A;obtain⟨_,J,rfl⟩|⟨D,K,L,E,x,F,y⟩:=JO w
  .simp_all
  .refine .inl (a3Y j l I i E (x v (gA I.hp)) F ?_);apply DI (s:={s with m0:=D}) (sp:=s.sp) rfl o y;revert q;cases s.sp<;>exact id
 unfold ci.fX at n;split at n
 .grind
 .rename_i o;obtain⟨g',w,q⟩:=n;refine quiet o w q λd e=>?_;cases a:s.sp with
  |mk k=>rw[a]at d e;exact .inl (X1 j l I i a e d)
  |go k=>rw[a]at d e;exact .inl (U2 j l I i a e d)
  |snd k=>rw[a]at d e;exact .inl (a3Q j l I i a e d)
  |lw b=>rw[a]at d e;exact .inl (Xu j l I i a e d)
  |ca b m=>
   rw[a]at d e;cases b with
   |false=>exact .inl (Pu j l I i a e d)
   |true=>exact .inl (Pv j l I i a e d)
  |sa b=>
   rw[a]at d e;cases b with
   |false=>exact .inl (a3a j l I i a e d)
   |true=>exact .inl (a3b j l I i a e d)
  |sb b=>simp_all
  |ld b=>
   rw[a]at d e;cases b with
   |false=>exact .inl (WR j l I i a e d)
   |true=>exact .inl (WS j l I i a e d)
  |aq b=>
   rw[a]at d e;cases b with
   |false=>exact .inl (OC j l I i a e d)
   |true=>exact .inr (OD j l h0 I i a e d)
  |cl=>rw[a]at d e;exact .inl (PW j l I i a e d)
def a3S(d:p.Ok)(I:p.Inv t0 s gs v t):(∀g∈gs,awake g)/\∃(i:Nat) (g:aw),gs[i]?=some g/\g.status=.running:=by
 have A:=I.pos;have f:∀g,p.fX s (Deaf t 0) g->(∃b,s.sp=.sb b)/\g.status=.blocked\/g.status=.running:=by
  intro g h;unfold ci.fX at h;split at h
  .grind
  .obtain⟨E,F,x⟩:=h;refine .inr (mP F ?_);revert x;cases H:s.sp with
   |mk k=>exact λh=>(d.vD _ _ h).1
   |go k=>exact λh=>(d.go _ _ _ h).1
   |snd k=>exact λh=>(d.sn _ _ _ h).1
   |lw b=>exact λh=>(d.lw _ _ h).1
   |ca b m=>exact λh=>(d.ca _ _ _ h).1
   |sa b=>exact λh=>(d.sa _ _ h).1
   |sb b=>simp_all
   |ld b=>exact λh=>(d.ld _ _ h).1
   |aq b=>exact λh=>(d.aq _ _ h).1
   |cl=>exact λh=>(d.cl _ h).1
 refine⟨λg J=>?_,?_⟩
 .obtain⟨j,K,rfl⟩:=fT.1 J;obtain⟨_,h⟩|⟨_,_,h⟩|⟨i,_,_,_,h⟩:=ws I (eY K)
  .rcases f _ h with⟨_,h⟩|h<;>(intro t e;rw[h]at e;cases e)
  .rcases h.status with h|h<;>(intro t e;rw[h]at e;cases e)
  .rcases pz d h with⟨_,E,h⟩|⟨_,h|⟨_,h⟩⟩
   .intro t e;rw[h]at e;cases e
   .intro t e;rw[h]at e;cases e
   .intro t e;rw[h]at e;cases e
 .obtain⟨L,M,y⟩:=I.start;obtain⟨⟨b,r⟩,_⟩|h:=f L y
  .
   have l:s.sp.aU C.n=C.n:=by rw[r];rfl
   have D:∀i,i<C.n->s.ph i≠.park1->s.ph i≠.park2->s.ph i≠.leave->∃(j:Nat) (g:aw),gs[j]?=some g/\g.status=.running:=by
    intro i c O P Q;obtain⟨z,o⟩:∃z,gs[C.N0+i]?=some z:=⟨_,eY (by rw[I.size,l];omega)⟩;have R:=I.work i z (by rw[l];exact c) o
    grind[pz]
   cases b with
   |false=>
    have w:=I.ctl.s1;rw[r]at w;obtain⟨q1,N,q3⟩:=w;cases a:s.G1 with
    |idle=>simp_all
    |over=>simp_all
    |rel=>simp_all
    |reg=>
     have o:=I.ctl.z1;rw[a]at o;let ⟨i,c,hbf⟩:=E5 o;refine D i c (λe=>?_) (λe=>?_) (λe=>?_)
     .have:=I.ctl.l9 i c e;rw[r]at this;have:C.n<=i:=this;omega
     .rw[e]at hbf;cases hbf
     .rw[e]at hbf;cases hbf
    |la i=>
     have c:=I.ctl.eI i (.inl a);have e:=((I.ctl.g1 i c).1).2 a
     grind
    |lb i=>
     have c:=I.ctl.eI i (.inr (.inl a));have e:=((I.ctl.g1 i c).2.1).2 a
     grind
    |lc i=>
     have c:=I.ctl.eI i (.inr (.inr a));have e:=((I.ctl.g1 i c).2.2).2 a
     grind
   |true=>
    have w:=I.ctl.s2;rw[r]at w;obtain⟨q1,N,q3⟩:=w;cases a:s.G2 with
    |idle=>simp_all
    |over=>simp_all
    |rel=>simp_all
    |reg=>
     have o:=I.ctl.z2;rw[a]at o;let ⟨i,c,hbf⟩:=E5 o;have q:=I.ctl.shut (by rw[r];rfl) i c;refine D i c (λe=>?_) (λe=>q.2 e) (λe=>?_)
     .rw[e]at q;exact absurd q.1 a9j
     .rw[e]at hbf;cases hbf
    |la i=>
     have c:=I.ctl.eJ i (.inl a);have e:=((I.ctl.g2 i c).1).2 a
     grind
    |lb i=>
     have c:=I.ctl.eJ i (.inr (.inl a));have e:=((I.ctl.g2 i c).2.1).2 a
     grind
    |lc i=>
     have c:=I.ctl.eJ i (.inr (.inr a));have e:=((I.ctl.g2 i c).2.2).2 a
     grind
  grind
def Qo(k:p.Ok)(y:∀c,C.SB c->c<C.B0)(h0:t0.HandedOver)(I:p.Inv t0 s gs v t)(sl):∃N a e l q,runNT C.P N (crowd gs v sl) t=(.next (crowd a e l),q)/\∃s' g',p.End a e q s' g':=by
 refine Qn (P:=C.P) (QG C) (Inv:=λs gs v t=>p.Inv t0 s gs v t) (Goal:=λgs v t=> ∃s' g',p.End gs v t s' g') (λm gs v t I=>a3S k I) (λm gs v t I j g d sl r f=>?_) s gs v t sl I;have w:=Wk k I d;have conv:p.Goes t0 m gs (v.at d) t j sl->∃a e b,runT C.P (crowd gs (v.at d) sl) j=(.next (crowd a e sl),b)/\((∃s' g',p.End a e (t++b) s' g')\/∃x,p.Inv t0 x a e (t++b)/\C.Down x m):=λ⟨a,e,b,s'',n,o,h3⟩=>⟨a,e,b,n,.inr ⟨s'',o,h3⟩⟩
 obtain⟨rfl,_⟩|⟨n,o,_⟩|⟨i,rfl,z,_,_⟩:=ws w r
 .rcases a3Z (sl:=sl) k y h0 w r f with h|⟨a,b,g',n,o⟩
  all_goals grind
 all_goals simp_all[SZ,a6v]
end
end Go.Mir
end
section
namespace Go.Mir
open Go Go.Conc
section
variable{T:Tables}{F F':Array Func}{E:bW->Prop}{Z:Nat->Prop}{K:Nat->Obj}{cs:List ah}{C:aI}
structure wN (C:aI) (X Z D:Nat->Prop) (ai:Nat->Nat) (O:Nat->Prop):Prop where
 old:∀b,D b->Z b->ai b<C.B0/\¬C.SB (ai b)
 own:∀b,D b->¬Z b->O (ai b)
 zd:∀b,Z b->D b
 off:∀b,D b->¬X (ai b)
 xo:∀c,X c->O c
def sO{G d a w' v'}(e:cU G d a w' v'){b c}(h:∀f,aQ d a f->c=f b):d b/\a b=c:=by
 by_cases g:d b
 .exact⟨g,((h _ (aL e 0)).trans (by simp[ag,g])).symm⟩
 .have i:=h _ (aL e 0);have j:=h _ (aL e 1);simp only[ag,g,if_false]at i j;omega
def a5c{u g w' v' O i}(H:C.B0<=C.r)(p:cU T.globals.size u g w' v'){X}(t:wN C X Z u g O)(J:∀c,O c->c≠C.r){e v}(D:j4 Z v)(w:∀f,aQ u g f->e=bK f v)(I:∀m,e.loc=.mark m->qC m=true):C.Ev i O v'.heap.size e:=by
 have hex:=w _ (aL p 0);obtain⟨y,wr,z⟩:=v;cases y with
 |cell a=>
  have j:=sO p (b:=a.block) (c:=match e.loc with| .cell a=>a.block|_=>0) (λf A=>by rw[w f A];rfl);rw[hex]at j⊢;simp only[bK,cH,aG]at j⊢;obtain⟨k,l⟩:=j;refine⟨λx d _=>?_,?_,a9i⟩
  .simp only[MemAct.ofEvent,MemAct.touch?,cK]at d;subst d;by_cases n:Z a.block
   .have B:wr=false:=by
     cases wr with
     |false=>rfl
     |true=>exact absurd n (D.1 a rfl rfl)
    refine .inr ⟨.inl ?_,B⟩;simp only;rw[<-l];exact t.old _ k n
   .refine .inl (.inl ?_);simp only;rw[<-l];exact t.own _ k n
  .have:=p.fQ _ k;rw[l]at this;exact this
 |obj r=>
  have j:=sO p (b:=r) (c:=match e.loc with| .obj a=>a|_=>0) (λf A=>by rw[w f A];rfl);rw[hex]at j⊢;simp only[bK,cH]at j⊢;obtain⟨k,l⟩:=j;have q:=p.fQ _ k;rw[l]at q;refine⟨λx d _=>?_,by cases wr<;>cases z<;>exact q,a9i⟩;by_cases n:Z r
  .have B:wr=false:=by
    cases wr with
    |false=>rfl
    |true=>exact absurd n (D.2 r rfl rfl)
   subst B;have s:=t.old _ k n;rw[l]at s;cases z<;>(simp only[MemAct.ofEvent,MemAct.touch?,cK]at d;subst d;exact .inr ⟨s,rfl⟩)
  .have s:=t.own _ k n;rw[l]at s;cases wr<;>cases z<;>simp only[MemAct.ofEvent,MemAct.touch?,cK,reduceCtorEq]at d
   all_goals(subst d;exact .inl s)
 |mark m=>
  have o:=I (ko _ m) (by rw[hex];rfl);rw[hex];simp only[bK,cH]at o⊢;generalize ko _ m=m' at o⊢;cases m' with
  |noRoom=>exact⟨λx d=>by simp[MemAct.ofEvent,MemAct.touch?]at d,trivial,a9i⟩
  |extern f=>exact⟨λx d=>by simp[MemAct.ofEvent,MemAct.touch?]at d,trivial,a9i⟩
  |_=>cases o
 |output=>rw[hex];refine⟨λx d h=>?_,trivial,by simp[bK,cH]⟩;simp only[bK,cH,MemAct.ofEvent,MemAct.touch?,cK]at d;subst d;cases h
 |goroutines=>rw[hex];refine⟨λx d h=>?_,trivial,by simp[bK,cH]⟩;simp only[bK,cH,MemAct.ofEvent,MemAct.touch?,cK]at d;subst d;cases h
def a5e(hP:C.P=⟨T,F'⟩)(W:C.B0<=C.r/\C.B0<=C.tb)(tw:Twin T F F' E)(Y:Twin T F F (λ_=>False))(cL:iv T F)(ab:∀q,E q->∃fn s,F[q]?=some fn/\fn.body=some (.refuse s)){Stop}(ba:∀fr gs w,Stop fr gs w->fr.mode=.returning){i A X}{Q:aa->Prop}(hQ:∀v o,Q v->(∀c,X c->o.heap[c]?=v.heap[c]?)->Q o){d}(J:∀fr gs w D ai v L p O,Stop fr gs w->de T Z K cs D ai w v fr gs L p->wN C X Z D ai O->C.Shape v->C.Own O v->Q v->C.fk i A O d (am L p) v){fr gs w}(ad:Fin ⟨T,F⟩ (ay ⟨T,F⟩) Stop fr gs w):∀D ai v L p O,de T Z K cs D ai w v fr gs L p->wN C X Z D ai O->C.Shape v->C.Own O v->Q v->C.fk i A O d (am L p) v:=by
 induction ad with
 |stop hs=>intro D ai v L p O R j hv y M;exact J _ _ _ _ _ _ _ _ _ hs R j hv y M
 | @step fr gs w nf ng nw ne h bb ih=>
  intro D ai v L p O R j hv y M;refine tM rfl λo l=>?_;have ae:∀b,D b->o.heap[ai b]?=v.heap[ai b]? :=λb k=>by
   by_cases n:Z b
   .have:=(j.old b k n).1;rw[l.shape.old _ this,hv.old _ this]
   .exact l.own _ (j.own b k n)
  have R':=R.frame l.size ae (congrArg Prod.fst (l.shape.os.trans hv.os.symm):);obtain⟨D',u,v1,bc,ao,z,hq,R2,f,B,N,a,ap,bd,H,bl,S⟩:=LY (main:=false) tw Y cL ab ba (h o.tape o.drawn) (bb o.tape o.drawn) R';have aq:wN C X Z D' u (a9s O o.heap.size v1.heap.size):=by
   refine⟨λb k n=>?_,λb k n=>?_,λb n=>(f b (j.zd b n)).1,λb k hx=>?_,λc t=>.inl (j.xo c t)⟩
   .have I:=j.zd b n;rw[(f b I).2];exact j.old b I n
   .rcases B b k with I|hn
    .rw[(f b I).2];exact .inl (j.own b I n)
    .obtain⟨x',_,R3⟩:=R2;exact .inr ⟨hn,R3.heap.fQ b k⟩
   .rcases B b k with I|hn
    .exact j.off b I (by rw[<-(f b I).2];exact hx)
    .have:=(y _ (j.xo _ hx)).2.2.2.2;have:=l.size;omega
  have U:C.r<o.heap.size/\C.tb<o.heap.size:=by obtain⟨_,_,_,_,h1⟩:=l.shape.rb;obtain⟨_,h2,_⟩:=l.shape.tb;exact⟨cV h1,cV h2⟩
  have ar:C.Own (a9s O o.heap.size v1.heap.size) v1:=by
   rintro c (t|⟨h1,h2⟩)
   .have:=y c t;refine⟨this.1,this.2.1,this.2.2.1,this.2.2.2.1,?_⟩;have:=l.size;have:=N;omega
   .have:=l.shape.dl;have:=W.1;exact⟨a9h,a9h,a9h,a9h,h2⟩
  have au:v1.heap[C.tb]?=o.heap[C.tb]? :=a _ U.2 λb k g=>by apply eQ;intro n;have:=y _ (g▸j.own b k n);exact this.2.2.1 rfl
  have bn:C.Shape v1:=by
   refine⟨?_,by rw[au];exact l.shape.tb,λc t=>?_,(jY ap H:oo _=oo _).trans l.shape.os,bL l.shape.dl N⟩
   .rw[a _ U.1 λb k g=>?_]
    .exact l.shape.rb
    .apply eQ;intro n;have:=y _ (g▸j.own b k n);exact this.2.1 rfl
   .rw[a c a9h λb k g=>?_]
    .exact l.shape.old c t
    .apply eQ;intro n;have:=(y _ (g▸j.own b k n)).1;omega
  refine⟨am ao z,v1,bc,by rw[hP];exact hq,⟨N,λc t av bo=>?_,?_,jY ap H,λe he=>?_⟩,?_⟩
  .refine a c t λb k g=>?_;apply eQ;intro n;exact av (g▸j.own b k n)
  .obtain⟨tc,h1,_⟩:=l.shape.tb;exact⟨tc,tc,h1,by rw[au];exact h1,rfl,λ_ _=>rfl⟩
  .obtain⟨e0,bp,V,aP⟩:=bl e he;obtain⟨x',_,R3⟩:=id R2;exact a5c W.1 R3.heap aq (λc t=>(ar c t).2.1) V aP (S e he)
  .rw[deafBehind_still λe he=>⟨λx=>(by have:=S e he _ x;cases this),λx=>(by have:=S e he _ x;cases this)⟩];refine ih o.tape o.drawn D' u v1 ao z _ R2 aq bn ar (hQ _ _ M λc t=>?_);have U:=(y _ (j.xo _ t)).2.2.2.2;rw[a c (by have:=l.size;omega) λb k g=>absurd (g▸t) (j.off b k)];exact l.own _ (j.xo c t)
end
end Go.Mir
end
