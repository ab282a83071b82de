import Derived.Conc.JoinTrace
import Derived.Orders
import Derived.Test.YtdnpeefnobjfaaaGreatDoorK11
set_option maxRecDepth 100000
set_option maxHeartbeats 4000000
set_option linter.all false
noncomputable section
section
namespace Go.Mir
open Go.Conc
open Go.ConcN (sumTo)
structure ub (T:Tables) (P:ay) (Z:Nat->Prop) (K:Nat->Obj) (S:List Nat) (Od:Old) (D:Nat->Prop) (aj:Nat->Nat) (w:aa) (fr:ah) (gs:Array aw) (v:aa) (t:aY) (q:Nat->Nat) (SB:Nat->Prop):Prop where
 rel:∃rf rd,gs[0]?=some (an rd [])/\DF S rf rd/\dS T Z K [] D aj w v fr [] rf []
 iV:Leavers P t gs q
 trace:Past (cK SB) v.heap.size t
 apart:∀b,D b->¬SB (aj b)
 low:∀c,SB c->c<v.heap.size
 keep:Od.Kept D aj SB v
def YB{P main fr c w w' g es}(b:fr.mode≠.run)(f:fr.defers=[])(d:fr.kind=.normal)(h:stepG P main (an fr [c]) w=.go g w' es):g.callers=[]:=by
 rw[j4 b]at h;unfold unwind at h;rw[f]at h;dsimp only at h;cases a:fr.mode with
 |run=>exact absurd a b
 |panicking m=>
  rw[a]at h;dsimp only at h;split at h
  .cases h
  .cases h;rfl
 |returning=>
  rw[a]at h;dsimp only at h;cases e:P.funcs[fr.fn]? with
  |none=>rw[e]at h;simp only[doReturn,d]at h;cases h;rfl
  |some i=>
   rw[e]at h;rcases j:(results i fr.tmps).runT P w #[]with⟨r,k⟩;simp only[j]at h;cases r with
   |ok v l=>simp only[doReturn,d,GStep.after]at h;cases h;rfl
   |halt q l=>cases q<;>(simp only[GStep.after]at h;cases h)
section
variable{T:Tables}{F F':Array Func}{E:bc->Prop}{Z:Nat->Prop}{K:Nat->Obj}{Od:Old}{S:List Nat}{Stop:ah->List ah->aa->Prop}{Post:af->aa->Prop}
def T6(
         tw:Twin T F F' E) (r:Twin T F F (λ_=>False)) (cT:ib T F) (bI:px ⟨T,F'⟩) (hE:∀q,iQ.contains q=true->¬E q) (o:∀fr fs w,Stop fr fs w->fs=[]/\fr.mode=.returning) (bN:∀cs Od Stop,(∀fr fs w,Stop fr fs w->fs=[]/\fr.mode=.returning/\fr.defers=[]/\fr.kind=.normal)->tS T F F' E Z K cs Od Stop) (aP:∀fr w D aj gs v t q SB sl,Stop fr [] w->ub T ⟨T,F'⟩ Z K S Od D aj w fr gs v t q SB->Ends ⟨T,F'⟩ Post (crowd gs v sl) t) {fr fs w} (hF:Fin ⟨T,F⟩ (aB ⟨T,F⟩) Stop fr fs w):∀fr2 w2,Reach ⟨T,F⟩ (aB ⟨T,F⟩) Stop fr fs w fr2 [] w2->∀D aj gs v t q SB sl,ub T ⟨T,F'⟩ Z K S Od D aj w2 fr2 gs v t q SB->Ends ⟨T,F'⟩ Post (crowd gs v sl) t:=by
 induction hF with
 |stop Y=>
  intro fr2 w2 hr;cases hr with
  |refl=>intro D aj gs v t q SB sl k;exact aP _ _ _ _ _ _ _ _ _ _ Y k
  |step τ d hn=>exact absurd Y hn
 | @step fr fs w nf ng nw ne h bO ih=>
  intro fr2 w2 hr;cases hr with
  |step τ d hn Y hr=>rw[h τ d]at Y;simp only[GStep.go.injEq]at Y;obtain⟨hg,rfl,rfl⟩:=Y;obtain⟨e1,e2⟩:=ej hg;have e2:=jA e2;subst e1 e2;exact ih τ d _ _ hr
  |refl=>
   have ba:∀(D:Nat->Prop) (aj:Nat->Nat) (gs:Array aw) (v:aa) (t:aY) (q:Nat->Nat) (SB:Nat->Prop) (sl l:Option (Nat×Nat)) (d:Nat),ub T ⟨T,F'⟩ Z K S Od D aj w fr gs v t q SB->stepT ⟨T,F'⟩ (crowd gs v sl)=runT ⟨T,F'⟩ (crowd gs (v.at d) l) 0->Ends ⟨T,F'⟩ Post (crowd gs v sl) t:=by
    intro D aj gs v t q SB sl l d k bb;obtain⟨rf,rd,h0,DR,R⟩:=k.rel;have R1:dS T Z K [] D aj w (v.at d) fr [] rf []:=R.ls w.tape w.drawn d;have A:0<gs.size:=(bW.1 h0).1;have B:∃f,rf=aR f fr:=by obtain⟨_,_,R0⟩:=R1;exact⟨_,(R0.aZ _ (aN R0.heap 0)).1⟩
    obtain⟨f0,B⟩:=B;have hd:fr.defers=[]:=by have:=DR.own.1;rw[B]at this;exact List.map_eq_nil_iff.1 this
    have bP:fr.roundOf=none:=by have:=DR.round;rw[B]at this;exact Option.map_eq_none_iff.1 this
    have hk:fr.kind=.normal:=by have:=DR.own.2;rw[B]at this;exact this
    have hm:fr.mode=.run:=fx λhm=>by have:=YB hm hd hk (h v.tape d);simp[an]at this
    obtain⟨D',n,v',c7,f2,c2,x,x',hq,ar,hG,hh,hc⟩:=T7 (main:=true) (v:=v.at d) tw r cT bI hE R1 DR hm bP (h v.tape d);have au:=runT_crowd_go (P:=⟨T,F'⟩) (sl:=l) (i:=0) h0 (show stepG ⟨T,F'⟩ (0==0) (an rd []) (v.at d)=_ from hq);have av:=nd hG k.apart k.low;have ab:v.heap.size<=v'.heap.size:=hG.size;have hP:=(k.trace.mono ab).own (fn:=(an rd []).frame.fn) (pos:=(an rd []).frame.place) (nx hh hG av);have ao:∀c,SB c->c<v'.heap.size:=λc hc=>cG (k.low c hc) ab;have p:=Old.Kept.gone (v:=v.at d) k.keep hG k.apart k.low;have C:((gs.map (woken ⟨T,F'⟩ (an rd []) (an f2 c2) v')).setIfInBounds 0 (an f2 c2))[0]?=some (an f2 c2):=by simp[A]
    refine Ends.one (bb.trans au) ?_;have ad:=ih v.tape d;have bd:=bO v.tape d;obtain⟨e1,rfl,bR,s,d2⟩|⟨fr2,bS,I,qf,c8,e3,e4,e5,bT,e1,rfl,d2,s⟩:=hc
    .rw[e1]at ad;exact ad _ _ .refl D' n _ v' _ q SB l ⟨⟨bR,f2,C,d2,x',ar,s⟩,lf k.iV A,hP,av,ao,p⟩
    .rw[e1]at ad bd;have aq:=(s.aZ _ (aN s.heap 0)).2;simp only[cA,d7,a6W,f9,and_true]at aq;have bU:cJ T.globals.size fr2:=s.cF fr2 (by simp);have bl:fr2.mode=.run/\fr2.defers=[]:=⟨bT,by
      have h1:=d2.own.1;rw[aq]at h1;exact List.map_eq_nil_iff.1 h1⟩
     have bX:=QZ (law:=fr2) (f:=qf) (Z:=λa b c=>Reach ⟨T,F⟩ (aB ⟨T,F⟩) Stop (nf v.tape d) [fr2] (nw v.tape d) a b c) r o bl.1 bl.2 (λ_ _ _ _ _ _ _ τ d hz b0 Y=>hz.trans (.step τ d b0 Y .refl)) bd [] rfl .refl s.ok (λx hx=>by cases hx) (pA ar s.all) (λb hb=>by
      simp only[a7K,cw]at hb;subst hb;exact⟨e3,e4,e5⟩)
     refine a0i (cs:=[I]) (Od:=⟨n,D',Od.J,Od.H,Od.w⟩) (Post:=Post) tw r cT (bN _ _ _ λa b c hh=>⟨hh.1,hh.2.1,hh.2.2.1,hh.2.2.2.1⟩) ?_ bX _ _ _ .refl D' n _ v' _ q SB l ⟨⟨f2,[I],C,x',ar,s.heap,s.os,s.low,s.all,s.ok,λx hx=>(by cases hx),λf hf=>⟨(s.aZ f hf).1,rfl⟩⟩,lf k.iV A,hP,av,ao,⟨λb hb=>⟨hb,rfl⟩,p.2⟩⟩;intro b1 c9 w3 D3 L b2 z t3 q3 ae b3 b4 m;obtain⟨rfl,g2,g3,g4,b5,b6⟩:=b4;obtain⟨O,bn,b7,x3,bo,R3⟩:=m.rel;have ag:=R3.aZ _ (aN R3.heap 0);have bp:bn=[I]:=by simpa using ag.2
     subst bp;have k2:O.mode=.returning:=by rw[ag.1];simp[aR,g2,eB]
     have k3:O.defers=[]:=by rw[ag.1];simp[aR,g3]
     have k4:O.kind=.normal:=by rw[ag.1];exact g4
     have b8:∀f,aQ D3 L f->aQ D' n f:=λf hf=>⟨λb hb=>by rw[hf.on b (m.keep.1 b hb).1];exact(m.keep.1 b hb).2,hf.inj⟩
     have RL:dS T Z K [] D3 L w3 z b1 [fr2] O [bS]:=⟨x3,bo,R3.heap,R3.os,R3.low,R3.all,R3.ok,λy hy=>(by simp only[ft]at hy;rw[hy];exact bU),λf hf=>⟨(R3.aZ f hf).1,by
      have e6:=(s.aZ f (b8 f hf)).2;simpa using e6⟩⟩
     cases b5 with
     |stop Y=>have:=(o _ _ _ Y).1;cases this
     |step b9 br ca dc h3 c3=>
      obtain⟨N,cb,cc,t4,q4,c4,g,v4,bs,cd,c5,bw,ce,cf,ch,ck,D4,j,u,cl,bx,U,co,x4,V,R4,cp,bA⟩:=qk (P:=⟨T,F'⟩) (SB:=ae) (g:=an O [I]) (v:=z) (d:=0) rfl
       (Q:=λc g v4 es=>deafBehind 0 es=0/\∃D4 j,(∀b,D4 b->¬ae (j b))/\z.heap.size<=v4.heap.size/\Old.Kept ⟨n,D',Od.J,Od.H,Od.w⟩ D4 j ae v4/\∃U y x4,bK Z K x4 (ca z.tape c)/\Rel T [] D4 j x4 v4 (b9 z.tape c) [] U []/\g=an y []/\DF S U y/\br z.tape c=[])
       (λc=>by
        have R5:=RL.ls w3.tape w3.drawn c;obtain⟨D4,j,v4,bs,rg,x,x',cr,V,W,_,cu,cv⟩:=rY (main:=true) (v:=z.at c) tw r cT (h3 z.tape c) R5;obtain⟨y,bB,cx⟩:=Zo (c':=I) k2 k3 k4 cr;have u:=nd W m.apart m.low;have al:=nx cu W u;have cy:=Old.Kept.gone (v:=z.at c) m.keep W m.apart m.low;refine⟨_,v4,bs,cx [],W.size,λe he=>⟨(al e he).1,(al e he).2.2.2⟩,deafBehind_still (λe he=>⟨(al e he).2.1,(al e he).2.2.1⟩) 0,D4,j,u,W.size,cy,?_⟩;obtain⟨U,c6,e4,R6⟩|⟨_,_,_,_,_,_,_,_,_,_,_,e4,_,_⟩:=cv
        .rw[bB]at e4;obtain⟨e5,e6⟩:=ej e4;subst e5 e6;have e7:=(R6.aZ _ (aN R6.heap 0)).2;have e8:br z.tape c=[]:=by simpa using e7.symm
         rw[e8]at R6;exact⟨_,_,x',V,R6,rfl,d2.fin y,e8⟩
        .rw[bB]at e4;have:=(ej e4).2;cases this) b2 t3 q3 b3 z.drawn b7 m.iV (dO.of m.trace) m.trace.hears
      rw[cp]at bw;have X:=h3 z.tape c4;rw[bA.2]at X;refine Ends.many cd (ad _ _ (b6.trans (.step z.tape c4 (λq=>(by have:=(o _ _ _ q).1;cases this)) X .refl)) D4 j cb v4 t4 q4 ae cc ⟨⟨U,co,bw,bA.1,x4,V,R4⟩,ce,cf.aj (ch.trans ck),u,λc hc=>cG (m.low c hc) cl,⟨λb hb=>?_,bx.2⟩⟩);have h1:=p.1 b hb;have h2:=bx.1 b h1.1;exact⟨h2.1,h2.2.trans h1.2⟩
   have main:∀(M:Nat) (D:Nat->Prop) (aj:Nat->Nat) (gs:Array aw) (v:aa) (t:aY) (q:Nat->Nat) (SB:Nat->Prop) (sl:Option (Nat×Nat)),sumTo gs.size q<=M->ub T ⟨T,F'⟩ Z K S Od D aj w fr gs v t q SB->Ends ⟨T,F'⟩ Post (crowd gs v sl) t:=by
    intro M;induction M with
    |zero=>
     intro D aj gs v t q SB sl hM k;obtain⟨rf,rd,h0,_,_⟩:=k.rel;obtain⟨d,l,o⟩|⟨d,l,bC,q',bF,o,ab,C,bG,cN,_,_⟩:=lQ (P:=⟨T,F'⟩) (v:=v) (sl:=sl) k.iV h0 rfl
     .exact ba D aj gs v t q SB sl l d k o
     .omega
    |succ M cS=>
     intro D aj gs v t q SB sl hM k;obtain⟨rf,rd,h0,DR,R⟩:=k.rel;obtain⟨d,l,o⟩|⟨d,l,bC,q',bF,o,ab,C,bG,cN,_,c0⟩:=lQ (P:=⟨T,F'⟩) (v:=v) (sl:=sl) k.iV h0 rfl
     .exact ba D aj gs v t q SB sl l d k o
     .exact Ends.one o (cS D aj bC (v.at d) (t++bF) q' SB l (by omega) ⟨⟨rf,rd,C,DR,R.ls w.tape w.drawn d⟩,bG,c0 k.trace,k.apart,k.low,k.keep⟩)
   intro D aj gs v t q SB sl k;exact main _ D aj gs v t q SB sl (aF _) k
end
end Go.Mir
end
section
namespace Go.Mir
open Go Go.Conc Go.ConcN
def jG(P:ay)(Sh:Loc->Prop)(g:aw)(v:aa)(d:Nat)(Q:aw->aa->Nat->Prop):Prop:=
 ∀(f:Array aw) (t:aY) (q:Nat->Nat) (l:Option (Nat×Nat)) (c:Nat),f[0]?=some g->Leavers P t f q->dO Sh v.heap.size t->Deaf t 0=d->
  ∃N b h e m j i k,runNT P N (crowd f (v.at c) l) t=(.next (crowd b i h),e)/\b.size=f.size/\b[0]?=some j/\Leavers P e b m/\dO Sh i.heap.size e/\Deaf e 0=k/\(∀a,NoRelease a t->NoRelease a e)/\Q j i k
abbrev iv(P SB):=jG P (cK SB)
def EvQ(b:Loc->Prop)(B:Nat)(e:aJ):Prop:=EvM b B e/\∀a,MemAct.ofEvent e≠.mark (.release a)
def AM{a t u}(h:NoRelease a t)(j:∀e∈u,e.act≠.mark (.release a)):NoRelease a (t++u):=by
 intro i k;obtain⟨e,l,f⟩:=fA.1 k;obtain⟨_,b⟩|⟨_,c⟩:=getElem?_append_cases l
 .exact h i (by rw[Trace.act?,b];simp[f])
 .exact j e c f
section
variable{P:ay}{Sh:Loc->Prop}{g g1:aw}{v v1:aa}{d d1:Nat}{Q R:aw->aa->Nat->Prop}
theorem o9:∀{N M} {m b} {t c} {r},runNT P N m t=(.next b,c)->runNT P M b c=r->runNT P (N+M) m t=r
 |0,M,m,b,t,c,r,a,e=>by simp only[runNT,gQ,Stepped.next.injEq]at a;rw[dG,a.1,a.2];exact e
 |N+1,M,m,b,t,c,r,a,e=>by
  rw[a6G];simp only[runNT]at a⊢;rcases f:stepT P m with⟨x,h⟩;rw[f]at a;cases x with
  |next i=>exact o9 a e
  |ended o w=>simp at a
def sr(h:∀c,Q g (v.at c) d):jG P Sh g v d Q:=λa t q b c h0 e f i=>⟨0,a,b,t,q,g,v.at c,d,rfl,rfl,h0,e,f,i,λ_ h=>h,h c⟩
def RP(h:jG P Sh g v d R)(k:∀g1 v1 d1,R g1 v1 d1->jG P Sh g1 v1 d1 Q):jG P Sh g v d Q:=by intro z t q A c h0 B C D;obtain⟨N,b,e,E,q1,g1,v1,d1,F,H,f,i,j,l,m,I⟩:=h z t q A c h0 B C D;obtain⟨M,n,o,J,K,L,O,S,p,r,s,u,w,x,y,T⟩:=k g1 v1 d1 I b E q1 e v1.drawn f i j l;exact⟨N+M,n,o,J,K,L,O,S,o9 F p,r.trans H,s,u,w,x,λa h=>y a (m a h),T⟩
def X8{g}{v:aa}{d}(U:g.status=.running){Q:Nat->aw->aa->Array aJ->Prop}(V:∀c,∃g1 v1 es,stepG P true g (v.at c)=.go g1 v1 es/\v.heap.size<=v1.heap.size/\(∀e∈es,EvQ Sh v1.heap.size e)/\Q c g1 v1 es):∀gs t q sl c,gs[0]?=some g->Leavers P t gs q->dO Sh v.heap.size t->Deaf t 0=d->∃N f j n w x g1 v1 es,runNT P N (crowd gs (v.at c) sl) t=(.next (crowd f v1 j),n)/\f.size=gs.size/\f[0]?=some g1/\Leavers P n f w/\dO Sh v1.heap.size n/\Deaf n 0=deafBehind d es/\(∀a,NoRelease a t->NoRelease a n)/\Q x g1 v1 es:=by
 have y:∀(M:Nat) (gs:Array aw) (t:aY) (q:Nat->Nat) (sl:Option (Nat×Nat)) (c:Nat),sumTo gs.size q<=M->gs[0]?=some g->Leavers P t gs q->dO Sh v.heap.size t->Deaf t 0=d->
   ∃N f j n w x g1 v1 es,runNT P N (crowd gs (v.at c) sl) t=(.next (crowd f v1 j),n)/\f.size=gs.size/\f[0]?=some g1/\Leavers P n f w/\dO Sh v1.heap.size n/\Deaf n 0=deafBehind d es/\(∀a,NoRelease a t->NoRelease a n)/\Q x g1 v1 es:=by
  intro M;induction M with
  |zero=>
   intro gs t q sl c W h0 z F H;obtain⟨e,j,o⟩|⟨e,j,f,w,r,o,A,B,C,I,_,_⟩:=lQ (P:=P) (v:=v.at c) (sl:=sl) z h0 U
   .have k:0<gs.size:=(bW.1 h0).1;obtain⟨g1,v1,es,s,J,D,K⟩:=V e;have m:=runT_crowd_go (P:=P) (sl:=j) (i:=0) h0 (show stepG P (0==0) g (v.at e)=_ from s);exact⟨1,_,j,_,q,e,g1,v1,es,by simp only[runNT,o];rw[show((v.at c).at e)=v.at e from rfl,m],by simp,by simp[k],lf z k,(F.mono J).own λe h=>(D e h).1,by rw[Deaf_own,H],λa E=>AM E λp b=>(by obtain⟨e,u,rfl⟩:=Go.Conc.mem_ofEvents b;exact(D e u).2 a),K⟩
   .omega
  |succ M L=>
   intro gs t q sl c W h0 z F H;obtain⟨e,j,o⟩|⟨e,j,f,w,r,o,A,B,C,I,⟨i,hi,l⟩,_⟩:=lQ (P:=P) (v:=v.at c) (sl:=sl) z h0 U
   .have k:0<gs.size:=(bW.1 h0).1;obtain⟨g1,v1,es,s,J,D,K⟩:=V e;have m:=runT_crowd_go (P:=P) (sl:=j) (i:=0) h0 (show stepG P (0==0) g (v.at e)=_ from s);exact⟨1,_,j,_,q,e,g1,v1,es,by simp only[runNT,o];rw[show((v.at c).at e)=v.at e from rfl,m],by simp,by simp[k],lf z k,(F.mono J).own λe h=>(D e h).1,by rw[Deaf_own,H],λa E=>AM E λp b=>(by obtain⟨e,u,rfl⟩:=Go.Conc.mem_ofEvents b;exact(D e u).2 a),K⟩
   .obtain⟨N,O,S,n,X,x,g1,v1,es,Y,Z,h2,h3,h4,h5,T,h6⟩:=L f (t++r) w j e (by omega) B C (F.mute (λp b=>(l p b).1) (λp b=>(l p b).2.1) (λp b=>(l p b).2.2 _)) (by rw[Deaf_other t (g':=i) (by omega) r (λp b=>(l p b).1)];exact H);exact⟨N+1,O,S,n,X,x,g1,v1,es,by simp only[runNT,o];exact Y,Z.trans A,h2,h3,h4,h5,λa E=>T a (AM E λp b e=>(by have:=(l p b).2.2 0;rw[e]at this;exact absurd this (a6u _))),h6⟩
 exact λgs t q sl c=>y _ gs t q sl c (aF _)
def eZ(w:g.status=.running)(x:∀c,∃g1 v1 b,stepG P true g (v.at c)=.go g1 v1 b/\v.heap.size<=v1.heap.size/\(∀e∈b,EvQ Sh v1.heap.size e)/\jG P Sh g1 v1 (deafBehind d b) Q):jG P Sh g v d Q:=by intro y t q z c h0 A B C;obtain⟨N,f,i,D,E,Y,g1,v1,b,F,H,I,J,K,L,j,O⟩:=X8 (Q:=λ_ g1 v1 b=>jG P Sh g1 v1 (deafBehind d b) Q) w x y t q z c h0 A B C;obtain⟨M,k,l,S,T,U,V,W,m,n,o,p,r,s,u,X⟩:=O f D E i v1.drawn I J K L;exact⟨N+M,k,l,S,T,U,V,W,o9 F m,n.trans H,o,p,r,s,λa h=>u a (j a h),X⟩
def gV{n}(h:aS P true n g g1)(k:∀c,jG P Sh g1 (v.at c) d Q):jG P Sh g v d Q:=by
 induction h generalizing v with
 |nil=>exact k v.drawn
 |cons a b _ e=>exact eZ a λc=>⟨_,_,#[],b _,aF _,by simp,e λc=>k c⟩
end
def Hk{S b B t}(h:Past S B t)(c:∀l,S l->b l):Past b B t:=⟨h.clean,λi a e f=>(h.known i a e f).imp id λx=>⟨c _ x.1,x.2⟩,h.over,h.hears,h.seen⟩
end Go.Mir
end
section
namespace Go.Mir
open Go
section
variable{f g:Nat->Nat}
def Hw(x):jt f (jt g x)=jt (λb=>f (g b)) x:=by cases x<;>rfl
def qd{α:Type}{a:Array α}{p q r:α->α}(h:∀x∈a,p (q x)=r x):(a.map q).map p=a.map r:=by rw[a6P];exact lE h
theorem oX:∀v,ak f (ak g v)=ak (λb=>f (g b)) v
 | .pointer a=>by cases a<;>simp[aH]
 | .slice a _ _=>by cases a<;>simp[aH]
 | .map r=>by cases r<;>simp
 | .chan r=>by cases r<;>simp
 | .func e a b=>by rw[bz,bz,bz,Hw,qd λx c=>oX x,qd λx c=>oX x]
 | .iface t v=>by rw[bm,bm,bm,oX v]
 | .agg d=>by rw[bk,bk,bk,qd λx c=>oX x]
 | .tuple d=>by rw[bE,bE,bE,qd λx c=>oX x]
 | .bool _=>by simp
 | .int _ _=>by simp
 | .float _ _=>by simp
 | .complex _ _ _=>by simp
 | .string _=>by simp
 | .nilFunc=>by simp
 | .nilIface=>by simp
termination_by v=>SizeOf.sizeOf v
def qq(a:Array af):(a.map (ak g)).map (ak f)=a.map (ak λb=>f (g b)):=qd λx _=>oX x
def Zk(t):iI f (iI g t)=iI (λb=>f (g b)) t:=by
 cases t<;>first|rfl|skip
 simp only[iI,Hw,qq]
def Hv(d):dJ f (dJ g d)=dJ (λb=>f (g b)) d:=by simp only[dJ,Zk,qq]
def Zh(e):oV f (oV g e)=oV (λb=>f (g b)) e:=by simp only[oV,oX]
def Zg(l):nJ f (nJ g l)=nJ (λb=>f (g b)) l:=by simp only[nJ,qq]
def Zj(o):ct f (ct g o)=ct (λb=>f (g b)) o:=by
 cases o with
 |cells c e z=>simp only[ct,qq]
 |pending c e=>simp only[ct,qq]
 |view a t=>rfl
 |number a l=>rfl
 |map i c=>simp only[ct];rw[qd λx _=>Zh x]
 |chan a b c d e t=>simp only[ct,qq]
 |stringIter s p=>rfl
 |mapIter m a b c=>cases m<;>rfl
 |loop l=>simp only[ct,Zg]
 |deferred h=>
  cases h with
  |none=>rfl
  |some j=>simp[ct,Hv]
 |coro p=>rfl
 |finalizers k r=>simp[ct,Hv]
end
def XM{f}(t):fG (iI f t)=fG t:=by cases t<;>rfl
def XL{G f o}(h:eM G o):eM G (ct f o):=by
 cases o with
 |loop l=>exact h
 |deferred c=>
  cases c with
  |none=>trivial
  |some a=>have h:∀d∈a,fG d.target=true:=h;show∀d∈a.map (dJ f),fG d.target=true;intro d e;obtain⟨b,h0,rfl⟩:=eS.1 e;show fG (iI f b.target)=true;rw[XM];exact h b h0
 |_=>trivial
def a2l{f o}(h:thin o):thin (ct f o):=by cases o<;>exact h
structure iw (G:Nat) (S:Nat->Prop) (v:aa):Prop where
 aZ:∀f:Nat->Nat,(∀a b,f a=f b->a=b)->(∀c,S c->f c=c)->∀c o,S c->v.heap[c]?=some o->ct f o=o
 ok:∀c o,S c->v.heap[c]?=some o->eM G o/\thin o
 lt:∀c,S c->c<v.heap.size
section
variable{G:Nat}{S:Nat->Prop}{v v':aa}{D:Nat->Prop}{aj:Nat->Nat}{w:aa}
def Ib(h:dh G D aj w v)(k:∀b o,D b->w.heap[b]?=some o->thin o):iw G (λc=> ∃b,D b/\aj b=c) v:=by
 have j:=aN h 0;generalize (λb=> @ite _ (D b) (Classical.propDecidable _) (aj b) (v.heap.size+0+b))=g at j;have i:∀b o,D b->v.heap[aj b]?=some o->∃o0,w.heap[b]?=some o0/\o=ct g o0:=λb o d e=>by rw[h.obj g j b d]at e;obtain⟨o0,h0,rfl⟩:=fA.1 e;exact⟨o0,h0,rfl⟩
 refine⟨λf m n c o ⟨b,d,hc⟩ e=>?_,λc o ⟨b,d,hc⟩ e=>?_,λc ⟨b,d,hc⟩=>by rw[<-hc];exact h.fO b d⟩
 .subst hc;obtain⟨o0,h0,rfl⟩:=i b o d e;have p:aQ D aj λb=>f (g b):=⟨λb d=>by rw[j.on b d];exact n _ ⟨b,d,rfl⟩,λa b l=>j.inj a b (m _ _ l)⟩;have:=h.obj _ p b d;rw[e,h0]at this;simp only[Option.map_some,cw]at this;rw[Zj];exact this.symm
 .subst hc;obtain⟨o0,h0,rfl⟩:=i b o d e;exact⟨XL (h.ok b o0 d h0),a2l (k b o0 d h0)⟩
def iw.keep(h:iw G S v)(b:∀c,S c->v'.heap[c]?=v.heap[c]?):iw G S v':=by
 refine⟨λf e i c o a d=>h.aZ f e i c o a (by rw[<-b c a];exact d),λc o a d=>h.ok c o a (by rw[<-b c a];exact d),λc a=>?_⟩;have j:=h.lt c a;have k:v'.heap[c]?=some v.heap[c]:=by rw[b c a];exact eF j
 exact(bW.1 k).1
end
section
variable{g f:Nat->Nat}
def qe{a:Array af}{r s t:af->af}(h:a.map r=a.map s)(c:∀x∈a,r x=s x->t x=x):a.map t=a:=by refine iF λx b=>c x b ?_;obtain⟨i,d,rfl⟩:=fI.1 b;have:=congrArg (λz:Array af=>z[i]?) h;simpa[fp,eF d]using this
theorem oY(c:∀a b,g a=g b->a=b):∀v,ak (λb=>g (f b)) v=ak g v->ak f v=v
 | .pointer a,h=>by
  cases a with
  |none=>simp
  |some a=>simp only[bh,Option.map_some,Value.pointer.injEq,cw,aH,Addr.mk.injEq]at h⊢;obtain⟨b,o,s⟩:=a;simp only[Addr.mk.injEq,and_true];exact c _ _ h.1
 | .slice a _ _,h=>by
  cases a with
  |none=>simp
  |some a=>simp only[bg,Option.map_some,Value.slice.injEq,cw,aH,Addr.mk.injEq]at h⊢;obtain⟨b,o,s⟩:=a;simp only[Addr.mk.injEq,and_true];exact c _ _ h.1.1
 | .map r,h=>by
  cases r with
  |none=>simp
  |some r=>simp only[cg,Option.map_some,Value.map.injEq,cw]at h⊢;exact c _ _ h
 | .chan r,h=>by
  cases r with
  |none=>simp
  |some r=>simp only[bY,Option.map_some,Value.chan.injEq,cw]at h⊢;exact c _ _ h
 | .func e a b,h=>by simp only[bz,Value.func.injEq]at h⊢;refine⟨?_,qe h.2.1 λx d=>oY c x,qe h.2.2 λx d=>oY c x⟩;cases e<;>simp only[jt,Fn.yield.injEq]at h⊢;exact c _ _ h.1
 | .iface t v,h=>by simp only[bm,Value.iface.injEq,true_and]at h⊢;exact oY c v h
 | .agg i,h=>by simp only[bk,Value.agg.injEq]at h⊢;exact qe h λx d=>oY c x
 | .tuple i,h=>by simp only[bE,Value.tuple.injEq]at h⊢;exact qe h λx d=>oY c x
 | .bool _,_=>by simp
 | .int _ _,_=>by simp
 | .float _ _,_=>by simp
 | .complex _ _ _,_=>by simp
 | .string _,_=>by simp
 | .nilFunc,_=>by simp
 | .nilIface,_=>by simp
termination_by v=>SizeOf.sizeOf v
end
def nm:Obj->Obj
 | .cells c e _=>.cells c e (0,c.size)
 | .view a t=>.view a t
 | .number a l=>.number a l
 |_=>dead
open Classical in
def cZ(D:Nat->Prop)(y:aa):aa:={y with heap:=y.heap.mapIdx λb o=>if D b then o else .cells #[] 0}
open Classical in
def fL(D:Nat->Prop)(y:aa):aa:={y with heap:=y.heap.mapIdx λb o=>if D b then nm o else .cells #[] 0}
def Zc(D:Nat->Prop)(y:aa)(b:Nat):Prop:=D b/\b<y.heap.size
def Kc(y:aa)(b:Nat):Obj:=(y.heap[b]?).getD dead
section
variable{T:Tables}{F F':Array Func}{D:Nat->Prop}{aj:Nat->Nat}{y v:aa}
def gK{b}(h:D b):(cZ D y).heap[b]?=y.heap[b]? :=by simp only[cZ,a6v,h,if_true];cases y.heap[b]? <;>rfl
def us{b}(h:D b):(fL D y).heap[b]?=(y.heap[b]?).map nm:=by simp only[fL,a6v,h,if_true]
def sH{b}(h: ¬D b):(cZ D y).heap[b]?=(y.heap[b]?).map λ_=>.cells #[] 0:=by simp only[cZ,a6v,h,if_false]
def CN{b}(h: ¬D b):(fL D y).heap[b]?=(y.heap[b]?).map λ_=>.cells #[] 0:=by simp only[fL,a6v,h,if_false]
def Nn{G}(m:cO G y)(i:∀(b:Nat) o,y.heap[b]?=some o->thin o):bK (Zc D y) (Kc y) (cZ D y) (fL D y):=by
 refine⟨rfl,rfl,rfl,rfl,by simp[cZ,fL],λb k=>?_,λb k=>?_,λb o h=>?_⟩
 .by_cases a:D b
  .rw[gK a,us a];cases d:y.heap[b]? with
   |none=>rfl
   |some o=>exact absurd ⟨a,(bW.1 d).1⟩ k
  .rw[sH a,CN a]
 .obtain⟨a,l⟩:=k;obtain⟨o,d⟩:∃o,y.heap[b]?=some o:=⟨_,eF l⟩;have j:=i b o d;have n:Kc y b=o:=by simp[Kc,d]
  rw[gK a,us a,d,n];cases o<;>first|exact .inr (.inr ⟨trivial,rfl,rfl⟩)|exact .inr (.inl ⟨trivial,rfl,rfl⟩)|exact j.elim|skip
  rename_i c e z;have j:z=(0,0):=j;subst j;exact .inl ⟨c,e,rfl,rfl,rfl⟩
 .by_cases a:D b
  .rw[gK a]at h;exact i b o h
  .rw[sH a]at h;cases d:y.heap[b]? with
   |none=>rw[d]at h;cases h
   |some x=>rw[d]at h;cases h;rfl
def UT{G}(h:dh G D aj y v):dh G D aj (cZ D y) v:=by exact dh.mk (λb a=>by simpa[cZ]using h.lt b a) h.fO h.inj (λf d b a=>by rw[gK a];exact h.obj f d b a) λb o a c=>by rw[gK a]at c;exact h.ok b o a c
def FK{G}(h:cO G y):cO G (cZ D y):=by
 intro b o a;by_cases c:D b
 .rw[gK c]at a;exact h b o a
 .rw[sH c]at a;cases d:y.heap[b]? with
  |none=>rw[d]at a;cases a
  |some x=>rw[d]at a;cases a;trivial
def Q8{G}(h:dh G D aj y v){f}(k:aQ D id f){b}(e:D b){o}(l:y.heap[b]?=some o):ct f (nm o)=nm o:=by
 have d:=aN h 0;generalize (λb=> @ite _ (D b) (Classical.propDecidable _) (aj b) (v.heap.size+0+b))=g at d;have i:aQ D aj (λb=>g (f b)):=⟨λb e=>by rw[k.on b e];exact d.on b e,λa b j=>k.inj _ _ (d.inj _ _ j)⟩;have c:=h.obj _ i b e;rw[h.obj _ d b e,l]at c;simp only[Option.map_some,cw]at c;cases o<;>first|rfl|skip
 .simp only[ct,Obj.cells.injEq,and_true,nm]at c⊢;exact qe c.symm λx p=>oY d.inj x
 .rename_i a t;obtain⟨m,n,as⟩:=a;simp only[ct,Obj.view.injEq,aH,Addr.mk.injEq,and_true,nm]at c⊢;exact(d.inj _ _ c).symm
 .rename_i a t;obtain⟨m,n,as⟩:=a;simp only[ct,Obj.number.injEq,aH,Addr.mk.injEq,and_true,nm]at c⊢;exact(d.inj _ _ c).symm
def Q7{G}(h:dh G D aj y v){args rargs:Array af}(i:∀g,aQ D aj g->rargs=args.map (ak g)){f}(j:aQ D id f):args.map (ak f)=args:=by have c:=aN h 0;generalize (λb=> @ite _ (D b) (Classical.propDecidable _) (aj b) (v.heap.size+0+b))=g at c;have d:aQ D aj (λb=>g (f b)):=⟨λb k=>by rw[j.on b k];exact c.on b k,λa b e=>j.inj _ _ (c.inj _ _ e)⟩;have l:=i _ d;rw[i _ c]at l;exact qe l.symm λx m=>oY c.inj x
def No{G}(h:dh G D aj y v){args rargs}(i:∀g,aQ D aj g->rargs=args.map (ak g)):Shut (fL D y) args:=by
 intro g j k;have e:aQ D id g:=⟨λb l=>k b (by simpa[fL]using h.lt b l),j⟩;refine⟨Q7 h i e,λb o a=>?_⟩;by_cases d:D b
 .rw[us d]at a;cases c:y.heap[b]? with
  |none=>rw[c]at a;cases a
  |some x=>rw[c]at a;cases a;exact Q8 h e d c
 .rw[CN d]at a;cases c:y.heap[b]? with
  |none=>rw[c]at a;cases a
  |some x=>rw[c]at a;cases a;simp[ct]
def a3K(i:Twin T F F (λ_=>False))(n:T.inits.idxOf? F.size=none){q:bc}{fn:Func}{c:Code}{k:Tmp}(m:F[q]?=some fn)(p:F'[q]?=some fn)(r:fn.body=some c)(l:fn.results=#[.tmp k])(s:dh T.globals.size D aj y v)(t:v.os=y.os)(j:∀b,b<T.globals.size+1->D b/\aj b=b)(a:cO T.globals.size y)(u:∀(b:Nat) o,y.heap[b]?=some o->thin o){args rargs:Array af}(B:∀g,aQ D aj g->rargs=args.map (ak g)){Rr:af->aa->Prop}(z:∀x w τ d,Rr x (re w τ d)->Rr x w)(C:∀τ,Calls ⟨T,F⟩ q args (re (fL D y) τ 0) fun| .returned x,w'=>Rr x w'|_,_=>False)(cs:List ah):Fin ⟨T,F⟩ (aB ⟨T,F⟩) (py q k Rr) (Frame.enter ⟨T,F⟩ q args .normal) [] (fL D y)/\dS T (Zc D y) (Kc y) cs D aj (fL D y) v (Frame.enter ⟨T,F⟩ q args .normal) [] (Frame.enter ⟨T,F'⟩ q rargs .normal) cs:=by
 have hF:=Nn (D:=D) a u;have A:T.globals.size+1<=(fL D y).heap.size:=by
  have:=s.lt T.globals.size (j _ (kj _)).1;have e:(fL D y).heap.size=y.heap.size:=by simp[fL]
  omega
 refine⟨EM i n m r l A (No s B) (pA hF (FK a)) z C,cZ D y,hF,UT s,t,j,FK a,sP i m r args,λx E=>(by cases E),λg H=>⟨?_,rfl⟩⟩;have h:Frame.enter ⟨T,F'⟩ q rargs .normal=Frame.enter ⟨T,F⟩ q rargs .normal:=by simp only[Frame.enter,m,p]
 rw[h];exact Bc m r g (B g H)
end
end Go.Mir
end
section
namespace Go.Mir
open Go.Conc
section
variable{T:Tables}{F F':Array Func}{E:bc->Prop}{Sb:Nat->Prop}{v:aa}{fr rd:ah}{S:List Nat}{Post:af->aa->Prop}{f:bc}{fn:Func}{k:Tmp}
def a0z(h:iw T.globals.size Sb v):dh T.globals.size Sb id (cZ Sb v) v:=
 dh.mk (λb d=>by have:=h.lt b d;simpa[cZ]using this) (λb d=>h.lt b d) (λa b _ _ e=>e) (λg j b d=>by
  rw[gK d];cases i:v.heap[b]? with
  |none=>simp[i]
  |some o=>simp only[id,i,Option.map_some];rw[h.aZ g j.inj (λc m=>j.on c m) b o d i]) λb o d l=>by
  rw[gK d]at l;exact(h.ok b o d l).1
def a0B(h:iw T.globals.size Sb v):dh T.globals.size Sb id (cZ Sb v) (cZ Sb v):=
 dh.mk (λb d=>by have:=h.lt b d;simpa[cZ]using this) (λb d=>by have:=h.lt b d;simpa[cZ]using this) (λa b _ _ e=>e) (λg i b d=>by
  simp only[id];rw[gK d];cases l:v.heap[b]? with
  |none=>simp
  |some o=>simp only[Option.map_some];rw[h.aZ g i.inj (λc m=>i.on c m) b o d l]) λb o d j=>by
  rw[gK d]at j;exact(h.ok b o d j).1
def By(h:iw T.globals.size Sb v):∀(b:Nat) o,(cZ Sb v).heap[b]?=some o->eM T.globals.size o/\thin o:=λb o a=>by
 by_cases c:Sb b
 .rw[gK c]at a;exact h.ok b o c a
 .rw[sH c]at a;obtain⟨_,_,rfl⟩:=fA.1 a;exact⟨trivial,rfl⟩
def QX(c:Twin T F F (λ_=>False))(p:T.inits.idxOf? F.size=none)(s:iw T.globals.size Sb v)(i:∀b,b<T.globals.size+1->Sb b){b:ah}{a cd}(t:b.fn=f/\b.kind=.normal)(u:cJ T.globals.size (b.at a [.code cd]))(j:∀g,aQ Sb id g->b.at a [.code cd]=aR g (b.at a [.code cd])){Rr}(q:∀x w τ d,Rr x (re w τ d)->Rr x w)(y:∀τ,cd.wp ⟨T,F⟩ (λe m r=>e=.ret/\m.defers=[]/\Rr (m.tmps.getD k undef) r) a (re (cZ Sb v) τ 0)):Fin ⟨T,F⟩ (aB ⟨T,F⟩) (py f k Rr) (b.at a [.code cd]) [] (cZ Sb v):=by have L:a5T T Sb (cZ Sb v) (b.at a [.code cd]) []:=⟨a0B s,i,λb o z=>(By s b o z).1,u,λx A=>(by cases A),λg B=>⟨j g B,rfl⟩⟩;refine Cq c p (λfr I w τ d h=>⟨h.1,h.2.1,h.2.2.1,h.2.2.2.1,h.2.2.2.2.1,q _ _ _ _ h.2.2.2.2.2⟩) L λτ=>?_;obtain⟨e,m,r,⟨rfl,C,D⟩,l,n,H⟩:=y τ b [] [aB ⟨T,F⟩];exact⟨n,{b.at m l with mode:=.returning},[],r,H,rfl,t.1,rfl,C,t.2,D⟩
def T5(d:F'[f]?=some fn)(a:fn.results=#[.tmp k])(h:T.inits.idxOf? f=none){b}(e:b.fn=f)(g:b.mode=.returning)(i:b.defers=[])(j:b.kind=.normal)(c):stepG ⟨T,F'⟩ true (an b []) c=.ended (.done (b.tmps.getD k undef)) c #[]:=by rw[j4 (by rw[g];simp)];unfold unwind;rw[i];dsimp only;rw[g];dsimp only;rw[e,d];dsimp only;have l:(results fn b.tmps).runT ⟨T,F'⟩ c #[]=(.ok (b.tmps.getD k undef) c,#[]):=km (by rw[Sem.runT_fst,results_tmp a]) (events_results_tmp a _ _);rw[l];simp only[doReturn,j,e,h,GStep.after];simp[seen]
def Fw(c:F'[f]?=some fn)(b:fn.results=#[.tmp k])(i:T.inits.idxOf? f=none){a}(j:a.fn=f)(l:a.mode=.returning)(m:a.defers=[])(o:a.kind=.normal){gs t q SB sl}(h0:gs[0]?=some (an a []))(p:Leavers ⟨T,F'⟩ t gs q)(r:Past (cK SB) v.heap.size t)(s:∀d,Post (a.tmps.getD k undef) (v.at d)):Ends ⟨T,F'⟩ Post (crowd gs v sl) t:=by refine beside_ends (D:=λ_ _ u=> ∀e∈u,EvL (cK SB) v.heap.size e) (λ_ _ _ h=>h) (n:=0) h0 p r ?_;intro w g;obtain⟨d,rfl⟩:=g;exact⟨rfl,_,_,T5 c b i j l m o _,by simp,s d⟩
def NR(Y:Twin T F F' E)(p:Twin T F F (λ_=>False))(cT:ib T F)(M:px ⟨T,F'⟩)(hE:∀q,iQ.contains q=true->¬E q)(N:∀cs Od Stop,(∀fr Q w,Stop fr Q w->Q=[]/\fr.mode=.returning/\fr.defers=[]/\fr.kind=.normal)->tS T F F' E (λ_=>False) (λ_=>dead) cs Od Stop)(O:F'[f]?=some fn)(r:fn.results=#[.tmp k])(hi:T.inits.idxOf? f=none)(hk:S.contains k=false)(P:iw T.globals.size Sb v)(s:∀b,b<T.globals.size+1->Sb b)(DR:DF S fr rd)(ok:cJ T.globals.size fr)(u:∀g,aQ Sb id g->fr=aR g fr){t}(hP:Past (cK λ_=>False) v.heap.size t)(hL:Leavers ⟨T,F'⟩ t #[an rd []] λ_=>0){Rr}(z:Fin ⟨T,F⟩ (aB ⟨T,F⟩) (py f k Rr) fr [] (cZ Sb v)){J:Nat->Prop}(U:∀c,J c->c<v.heap.size/\¬Sb c)(n:∀x V w L D a,Rr x w->dh T.globals.size D a w L->oo L=oo v->(∀b,Sb b->D b/\a b=b)->(∀g,aQ D a g->V=ak g x)->(∀c,J c->L.heap[c]?=v.heap[c]?)->Post V L):Ends ⟨T,F'⟩ Post (crowd #[an rd []] v none) t:=by
 refine T6 (Z:=λ_=>False) (K:=λ_=>dead) (S:=S) (Od:=⟨id,Sb,J,λc=>v.heap[c]?,v⟩) (Post:=Post) Y p cT M hE (λ_ _ _ h=>⟨h.1,h.2.2.1⟩) N ?_ z _ _ .refl Sb id _ v t (λ_=>0) J none
  ⟨⟨fr,rd,rfl,DR,cZ Sb v,⟨rfl,rfl,rfl,rfl,rfl,λb _=>rfl,λb h=>h.elim,λb o A=>(By P b o A).2⟩,a0z P,rfl,λb i=>⟨s b i,rfl⟩,λb o A=>(By P b o A).1,ok,λx hx=>(by cases hx),λg B=>⟨u g B,rfl⟩⟩,hL,Hk hP λl hl=>by cases l<;>exact hl.elim,λb i hj=>(U _ hj).2 i,λc C=>(U c C).1,⟨λb i=>⟨i,rfl⟩,λc C=>⟨C,rfl⟩,rfl⟩⟩
 intro H w D a gs v2 t2 q SB sl hs e;obtain⟨_,h1,h2,h3,h4,hR⟩:=hs;obtain⟨rf,j,h0,W,y,X,R⟩:=e.rel;have e0:=R.aZ _ (aN R.heap 0);have m:j.fn=f/\j.mode=.returning/\j.defers=[]/\j.kind=.normal:=by rw[W.rest,e0.1];exact⟨h1,by simp[aR,h2,eB],by simp[aR,h3],h4⟩
 have I:∀b:Nat,y.heap[b]?=w.heap[b]? :=λb=>(X.other b (λh=>h)).symm;refine Fw O r hi m.1 m.2.1 m.2.2.1 m.2.2.2 h0 e.iV e.trace λd=>n (H.tmps.getD k undef) _ w _ D a hR ?_ ?_ e.keep.1 (λg B=>?_) λc C=>(e.keep.2.1 c C).2
 .exact dh.mk (λb i=>by rw[X.size];exact R.heap.lt b i) R.heap.fO R.heap.inj (λg B b i=>by rw[<-I];exact R.heap.obj g B b i) λb o i A=>R.heap.ok b o i (by rw[I];exact A)
 .exact e.keep.2.2
 .have:j.tmps.getD k undef=rf.tmps.getD k undef:=by simp only[fR,W.same k hk]
  rw[this,(R.aZ g B).1];simp only[aR,fR,fp];cases H.tmps[k]? <;>simp[undef]
end
section
variable{G:Nat}{w:aa}
def gF(G:Nat)(w:aa):aa:={w with heap:=w.heap.map λo=> @ite _ (eM G o) (Classical.propDecidable _) o dead}
def Fg{o}(h: ¬eM G o):p6 o:=by cases o<;>first|exact absurd trivial h|trivial
def vN(b:Nat):(gF G w).heap[b]?=(w.heap[b]?).map λo=> @ite _ (eM G o) (Classical.propDecidable _) o dead:=by simp[gF]
def Fe:cO G (gF G w):=by
 intro b o a;rw[vN]at a;obtain⟨c,_,rfl⟩:=fA.1 a;split
 .assumption
 .trivial
def qb(G:Nat)(W:aa)(b:Nat)(o:Obj):Prop:=W.heap[b]?=some o/\¬eM G o
def Uq:cL True (qb G w) G (λ_=>True) id (gF G w) w:=by
 refine⟨λ_ _=>.inl trivial,λ_ _=>.inl trivial,λ_ _ _ _ h=>h,λf d b _=>?_,λb o _ a=>Fe b o a,λ_=>⟨λb=>⟨trivial,rfl⟩,by simp[gF]⟩⟩;rw[ug d,vN];cases c:w.heap[b]? with
 |none=>exact .inl ⟨by simp[c],λ_ _=>by simp⟩
 |some o=>
  by_cases a:eM G o
  .exact .inl ⟨by simp[c,a,qp],λe h=>by rw[qb,c]at h;cases h.1;exact absurd a h.2⟩
  .exact .inr ⟨by simp[a],o,c,Fg a,c,a⟩
def Ur{u v}(h:cL True (qb G w) G (λ_=>True) id u v)(j:∀b,b<w.heap.size->u.heap[b]?=(gF G w).heap[b]?):∀b,b<w.heap.size->v.heap[b]?=w.heap[b]? :=by
 intro b f;have a:=j b f;rw[vN]at a;have c:w.heap[b]?=some w.heap[b]:=eF f;generalize w.heap[b]=o at c;rw[c]at a⊢;obtain⟨g,d⟩|⟨g,k,d,_,i,l⟩:=h.jn id pz b trivial
 .by_cases e:eM G o
  .rw[show v.heap[b]?=_ from g,a];simp[e,qp]
  .exact absurd (by rw[a];simp[e]) (d o ⟨c,e⟩)
 .rw[c]at i;rw[show v.heap[b]?=_ from d,i]
end
def QA{B e}(b:∀m,e.loc=.mark m->oU m=true)(d:mK B e):EvL (cK λ_=>False) B e:=by
 refine⟨λx _ f=>?_,λh=>(by cases b _ h),λh=>(by cases b _ h),?_⟩
 .revert f;cases x.loc<;>exact λh=>h.elim
 .obtain⟨c,wr,g⟩:=e;cases c with
  |cell a=>exact d
  |obj r=>cases wr<;>cases g<;>exact d
  |mark m=>have:=b m rfl;cases m<;>first|trivial|cases this
  |_=>trivial
section
variable{T:Tables}{F F':Array Func}{E:bc->Prop}{cs:List ah}{lz:Nat->Obj->Prop}
def Us{w fr gs}(b:cJ T.globals.size fr)(a:∀x∈gs,cJ T.globals.size x):fg True (qb T.globals.size w) T cs (λ_=>True) id (gF T.globals.size w) w fr gs fr (gs++cs):=by refine⟨Uq,rfl,λ_ _=>⟨trivial,rfl⟩,Fe,b,a,λf c=>?_⟩;rw[ug c,qo];have:aR id=id:=funext qo;exact⟨rfl,by simp[this]⟩
def a1w{P g fr a v b es}(h:stepG P true (an fr a) v=.go g b es):stepT P (crowd #[an fr a] v none)=(.next (crowd #[g] b none),MemOp.ofEvents 0 fr.fn fr.place es):=by
 have c:move P (crowd #[an fr a] v none)=.goroutine (crowd #[an fr a] v none) 0:=move_lone;unfold stepT;rw[c];have:=runT_crowd_go (P:=P) (gs:=#[an fr a]) (sl:=none) (w:=v) (i:=0) (g:=an fr a) rfl h;have e:((#[an fr a]:Array aw).map (woken P (an fr a) g b)).setIfInBounds 0 g=#[g]:=by simp
 rw[e]at this;exact this
def Ut(tw:Twin T F F' E)(H:Twin T F F (λ_=>False))(V:T.inits.idxOf? F.size=none)(I:∀q,E q->∃fn s,F[q]?=some fn/\fn.body=some (.refuse s)){fr' u'}:∀n fr gs u v f d t,fg True lz T cs (λ_=>True) id u v fr gs f d->v.tape=u.tape->v.drawn=u.drawn->Past (cK λ_=>False) v.heap.size t->Leavers ⟨T,F'⟩ t #[an f d] (λ_=>0)->runN ⟨T,F⟩ n (lone fr (gs++[aB ⟨T,F⟩]) u)=.next (lone fr' [aB ⟨T,F⟩] u')->∃y p J,runNT ⟨T,F'⟩ n (crowd #[an f d] v none) t=(.next (crowd #[an p cs] y none),J)/\fg True lz T cs (λ_=>True) id u' y fr' [] p cs/\y.tape=u'.tape/\y.drawn=u'.drawn/\Past (cK λ_=>False) y.heap.size J/\Leavers ⟨T,F'⟩ J #[an p cs] (λ_=>0)/\oo y=oo v:=by
 intro n;induction n with
 |zero=>
  intro fr gs u v f d t R S U W X h;simp only[runN,Stepped.next.injEq]at h;obtain⟨rfl,Y,rfl⟩:=mJ h;have Y:=jA (b:=[]) Y;subst Y;have hr:d=cs:=by simpa using (R.aZ _ (aN R.heap 0)).2
  subst hr;exact⟨v,f,t,rfl,R,S,U,W,X,rfl⟩
 |succ n ih=>
  intro fr gs u v f d t R S U W X h;simp only[runN]at h;obtain⟨av,aP,u1,es,K⟩|⟨o,u1,es,a⟩:=IZ (cs:=gs++[aB ⟨T,F⟩]) H R.ok R.all (by simp);rotate_left
  .rw[oN a]at h;cases h
  rw[sE K]at h;dsimp only at h;obtain⟨D',z,D,L,rg,hq,r,hc⟩|⟨rfl,tf,hp,M⟩:=tF (main:=true) (below:=[]) (up (trap:=aB ⟨T,F⟩) rfl) tw R K (λi _=>by rw[S,U])
  .have eD:D'=λ_=>True:=funext λb=>propext ⟨λ_=>trivial,λ_=>(r.more b trivial).1⟩;have eP:z=id:=funext λb=>(r.more b trivial).2;subst eD eP;obtain⟨j,Z,ab⟩:=r.drawn;have ad:D.tape=u1.tape:=by rw[r.tape,r.nT,S]
   have ae:D.drawn=u1.drawn:=by rw[Z,ab,U]
   have ag:aQ (λ_=>True) id id:=⟨λ_ _=>rfl,λ_ _ h=>h⟩;have al:Past (cK λ_=>False) D.heap.size (t++MemOp.ofEvents 0 f.fn f.place L):=(W.mono r.size).own λe he=>by refine QA (λm hm=>?_) (r.lw e he);have N:=he;rw[r.ev id ag]at N;obtain⟨e0,h0,rfl⟩:=l9.1 N;obtain⟨ao,wr,sy⟩:=e0;cases ao<;>simp[cz,cX]at hm;subst hm;have:=r.qu _ h0 _ rfl;rename_i m0;cases m0<;>first|exact this|cases this
   have aq:=a1w hq;obtain⟨O,A,l,c,e1,rfl,R2⟩|⟨q,x,k,ar,O,A,l,c,hE,e1,rfl,_,R2⟩:=hc
   .obtain⟨rfl,rfl⟩:=ej e1;have Q:=lf (g:=an f d) (g':=an l c) (w':=D) (fn:=f.fn) (pos:=f.place) (es:=L) X (by simp);have e:((#[an f d]:Array aw).map (woken ⟨T,F'⟩ (an f d) (an l c) D)).setIfInBounds 0 (an l c)=#[an l c]:=by simp
    rw[e]at Q;obtain⟨y,p,J,h1,h2,h3,h4,h5,h6,h7⟩:=ih _ A u1 D l c _ R2 ad ae al Q h;exact⟨y,p,J,by simp only[runNT,aq];exact h1,h2,h3,h4,h5,h6,h7.trans (km r.os r.output)⟩
   .exfalso;obtain⟨rfl,rfl⟩:=ej e1;cases n with
    |zero=>simp only[runN,Stepped.next.injEq]at h;have:=congrArg List.length (mJ h).2.1;simp at this
    |succ n=>
     obtain⟨fn,s,au,hb⟩:=I q hE.1;have B:(Frame.enter ⟨T,F⟩ q x k).mode=.run:=rfl;have C:(Frame.enter ⟨T,F⟩ q x k).todo=[.code (.refuse s)]:=by simp[Frame.enter,au,hb]
     have a:∃o w2 es2,stepG ⟨T,F⟩ true (an (Frame.enter ⟨T,F⟩ q x k) (O::A++[aB ⟨T,F⟩])) u1=.ended o w2 es2:=by rw[ip B];unfold stepG.exec;rw[C];exact⟨_,_,_,rfl⟩
     obtain⟨o,w2,es2,a⟩:=a;simp only[runN,oN a]at h;cases h
  .exfalso;obtain⟨rfl,rfl⟩:=ej hp;cases n with
   |zero=>simp only[runN,Stepped.next.injEq]at h;have:=congrArg List.length (mJ h).2.1;simp at this
   |succ n=>obtain⟨o,w2,es2,a⟩:=A4 (P:=⟨T,F⟩) (w:=u1) V M;simp only[runN,oN a]at h;cases h
end
end Go.Mir
end
section
namespace Go.Mir
open Go
inductive gw (ops:Array Oper):Array Bool->List Nat->Prop
 |nil {b:Array Bool} (h:Region.ready .any ops b=[]):gw ops b []
 |cons {b:Array Bool} {i:Nat} {l:List Nat} (h:i∈Region.ready .any ops b) (k:gw ops (b.setIfInBounds i true) l):gw ops b (i::l)
def wS{ops b i}(h:i∈Region.ready .any ops b):i<ops.size/\b.getD i true=false/\∀o,ops[i]?=some o->∀e∈o.after,Region.binds .any e=true->b.getD e.on false=true:=by simp only[Region.ready,a7n,a6K,dW,a6y]at h;refine⟨h.1,h.2.1,λo c e d f=>?_⟩;have a:=h.2.2;rw[c]at a;simp only[Option.map_some,i6,a6F]at a;have:=a e d;simpa[f]using this
def a0n(ops):∀a t b,b.size=ops.size->b.toList.count false<=a->gw ops b (Region.linearise.go .any ops a t b []):=by
 intro a;induction a with
 |zero=>
  intro t b g h;refine .nil (List.eq_nil_iff_forall_not_mem.2 λi f=>?_);obtain⟨l,d,_⟩:=wS f;have:false∈b.toList:=by
   have c:i<b.size:=by omega
   rw[fR,eF c]at d;simp only[i6]at d;rw[<-d];exact a6l.2 (a7D c)
  have:=List.count_pos_iff.2 this;omega
 |succ a m=>
  intro t b g h;simp only[Region.linearise.go];change gw ops b (match (Region.ready .any ops b)[t%(Region.ready .any ops b).length]? with
   |some i=>Region.linearise.go .any ops a (t / (Region.ready .any ops b).length) (b.setIfInBounds i true) [i]
   |none=> [].reverse)
  cases f:(Region.ready .any ops b)[t%(Region.ready .any ops b).length]? with
  |none=>
   refine .nil ?_;cases n:Region.ready .any ops b with
   |nil=>rfl
   |cons x j=>rw[n]at f;have c:t%(x::j).length<(x::j).length:=Nat.mod_lt _ (by simp);simp at f;simp at c;omega
  |some i=>
   have k:=a7o f;obtain⟨l,d,_⟩:=wS k;have c:i<b.size:=by omega
   simp only[];rw[linearise_go_acc,List.reverse_singleton,List.singleton_append];refine .cons k (m _ _ (by simpa using g) ?_);rw[fR,eF c]at d;simp only[i6]at d;have e:(b.setIfInBounds i true).toList=b.toList.set i true:=by simp
   rw[e,List.count_set (by simpa using c)];simp[d];have:false∈b.toList:=by rw[<-d];exact a6l.2 (a7D c)
   have:=List.count_pos_iff.2 this;simp at h this⊢;omega
def H4{ops}{P:ay}(h:P.follows .mixedOrders=true)(t):gw ops (Array.replicate ops.size false) (Region.schedule (P.follows .mixedOrders) ops t):=by simp only[Region.schedule,h,Bool.true_or,if_true];exact a0n ops ops.size t _ (by simp) (by simp)
end Go.Mir
end
section
namespace Go.Mir
open Go Go.Conc
section
variable{T:Tables}{F F':Array Func}{E:bc->Prop}{Z:Nat->Prop}{K:Nat->Obj}{cs:List ah}{D D':Nat->Prop}{aj ab:Nat->Nat}{w w' v v':aa}{fr fr' rf ad:ah}{gs ae rcs rcs':List ah}{main:Bool}
def dS.frame(R:dS T Z K cs D aj w v fr gs rf rcs)(d:v.heap.size<=v'.heap.size)(e:∀b,D b->v'.heap[aj b]?=v.heap[aj b]?)(c:v'.os=v.os):dS T Z K cs D aj w v' fr gs rf rcs:=by obtain⟨x,hF,R⟩:=R;exact⟨x,hF,dh.mk R.heap.lt (λb a=>cG (R.heap.fO b a) d) R.heap.inj (λf g b a=>by rw[e b a];exact R.heap.obj f g b a) R.heap.ok,by rw[c];exact R.os,R.low,R.all,R.ok,R.cF,R.aZ⟩
def bK.at{x u}(h:bK Z K x u){b}(d:Z b):x.heap[b]?=some (K b):=by
 obtain⟨c,e,f,a,_⟩|⟨_,a,_⟩|⟨_,a,_⟩:=h.old b d
 .rw[f];exact a
 .exact a
 .exact a
def Rz(R:dS T Z K cs D aj w v fr gs rf rcs)(c:dS T Z K cs D' ab w' v' fr' ae ad rcs')(d:∀b,D b->D' b/\ab b=aj b){b}(i:Z b)(a:D b):v'.heap[aj b]?=v.heap[aj b]? :=by obtain⟨x,hF,R⟩:=R;obtain⟨k,f,c⟩:=c;have e:=aN c.heap 0;generalize (λb=> @ite _ (D' b) (Classical.propDecidable _) (ab b) (v'.heap.size+0+b))=g at e;have h:aQ D aj g:=⟨λb a=>by rw[e.on b (d b a).1,(d b a).2],e.inj⟩;have j:=c.heap.obj g e b (d b a).1;rw[(d b a).2,f.at i]at j;rw[j,R.heap.obj g h b a,hF.at i]
def Jr(N:Twin T F F' E)(l:Twin T F F (λ_=>False))(cT:ib T F)(n:∀q,E q->∃o s,F[q]?=some o/\o.body=some (.refuse s)){Stop}(p:∀fr gs w,Stop fr gs w->fr.mode=.returning){fr1 gs1 u1 es}(h:stepG ⟨T,F⟩ true (an fr (gs++[aB ⟨T,F⟩])) (re w v.tape v.drawn)=.go (an fr1 (gs1++[aB ⟨T,F⟩])) u1 es)(g:Fin ⟨T,F⟩ (aB ⟨T,F⟩) Stop fr1 gs1 u1)(R:dS T Z K cs D aj w v fr gs rf rcs):∃(D':Nat->Prop) (ab:Nat->Nat) (v':aa) (a:Array aJ) (ad:ah) (rcs':List ah),stepG ⟨T,F'⟩ main (an rf rcs) v=.go (an ad rcs') v' a/\dS T Z K cs D' ab u1 v' fr1 gs1 ad rcs'/\(∀b,D b->D' b/\ab b=aj b)/\(∀b,D' b->D b\/v.heap.size<=ab b)/\v.heap.size<=v'.heap.size/\(∀c,c<v.heap.size->(∀b,D b->aj b=c->Z b)->v'.heap[c]?=v.heap[c]?)/\v'.os=v.os/\v'.tape=v.tape/\v'.output=v.output/\(∀e∈a,∃i∈es,i8 Z i/\∀f,aQ D' ab f->e=cz f i)/\(∀e∈a,∀m,e.loc=.mark m->oU m=true):=by
 have O:=R;obtain⟨D',ab,v',a,rg,x,P,Q,r,d,S,t,u⟩:=rY (main:=main) N l cT h R;obtain⟨ad,rcs',rfl,U⟩|⟨q,I,k,y,V,W,X,J,Y,e1,e2,_,_,_⟩:=u
 .have L:dS T Z K cs D' ab u1 v' fr1 gs1 ad rcs':=⟨P,r,U⟩;refine⟨D',ab,v',a,ad,rcs',Q,L,d.more,λb j=>?_,d.size,λc u ho=>?_,d.os,d.tape,d.output,λe z=>?_,λe z=>?_⟩
  .rcases d.new b j with h|h
   .exact .inl h
   .exact .inr h.2
  .by_cases hex:∃b,D b/\aj b=c
   .obtain⟨b,j,rfl⟩:=hex;exact Rz O L d.more (ho b j rfl) j
   .exact d.frame c u λb j A=>hex ⟨b,j,A⟩
  .obtain⟨i,h0,B⟩:=zl t d e z;exact⟨i,h0,S i h0,B⟩
  .obtain⟨i,h0,B⟩:=zl t d e z;have:=d.qu i h0;have h1:=B _ (aN t 0);rw[h1];obtain⟨C,wr,sy⟩:=i;intro m M;cases C<;>simp only[cz,cX,reduceCtorEq]at M;rename_i m0;have h0:=this _ rfl;cases M;cases m0<;>first|rfl|cases h0
 .exfalso;obtain⟨o,s,H,j⟩:=n q Y.1;rw[e1]at g;exact a5W p H j g
end
end Go.Mir
end
end
