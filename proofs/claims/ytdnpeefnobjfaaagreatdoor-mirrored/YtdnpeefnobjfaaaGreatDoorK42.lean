import Derived.Test.YtdnpeefnobjfaaaGreatDoorK41
set_option maxRecDepth 100000
set_option maxHeartbeats 4000000
set_option linter.all false
section
namespace Go.Mir
open Go Go.Conc
open Go.ConcN (upd upd_ne upd_same)
section
variable{C:aI}{p:cC C}{s s':St}{v v1:aa}{t0 t u:aY}{gs:Array aw}{B B':Nat}
structure cC.End (p:cC C) (gs:Array aw) (v:aa) (t:aY) (s:St) (g:aw):Prop where
 zero:gs[0]?=some g
 fn:p.FN g
 size:gs.size=C.N0+C.n
 iV:Leavers C.P t gs s.q
 aj:Past (λl=>cK C.SB l\/C.nh l) v.heap.size t
 hp:p.Hp s v
 cls:C.dL s v.heap.size
 told:∀i,i<C.n->p.TD i (s.own i) v
def TJ(e:p.Ok)(I:p.Inv t0 s gs v t)(d):p.Inv t0 s gs (v.at d) t:=by have a:p.Hp s (v.at d):=⟨I.hp.rb,I.hp.tb,I.hp.dc,I.hp.old,I.hp.os,I.hp.ch⟩;refine⟨I.pos,I.size,I.start,I.elder,λi g f h=>pn e (I.work i g f h) ⟨aF _,λ_ _=>rfl,λj k l c=>?_,gq a⟩,I.above,a,I.cls,I.ctl,I.f8⟩;have b:(v.at d).heap[C.tb]?=some (.cells j C.tt):=l;rw[b]at c;cases c;rfl
def LQ(I:p.Inv t0 s gs v t)(b:s.sp=.aq true):∀i,i<C.n->s.ph i=.leave:=by
 intro i c;have d:s.G2=.over:=by have:=I.ctl.s2;rw[b]at this;exact this
 have f:C.a2 s=0:=by have:=I.ctl.z2;rw[d]at this;exact this
 have g:(s.ph i).dn=false:=ut.1 f i c;have a:=I.ctl.g2 i c;rw[d]at a;have h:s.ph i≠.la2:=λe=>by have:=a.1.1 e;cases this
 have j:s.ph i≠.lb2:=λe=>by have:=a.2.1.1 e;cases this
 have k:s.ph i≠.lc2:=λe=>by have:=a.2.2.1 e;cases this
 revert g h j k;cases s.ph i<;>decide
def L4(hp:p.Ok)(hS:∀c,C.SB c->c<C.B0)(h0:t0.HandedOver)(I:p.Inv t0 s gs v t){g sl}(hg:gs[0]?=some g)(Y:s.sp=.aq true)(hA:p.AQ 4 g)(hd:Deaf t 0=0):∃Z ab g',runT C.P (crowd gs v sl) 0=(.next (crowd Z v sl),ab)/\p.End Z v (t++ab) s g':=by
 obtain⟨_,g6,O,bb,_,ag⟩:=hp.aq _ _ hA;have ad:=O v (gq I.hp);have ba:=I.pos;have al:0<gs.size:=(bW.1 hg).1;have r:s.sp.aW C.n=C.n:=by rw[Y];rfl
 have ao:gs.size=C.N0+C.n:=by rw[<-r];exact I.size
 have A:=runT_crowd_go (P:=C.P) (sl:=sl) (i:=0) hg (show stepG C.P (0==0) g v=_ from ad);have Q:=LQ I Y;let acq:MemOp:={g:=0,fn:=g.frame.fn,pos:=g.frame.place,act:=.mark (.acquire (C.ca 4))};have K:MemOp.ofEvents 0 g.frame.fn g.frame.place #[⟨.mark (.acquire (C.ca 4)),false,true⟩]=#[acq]:=by simp[MemOp.ofEvents,MemAct.ofEvent,acq]
 rw[K]at A;have ar:∀e∈(#[⟨.mark (.acquire (C.ca 4)),false,true⟩]:Array aJ),Ev0 C s v.heap.size e:=by intro e he;simp only[dK,cm,dP,or_false]at he;subst he;exact⟨λa L=>(by cases L),cP I.hp.rb,by simp[MemAct.ofEvent]⟩
 have f:C.fU s t0 (t++#[acq]) v.heap.size:=by rw[<-K];exact tJ hS I ar (aF _) I.cls rfl (λ_ _ h=>h) (λ_ _ h=>h) _ _
 have hD:∀j,Deaf (t++#[acq]) j=Deaf t j:=λj=>ry λd b=>by simp only[dK,cm,dP,or_false]at b;subst b;exact⟨by simp[acq],by simp[acq]⟩
 have hq:(t++#[acq])[t.size]?=some acq:=by simp
 have R:(t++#[acq]).act? t.size=some (.mark (.acquire (C.ca 4))):=by rw[Trace.act?,hq];rfl
 have D:(t++#[acq]).g? t.size=some 0:=by rw[Trace.g?,hq];rfl
 have S:(t++#[acq]).heard t.size:=⟨0,D,by rw[deaf_old (aF _)];exact hd⟩;have bd:(t++#[acq]).size=t.size+1:=by simp
 have hrel:∀i,i<C.n->∃x,ConcN.RelBy (C.ca 4) (t++#[acq]) (C.N0+i) x/\x<t.size/\∀k d a,x<k->(t++#[acq])[k]?=some d->d.g=C.N0+i->d.act.touch?=some a->C.nh a.loc:=by
  intro i o;obtain⟨x,m,F⟩:=f.rel i o (by rw[Q i o];rfl);refine⟨x,m,?_,F⟩;have h3:=lt_of_act? m.act;have h4:x≠t.size:=λe=>by have:=m.g;rw[e,D]at this;simp at this;omega
  omega
 have M:∀k d,t0.size<=k->(t++#[acq])[k]?=some d->d.g≠0->d.act.touch?=none\/∃i,i<C.n/\d.g=C.N0+i:=by
  intro k d T b H;have m:=f.born k d T b;rw[r]at m;by_cases F:d.g<C.N0
  .exact .inl (f.elder k d T b (by omega) F)
  .exact .inr ⟨d.g - C.N0,by omega,by omega⟩
 have U:∀i x,i<C.n->ConcN.RelBy (C.ca 4) (t++#[acq]) (C.N0+i) x->x<t.size->∀k,k<=x->(t++#[acq]).g? k=some (C.N0+i)->HappensBefore (t++#[acq]) k t.size:=by
  intro i x o m F k T hg;have N:HappensBefore (t++#[acq]) x t.size:=.single (.inr ⟨.marked F (.inr m.act) R (λk _ _=>f.norel k),m.heard,S⟩);obtain h3|h3:=a8g k x
  .exact .trans (.single (.inl ⟨h3,_,hg,m.g⟩)) N
  .obtain rfl:k=x:=by omega
   exact N
 have V:(t++#[acq]).HandedOver:=by
  obtain⟨w,hw⟩:=f.pre;rw[hw]at R D S⊢;refine a2g h0 (λk gk T E H hc=>?_) (by rw[<-hw];exact f.norel) R D S;rw[<-hw]at E hc⊢;obtain⟨d,b,rfl⟩:=fA.1 E;obtain h|⟨i,o,J⟩:=M k d T b H
  .obtain⟨a,L,_⟩:=hc;obtain⟨z,hz,ae⟩:=touch_of L;rw[b]at hz;cases hz;rw[h]at ae;cases ae
  .obtain⟨x,m,F,_⟩:=hrel i o;exact⟨x,by rw[J];exact m,F⟩
 have W:Past (λl=>cK C.SB l\/C.nh l) v.heap.size (t++#[acq]):=by
  refine gz.aj f.qI (.inl rfl) (λl hl=>.inl hl) (λk d a T b L hm H=>?_) V (by rw[hD];exact hd) f.low
  .rcases M k d T b H with h|⟨i,o,J⟩
   .rw[h]at L;cases L
   .obtain⟨x,m,F,h3⟩:=hrel i o;have E:(t++#[acq]).g? k=some (C.N0+i):=by rw[Trace.g?,b];simp[J]
    by_cases au:k<=x
    .exact .inr (TO D (U i x o m F k au E))
    .refine .inl ⟨?_,.inr (h3 k d a (by omega) b J L)⟩;apply fx;intro av;exact m.after k (by omega) E ⟨a,by rw[Trace.act?,b];simpa using L,hm,.inl av⟩
 have X:Leavers C.P (t++#[acq]) ((gs.map (woken C.P g g6 v)).setIfInBounds 0 g6) s.q:=by
  refine⟨λj x hj hx=>?_,λj hj=>?_⟩
  .rw[di (by omega),fp]at hx;obtain⟨y,hy,rfl⟩:=fA.1 hx;have hQ:QuitsD C.P (s.q j) (Deaf t j) y:=by
    obtain⟨h,_⟩|⟨_,_,hQ⟩|⟨i,rfl,o,aP,hW⟩:=tL I hy
    .omega
    .exact hQ
    .rw[Q i aP]at hW;exact hW.2
   rw[woken_quitsD hQ,hD];exact hQ
  .rw[hD];exact I.above j (by simpa using hj)
 refine⟨_,_,g6,A,⟨by simp[al],ag rfl,by simpa using ao,X,W,I.hp,I.cls,λi o=>?_⟩⟩;obtain⟨z,hz⟩:∃z,gs[C.N0+i]?=some z:=⟨_,eF (by omega)⟩;have hW:=I.work i z (by rw[r];exact o) hz;rw[Q i o]at hW;exact hW.1
def a1u(j:p.Ok)(l:∀c,C.SB c->c<C.B0)(h0:t0.HandedOver)(I:p.Inv t0 s gs v t){g sl}(i:gs[0]?=some g)(r:g.status=.running):p.Goes t0 s gs v t 0 sl\/∃f h g',runT C.P (crowd gs v sl) 0=(.next (crowd f v sl),h)/\p.End f v (t++h) s g':=by
 obtain⟨J,w,n⟩:=I.start;rw[i]at w;cases w;have quiet:∀{g':aw},(∀b,s.sp≠.sb b)->C.Quiet true C.d9 s.m0 (Deaf t 0) g s.sp.deaf g'->p.pt s s.sp g'->(Deaf t 0=s.sp.deaf->p.pt s s.sp g->p.Goes t0 s gs v t 0 sl\/∃f h g',runT C.P (crowd gs v sl) 0=(.next (crowd f v sl),h)/\p.End f v (t++h) s g')->
   p.Goes t0 s gs v t 0 sl\/∃f h g',runT C.P (crowd gs v sl) 0=(.next (crowd f v sl),h)/\p.End f v (t++h) s g':=by
  intro g' o x q y;obtain⟨_,D,rfl⟩|⟨E,K,L,F,z,H,A⟩:=Hs x
  .exact y D q
  .refine .inl (a1t j l I i F (z v (gq I.hp)) H ?_);refine BE (s:={s with m0:=E}) (sp:=s.sp) rfl o A ?_;revert q;cases s.sp<;>exact id
 unfold cC.fT at n;split at n
 .obtain⟨_,g',_,rfl⟩:=n;cases r
 .rename_i o;obtain⟨g',x,q⟩:=n;refine quiet o x q λd e=>?_;cases a:s.sp with
  |mk k=>rw[a]at d e;exact .inl (U7 j l I i a e d)
  |go k=>rw[a]at d e;exact .inl (Sm j l I i a e d)
  |snd k=>rw[a]at d e;exact .inl (a1j j l I i a e d)
  |lw b=>rw[a]at d e;exact .inl (UC j l I i a e d)
  |ca b m=>
   rw[a]at d e;cases b with
   |false=>exact .inl (MO j l I i a e d)
   |true=>exact .inl (MP j l I i a e d)
  |sa b=>
   rw[a]at d e;cases b with
   |false=>exact .inl (a0t j l I i a e d)
   |true=>exact .inl (a0u j l I i a e d)
  |sb b=>exact absurd a (o b)
  |ld b=>
   rw[a]at d e;cases b with
   |false=>exact .inl (Uc j l I i a e d)
   |true=>exact .inl (Ud j l I i a e d)
  |aq b=>
   rw[a]at d e;cases b with
   |false=>exact .inl (L3 j l I i a e d)
   |true=>exact .inr (L4 j l h0 I i a e d)
  |cl=>rw[a]at d e;exact .inl (Ns j l I i a e d)
def a1l(f:p.Ok)(I:p.Inv t0 s gs v t):(∀g∈gs,awake g)/\∃(i:Nat) (g:aw),gs[i]?=some g/\g.status=.running:=by
 have H:=I.pos;have l:∀g,p.fT s (Deaf t 0) g->(∃b,s.sp=.sb b)/\g.status=.blocked\/g.status=.running:=by
  intro g h;unfold cC.fT at h;split at h
  .rename_i b w;obtain⟨_,J,_,rfl⟩:=h;exact .inl ⟨⟨b,w⟩,rfl⟩
  .obtain⟨J,L,A⟩:=h;refine .inr (lS L ?_);revert A;cases M:s.sp with
   |mk k=>exact λh=>(f.sI _ _ h).1
   |go k=>exact λh=>(f.go _ _ _ h).1
   |snd k=>exact λh=>(f.sn _ _ _ h).1
   |lw b=>exact λh=>(f.lw _ _ h).1
   |ca b m=>exact λh=>(f.ca _ _ _ h).1
   |sa b=>exact λh=>(f.sa _ _ h).1
   |sb b=>exact λh=>(f.sa _ _ h).1
   |ld b=>exact λh=>(f.ld _ _ h).1
   |aq b=>exact λh=>(f.aq _ _ h).1
   |cl=>exact λh=>(f.cl _ h).1
 refine⟨λg N=>?_,?_⟩
 .obtain⟨j,O,rfl⟩:=fI.1 N;obtain⟨_,h⟩|⟨_,_,h⟩|⟨i,_,_,_,h⟩:=tL I (eF O)
  .rcases l _ h with⟨_,h⟩|h<;>(intro t e;rw[h]at e;cases e)
  .rcases h.status with h|h<;>(intro t e;rw[h]at e;cases e)
  .rcases nQ f h with⟨_,J,h⟩|⟨_,h|⟨_,h⟩⟩
   .intro t e;rw[h]at e;cases e
   .intro t e;rw[h]at e;cases e
   .intro t e;rw[h]at e;cases e
 .obtain⟨K,D,E⟩:=I.start;obtain⟨⟨b,w⟩,_⟩|h:=l K E
  .
   have o:s.sp.aW C.n=C.n:=by rw[w];rfl
   have q:∀i,i<C.n->s.ph i≠.park1->s.ph i≠.park2->s.ph i≠.leave->∃(j:Nat) (g:aw),gs[j]?=some g/\g.status=.running:=by
    intro i c P Q R;obtain⟨z,r⟩:∃z,gs[C.N0+i]?=some z:=⟨_,eF (by rw[I.size,o];omega)⟩;have S:=I.work i z (by rw[o];exact c) r;obtain⟨h|h,_⟩|⟨_,h|⟨h,_⟩⟩:=nQ f S
    .exact absurd h P
    .exact absurd h Q
    .exact⟨_,z,r,h⟩
    .exact absurd h R
   cases b with
   |false=>
    have y:=I.ctl.s1;rw[w]at y;obtain⟨q1,F,q3⟩:=y;cases a:s.G1 with
    |idle=>exact absurd a q1
    |over=>exact absurd a F
    |rel=>exact absurd a q3
    |reg=>
     have r:=I.ctl.z1;rw[a]at r;obtain⟨i,c,d⟩:=CW r;refine q i c (λe=>?_) (λe=>?_) (λe=>?_)
     .have:=I.ctl.ll i c e;rw[w]at this;have:C.n<=i:=this;omega
     .rw[e]at d;cases d
     .rw[e]at d;cases d
    |la i=>have c:=I.ctl.ee i (.inl a);have e:=((I.ctl.g1 i c).1).2 a;exact q i c (by rw[e];decide) (by rw[e];decide) (by rw[e];decide)
    |lb i=>have c:=I.ctl.ee i (.inr (.inl a));have e:=((I.ctl.g1 i c).2.1).2 a;exact q i c (by rw[e];decide) (by rw[e];decide) (by rw[e];decide)
    |lc i=>have c:=I.ctl.ee i (.inr (.inr a));have e:=((I.ctl.g1 i c).2.2).2 a;exact q i c (by rw[e];decide) (by rw[e];decide) (by rw[e];decide)
   |true=>
    have y:=I.ctl.s2;rw[w]at y;obtain⟨q1,F,q3⟩:=y;cases a:s.G2 with
    |idle=>exact absurd a q1
    |over=>exact absurd a F
    |rel=>exact absurd a q3
    |reg=>
     have r:=I.ctl.z2;rw[a]at r;obtain⟨i,c,d⟩:=CW r;have x:=I.ctl.shut (by rw[w];rfl) i c;refine q i c (λe=>?_) (λe=>x.2 e) (λe=>?_)
     .rw[e]at x;exact absurd x.1 (by decide)
     .rw[e]at d;cases d
    |la i=>have c:=I.ctl.ef i (.inl a);have e:=((I.ctl.g2 i c).1).2 a;exact q i c (by rw[e];decide) (by rw[e];decide) (by rw[e];decide)
    |lb i=>have c:=I.ctl.ef i (.inr (.inl a));have e:=((I.ctl.g2 i c).2.1).2 a;exact q i c (by rw[e];decide) (by rw[e];decide) (by rw[e];decide)
    |lc i=>have c:=I.ctl.ef i (.inr (.inr a));have e:=((I.ctl.g2 i c).2.2).2 a;exact q i c (by rw[e];decide) (by rw[e];decide) (by rw[e];decide)
  .exact⟨0,K,D,h⟩
def NQ(k:p.Ok)(w:∀c,C.SB c->c<C.B0)(h0:t0.HandedOver)(I:p.Inv t0 s gs v t)(sl):∃N a f r x,runNT C.P N (crowd gs v sl) t=(.next (crowd a f r),x)/\∃s' g',p.End a f x s' g':=by
 refine NO (P:=C.P) (Om C) (Inv:=λs gs v t=>p.Inv t0 s gs v t) (Goal:=λgs v t=> ∃s' g',p.End gs v t s' g') (λm gs v t I=>a1l k I) (λm gs v t I j g d sl o e=>?_) s gs v t sl I;have q:=TJ k I d;have conv:p.Goes t0 m gs (v.at d) t j sl->∃a f b,runT C.P (crowd gs (v.at d) sl) j=(.next (crowd a f sl),b)/\((∃s' g',p.End a f (t++b) s' g')\/∃y,p.Inv t0 y a f (t++b)/\C.Down y m):=λ⟨a,f,b,s'',l,n,h3⟩=>⟨a,f,b,l,.inr ⟨s'',n,h3⟩⟩
 obtain⟨rfl,_⟩|⟨l,n,_⟩|⟨i,rfl,z,_,_⟩:=tL q o
 .rcases a1u (sl:=sl) k w h0 q o e with h|⟨a,b,g',l,n⟩
  .exact conv h
  .exact⟨a,v.at d,b,l,.inl ⟨m,g',n⟩⟩
 .exact conv (Qo k q l n o e)
 .exact conv (a3L k w q z o e)
end
end Go.Mir
end
section
namespace Go.Mir
open Go Go.Conc
section
variable{T:Tables}{F F':Array Func}{E:bc->Prop}{Z:Nat->Prop}{K:Nat->Obj}{cs:List ah}{C:aI}
structure ua (C:aI) (X Z D:Nat->Prop) (aj:Nat->Nat) (O:Nat->Prop):Prop where
 old:∀b,D b->Z b->aj b<C.B0/\¬C.SB (aj b)
 own:∀b,D b->¬Z b->O (aj b)
 zd:∀b,Z b->D b
 off:∀b,D b->¬X (aj b)
 xo:∀c,X c->O c
def qh{G d a w' v'}(e:dh G d a w' v'){b c}(h:∀f,aQ d a f->c=f b):d b/\a b=c:=by
 by_cases g:d b
 .exact⟨g,((h _ (aN e 0)).trans (by simp[g])).symm⟩
 .have i:=h _ (aN e 0);have j:=h _ (aN e 1);simp only[g,if_false]at i j;omega
def a2r{u g w' v' O i}(H:C.B0<=C.r)(p:dh T.globals.size u g w' v'){X}(t:ua C X Z u g O)(J:∀c,O c->c≠C.r){e v}(D:i8 Z v)(w:∀f,aQ u g f->e=cz f v)(I:∀m,e.loc=.mark m->oU m=true):C.Ev i O v'.heap.size e:=by
 have hex:=w _ (aN p 0);obtain⟨y,wr,z⟩:=v;cases y with
 |cell a=>
  have j:=qh p (b:=a.block) (c:=match e.loc with| .cell a=>a.block|_=>0) (λf A=>by rw[w f A];rfl);rw[hex]at j⊢;simp only[cz,cX,aH]at j⊢;obtain⟨k,l⟩:=j;refine⟨λx d _=>?_,?_,by simp⟩
  .simp only[MemAct.ofEvent,MemAct.touch?,cw]at d;subst d;by_cases n:Z a.block
   .have B:wr=false:=by
     cases wr with
     |false=>rfl
     |true=>exact absurd n (D.1 a rfl rfl)
    refine .inr ⟨.inl ?_,B⟩;simp only;rw[<-l];exact t.old _ k n
   .refine .inl (.inl ?_);simp only;rw[<-l];exact t.own _ k n
  .have:=p.fO _ k;rw[l]at this;exact this
 |obj r=>
  have j:=qh p (b:=r) (c:=match e.loc with| .obj a=>a|_=>0) (λf A=>by rw[w f A];rfl);rw[hex]at j⊢;simp only[cz,cX]at j⊢;obtain⟨k,l⟩:=j;have q:=p.fO _ k;rw[l]at q;refine⟨λx d _=>?_,by cases wr<;>cases z<;>exact q,by simp⟩;by_cases n:Z r
  .have B:wr=false:=by
    cases wr with
    |false=>rfl
    |true=>exact absurd n (D.2 r rfl rfl)
   subst B;have s:=t.old _ k n;rw[l]at s;cases z<;>(simp only[MemAct.ofEvent,MemAct.touch?,cw]at d;subst d;exact .inr ⟨s,rfl⟩)
  .have s:=t.own _ k n;rw[l]at s;cases wr<;>cases z<;>simp only[MemAct.ofEvent,MemAct.touch?,cw,reduceCtorEq]at d
   all_goals(subst d;exact .inl s)
 |mark m=>
  have o:=I (jU _ m) (by rw[hex];rfl);rw[hex];simp only[cz,cX]at o⊢;generalize jU _ m=m' at o⊢;cases m' with
  |noRoom=>exact⟨λx d=>by simp[MemAct.ofEvent,MemAct.touch?]at d,trivial,by simp⟩
  |extern f=>exact⟨λx d=>by simp[MemAct.ofEvent,MemAct.touch?]at d,trivial,by simp⟩
  |_=>cases o
 |output=>rw[hex];refine⟨λx d h=>?_,trivial,by simp[cz,cX]⟩;simp only[cz,cX,MemAct.ofEvent,MemAct.touch?,cw]at d;subst d;cases h
 |goroutines=>rw[hex];refine⟨λx d h=>?_,trivial,by simp[cz,cX]⟩;simp only[cz,cX,MemAct.ofEvent,MemAct.touch?,cw]at d;subst d;cases h
def a2t(hP:C.P=⟨T,F'⟩)(V:C.B0<=C.r/\C.B0<=C.tb)(tw:Twin T F F' E)(W:Twin T F F (λ_=>False))(cT:ib T F)(Y:∀q,E q->∃fn s,F[q]?=some fn/\fn.body=some (.refuse s)){Stop}(av:∀fr gs w,Stop fr gs w->fr.mode=.returning){i A X}{Q:aa->Prop}(hQ:∀v n,Q v->(∀c,X c->n.heap[c]?=v.heap[c]?)->Q n){d}(I:∀fr gs w D aj v J o O,Stop fr gs w->dS T Z K cs D aj w v fr gs J o->ua C X Z D aj O->C.Shape v->C.Own O v->Q v->C.fh i A O d (an J o) v){fr gs w}(ab:Fin ⟨T,F⟩ (aB ⟨T,F⟩) Stop fr gs w):∀D aj v J o O,dS T Z K cs D aj w v fr gs J o->ua C X Z D aj O->C.Shape v->C.Own O v->Q v->C.fh i A O d (an J o) v:=by
 induction ab with
 |stop hs=>intro D aj v J o O R j hv u L;exact I _ _ _ _ _ _ _ _ _ hs R j hv u L
 | @step fr gs w nf ng nw ne h aP ih=>
  intro D aj v J o O R j hv u L;refine qL rfl λn l=>?_;have ad:∀b,D b->n.heap[aj b]?=v.heap[aj b]? :=λb k=>by
   by_cases m:Z b
   .have:=(j.old b k m).1;rw[l.shape.old _ this,hv.old _ this]
   .exact l.own _ (j.own b k m)
  have R':=R.frame l.size ad (congrArg Prod.fst (l.shape.os.trans hv.os.symm):);obtain⟨D',t,v1,ba,ae,y,hq,R2,f,z,M,a,ag,bb,B,bd,N⟩:=Jr (main:=false) tw W cT Y av (h n.tape n.drawn) (aP n.tape n.drawn) R';have al:ua C X Z D' t (a5O O n.heap.size v1.heap.size):=by
   refine⟨λb k m=>?_,λb k m=>?_,λb m=>(f b (j.zd b m)).1,λb k hx=>?_,λc p=>.inl (j.xo c p)⟩
   .have H:=j.zd b m;rw[(f b H).2];exact j.old b H m
   .rcases z b k with H|hn
    .rw[(f b H).2];exact .inl (j.own b H m)
    .obtain⟨x',_,R3⟩:=R2;exact .inr ⟨hn,R3.heap.fO b k⟩
   .rcases z b k with H|hn
    .exact j.off b H (by rw[<-(f b H).2];exact hx)
    .have:=(u _ (j.xo _ hx)).2.2.2.2;have:=l.size;omega
  have S:C.r<n.heap.size/\C.tb<n.heap.size:=by obtain⟨_,_,_,_,h1⟩:=l.shape.rb;obtain⟨_,h2,_⟩:=l.shape.tb;exact⟨cP h1,cP h2⟩
  have ao:C.Own (a5O O n.heap.size v1.heap.size) v1:=by
   rintro c (p|⟨h1,h2⟩)
   .have:=u c p;refine⟨this.1,this.2.1,this.2.2.1,this.2.2.2.1,?_⟩;have:=l.size;have:=M;omega
   .have:=l.shape.dl;have:=V.1;exact⟨by omega,by omega,by omega,by omega,h2⟩
  have aq:v1.heap[C.tb]?=n.heap[C.tb]? :=a _ S.2 λb k g=>by apply fx;intro m;have:=u _ (g▸j.own b k m);exact this.2.2.1 rfl
  have bl:C.Shape v1:=by
   refine⟨?_,by rw[aq];exact l.shape.tb,λc p=>?_,(km ag B:oo _=oo _).trans l.shape.os,cG l.shape.dl M⟩
   .rw[a _ S.1 λb k g=>?_]
    .exact l.shape.rb
    .apply fx;intro m;have:=u _ (g▸j.own b k m);exact this.2.1 rfl
   .rw[a c (by omega) λb k g=>?_]
    .exact l.shape.old c p
    .apply fx;intro m;have:=(u _ (g▸j.own b k m)).1;omega
  refine⟨an ae y,v1,ba,by rw[hP];exact hq,⟨M,λc p ar bn=>?_,?_,km ag B,λe he=>?_⟩,?_⟩
  .refine a c p λb k g=>?_;apply fx;intro m;exact ar (g▸j.own b k m)
  .obtain⟨tc,h1,_⟩:=l.shape.tb;exact⟨tc,tc,h1,by rw[aq];exact h1,rfl,λ_ _=>rfl⟩
  .obtain⟨e0,bo,U,au⟩:=bd e he;obtain⟨x',_,R3⟩:=id R2;exact a2r V.1 R3.heap al (λc p=>(ao c p).2.1) U au (N e he)
  .rw[deafBehind_still λe he=>⟨λx=>(by have:=N e he _ x;cases this),λx=>(by have:=N e he _ x;cases this)⟩];refine ih n.tape n.drawn D' t v1 ae y _ R2 al bl ao (hQ _ _ L λc p=>?_);have S:=(u _ (j.xo _ p)).2.2.2.2;rw[a c (by have:=l.size;omega) λb k g=>absurd (g▸p) (j.off b k)];exact l.own _ (j.xo c p)
end
end Go.Mir
end
