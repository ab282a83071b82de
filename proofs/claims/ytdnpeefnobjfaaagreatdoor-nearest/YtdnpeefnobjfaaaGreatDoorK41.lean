import Derived.Test.YtdnpeefnobjfaaaGreatDoorK40
set_option maxRecDepth 100000
set_option maxHeartbeats 4000000
set_option linter.all false
section
namespace Go.Mir
open Go Go.Conc
open Go.ConcN (upd upd_ne upd_same)
section
variable{C:aI}{p:ci C}{s:St}{v v1:aa}{Y t u:bm}{gs:Array aw}{B Z:Nat}
def B9(I:p.Inv Y s gs v t){i}(a:i<C.n){X}{G:Gp}(b:s.G1=.la i\/s.G1=.lb i\/s.G1=.lc i)(c:(X=.la1/\G=.la i)\/(X=.lb1/\G=.lb i)\/(X=.lc1/\G=.lc i)\/((X≠.la1/\X≠.lb1/\X≠.lc1)/\∀k,G≠.la k/\G≠.lb k/\G≠.lc k)):∀k,k<C.n->(upd s.ph i X k=.la1↔G=.la k)/\(upd s.ph i X k=.lb1↔G=.lb k)/\(upd s.ph i X k=.lc1↔G=.lc k):=by refine Hi I.ctl.g1 (λk d=>?_) c;have e: ¬i=k:=λx=>d x.symm;obtain h|h|h:=b<;>rw[h]<;>simp[e]
def WA(q:p.Ok)(y:∀c,C.SB c->c<C.B0)(I:p.Inv Y s gs v t){i}(w:i<s.sp.aU C.n){g sl}(z:gs[C.N0+i]?=some g)(a:s.ph i=.la1)(A:p.LA 1 i (s.cb i) g)(D:Deaf t (C.N0+i)=1)(E:p.TD i (s.own i) v):p.Goes Y s gs v t (C.N0+i) sl:=by
 have b:i<C.n:=bL w (gV I.ctl);have f:s.G1=.la i:=((I.ctl.g1 i b).1).1 a;have F:s.ph i≠.unborn:=by rw[a];decide
 have d:i<s.sp.cB C.n:=I.ctl.cC i b (by rw[a];rfl);have r:s.ph i≠.la2/\s.ph i≠.lb2/\s.ph i≠.lc2:=by rw[a];decide
 have x:C.a1 s=0:=by have:=I.ctl.z1;rw[f]at this;exact this
 let ⟨_,g1,hstep,_,m,g',hQ,hL⟩:=q.la _ _ _ _ A;have j:=hstep v (by rw[Hp.pV I.hp,f];rfl);have l:cnt (λk=>(upd s.ph i .lb1 k).cX) C.n=C.a1 s:=lN (by rw[a];rfl);have o:cnt (λk=>(upd s.ph i .lb1 k).cY) C.n=C.a2 s:=lO (by rw[a];rfl);refine mS q y I w z j ⟨1,a9i,.inr (.inl rfl)⟩ D .lb1 .leaf m (.lb i) s.G2 (λ_ _=>rfl) rfl rfl ?_ (by rw[a];rfl) (by intro h;cases h) (by rw[a];decide) (λH=>⟨q.td _ _ _ _ E H,g',hQ,hL⟩) (.inl ?_)
 .rw[l,o,I.hp.rb,f,x];rfl
 .refine lU I.ctl b F a9j (λe=>by cases e) (λ_=>d) (λh=>?_) (λh=>?_) ?_ ?_ ?_ ?_ ?_ ?_ ?_ ?_
  .decide
  .have:=(I.ctl.shut h i b).1;rw[a]at this;exact absurd this a9j
  .exact B9 I b (.inl f) (.inr (.inl ⟨rfl,rfl⟩))
  .simp_all
  .exact o5 I.ctl.g2 r a9j
  .exact I.ctl.eJ
  .show cnt _ _=0;rw[l];exact x
  .rw[o];exact I.ctl.z2
  .exact CG I.ctl.s1 (by rw[f];simp) (by rw[f];simp) a9i a9i a9i
  .exact I.ctl.s2
def WN(q:p.Ok)(z:∀c,C.SB c->c<C.B0)(I:p.Inv Y s gs v t){i}(x:i<s.sp.aU C.n){g sl}(A:gs[C.N0+i]?=some g)(a:s.ph i=.lb1)(D:p.LB 1 i (s.cb i) g)(E:Deaf t (C.N0+i)=1)(F:p.TD i (s.own i) v):p.Goes Y s gs v t (C.N0+i) sl:=by
 have b:i<C.n:=bL x (gV I.ctl);have f:s.G1=.lb i:=((I.ctl.g1 i b).2.1).1 a;have H:s.ph i≠.unborn:=by rw[a];decide
 have d:i<s.sp.cB C.n:=I.ctl.cC i b (by rw[a];rfl);have w:s.ph i≠.la2/\s.ph i≠.lb2/\s.ph i≠.lc2:=by rw[a];decide
 have y:C.a1 s=0:=by have:=I.ctl.z1;rw[f]at this;exact this
 let ⟨_,g1,hstep,_,m,g',hQ,hL⟩:=q.lb _ _ _ _ D;have j:=hstep v _ (Hp.pV I.hp) (Hp.thaw I.hp 1);have l:cnt (λk=>(upd s.ph i .lc1 k).cX) C.n=C.a1 s:=lN (by rw[a];rfl);have o:cnt (λk=>(upd s.ph i .lc1 k).cY) C.n=C.a2 s:=lO (by rw[a];rfl);refine mS q z I x A j ⟨1,a9i,.inr (.inr (.inl rfl))⟩ E .lc1 .leaf m (.lc i) s.G2 cJ.1 cJ.2.1 cJ.2.2 ?_ (by rw[a];rfl) (by intro h;cases h) (by rw[a];decide) (λJ=>⟨q.td _ _ _ _ F J,g',hQ,hL⟩) (.inl ?_)
 .rw[show(C.ca 1)=⟨C.r,1,none⟩from rfl,gz I.hp.rb,l,o,f,y];simp[aI.fg,Gp.st,Gp.sm]
 .refine lU I.ctl b H a9j (λe=>by cases e) (λ_=>d) (λh=>?_) (λh=>?_) ?_ ?_ ?_ ?_ ?_ ?_ ?_ ?_
  .decide
  .have:=(I.ctl.shut h i b).1;rw[a]at this;exact absurd this a9j
  .exact B9 I b (.inr (.inl f)) (.inr (.inr (.inl ⟨rfl,rfl⟩)))
  .simp_all
  .exact o5 I.ctl.g2 w a9j
  .exact I.ctl.eJ
  .show cnt _ _=0;rw[l];exact y
  .rw[o];exact I.ctl.z2
  .exact CG I.ctl.s1 (by rw[f];simp) (by rw[f];simp) a9i a9i a9i
  .exact I.ctl.s2
def WP(A:p.Ok)(L:∀c,C.SB c->c<C.B0)(I:p.Inv Y s gs v t){i}(H:i<s.sp.aU C.n){g sl}(M:gs[C.N0+i]?=some g)(a:s.ph i=.lc1)(N:p.LC 1 i (s.cb i) g)(O:Deaf t (C.N0+i)=1)(P:p.TD i (s.own i) v):p.Goes Y s gs v t (C.N0+i) sl:=by
 have b:i<C.n:=bL H (gV I.ctl);have j:s.G1=.lc i:=((I.ctl.g1 i b).2.2).1 a;have Q:s.ph i≠.unborn:=by rw[a];decide
 have D:i<s.sp.cB C.n:=I.ctl.cC i b (by rw[a];rfl);have E:s.ph i≠.la2/\s.ph i≠.lb2/\s.ph i≠.lc2:=by rw[a];decide
 have J:C.a1 s=0:=by have:=I.ctl.z1;rw[j]at this;exact this
 let ⟨_,hmw,g1,hr1,hstep,hone,hfour⟩:=A.lc _ _ _ _ N;have d:=hstep v _ (Hp.AP I.hp) (Hp.thaw I.hp 2);have l:IntKind.u32.wrap (s.G1.sm+1)=1:=by rw[j];show IntKind.u32.wrap (0+1)=1;decide
 rw[l]at d;have o:cnt (λk=>(upd s.ph i .dP k).cX) C.n=C.a1 s:=lN (by rw[a];rfl);have w:cnt (λk=>(upd s.ph i .dP k).cY) C.n=C.a2 s:=lO (by rw[a];rfl);have x:s.sp=.sa false\/s.sp=.sb false:=by have:=I.ctl.s1;rw[j]at this;unfold SP.jH at this;split at this<;>rename_i h<;>first|exact .inl h|exact .inr h|cases this
 let ⟨ρ,hρ⟩:=hone rfl (s.own i) (v.setCell (C.ca 2) (.int .u32 1)) (La I.hp I.cls 1) (vQ I.cls cJ.2.1 i) (A.td _ _ _ _ P (ya I.cls (La I.hp I.cls 1) cJ.2.1 cJ.1 i));refine mS A L I H M d ⟨2,a9i,.inr (.inr (.inr rfl))⟩ O .dP ρ 0 .rel s.G2 cJ.1 cJ.2.1 cJ.2.2 ?_ (by rw[a];rfl) (by intro h;cases h) (by rw[a];decide) (λ_=>hρ) ?_
 .rw[show(C.ca 2)=⟨C.r,2,none⟩from rfl,gz I.hp.rb,o,w,j,J];simp[aI.fg,Gp.st,Gp.sm]
 .have f:∀s0:St,C.dJ s0->s0.ph=s.ph->s0.G1=s.G1->s0.G2=s.G2->s0.sp=.sa false->s0.q=s.q->s0.rk=s.rk->s0.cb=s.cb->s0.cls=s.cls->C.dJ {s0 with ph:=upd s0.ph i .dP,rk:=upd s.rk i ρ,q:=upd s.q (C.N0+i) 0,G1:=.rel,G2:=s0.G2}:=by
   intro s0 K y R F z S T U V;refine lU K b (by rw[y];exact Q) a9j (λe=>by cases e) (λ_=>by rw[z];exact b) (λh=>?_) (λh=>?_) ?_ ?_ ?_ ?_ ?_ ?_ ?_ ?_
   .rw[z]at h;decide
   .rw[z]at h;decide
   .rw[y];exact B9 I b (.inr (.inr j)) (.inr (.inr (.inr ⟨a9j,λk=>a9i⟩)))
   .simp_all
   .rw[y,F];exact o5 I.ctl.g2 E a9j
   .rw[F];exact I.ctl.eJ
   .show cnt _ _=0;rw[y,o];exact J
   .rw[y,w,F];exact I.ctl.z2
   .rw[z];exact⟨a9i,a9i⟩
   .exact K.s2
  obtain h|h:=x
  .exact .inl (f s I.ctl rfl rfl rfl h rfl rfl rfl rfl)
  .exact .inr ⟨hmw,hr1,false,h,f (s.cD false) (xl I.ctl h) rfl rfl rfl rfl rfl rfl rfl rfl⟩
def Ca(I:p.Inv Y s gs v t){i}(a:i<C.n){X}{G:Gp}(b:s.G2=.la i\/s.G2=.lb i\/s.G2=.lc i)(c:(X=.la2/\G=.la i)\/(X=.lb2/\G=.lb i)\/(X=.lc2/\G=.lc i)\/((X≠.la2/\X≠.lb2/\X≠.lc2)/\∀k,G≠.la k/\G≠.lb k/\G≠.lc k)):∀k,k<C.n->(upd s.ph i X k=.la2↔G=.la k)/\(upd s.ph i X k=.lb2↔G=.lb k)/\(upd s.ph i X k=.lc2↔G=.lc k):=by refine Hj I.ctl.g2 (λk d=>?_) c;have e: ¬i=k:=λx=>d x.symm;obtain h|h|h:=b<;>rw[h]<;>simp[e]
def WB(q:p.Ok)(y:∀c,C.SB c->c<C.B0)(I:p.Inv Y s gs v t){i}(w:i<s.sp.aU C.n){g sl}(z:gs[C.N0+i]?=some g)(a:s.ph i=.la2)(A:p.LA 4 i (s.cb i) g)(D:Deaf t (C.N0+i)=1)(E:p.TD i (s.own i) v):p.Goes Y s gs v t (C.N0+i) sl:=by
 have b:i<C.n:=bL w (gV I.ctl);have f:s.G2=.la i:=((I.ctl.g2 i b).1).1 a;have F:s.ph i≠.unborn:=by rw[a];decide
 have d:i<s.sp.cB C.n:=I.ctl.cC i b (by rw[a];rfl);have r:s.ph i≠.la1/\s.ph i≠.lb1/\s.ph i≠.lc1:=by rw[a];decide
 have x:C.a2 s=0:=by have:=I.ctl.z2;rw[f]at this;exact this
 let ⟨_,g1,hstep,_,m,g',hQ,hL⟩:=q.la _ _ _ _ A;have j:=hstep v (by rw[Hp.pW I.hp,f];rfl);have l:cnt (λk=>(upd s.ph i .lb2 k).cY) C.n=C.a2 s:=lO (by rw[a];rfl);have o:cnt (λk=>(upd s.ph i .lb2 k).cX) C.n=C.a1 s:=lN (by rw[a];rfl);refine mS q y I w z j ⟨4,a9i,.inr (.inl rfl)⟩ D .lb2 .leaf m s.G1 (.lb i) (λ_ _=>rfl) rfl rfl ?_ (by rw[a];rfl) (by intro _;rw[a];rfl) (by rw[a];decide) (λH=>⟨q.td _ _ _ _ E H,g',hQ,hL⟩) (.inl ?_)
 .rw[l,o,I.hp.rb,f,x];rfl
 .refine lU I.ctl b F a9j (λe=>by cases e) (λ_=>d) (λh=>?_) (λh=>?_) ?_ ?_ ?_ ?_ ?_ ?_ ?_ ?_
  .have:=I.ctl.opened h i b;rw[a]at this;exact absurd this a9j
  .decide
  .exact oZ I.ctl.g1 r a9j
  .exact I.ctl.eI
  .exact Ca I b (.inl f) (.inr (.inl ⟨rfl,rfl⟩))
  .simp_all
  .rw[o];exact I.ctl.z1
  .show cnt _ _=0;rw[l];exact x
  .exact I.ctl.s1
  .exact CH I.ctl.s2 (by rw[f];simp) (by rw[f];simp) a9i a9i a9i
def WO(q:p.Ok)(z:∀c,C.SB c->c<C.B0)(I:p.Inv Y s gs v t){i}(x:i<s.sp.aU C.n){g sl}(A:gs[C.N0+i]?=some g)(a:s.ph i=.lb2)(D:p.LB 4 i (s.cb i) g)(E:Deaf t (C.N0+i)=1)(F:p.TD i (s.own i) v):p.Goes Y s gs v t (C.N0+i) sl:=by
 have b:i<C.n:=bL x (gV I.ctl);have f:s.G2=.lb i:=((I.ctl.g2 i b).2.1).1 a;have H:s.ph i≠.unborn:=by rw[a];decide
 have d:i<s.sp.cB C.n:=I.ctl.cC i b (by rw[a];rfl);have w:s.ph i≠.la1/\s.ph i≠.lb1/\s.ph i≠.lc1:=by rw[a];decide
 have y:C.a2 s=0:=by have:=I.ctl.z2;rw[f]at this;exact this
 let ⟨_,g1,hstep,_,m,g',hQ,hL⟩:=q.lb _ _ _ _ D;have j:=hstep v _ (Hp.pW I.hp) (Hp.thaw I.hp 4);have l:cnt (λk=>(upd s.ph i .lc2 k).cY) C.n=C.a2 s:=lO (by rw[a];rfl);have o:cnt (λk=>(upd s.ph i .lc2 k).cX) C.n=C.a1 s:=lN (by rw[a];rfl);refine mS q z I x A j ⟨4,a9i,.inr (.inr (.inl rfl))⟩ E .lc2 .leaf m s.G1 (.lc i) cJ.1 cJ.2.1 cJ.2.2 ?_ (by rw[a];rfl) (by intro _;rw[a];rfl) (by rw[a];decide) (λJ=>⟨q.td _ _ _ _ F J,g',hQ,hL⟩) (.inl ?_)
 .rw[show(C.ca 4)=⟨C.r,4,none⟩from rfl,gz I.hp.rb,l,o,f,y];simp[aI.fg,Gp.st,Gp.sm]
 .refine lU I.ctl b H a9j (λe=>by cases e) (λ_=>d) (λh=>?_) (λh=>?_) ?_ ?_ ?_ ?_ ?_ ?_ ?_ ?_
  .have:=I.ctl.opened h i b;rw[a]at this;exact absurd this a9j
  .decide
  .exact oZ I.ctl.g1 w a9j
  .exact I.ctl.eI
  .exact Ca I b (.inr (.inl f)) (.inr (.inr (.inl ⟨rfl,rfl⟩)))
  .simp_all
  .rw[o];exact I.ctl.z1
  .show cnt _ _=0;rw[l];exact y
  .exact I.ctl.s1
  .exact CH I.ctl.s2 (by rw[f];simp) (by rw[f];simp) a9i a9i a9i
def WQ(A:p.Ok)(L:∀c,C.SB c->c<C.B0)(I:p.Inv Y s gs v t){i}(H:i<s.sp.aU C.n){g sl}(M:gs[C.N0+i]?=some g)(a:s.ph i=.lc2)(N:p.LC 4 i (s.cb i) g)(O:Deaf t (C.N0+i)=1)(P:p.TD i (s.own i) v):p.Goes Y s gs v t (C.N0+i) sl:=by
 have b:i<C.n:=bL H (gV I.ctl);have j:s.G2=.lc i:=((I.ctl.g2 i b).2.2).1 a;have Q:s.ph i≠.unborn:=by rw[a];decide
 have D:i<s.sp.cB C.n:=I.ctl.cC i b (by rw[a];rfl);have E:s.ph i≠.la1/\s.ph i≠.lb1/\s.ph i≠.lc1:=by rw[a];decide
 have J:C.a2 s=0:=by have:=I.ctl.z2;rw[j]at this;exact this
 let ⟨_,hmw,g1,hr1,hstep,hone,hfour⟩:=A.lc _ _ _ _ N;have d:=hstep v _ (Hp.AR I.hp) (Hp.thaw I.hp 5);have l:IntKind.u32.wrap (s.G2.sm+1)=1:=by rw[j];show IntKind.u32.wrap (0+1)=1;decide
 rw[l]at d;have o:cnt (λk=>(upd s.ph i .leave k).cY) C.n=C.a2 s:=lO (by rw[a];rfl);have w:cnt (λk=>(upd s.ph i .leave k).cX) C.n=C.a1 s:=lN (by rw[a];rfl);have x:s.sp=.sa true\/s.sp=.sb true:=by have:=I.ctl.s2;rw[j]at this;unfold SP.lj at this;split at this<;>rename_i h<;>first|exact .inl h|exact .inr h|cases this
 let ⟨q,hq⟩:=hfour rfl;refine mS A L I H M d ⟨5,a9i,.inr (.inr (.inr rfl))⟩ O .leave .leaf q s.G1 .rel cJ.1 cJ.2.1 cJ.2.2 ?_ (by rw[a];rfl) (λ_=>by rw[a];rfl) (by rw[a];decide) (λR=>⟨A.td _ _ _ _ P R,hq⟩) ?_
 .rw[show(C.ca 5)=⟨C.r,5,none⟩from rfl,gz I.hp.rb,o,w,j,J];simp[aI.fg,Gp.st,Gp.sm]
 .have f:∀s0:St,C.dJ s0->s0.ph=s.ph->s0.G1=s.G1->s0.G2=s.G2->s0.sp=.sa true->s0.q=s.q->s0.rk=s.rk->s0.cb=s.cb->s0.cls=s.cls->C.dJ {s0 with ph:=upd s0.ph i .leave,rk:=upd s.rk i .leaf,q:=upd s.q (C.N0+i) q,G1:=s0.G1,G2:=.rel}:=by
   intro s0 K y F S z T U V W;refine lU K b (by rw[y];exact Q) a9j (λe=>by cases e) (λ_=>by rw[z];exact b) (λh=>?_) (λh=>?_) ?_ ?_ ?_ ?_ ?_ ?_ ?_ ?_
   .rw[z]at h;cases h
   .rw[z]at h;decide
   .rw[y,F];exact oZ I.ctl.g1 E a9j
   .rw[F];exact I.ctl.eI
   .rw[y];exact Ca I b (.inr (.inr j)) (.inr (.inr (.inr ⟨a9j,λk=>a9i⟩)))
   .simp_all
   .rw[y,w,F];exact I.ctl.z1
   .show cnt _ _=0;rw[y,o];exact J
   .exact K.s1
   .rw[z];exact⟨a9i,a9i⟩
  obtain h|h:=x
  .exact .inl (f s I.ctl rfl rfl rfl h rfl rfl rfl rfl)
  .exact .inr ⟨hmw,hr1,true,h,f (s.cD true) (xl I.ctl h) rfl rfl rfl rfl rfl rfl rfl rfl⟩
end
section
variable{P:aA}{gs:Array aw}{w:aa}{sl:Option (Nat×Nat)}{j c dc cap k2 s r s2 r2:Nat}{g g₂:aw}{es:Array aT}{x z zd:aj}{tm m2:Bool}{buf:Array aj}
def a3q(d:gs[j]?=some g)(h:stepG P (j==0) g w=.comm g₂ #[rcase c z,rcase dc zd] true .select w #[])(e:w.heap[c]?=some (.chan cap #[x] false s r tm))(f:w.heap[dc]?=some (.chan k2 #[] false s2 r2 m2))(a:partners (gs.setIfInBounds j Conc.ph) c true=[])(b:partners (gs.setIfInBounds j Conc.ph) dc true=[]):runT P (crowd gs w sl) j=(.next (crowd (gs.setIfInBounds j (g₂.finishComm P #[rcase c z,rcase dc zd] .select 0 x true)) (w.setChan c cap #[] false s (r+1) tm) sl),#[{g:=j,fn:=g₂.frame.fn,pos:=g₂.frame.place,act:=.recv c r cap},{g:=j,fn:=g₂.frame.fn,pos:=g₂.frame.place,act:=.recvDone c r}]):=by rw[runT_crowd_comm d h];simp[communicate,ways,rcase,e,f,a,b,choose,Sem.run,Question.forced,World.setChan,crowd,MemOp.ofEvents]
def a3p(d:gs[j]?=some g)(h:stepG P (j==0) g w=.comm g₂ #[rcase c z,rcase dc zd] true .select w #[])(e:w.heap[c]?=some (.chan cap #[] false s r tm))(f:w.heap[dc]?=some (.chan k2 #[] true s2 r2 m2))(a:partners (gs.setIfInBounds j Conc.ph) c true=[])(b:partners (gs.setIfInBounds j Conc.ph) dc true=[]):runT P (crowd gs w sl) j=(.next (crowd (gs.setIfInBounds j (g₂.finishComm P #[rcase c z,rcase dc zd] .select 1 zd false)) w sl),#[{g:=j,fn:=g₂.frame.fn,pos:=g₂.frame.place,act:=.recvClosed dc}]):=by rw[runT_crowd_comm d h];simp[communicate,ways,rcase,e,f,a,b,choose,Sem.run,Question.forced,crowd,MemOp.ofEvents]
def Ky(b:gs[j]?=some g)(h:stepG P (j==0) g w=.comm g₂ #[rcase c z,rcase dc zd] true .select w #[])(d:w.heap[c]?=some (.chan cap #[] false s r tm))(e:w.heap[dc]?=some (.chan k2 #[] false s2 r2 m2))(f:partners (gs.setIfInBounds j Conc.ph) c true=[])(i:partners (gs.setIfInBounds j Conc.ph) dc true=[]):runT P (crowd gs w sl) j=(.next (crowd (gs.setIfInBounds j (parked g₂ #[rcase c z,rcase dc zd] .select)) w sl),#[]):=by
 have:=crowd_waits (sl:=sl) b h (λk a=>by
  simp at a;obtain rfl|rfl:=a
  .exact⟨made_recv z d,by grind[ways,rcase]⟩
  .exact⟨made_recv zd e,by grind[ways,rcase]⟩)
 grind[MemOp.ofEvents]
end
section
variable{C:aI}{p:ci C}{s s':St}{v v1:aa}{t0 t u:bm}{gs:Array aw}{B B':Nat}
theorem a3R(a:p.Ok){d e}(h:p.fX s d e)(r b):offersAt e r b=[]:=by
 unfold ci.fX at h;split at h
 .rename_i A D;obtain⟨E,n,f,rfl⟩:=h;obtain⟨_,o,_⟩:=a.sa _ _ f;simp[offersAt,o]
 .obtain⟨n,q,i⟩:=h;have l:e.status=.running:=by
   apply mP q;revert i;cases y:s.sp with
   |mk k=>exact λh=>(a.vD _ _ h).1
   |go k=>exact λh=>(a.go _ _ _ h).1
   |snd k=>exact λh=>(a.sn _ _ _ h).1
   |lw b=>exact λh=>(a.lw _ _ h).1
   |ca b m=>exact λh=>(a.ca _ _ _ h).1
   |sa b=>exact λh=>(a.sa _ _ h).1
   |sb b=>simp_all
   |ld b=>exact λh=>(a.ld _ _ h).1
   |aq b=>exact λh=>(a.aq _ _ h).1
   |cl=>exact λh=>(a.cl _ h).1
  grind[offersAt_of_not_blocked]
def ws(I:p.Inv t0 s gs v t){j g}(h:gs[j]?=some g):(j=0/\p.fX s (Deaf t 0) g)\/(0<j/\j<C.N0/\QuitsD C.P (s.q j) (Deaf t j) g)\/∃i,j=C.N0+i/\i<s.sp.aU C.n/\i<C.n/\p.fa i (s.cb i) (s.ph i) (s.rk i) (s.q (C.N0+i)) (s.own i) (Deaf t (C.N0+i)) g v:=by
 have b:j<gs.size:=(bz.1 h).1;rw[I.size]at b;obtain rfl|a:=kN j
 .let ⟨g0,h0,hS⟩:=I.start;rw[h]at h0;simp_all
 .by_cases e:j<C.N0
  .exact .inr (.inl ⟨a,e,I.elder j g a e h⟩)
  .obtain⟨i,rfl⟩:∃i,j=C.N0+i:=⟨j - C.N0,a9h⟩;have d:i<s.sp.aU C.n:=a9h
   exact .inr (.inr ⟨i,rfl,d,bL d (gV I.ctl),I.work i g d h⟩)
def o7(d:p.Ok)(I:p.Inv t0 s gs v t)(j r):partners (gs.setIfInBounds j Conc.ph) r true=[]:=by
 refine partners_nil λk g b=>?_;obtain⟨_,rfl⟩|⟨_,b⟩:=getElem?_stand gs j k g b
 .rfl
 .rcases ws I b with⟨_,l⟩|⟨_,_,e⟩|⟨i,_,_,_,f⟩
  .grind[a3R]
  .refine offersAt_of_not_blocked ?_ _ _;obtain h|h:=e.status<;>rw[h]<;>simp
  .rcases pz d f with⟨_,n,rfl⟩|⟨_,h|⟨_,h⟩⟩
   .exact offersAt_parked_sends (λo a=>by
     simp[ci.cases]at a;obtain rfl|rfl:=a<;>rfl) _
   all_goals grind[offersAt_of_not_blocked]
def yv(N:p.Ok)(I:p.Inv t0 s gs v t){i}(O:i<s.sp.aU C.n){g g' sl}(Q:gs[C.N0+i]?=some g)(f:runT C.P (crowd gs v sl) (C.N0+i)=(.next (crowd (gs.setIfInBounds (C.N0+i) g') v1 sl),u))(l:∀b∈u,b.g=C.N0+i/\b.act.touch?=none/\b.act.low v1.heap.size/\∀m,b.act≠.mark m)(X ρ m)(R:p.fa i (s.cb i) X ρ m (s.own i) (Deaf t (C.N0+i)) g' v1)(F:∀k,k≠i->C.Fr k (s.own k) v v1)(H:p.Hp {s with ph:=upd s.ph i X,rk:=upd s.rk i ρ,q:=upd s.q (C.N0+i) m} v1)(S:v1.heap.size=v.heap.size)(o:C.dJ {s with ph:=upd s.ph i X,rk:=upd s.rk i ρ,q:=upd s.q (C.N0+i) m})(T:X.said=true->(s.ph i).said=true)(y:X.num<(s.ph i).num):p.Goes t0 s gs v t (C.N0+i) sl:=by
 have U:i<C.n:=bL O (gV I.ctl);have A:=I.pos;have J:C.N0+i<gs.size:=(bz.1 Q).1;have E:∀j,Deaf (t++u) j=Deaf t j:=λj=>up λb a=>⟨(l b a).2.2.2 _,(l b a).2.2.2 _⟩;have D:C.dx {s with ph:=upd s.ph i X,rk:=upd s.rk i ρ,q:=upd s.q (C.N0+i) m} v1.heap.size:=by rw[S];exact nC I.cls rfl rfl rfl
 refine⟨_,_,_,{s with ph:=upd s.ph i X,rk:=upd s.rk i ρ,q:=upd s.q (C.N0+i) m},f,⟨A,by simpa using I.size,?_,?_,?_,?_,H,D,o,?_⟩,?_⟩
 .obtain⟨V,h0,W⟩:=I.start;refine⟨V,by rw[dw a9h];exact h0,?_⟩;rw[E];exact DJ rfl rfl rfl W
 .intro j x h0 Y d;rw[dw a9h]at d;show QuitsD C.P (upd s.q (C.N0+i) m j) _ _;rw[E,upd_ne _ _ a9h];exact I.elder j x h0 Y d
 .intro k x K d;rw[E];show p.fa k (s.cb k) (upd s.ph i X k) (upd s.rk i ρ k) (upd s.q (C.N0+i) m (C.N0+k)) (s.own k) _ _ _;by_cases e:k=i
  .subst e;rw[lG J]at d;obtain rfl:=db d;rw[upd_same,upd_same,upd_same];exact R
  .rw[dw a9h]at d;rw[upd_ne _ _ e,upd_ne _ _ e,upd_ne _ _ a9h];exact rn N (I.work k x K d) (F k e)
 .intro j Z;rw[E];exact I.above j (by simp_all)
 .refine tJ I.gi a9h rfl (λ_ _ h=>h) (λb a=>(l b a).2.1) (λb a=>by rw[(l b a).1];omega) (λb a=>(l b a).2.2.1) (λb a=>(l b a).2.2.2 _) (λk K d=>?_);refine mR I.gi K ?_ λb a _=>(l b a).2.1;have d:(upd s.ph i X k).said=true:=d
  grind[upd_same,upd_ne]
 .refine .inl (sj (i:=C.N0+i) a9h ?_ λj Z=>?_)
  .have L: ¬(C.N0+i<C.N0):=a9h
   have M:C.N0+i - C.N0=i:=a9h
   simp[aI.dM,L,upd_same];exact .num y
  .unfold aI.dM;by_cases ab:j<C.N0
   .simp_all[upd_ne]
   .have:j - C.N0≠i:=a9h
    simp_all[upd_ne]
def xh{c cap buf cl s1 r1 tm o}(h:v.heap[c]?=some o):(v.setChan c cap buf cl s1 r1 tm).heap[c]?=some (.chan cap buf cl s1 r1 tm):=by simp[World.setChan,cV h]
def kS{c c' cap buf cl s1 r1 tm}(h:c'≠c):(v.setChan c cap buf cl s1 r1 tm).heap[c']?=v.heap[c']? :=by have: ¬c=c':=λe=>h e.symm;simp[World.setChan,this]
def AO(a:C.dx s B){i k}(b:i<s.sp.made C.n)(d:k<s.sp.made C.n)(h:s.cb i=s.cb k):i=k:=by have e:=a.ch i b;have f:=a.ch k d;rw[h,f]at e;simp_all
def uj(a:C.dx s B){i}(b:i<s.sp.made C.n):s.cb i≠C.r/\s.cb i≠C.tb/\s.cb i≠C.dc:=by
 obtain⟨f,h,k⟩:=a.sh;have d:=a.ch i b;refine⟨λe=>?_,λe=>?_,λe=>?_⟩<;>rw[e]at d
 all_goals simp_all
def vr{i}(a:i<s.sp.aU C.n):i<s.sp.made C.n:=by revert a;cases s.sp<;>simp[SP.aU,SP.made]<;>omega
def xZ(a:p.Hp s v)(d:C.dx s v.heap.size){i}(f:i<s.sp.made C.n){cap buf cl s1 r1 tm}:C.Shape (v.setChan (s.cb i) cap buf cl s1 r1 tm)/\∀k,C.Fr k (s.own k) v (v.setChan (s.cb i) cap buf cl s1 r1 tm):=by
 obtain⟨q,h,y⟩:=uj d f;have l:C.Shape (v.setChan (s.cb i) cap buf cl s1 r1 tm):=by refine⟨⟨_,_,_,_,by rw[kS q.symm];exact a.rb⟩,by rw[kS h.symm];exact a.tb,λc b=>?_,a.os,by simpa[World.setChan]using cV a.dc⟩;rw[kS λe=>by have:=d.ch i f;rw[<-e,d.old c b]at this;cases this];exact a.old c b
 refine⟨l,λk=>yb l (by simp[World.setChan]) (λc b=>kS λe=>?_) (kS h.symm)⟩;have o:s.cls c=.wk k:=b;rw[e,d.ch i f]at o;cases o
end
section
variable{C:aI}{p:ci C}{s s':St}{v Y:aa}{V t u:bm}{gs:Array aw}{B W:Nat}
def vc(h:p.Hp s v){i X rk q}(b:X.cX=(s.ph i).cX)(c:X.cY=(s.ph i).cY)(j:X.cC=(s.ph i).cC):p.Hp {s with ph:=upd s.ph i X,rk:=rk,q:=q} v:=by
 obtain⟨d,e,f,a,g,l⟩:=h;refine⟨?_,e,f,a,g,λk o=>?_⟩
 .show v.heap[C.r]?=some (C.fg (s.G1.st (cnt _ C.n)) _ (s.G2.st (cnt _ C.n)) _);rw[show cnt (λk=>(upd s.ph i X k).cX) C.n=C.a1 s from lN b,show cnt (λk=>(upd s.ph i X k).cY) C.n=C.a2 s from lO c];exact d
 grind[upd_same,upd_ne]
def un(h:C.dJ s){i}(f:i<C.n){X rk q}(h0:s.ph i≠.unborn)(g:X≠.unborn)(b:X=.park1->s.sp.cB C.n<=i)(c:X.cC=true->i<s.sp.cB C.n)(d:s.sp.closed=false->7<=X.num)(e:s.sp.closed=true->X.num<=8/\X≠.park2)(a:((s.ph i≠.la1/\s.ph i≠.lb1/\s.ph i≠.lc1)/\X≠.la1/\X≠.lb1/\X≠.lc1)/\(s.ph i≠.la2/\s.ph i≠.lb2/\s.ph i≠.lc2)/\X≠.la2/\X≠.lb2/\X≠.lc2)(j:X.cX=(s.ph i).cX)(k:X.cY=(s.ph i).cY):C.dJ {s with ph:=upd s.ph i X,rk:=rk,q:=q}:=
 lU (cls:=s.cls) h f h0 g b c d e (oZ h.g1 a.1.1 a.1.2) h.eI (o5 h.g2 a.2.1 a.2.2) h.eJ (by rw[lN j];exact h.z1) (by rw[lO k];exact h.z2) h.s1 h.s2
def a3o(j:p.Ok)(I:p.Inv V s gs v t){i}(y:i<s.sp.aU C.n){g sl}(z:gs[C.N0+i]?=some g)(a:s.ph i=.ready)(F:p.S1 i (s.cb i) g)(H:Deaf t (C.N0+i)=0):p.Goes V s gs v t (C.N0+i) sl:=by
 have l:i<C.n:=bL y (gV I.ctl);have J:=I.pos;have D:(C.N0+i==0)=false:=by grind
 have K:s.ph i≠.unborn:=by rw[a];decide
 have d:=vr y;have o:s.sp.closed=false:=by
  cases e:s.sp.closed with
  |false=>rfl
  |true=>have:=(I.ctl.shut e i l).1;rw[a]at this;exact absurd this a9j
 have q:=I.hp.dc;rw[o]at q;have c:=I.hp.ch i d;let ⟨_,hstep,hway⟩:=j.s1 _ _ _ F;let ⟨n1,n2,n3⟩:=uj I.cls d;have f:stepG C.P (C.N0+i==0) g v=.comm g #[rcase (s.cb i) p.zT,rcase C.dc p.zD] true .select v #[]:=by rw[D];exact hstep v
 by_cases A:i<s.sp.cB C.n
 .have E:(s.ph i).cC=false:=by rw[a];rfl
  simp[A,E]at c;have b:=a3q (sl:=sl) z f c q (o7 j I _ _) (o7 j I _ _);let ⟨hsh,hfr⟩:=xZ I.hp I.cls d (cap:=1) (buf:=#[]) (cl:=false) (s1:=1) (r1:=0+1) (tm:=false);let ⟨ρ,hρ⟩:=hway (s.own i) _ hsh (vQ I.cls (by simp[World.setChan]) i);refine yv j I y z b (λM w=>?_) .work ρ 0 (by rw[H];exact hρ) (λk _=>hfr k) ?_ (by simp[World.setChan]) ?_ (by intro h;cases h) (by rw[a];decide)
  .simp at w;have x:s.cb i<(v.setChan (s.cb i) 1 #[] false 1 (0+1) false).heap.size:=by grind[World.setChan]
   obtain rfl|rfl:=w
   .exact⟨rfl,rfl,x,λm=>a9i⟩
   .exact⟨rfl,rfl,x,λm=>a9i⟩
  .refine⟨?_,?_,?_,hsh.old,hsh.os,λk L=>?_⟩
   .rw[kS n1.symm];show v.heap[C.r]?=some (C.fg (s.G1.st (cnt _ C.n)) _ (s.G2.st (cnt _ C.n)) _);rw[show cnt (λk=>(upd s.ph i .work k).cX) C.n=C.a1 s from lN (by rw[a];rfl),show cnt (λk=>(upd s.ph i .work k).cY) C.n=C.a2 s from lO (by rw[a];rfl)];exact I.hp.rb
   .exact hsh.tb
   .rw[kS n3.symm];simp_all
   .show(v.setChan _ _ _ _ _ _ _).heap[s.cb k]?=some (if k<s.sp.cB C.n then (if (upd s.ph i .work k).cC then _ else _)else _);by_cases e:k=i
    .subst e;rw[xh c,upd_same,if_pos A];rfl
    .rw[kS λh=>e (AO I.cls L d h),upd_ne _ _ e];exact I.hp.ch k L
  .exact un I.ctl l K a9j (λe=>by cases e) (λ_=>A) (λ_=>a9j) (λh=>by rw[o]at h;cases h) (by rw[a];decide) (by rw[a];rfl) (by rw[a];rfl)
 .simp[A]at c;have b:=Ky (sl:=sl) z f c q (o7 j I _ _) (o7 j I _ _);refine yv j I y z b (λM w=>by grind) .park1 .leaf 0 ⟨g,F,rfl,H⟩ (λk _=>.refl (gA I.hp)) (vc I.hp (by rw[a];rfl) (by rw[a];rfl) (by rw[a];rfl)) rfl ?_ (by intro h;cases h) (by rw[a];decide);exact un I.ctl l K a9j (λ_=>a9h) (by intro h;cases h) (λ_=>a9j) (λh=>by rw[o]at h;cases h) (by rw[a];decide) (by rw[a];rfl) (by rw[a];rfl)
def Kx(q:p.Ok)(I:p.Inv V s gs v t){i}(D:i<s.sp.aU C.n){g E sl}(F:gs[C.N0+i]?=some g)(a:s.ph i=.dP\/s.ph i=.wok2)(L:p.S2 i (s.cb i) E)(r:∀w,stepG C.P false g w=stepG C.P false E w)(M:Deaf t (C.N0+i)=0)(N:p.TD i (s.own i) v):p.Goes V s gs v t (C.N0+i) sl:=by
 have f:i<C.n:=bL D (gV I.ctl);have O:=I.pos;have H:(C.N0+i==0)=false:=by grind
 have Q:s.ph i≠.unborn:=by obtain h|h:=a<;>rw[h]<;>decide
 have J:=vr D;have K:i<s.sp.cB C.n:=I.ctl.cC i f (by obtain h|h:=a<;>rw[h]<;>rfl);have x:(s.ph i).cC=true:=by obtain h|h:=a<;>rw[h]<;>rfl
 have c:=I.hp.dc;have y:=I.hp.ch i J;simp[K,x]at y;let ⟨_,hstep,hway⟩:=q.s2 _ _ _ L;have o:stepG C.P (C.N0+i==0) g v=.comm E #[rcase (s.cb i) p.zT,rcase C.dc p.zD] true .select v #[]:=by rw[H,r];exact hstep v
 have j:(s.ph i).cX=false:=by obtain h|h:=a<;>rw[h]<;>rfl
 have l:(s.ph i).cY=true:=by obtain h|h:=a<;>rw[h]<;>rfl
 have R:∀X:Ph,(X≠.la1/\X≠.lb1/\X≠.lc1)/\(X≠.la2/\X≠.lb2/\X≠.lc2)->((s.ph i≠.la1/\s.ph i≠.lb1/\s.ph i≠.lc1)/\X≠.la1/\X≠.lb1/\X≠.lc1)/\(s.ph i≠.la2/\s.ph i≠.lb2/\s.ph i≠.lc2)/\X≠.la2/\X≠.lb2/\X≠.lc2:=λX S=>by obtain h|h:=a<;>rw[h]<;>exact⟨⟨a9j,S.1⟩,a9j,S.2⟩
 cases d:s.sp.closed with
 |true=>
  rw[d]at c;have b:=a3p (sl:=sl) F o y c (o7 q I _ _) (o7 q I _ _);let ⟨ρ,hρ⟩:=hway (s.own i) _ (gA I.hp) (vQ I.cls rfl i) N;refine yv q I D F b (λT z=>?_) .fin ρ 0 (by rw[M];exact hρ) (λk _=>.refl (gA I.hp)) (vc I.hp (by rw[j];rfl) (by rw[l];rfl) (by rw[x];rfl)) rfl ?_ (by intro h;cases h) (by obtain h|h:=a<;>rw[h]<;>decide)
  .simp at z;subst z;exact⟨rfl,rfl,cV c,λm=>a9i⟩
  .exact un I.ctl f Q a9j (λe=>by cases e) (λ_=>K) (λh=>by rw[d]at h;cases h) (λ_=>a9j) (R _ a9j) (by rw[j];rfl) (by rw[l];rfl)
 |false=>
  rw[d]at c;have A:s.ph i=.dP:=by
   obtain h|h:=a
   .exact h
   .have:=I.ctl.opened d i f;rw[h]at this;exact absurd this a9j
  have b:=Ky (sl:=sl) F o y c (o7 q I _ _) (o7 q I _ _);refine yv q I D F b (λT z=>by grind) .park2 .leaf 0 ⟨N,E,L,rfl,M⟩ (λk _=>.refl (gA I.hp)) (vc I.hp (by rw[j];rfl) (by rw[l];rfl) (by rw[x];rfl)) rfl ?_ (by intro h;cases h) (by rw[A];decide);exact un I.ctl f Q a9j (λe=>by cases e) (λ_=>K) (λ_=>a9j) (λh=>by rw[d]at h;cases h) (R _ a9j) (by rw[j];rfl) (by rw[l];rfl)
def a2i(z:p.Ok)(I:p.Inv V s gs v t){i}(A:i<s.sp.aU C.n){g sl}(K:gs[C.N0+i]?=some g)(c:s.ph i=.fin)(L:p.RL i (s.cb i) g)(D:Deaf t (C.N0+i)=0)(M:p.TD i (s.own i) v):p.Goes V s gs v t (C.N0+i) sl:=by
 have l:i<C.n:=bL A (gV I.ctl);have N:s.ph i≠.unborn:=by rw[c];decide
 have O:i<s.sp.cB C.n:=I.ctl.cC i l (by rw[c];rfl);have w:s.sp.closed=true:=by
  cases e:s.sp.closed with
  |true=>rfl
  |false=>have:=I.ctl.opened e i l;rw[c]at this;exact absurd this a9j
 let ⟨_,g1,hstep,_,m,g',hQ,hL⟩:=z.rl _ _ _ L;let s':St:={s with ph:=upd s.ph i .hush,rk:=upd s.rk i .leaf,q:=upd s.q (C.N0+i) m};have d:∀f∈MemOp.ofEvents (C.N0+i) g.frame.fn g.frame.place #[⟨.mark (.releaseMerge (C.ca 4)),false,true⟩],f.g=C.N0+i/\f.act=.mark (.releaseMerge (C.ca 4)):=λf b=>by obtain⟨e,E,rfl⟩:=Go.Conc.mem_ofEvents b;simp at E;subst E;exact⟨rfl,rfl⟩
 have P:=yx (s':=s') (sl:=sl) z I A K (hstep v) (λk o=>⟨upd_ne _ _ o,upd_ne _ _ o⟩) (λj F=>upd_ne _ _ F) rfl (λ_ _=>rfl) rfl rfl
  (by
   show p.fa i (s.cb i) (upd s.ph i .hush i) (upd s.rk i .leaf i) (upd s.q (C.N0+i) m (C.N0+i)) (s.own i) _ _ _;rw[upd_same,upd_same,upd_same,D];exact⟨M,g',hQ,hL⟩) (λk _=>.refl (gA I.hp)) (vc I.hp (by rw[c];rfl) (by rw[c];rfl) (by rw[c];rfl)) (nC I.cls rfl rfl rfl)
  (.inl (un I.ctl l N a9j (λe=>by cases e) (λ_=>O) (λh=>by rw[w]at h;cases h) (λ_=>a9j) (by rw[c];decide) (by rw[c];rfl) (by rw[c];rfl)))
  (tJ (s':=s') I.gi (az _) rfl (λ_ _ h=>h) (λf b=>by rw[(d f b).2];rfl) (λf b=>by rw[(d f b).1];omega) (λf b=>by rw[(d f b).2];exact cV I.hp.rb) (λf b=>by rw[(d f b).2];simp) (λk o r=>by
   have r:(upd s.ph i .hush k).said=true:=r;by_cases e:k=i
   .subst e;refine⟨_,ConcN.RelBy.new D _ _,λj f a F b Q H=>?_⟩;obtain⟨R,_⟩|⟨_,x⟩:=getElem?_append_cases b
    .omega
    .rw[(d f x).2]at H;cases H
   .rw[upd_ne _ _ e]at r;exact mR I.gi o r λf b _=>by rw[(d f b).2];rfl)) ?_
 .grind
 .have y: ¬(C.N0+i<C.N0):=a9h
  have J:C.N0+i - C.N0=i:=a9h
  simp[aI.dM,y,s',upd_same,c];exact .num a9j
def JO{main E m d a g g'}(h:C.Quiet main E m d g a g'):(m=0/\d=a/\g=g')\/∃b es c,m=b+1/\(∀v,C.Shape v->stepG C.P main g v=.go c v es)/\(∀e∈es,E e)/\C.Quiet main E b (deafBehind d es) c a g':=by
 cases h with
 |nil=>simp_all
 |cons es f i j h=>grind
def a6v(E:p.Ok)(F:∀c,C.SB c->c<C.B0)(I:p.Inv V s gs v t){i}(z:i<s.sp.aU C.n){g sl}(D:gs[C.N0+i]?=some g)(x:g.status=.running):p.Goes V s gs v t (C.N0+i) sl:=by
 have b:=I.work i g z D;have quiet:∀{r:aw} {A:aw->Prop},C.Quiet false j5 (s.q (C.N0+i)) (Deaf t (C.N0+i)) g 1 r->A r->p.TD i (s.own i) v->(∀m d g,p.TD i (s.own i) v->C.Quiet false j5 m d g 1 r->p.fa i (s.cb i) (s.ph i) (s.rk i) m (s.own i) d g v)->(A g->Deaf t (C.N0+i)=1->p.Goes V s gs v t (C.N0+i) sl)->p.Goes V s gs v t (C.N0+i) sl:=by
  intro r A y o l N K;obtain⟨_,e,rfl⟩|⟨T,P,U,Q,H,R,J⟩:=JO y
  .exact K o e
  .exact JP E F I z D Q (H v (gA I.hp)) R (N _ _ _ l J)
 cases a:s.ph i with
 |unborn=>rw[a]at b;exact b.elim
 |ready=>
  rw[a]at b;cases j:s.rk i with
  |leaf=>rw[j]at b;exact a3o E I z D a b.1 b.2
  |node f=>rw[j]at b;exact z9 E F I z D j b (λρ O d g v h=>by rw[a];exact h) (by rw[a];rfl)
 |park1=>rw[a]at b;obtain⟨r,_,rfl,_⟩:=b;cases x
 |work=>
  rw[a]at b;cases j:s.rk i with
  |leaf=>rw[j]at b;exact a9M E F I z D a b.1 b.2.1 b.2.2
  |node f=>rw[j]at b;exact z9 E F I z D j b (λρ O d g v h=>by rw[a];exact h) (by rw[a];rfl)
 |la1=>rw[a]at b;obtain⟨l,r,y,o⟩:=b;exact quiet y o l (λm d g e k=>by rw[a];exact⟨e,r,k,o⟩) (λe k=>WA E F I z D a e k l)
 |lb1=>rw[a]at b;obtain⟨l,r,y,o⟩:=b;exact quiet y o l (λm d g e k=>by rw[a];exact⟨e,r,k,o⟩) (λe k=>WN E F I z D a e k l)
 |lc1=>rw[a]at b;obtain⟨l,r,y,o⟩:=b;exact quiet y o l (λm d g e k=>by rw[a];exact⟨e,r,k,o⟩) (λe k=>WP E F I z D a e k l)
 |dP=>
  rw[a]at b;cases j:s.rk i with
  |leaf=>rw[j]at b;exact Kx E I z D (.inl a) b.1 (λ_=>rfl) b.2.1 b.2.2
  |node f=>rw[j]at b;exact z9 E F I z D j b (λρ O d g v h=>by rw[a];exact h) (by rw[a];rfl)
 |park2=>rw[a]at b;obtain⟨_,r,_,rfl,_⟩:=b;cases x
 |wok2=>rw[a]at b;obtain⟨l,r,o,rfl,S⟩:=b;refine Kx E I z D (.inr a) o (λw=>?_) S l;exact stepG_same rfl rfl rfl w
 |fin=>
  rw[a]at b;cases j:s.rk i with
  |leaf=>rw[j]at b;exact a2i E I z D a b.1 b.2.1 b.2.2
  |node f=>rw[j]at b;exact z9 E F I z D j b (λρ O d g v h=>by rw[a];exact h) (by rw[a];rfl)
 |hush=>rw[a]at b;obtain⟨l,r,y,o⟩:=b;exact quiet y o l (λm d g e k=>by rw[a];exact⟨e,r,k,o⟩) (λe k=>Og E F I z D a e k l)
 |la2=>rw[a]at b;obtain⟨l,r,y,o⟩:=b;exact quiet y o l (λm d g e k=>by rw[a];exact⟨e,r,k,o⟩) (λe k=>WB E F I z D a e k l)
 |lb2=>rw[a]at b;obtain⟨l,r,y,o⟩:=b;exact quiet y o l (λm d g e k=>by rw[a];exact⟨e,r,k,o⟩) (λe k=>WO E F I z D a e k l)
 |lc2=>rw[a]at b;obtain⟨l,r,y,o⟩:=b;exact quiet y o l (λm d g e k=>by rw[a];exact⟨e,r,k,o⟩) (λe k=>WQ E F I z D a e k l)
 |leave=>
  rw[a]at b;obtain⟨l,y⟩:=b;cases L:s.q (C.N0+i)with
  |zero=>rw[L]at y;rw[y.1]at x;cases x
  |succ m=>
   rw[L]at y;obtain⟨e,_⟩|⟨_,r,P,M,H,J⟩:=y
   .rw[e]at x;cases x
   .exact JP E F I z D L (H v) M (by rw[a];exact⟨l,J⟩)
end
section
variable{C:aI}{p:ci C}{s s':St}{v v1:aa}{t0 t u:bm}{gs:Array aw}{B B':Nat}
def SZ(hp:p.Ok)(I:p.Inv t0 s gs v t){j}(h0:0<j)(hN:j<C.N0){g sl}(S:gs[j]?=some g)(o:g.status=.running):p.Goes t0 s gs v t j sl:=by
 have hQ:=I.elder j g h0 hN S;cases hq:s.q j with
 |zero=>simp_all;rw[hQ.1]at o;cases o
 |succ m=>
  simp_all;obtain⟨T,_⟩|⟨_,g',O,D,U,V⟩:=hQ
  .rw[T]at o;cases o
  .have W:(j==0)=false:=a9l
   have X:j<gs.size:=(bz.1 S).1;have E:=runT_crowd_go (P:=C.P) (sl:=sl) (i:=j) S (by rw[W];exact U v);have f:∀l∈MemOp.ofEvents j g.frame.fn g.frame.place O,l.g=j/\l.act.touch?=none/\(∀B,l.act.low B)/\l.act≠.mark (.release (C.ca 4)):=λl d=>by obtain⟨e,Y,rfl⟩:=Go.Conc.mem_ofEvents d;refine⟨rfl,touch_mute (D e Y),λB=>low_mute (D e Y) B,λz=>?_⟩;have:=D e Y;obtain⟨Z,wr,sy⟩:=e;cases Z<;>simp_all [Event.mute,MemAct.ofEvent]
   have w:∀k,k≠j->Deaf (t++MemOp.ofEvents j g.frame.fn g.frame.place O) k=Deaf t k:=λk r=>Deaf_other t (g':=j) (λe=>r e.symm) _ (λl d=>(f l d).1);let ⟨g0,hg0,H⟩:=I.start;have A:∀a:St,a.ph=s.ph->a.rk=s.rk->a.q=upd s.q j m->a.cb=s.cb->a.cls=s.cls->a.sp.aU C.n=s.sp.aU C.n->p.Hp a v->C.dx a v.heap.size->C.dJ a->C.fY a t0 (t++MemOp.ofEvents j g.frame.fn g.frame.place O) v.heap.size->
     p.fX a (Deaf t 0) (woken C.P g g' v g0)->p.Goes t0 s gs v t j sl:=by
    intro a Q e2 J e4 e5 R T h2 h3 h4 h5;refine⟨_,_,_,a,E,⟨I.pos,by simpa[R]using I.size,⟨woken C.P g g' v g0,?_,by rw[w 0 a9h];exact h5⟩,?_,?_,?_,T,h2,h3,h4⟩,?_⟩
    .rw[dw a9h,ip,hg0];rfl
    .intro k x ab ad z;by_cases e:k=j
     .subst e;rw[lG (by simpa using X)]at z;obtain rfl:=db z;rw[Deaf_own,J,upd_same];exact V
     .rw[dw (λx=>e x.symm),ip]at z;obtain⟨y,hy,rfl⟩:=gn.1 z;have:=I.elder k y ab ad hy;rw[woken_quitsD this,w k e,J,upd_ne _ _ e];exact this
    .intro k x r z;rw[R]at r;rw[dw a9h,ip]at z;obtain⟨y,hy,rfl⟩:=gn.1 z;have hW:=I.work k y r hy;have K:a.own k=s.own k:=by unfold St.own;rw[e5]
     rw[LX hp I.ctl I.hp (.inl rfl) rfl r (bL r (gV I.ctl)) hW g g',w _ a9h,Q,e2,J,e4,K,upd_ne _ _ a9h];exact hW
    .intro k r;have ae:gs.size<=k:=by simpa using r
     rw[w k a9h];exact I.above k ae
    .refine .inl (sj (i:=j) a9h ?_ λk r=>?_)
     .simp[aI.dM,hN,J,upd_same,hq];exact .step a9h
     .unfold aI.dM;rw[Q,e2,J];simp[upd_ne _ _ r]
   have L:∀a:St,a.ph=s.ph->a.cls=s.cls->a.sp.aU C.n=s.sp.aU C.n->C.fY a t0 (t++MemOp.ofEvents j g.frame.fn g.frame.place O) v.heap.size:=λa Q e5 R=>
    tJ I.gi (az _) R (λi c h=>by unfold St.own at h⊢;rw[e5];exact h) (λl d=>(f l d).2.1) (λl d=>by rw[(f l d).1];omega) (λl d=>(f l d).2.2.1 _) (λl d=>(f l d).2.2.2) (λk r M=>mR I.gi r (by rw[Q]at M;exact M) λl d _=>(f l d).2.1)
   obtain⟨F,_⟩|⟨b,N,hd,ao⟩:=Lg hp H g g' v
   .exact A {s with q:=upd s.q j m} rfl rfl rfl rfl rfl rfl (vf I.hp rfl rfl rfl rfl rfl) (nC I.cls rfl rfl rfl) (rP I.ctl rfl rfl rfl rfl) (L _ rfl rfl rfl) (by rw[F];exact DJ rfl rfl rfl H)
   .apply A (St.cD {s with q:=upd s.q j m} b) rfl rfl rfl rfl rfl (by simp[St.cD,SP.aU,N]) (Hr (vf I.hp rfl rfl rfl rfl rfl) N) (E1 (nC I.cls rfl rfl rfl) N) (xl (rP I.ctl rfl rfl rfl rfl) N) (L _ rfl rfl (by simp[St.cD,SP.aU,N]));exact⟨_,by rw[hd];exact .nil,ao⟩
def Ev0(C:aI)(s:St)(B:Nat)(e:aT):Prop:=(∀a,(MemAct.ofEvent e).touch?=some a->a.loc.isMemory=true->(C.places s).may 0 a)/\(MemAct.ofEvent e).low B/\MemAct.ofEvent e≠.mark (.release (C.ca 4))
def Te{e}(h:C.dS e)(c:C.r<B):Ev0 C s B e:=by
 refine⟨λa d f=>?_,MemAct.low_mono c h.low,λg=>h.norel ?_⟩
 .rcases h.touch a d f with h|⟨i,j⟩
  .exact .inr (.inl h)
  .exact .inr (.inr ⟨i,by rw[j];simp,λ_=>rfl⟩)
 .obtain⟨b,wr,k⟩:=e;cases b<;>simp only[MemAct.ofEvent,reduceCtorEq]at g⊢
  all_goals grind[aI.ca]
def kX{es}(h:oD C es)(c:C.r<B):∀e∈es,Ev0 C s B e:=λe b=>⟨λa d _=>EE h b d 0,ED h c e b,EF h e b⟩
def wj(x:∀c,C.SB c->c<C.B0)(I:p.Inv t0 s gs v t){es}(d:∀e∈es,Ev0 C s' B e)(y:v.heap.size<=B)(f:C.dx s' B)(o:s'.sp.aU C.n=s.sp.aU C.n)(g:∀i c,s.own i c->s'.own i c)(q:∀k,k<C.n->(s'.ph k).said=true->(s.ph k).said=true)(fn pos):C.fY s' t0 (t++MemOp.ofEvents 0 fn pos es) B:=by
 have r:=I.pos;refine DT I.pos I.gi (C4 f x) y o g (j:=0) (.inl rfl) (λl b=>by obtain⟨e,_,rfl⟩:=Go.Conc.mem_ofEvents b;rfl) (λl b a z A=>?_) (λl b=>?_) (λl b=>?_) (λk w D=>?_)
 .obtain⟨e,h,rfl⟩:=Go.Conc.mem_ofEvents b;exact(d e h).1 a z A
 .obtain⟨e,h,rfl⟩:=Go.Conc.mem_ofEvents b;exact(d e h).2.1
 .obtain⟨e,h,rfl⟩:=Go.Conc.mem_ofEvents b;exact(d e h).2.2
 .refine mR I.gi w (q k w D) λl b E=>?_;obtain⟨e,_,rfl⟩:=Go.Conc.mem_ofEvents b;have:(0:Nat)=C.N0+k:=E;omega
def yw(N:p.Ok)(I:p.Inv t0 s gs v t){g g' es sl}(F:gs[0]?=some g)(j:stepG C.P true g v=.go g' v1 es)(K:s'.q=s.q)(l:s'.sp.aU C.n=s.sp.aU C.n)(o:p.fX s' (deafBehind (Deaf t 0) es) g')(r:∀i x,i<s.sp.aU C.n->gs[C.N0+i]?=some x->p.fa i (s'.cb i) (s'.ph i) (s'.rk i) (s.q (C.N0+i)) (s'.own i) (Deaf t (C.N0+i)) (woken C.P g g' v1 x) v1)(w:p.Hp s' v1)(c:C.dx s' v1.heap.size)(d:C.dJ s')(z:C.fY s' t0 (t++MemOp.ofEvents 0 g.frame.fn g.frame.place es) v1.heap.size)(a:C.Down s' s):p.Goes t0 s gs v t 0 sl:=by
 have f:=I.pos;have A:0<gs.size:=(bz.1 F).1;have b:=runT_crowd_go (P:=C.P) (sl:=sl) (i:=0) F (show stepG C.P (0==0) g v=_ from j);have h:∀k,k≠0->Deaf (t++MemOp.ofEvents 0 g.frame.fn g.frame.place es) k=Deaf t k:=λk H=>Deaf_other t (g':=0) (λe=>H e.symm) _ (λO D=>by obtain⟨e,_,rfl⟩:=Go.Conc.mem_ofEvents D;rfl);refine⟨_,_,_,s',b,⟨f,by simpa[l]using I.size,⟨g',by simp[A],by rw[Deaf_own];exact o⟩,?_,?_,?_,w,c,d,z⟩,a⟩
 .intro k x h0 L J;rw[dw a9h,ip]at J;obtain⟨y,M,rfl⟩:=gn.1 J;have:=I.elder k y h0 L M;rw[woken_quitsD this,h k a9h,K];exact this
 .grind
 .intro k H;have E:gs.size<=k:=by simp_all
  rw[h k a9h];exact I.above k E
def Ed(j:p.Ok)(I:p.Inv t0 s gs v t)(l:s'.ph=s.ph)(o:s'.rk=s.rk)(r:∀i,i<s.sp.aU C.n->s'.cb i=s.cb i)(w:∀i,s'.own i=s.own i)(c:s.sp.closed=false->∃k b s2 h m,v1.heap[C.dc]?=some (.chan k b false s2 h m))(y:∀i,i<s.sp.aU C.n->v1.heap[s.cb i]?=v.heap[s.cb i]?)(z:∀k,C.Fr k (s.own k) v v1)(g g'):∀i x,i<s.sp.aU C.n->gs[C.N0+i]?=some x->p.fa i (s'.cb i) (s'.ph i) (s'.rk i) (s.q (C.N0+i)) (s'.own i) (Deaf t (C.N0+i)) (woken C.P g g' v1 x) v1:=by
 intro i x a A;have D:=I.work i x a A;have d:i<C.n:=bL a (gV I.ctl);have E:woken C.P g g' v1 x=x:=by
  obtain⟨F,H,rfl⟩|⟨_,J|⟨_,K⟩⟩:=pz j D
  .have f:s.sp.closed=false:=by
    cases e:s.sp.closed with
    |false=>rfl
    |true=>
     have:=I.ctl.shut e i d
     grind[Ph.num]
   let ⟨k,b,s2,h,m,hd⟩:=c f;let ⟨b1,s1,r1,hc1⟩:=EX I.hp (vr a)
   grind[Jz]
  all_goals grind[woken,again_running]
 rw[E,l,o,r i a,w]
 grind[rn]
def a6s(a:p.Ok)(I:p.Inv t0 s gs v t)(b:s'.ph=s.ph)(c:s'.rk=s.rk)(d:s'.cb=s.cb)(f:s'.cls=s.cls)(g g'):∀i x,i<s.sp.aU C.n->gs[C.N0+i]?=some x->p.fa i (s'.cb i) (s'.ph i) (s'.rk i) (s.q (C.N0+i)) (s'.own i) (Deaf t (C.N0+i)) (woken C.P g g' v x) v:=
 Ed a I b c (λ_ _=>by rw[d]) (λi=>by grind[St.own]) (λe=>by have:=I.hp.dc;rw[e]at this;simp_all) (λ_ _=>rfl) (λk=>.refl (gA I.hp)) g g'
def a6r(b:p.Ok)(I:p.Inv t0 s gs v t)(d:s'.ph=s.ph)(f:s'.rk=s.rk)(h:s'.cb=s.cb)(y:s'.cls=s.cls)(j:C.Shape v1)(l:v1.heap.size=v.heap.size)(a:∀c,c≠C.r->v1.heap[c]?=v.heap[c]?)(g g'):∀i x,i<s.sp.aU C.n->gs[C.N0+i]?=some x->p.fa i (s'.cb i) (s'.ph i) (s'.rk i) (s.q (C.N0+i)) (s'.own i) (Deaf t (C.N0+i)) (woken C.P g g' v1 x) v1:=
 Ed b I d f (λ_ _=>by rw[h]) (λi=>by grind[St.own]) (λo=>by have:=I.hp.dc;rw[o]at this;exact⟨_,_,_,_,_,by rw[a _ λe=>I.cls.ge.2.2.2.2.1 e.symm];exact this⟩) (λi w=>a _ (uj I.cls (vr w)).1) (λk=>ya I.cls j l a k) g g'
def y9(a:s'.ph=s.ph)(b:s'.rk=s.rk)(c:s'.q=s.q):C.dM s'=C.dM s:=by grind[aI.dM]
def a3Y(f:p.Ok)(i:∀c,C.SB c->c<C.B0)(I:p.Inv t0 s gs v t){g g' es sl m}(j:gs[0]?=some g)(l:s.m0=m+1)(a:stepG C.P true g v=.go g' v es)(b:∀e∈es,C.dS e)(d:p.fX {s with m0:=m} (deafBehind (Deaf t 0) es) g'):p.Goes t0 s gs v t 0 sl:=
 yw (s':={s with m0:=m}) f I j a rfl rfl d (a6s f I rfl rfl rfl rfl g g') (vf I.hp rfl rfl rfl rfl rfl) (nC I.cls rfl rfl rfl) (rP I.ctl rfl rfl rfl rfl) (wj (s':={s with m0:=m}) i I (λe k=>Te (b e k) (cV I.hp.rb)) (az _) (nC I.cls rfl rfl rfl) rfl (λ_ _ h=>h) (λ_ _ h=>h) _ _) (.inr ⟨y9 rfl rfl rfl,.inr ⟨rfl,by simp_all⟩⟩)
end
section
variable{C:aI}{p:ci C}{s s':St}{v v1:aa}{Q t u:bm}{gs:Array aw}{B R:Nat}
def iW(h:C.dJ s){sp:SP}{m0:Nat}{G1 G2:Gp}(f:(match sp with| .mk k| .go k| .snd k=>k<C.n|_=>True)/\sp.aU C.n=s.sp.aU C.n/\sp.cB C.n=s.sp.cB C.n/\sp.closed=s.sp.closed)
  (g:∀k,k<C.n->(s.ph k=.la1↔G1=.la k)/\(s.ph k=.lb1↔G1=.lb k)/\(s.ph k=.lc1↔G1=.lc k)) (a:∀k,G1=.la k\/G1=.lb k\/G1=.lc k->k<C.n)
  (j:∀k,k<C.n->(s.ph k=.la2↔G2=.la k)/\(s.ph k=.lb2↔G2=.lb k)/\(s.ph k=.lc2↔G2=.lc k)) (c:∀k,G2=.la k\/G2=.lb k\/G2=.lc k->k<C.n)
  (l:G1.zz (C.a1 s)) (o:G2.zz (C.a2 s)) (q:sp.jH G1) (r:sp.lj G2) (d:∀b m,sp=.ca b m->1<=m/\m<=8):C.dJ {s with sp:=sp,m0:=m0,G1:=G1,G2:=G2}:=by
 obtain⟨A,D,y,z⟩:=f;refine⟨h.n8,A,?_,?_,?_,?_,?_,g,a,j,c,l,o,q,r,d⟩
 .intro i e;show s.ph i=_↔sp.aU C.n<=i;rw[D];exact h.born i e
 .intro i e w;show sp.cB C.n<=i;rw[y];exact h.l9 i e w
 .intro i e w;show i<sp.cB C.n;rw[y];exact h.cC i e w
 .intro x;exact h.opened (z▸x)
 .intro x;exact h.shut (z▸x)
def VT(h:p.Hp s v){sp m0 G1 G2}(g:sp.made C.n=s.sp.made C.n)(i:sp.cB C.n=s.sp.cB C.n)(j:sp.closed=s.sp.closed)(b:G1.st (C.a1 s)=s.G1.st (C.a1 s)/\G1.sm=s.G1.sm)(c:G2.st (C.a2 s)=s.G2.st (C.a2 s)/\G2.sm=s.G2.sm):p.Hp {s with sp:=sp,m0:=m0,G1:=G1,G2:=G2} v:=by
 obtain⟨d,e,k,a,f,l⟩:=h;refine⟨?_,e,?_,a,f,?_⟩
 .show v.heap[C.r]?=some (C.fg (G1.st (C.a1 s)) G1.sm (G2.st (C.a2 s)) G2.sm);rw[b.1,b.2,c.1,c.2];exact d
 all_goals simp_all
def P9(h:C.dx s B){sp m0 G1 G2}(d:sp.made C.n=s.sp.made C.n)(j:sp.aU C.n=s.sp.aU C.n):C.dx {s with sp:=sp,m0:=m0,G1:=G1,G2:=G2} B:=by obtain⟨b,sh,a,e,k,f⟩:=h;exact⟨b,sh,a,λi g=>e i (by rw[<-d];exact g),λc i l=>by grind,f⟩
def jq(y:p.Ok)(A:∀c,C.SB c->c<C.B0)(I:p.Inv Q s gs v t){g g' es sl}(D:gs[0]?=some g)(l:stepG C.P true g v=.go g' v1 es)(sp m0 G1 G2)(o:∀e∈es,Ev0 C {s with sp:=sp,m0:=m0,G1:=G1,G2:=G2} v.heap.size e)(f:∀c,c≠C.r->v1.heap[c]?=v.heap[c]?)(k:v1.heap.size=v.heap.size)(q:oo v1=oo v)(w:v1.heap[C.r]?=some (C.fg (G1.st (C.a1 s)) G1.sm (G2.st (C.a2 s)) G2.sm))(z:sp.made C.n=s.sp.made C.n)(d:sp.aU C.n=s.sp.aU C.n)(E:sp.cB C.n=s.sp.cB C.n)(F:sp.closed=s.sp.closed)(i:C.dJ {s with sp:=sp,m0:=m0,G1:=G1,G2:=G2})(x:p.fX {s with sp:=sp,m0:=m0,G1:=G1,G2:=G2} (deafBehind (Deaf t 0) es) g')(b:C.stage {s with sp:=sp,m0:=m0,G1:=G1,G2:=G2} <C.stage s):p.Goes Q s gs v t 0 sl:=by
 have j:p.Hp {s with sp:=sp,m0:=m0,G1:=G1,G2:=G2} v1:=Hq I.hp I.cls w f q F z E rfl (λ_ _=>rfl) (Im I.ctl);have a:C.dx {s with sp:=sp,m0:=m0,G1:=G1,G2:=G2} v1.heap.size:=by rw[k];exact P9 I.cls z d
 refine yw (s':={s with sp:=sp,m0:=m0,G1:=G1,G2:=G2}) y I D l rfl d x (a6r y I rfl rfl rfl rfl (gA j) k f g g') j a i ?_ (.inr ⟨y9 rfl rfl rfl,.inl b⟩);rw[k];rw[k]at a;exact wj A I o (az _) a d (λ_ _ h=>h) (λ_ _ h=>h) _ _
def Xu(z:p.Ok)(F:∀c,C.SB c->c<C.B0)(I:p.Inv Q s gs v t){g sl}(H:gs[0]?=some g){b}(f:s.sp=.lw b)(N:p.LW (o4 b) g)(J:Deaf t 0=1):p.Goes Q s gs v t 0 sl:=by
 obtain⟨_,L,i,O,M,A⟩:=z.lw _ _ N;have K:=cV I.hp.rb;have o:∀sp:SP,(sp=.aq b\/∃m,sp=.ca b m)->sp.made C.n=s.sp.made C.n/\sp.aU C.n=s.sp.aU C.n/\sp.cB C.n=s.sp.cB C.n/\sp.closed=s.sp.closed:=by intro sp h;rw[f];obtain rfl|⟨m,rfl⟩:=h<;>exact⟨rfl,rfl,rfl,rfl⟩
 cases b with
 |false=>
  have q:s.G1=.idle:=by have:=I.ctl.s1;rw[f]at this;exact this
  have D:s.G2=.idle:=by have:=I.ctl.s2;rw[f]at this;exact this
  have j:s.G1.st (C.a1 s)=(C.a1 s:Int)*KK:=by rw[q];rfl
  have a:=i v _ (Hp.pV I.hp);have l:C.a1 s<=8:=dt (ul _ _) I.ctl.n8;have d:C.stage s=21:=by unfold aI.stage;rw[f]
  rw[j]at a;obtain h0|h0:=kN (C.a1 s)
  .rw[h0]at a;obtain⟨m,r,w,x⟩:=M;let ⟨f1,f2,f3,f4⟩:=o (.aq false) (.inl rfl);refine jq z F I H (show _=GStep.go (L 0) v _ by rw[a];simp[o4]) (.aq false) m .over s.G2 (kX ⟨1,a9i,.inr (.inl rfl)⟩ K) (λ_ _=>rfl) rfl rfl ?_ f1 f2 f3 f4 ?_ ⟨r,by rw[J];exact w,x⟩ (by rw[d];show 16<21;decide)
   .rw[I.hp.rb,j,h0,q];simp[Gp.st,Gp.sm]
   .refine iW I.ctl ⟨trivial,f2,f3,f4⟩ (λk y=>?_) (λk y=>by obtain e|e|e:=y<;>cases e) I.ctl.g2 I.ctl.eJ h0 I.ctl.z2 rfl D (λb m e=>by cases e);have:=I.ctl.g1 k y;rw[q]at this;simp_all
  .let ⟨_,m,r,w,x⟩:=A (C.a1 s) h0 l;let ⟨f1,f2,f3,f4⟩:=o (.ca false (C.a1 s)) (.inr ⟨_,rfl⟩);refine jq z F I H a (.ca false (C.a1 s)) m s.G1 s.G2 (kX ⟨1,a9i,.inr (.inl rfl)⟩ K) (λ_ _=>rfl) rfl rfl I.hp.rb f1 f2 f3 f4 ?_ ⟨r,by rw[J];exact w,x⟩ ?_
   .exact iW I.ctl ⟨trivial,f2,f3,f4⟩ I.ctl.g1 I.ctl.eI I.ctl.g2 I.ctl.eJ I.ctl.z1 I.ctl.z2 q D (λb m e=>by cases e;exact⟨h0,l⟩)
   .have:C.stage {s with sp:=.ca false (C.a1 s),m0:=m,G1:=s.G1,G2:=s.G2}=20:=by show(if ((C.a1 s:Nat):Int)*KK=s.G1.st (C.a1 s)then 20 else 22)=20;simp_all
    rw[this,d];decide
 |true=>
  have E:s.G1=.over:=by have:=I.ctl.s1;rw[f]at this;exact this
  have q:s.G2=.idle:=by have:=I.ctl.s2;rw[f]at this;exact this
  have j:s.G2.st (C.a2 s)=(C.a2 s:Int)*KK:=by rw[q];rfl
  have a:=i v _ (Hp.pW I.hp);have l:C.a2 s<=8:=dt (ul _ _) I.ctl.n8;have d:C.stage s=13:=by unfold aI.stage;rw[f]
  rw[j]at a;obtain h0|h0:=kN (C.a2 s)
  .rw[h0]at a;obtain⟨m,r,w,x⟩:=M;let ⟨f1,f2,f3,f4⟩:=o (.aq true) (.inl rfl);refine jq z F I H (show _=GStep.go (L 0) v _ by rw[a];simp[o4]) (.aq true) m s.G1 .over (kX ⟨4,a9i,.inr (.inl rfl)⟩ K) (λ_ _=>rfl) rfl rfl ?_ f1 f2 f3 f4 ?_ ⟨r,by rw[J];exact w,x⟩ (by rw[d];show 8<13;decide)
   .rw[I.hp.rb,j,h0,q];simp[Gp.st,Gp.sm]
   .refine iW I.ctl ⟨trivial,f2,f3,f4⟩ I.ctl.g1 I.ctl.eI (λk y=>?_) (λk y=>by obtain e|e|e:=y<;>cases e) I.ctl.z1 h0 E rfl (λb m e=>by cases e);have:=I.ctl.g2 k y;rw[q]at this;simp_all
  .let ⟨_,m,r,w,x⟩:=A (C.a2 s) h0 l;let ⟨f1,f2,f3,f4⟩:=o (.ca true (C.a2 s)) (.inr ⟨_,rfl⟩);refine jq z F I H a (.ca true (C.a2 s)) m s.G1 s.G2 (kX ⟨4,a9i,.inr (.inl rfl)⟩ K) (λ_ _=>rfl) rfl rfl I.hp.rb f1 f2 f3 f4 ?_ ⟨r,by rw[J];exact w,x⟩ ?_
   .exact iW I.ctl ⟨trivial,f2,f3,f4⟩ I.ctl.g1 I.ctl.eI I.ctl.g2 I.ctl.eJ I.ctl.z1 I.ctl.z2 E q (λb m e=>by cases e;exact⟨h0,l⟩)
   .have:C.stage {s with sp:=.ca true (C.a2 s),m0:=m,G1:=s.G1,G2:=s.G2}=12:=by show(if ((C.a2 s:Nat):Int)*KK=s.G2.st (C.a2 s)then 12 else 14)=12;simp_all
    rw[this,d];decide
end
section
variable{C:aI}{p:ci C}{s s':St}{v V:aa}{T t u:bm}{gs:Array aw}{B U:Nat}
def mT{b:Bool}{sp cD:SP}(h:(∃m,sp=.ca b m)\/sp=.lw b\/sp=.sa b\/sp=.sb b\/sp=.ld b\/sp=.aq b)(a:(∃m,cD=.ca b m)\/cD=.lw b\/cD=.sa b\/cD=.sb b\/cD=.ld b\/cD=.aq b)(n:Nat):cD.made n=sp.made n/\cD.aU n=sp.aU n/\cD.cB n=sp.cB n/\cD.closed=sp.closed:=by obtain⟨m,rfl⟩|rfl|rfl|rfl|rfl|rfl:=h<;>obtain⟨m,rfl⟩|rfl|rfl|rfl|rfl|rfl:=a<;>exact⟨rfl,rfl,rfl,rfl⟩
def Hk{n:Nat}{G a:Gp}{ph:Nat->Ph}(h:∀k,k<n->(ph k=.la1↔G=.la k)/\(ph k=.lb1↔G=.lb k)/\(ph k=.lc1↔G=.lc k))(c:∀k,G≠.la k/\G≠.lb k/\G≠.lc k)(b:∀k,a≠.la k/\a≠.lb k/\a≠.lc k):∀k,k<n->(ph k=.la1↔a=.la k)/\(ph k=.lb1↔a=.lb k)/\(ph k=.lc1↔a=.lc k):=by simp_all
def Hl{n:Nat}{G a:Gp}{ph:Nat->Ph}(h:∀k,k<n->(ph k=.la2↔G=.la k)/\(ph k=.lb2↔G=.lb k)/\(ph k=.lc2↔G=.lc k))(c:∀k,G≠.la k/\G≠.lb k/\G≠.lc k)(b:∀k,a≠.la k/\a≠.lb k/\a≠.lc k):∀k,k<n->(ph k=.la2↔a=.la k)/\(ph k=.lb2↔a=.lb k)/\(ph k=.lc2↔a=.lc k):=by simp_all
def Pu(o:p.Ok)(J:∀c,C.SB c->c<C.B0)(I:p.Inv T s gs v t){g:aw}{sl:Option (Nat×Nat)}(K:gs[0]?=some g){m:Nat}(f:s.sp=.ca false m)(N:p.CA 1 m g)(L:Deaf t 0=1):p.Goes T s gs v t 0 sl:=by
 obtain⟨_,Q,R,i,h,⟨_,O,q,w,x⟩,⟨_,P,y,z,A⟩⟩:=o.ca _ _ _ N;have M:=cV I.hp.rb;have l:s.G1=.idle:=by have:=I.ctl.s1;simp_all;exact this
 have j:s.G2=.idle:=by have:=I.ctl.s2;simp_all;exact this
 have D:s.G1.st (C.a1 s)=(C.a1 s:Int)*KK:=by rw[l];rfl
 have S:=I.ctl.oI false m f;have E:∀k,s.G1≠.la k/\s.G1≠.lb k/\s.G1≠.lc k:=λk=>by rw[l];simp
 by_cases F:(m:Int)*KK=s.G1.st (C.a1 s)
 .let ⟨f1,f2,f3,f4⟩:=mT (sp:=s.sp) (cD:=.sa false) (.inl ⟨m,f⟩) (.inr (.inr (.inl rfl))) C.n;have a:=i v (by rw[F];exact Hp.pV I.hp) (Hp.thaw I.hp 1);have H:m=C.a1 s:=by
   rw[D]at F
   grind[KK]
  have d:C.stage s=20:=by simp_all[aI.stage]
  refine jq o J I K a (.sa false) O .reg s.G2 (kX ⟨1,a9i,.inl rfl⟩ M) cJ.1 cJ.2.1 cJ.2.2 ?_ f1 f2 f3 f4 ?_ ⟨q,by rw[L];exact w,x⟩ (by rw[d];show 19<20;decide)
  .rw[show(C.ca 1)=⟨C.r,1,none⟩from rfl,gz I.hp.rb,l,H];simp[aI.fg,Gp.st,Gp.sm]
  .refine iW I.ctl ⟨trivial,f2,f3,f4⟩ ?_ ?_ ?_ ?_ ?_ ?_ ?_ ?_ (λb m e=>by cases e)
   .exact Hk I.ctl.g1 E (λk=>a9i)
   .simp_all
   .exact I.ctl.g2
   .simp_all
   .show 0<C.a1 s;omega
   .exact I.ctl.z2
   .exact⟨a9i,a9i⟩
   .exact j
 .let ⟨f1,f2,f3,f4⟩:=mT (sp:=s.sp) (cD:=.lw false) (.inl ⟨m,f⟩) (.inr (.inl rfl)) C.n;have a:=h v _ (Hp.pV I.hp) (Hp.thaw I.hp 1) (λe=>F e.symm);have d:C.stage s=22:=by simp_all[aI.stage]
  refine jq o J I K a (.lw false) P s.G1 s.G2 (kX ⟨1,a9i,.inr (.inl rfl)⟩ M) (λ_ _=>rfl) rfl rfl I.hp.rb f1 f2 f3 f4 ?_ ⟨y,by rw[L];exact z,A⟩ (by rw[d];show 21<22;decide);exact iW I.ctl ⟨trivial,f2,f3,f4⟩ I.ctl.g1 I.ctl.eI I.ctl.g2 I.ctl.eJ I.ctl.z1 I.ctl.z2 l j (λb m e=>by cases e)
def a3a(o:p.Ok)(D:∀c,C.SB c->c<C.B0)(I:p.Inv T s gs v t){g:aw}{sl:Option (Nat×Nat)}(E:gs[0]?=some g)(d:s.sp=.sa false)(F:p.SA 1 g)(H:Deaf t 0=1):p.Goes T s gs v t 0 sl:=by
 obtain⟨_,_,M,j,i,_,K,q,w,x⟩:=o.sa _ _ F;have L:=cV I.hp.rb;have y:=I.ctl.s1;rw[d]at y;have l:s.G2=.idle:=by have:=I.ctl.s2;rw[d]at this;exact this
 have f:C.stage s=19:=by grind[aI.stage]
 by_cases hrel:s.G1=.rel
 .let ⟨f1,f2,f3,f4⟩:=mT (sp:=s.sp) (cD:=.ld false) (.inr (.inr (.inl d))) (.inr (.inr (.inr (.inr (.inl rfl))))) C.n;have J:C.a1 s=0:=by have:=I.ctl.z1;rw[hrel]at this;exact this
  have a:=j v _ (Hp.AP I.hp) (by rw[hrel];decide) (Hp.thaw I.hp 2);have z:∀k,s.G1≠.la k/\s.G1≠.lb k/\s.G1≠.lc k:=λk=>by rw[hrel];simp
  refine jq o D I E a (.ld false) K .over s.G2 (kX ⟨2,a9i,.inr (.inr (.inr rfl))⟩ L) cJ.1 cJ.2.1 cJ.2.2 ?_ f1 f2 f3 f4 ?_ ⟨q,by rw[H];exact w,x⟩ (by rw[f];show 17<19;decide)
  .rw[show(C.ca 2)=⟨C.r,2,none⟩from rfl];show(v.setCell ⟨C.r,2,none⟩ (.int .u32 (s.G1.sm - 1))).heap[C.r]?=_;rw[gz I.hp.rb,hrel,J];simp[aI.fg,Gp.st,Gp.sm]
  .refine iW I.ctl ⟨trivial,f2,f3,f4⟩ ?_ ?_ ?_ ?_ ?_ ?_ ?_ ?_ (λb m e=>by cases e)
   .exact Hk I.ctl.g1 z (λk=>a9i)
   .simp_all
   .exact I.ctl.g2
   .simp_all
   .exact J
   .exact I.ctl.z2
   .rfl
   .exact l
 .let ⟨f1,f2,f3,f4⟩:=mT (sp:=s.sp) (cD:=.sb false) (.inr (.inr (.inl d))) (.inr (.inr (.inr (.inl rfl)))) C.n;have A:s.G1.sm=0:=by cases h:s.G1<;>first|rfl|simp_all
  have a:=i v (by rw[<-A];exact Hp.AP I.hp);refine jq o D I E a (.sb false) 0 s.G1 s.G2 a9i (λ_ _=>rfl) rfl rfl I.hp.rb f1 f2 f3 f4 ?_ ⟨by rw[H];rfl,g,F,rfl⟩ (by rw[f];show 18<19;decide);exact iW I.ctl ⟨trivial,f2,f3,f4⟩ I.ctl.g1 I.ctl.eI I.ctl.g2 I.ctl.eJ I.ctl.z1 I.ctl.z2 ⟨y.1,y.2,hrel⟩ l (λb m e=>by cases e)
def WR(o:p.Ok)(r:∀c,C.SB c->c<C.B0)(I:p.Inv T s gs v t){g:aw}{sl:Option (Nat×Nat)}(w:gs[0]?=some g)(h:s.sp=.ld false)(x:p.LD 1 g)(y:Deaf t 0=1):p.Goes T s gs v t 0 sl:=by
 obtain⟨_,D,a,_,z,i,j,k⟩:=o.ld _ _ x;have A:=cV I.hp.rb;have q:s.G1=.over:=by have:=I.ctl.s1;simp_all;exact this
 have l:s.G2=.idle:=by have:=I.ctl.s2;simp_all;exact this
 have d:C.stage s=17:=by grind[aI.stage]
 let ⟨f1,f2,f3,f4⟩:=mT (sp:=s.sp) (cD:=.aq false) (.inr (.inr (.inr (.inr (.inl h))))) (.inr (.inr (.inr (.inr (.inr rfl))))) C.n;have f:=a v (by have:=Hp.pV I.hp;rw[q]at this;exact this);refine jq o r I w f (.aq false) z s.G1 s.G2 (kX ⟨1,a9i,.inr (.inl rfl)⟩ A) (λ_ _=>rfl) rfl rfl I.hp.rb f1 f2 f3 f4 ?_ ⟨i,by rw[y];exact j,k⟩ (by rw[d];show 16<17;decide);exact iW I.ctl ⟨trivial,f2,f3,f4⟩ I.ctl.g1 I.ctl.eI I.ctl.g2 I.ctl.eJ I.ctl.z1 I.ctl.z2 q l (λb m e=>by cases e)
def Pv(o:p.Ok)(J:∀c,C.SB c->c<C.B0)(I:p.Inv T s gs v t){g:aw}{sl:Option (Nat×Nat)}(K:gs[0]?=some g){m:Nat}(f:s.sp=.ca true m)(N:p.CA 4 m g)(L:Deaf t 0=1):p.Goes T s gs v t 0 sl:=by
 obtain⟨_,Q,R,i,h,⟨_,O,q,w,x⟩,⟨_,P,y,z,A⟩⟩:=o.ca _ _ _ N;have M:=cV I.hp.rb;have l:s.G2=.idle:=by have:=I.ctl.s2;simp_all;exact this
 have j:s.G1=.over:=by have:=I.ctl.s1;simp_all;exact this
 have D:s.G2.st (C.a2 s)=(C.a2 s:Int)*KK:=by rw[l];rfl
 have S:=I.ctl.oI true m f;have E:∀k,s.G2≠.la k/\s.G2≠.lb k/\s.G2≠.lc k:=λk=>by rw[l];simp
 by_cases F:(m:Int)*KK=s.G2.st (C.a2 s)
 .let ⟨f1,f2,f3,f4⟩:=mT (sp:=s.sp) (cD:=.sa true) (.inl ⟨m,f⟩) (.inr (.inr (.inl rfl))) C.n;have a:=i v (by rw[F];exact Hp.pW I.hp) (Hp.thaw I.hp 4);have H:m=C.a2 s:=by
   rw[D]at F
   grind[KK]
  have d:C.stage s=12:=by simp_all[aI.stage]
  refine jq o J I K a (.sa true) O s.G1 .reg (kX ⟨4,a9i,.inl rfl⟩ M) cJ.1 cJ.2.1 cJ.2.2 ?_ f1 f2 f3 f4 ?_ ⟨q,by rw[L];exact w,x⟩ (by rw[d];show 11<12;decide)
  .rw[show(C.ca 4)=⟨C.r,4,none⟩from rfl,gz I.hp.rb,l,H];simp[aI.fg,Gp.st,Gp.sm]
  .refine iW I.ctl ⟨trivial,f2,f3,f4⟩ ?_ ?_ ?_ ?_ ?_ ?_ ?_ ?_ (λb m e=>by cases e)
   .exact I.ctl.g1
   .simp_all
   .exact Hl I.ctl.g2 E (λk=>a9i)
   .simp_all
   .exact I.ctl.z1
   .show 0<C.a2 s;omega
   .exact j
   .exact⟨a9i,a9i⟩
 .let ⟨f1,f2,f3,f4⟩:=mT (sp:=s.sp) (cD:=.lw true) (.inl ⟨m,f⟩) (.inr (.inl rfl)) C.n;have a:=h v _ (Hp.pW I.hp) (Hp.thaw I.hp 4) (λe=>F e.symm);have d:C.stage s=14:=by simp_all[aI.stage]
  refine jq o J I K a (.lw true) P s.G1 s.G2 (kX ⟨4,a9i,.inr (.inl rfl)⟩ M) (λ_ _=>rfl) rfl rfl I.hp.rb f1 f2 f3 f4 ?_ ⟨y,by rw[L];exact z,A⟩ (by rw[d];show 13<14;decide);exact iW I.ctl ⟨trivial,f2,f3,f4⟩ I.ctl.g1 I.ctl.eI I.ctl.g2 I.ctl.eJ I.ctl.z1 I.ctl.z2 j l (λb m e=>by cases e)
def a3b(o:p.Ok)(D:∀c,C.SB c->c<C.B0)(I:p.Inv T s gs v t){g:aw}{sl:Option (Nat×Nat)}(E:gs[0]?=some g)(d:s.sp=.sa true)(F:p.SA 4 g)(H:Deaf t 0=1):p.Goes T s gs v t 0 sl:=by
 obtain⟨_,_,M,j,i,_,K,q,w,x⟩:=o.sa _ _ F;have L:=cV I.hp.rb;have y:=I.ctl.s2;rw[d]at y;have l:s.G1=.over:=by have:=I.ctl.s1;rw[d]at this;exact this
 have f:C.stage s=11:=by grind[aI.stage]
 by_cases hrel:s.G2=.rel
 .let ⟨f1,f2,f3,f4⟩:=mT (sp:=s.sp) (cD:=.ld true) (.inr (.inr (.inl d))) (.inr (.inr (.inr (.inr (.inl rfl))))) C.n;have J:C.a2 s=0:=by have:=I.ctl.z2;rw[hrel]at this;exact this
  have a:=j v _ (Hp.AR I.hp) (by rw[hrel];decide) (Hp.thaw I.hp 5);have z:∀k,s.G2≠.la k/\s.G2≠.lb k/\s.G2≠.lc k:=λk=>by rw[hrel];simp
  refine jq o D I E a (.ld true) K s.G1 .over (kX ⟨5,a9i,.inr (.inr (.inr rfl))⟩ L) cJ.1 cJ.2.1 cJ.2.2 ?_ f1 f2 f3 f4 ?_ ⟨q,by rw[H];exact w,x⟩ (by rw[f];show 9<11;decide)
  .rw[show(C.ca 5)=⟨C.r,5,none⟩from rfl];show(v.setCell ⟨C.r,5,none⟩ (.int .u32 (s.G2.sm - 1))).heap[C.r]?=_;rw[gz I.hp.rb,hrel,J];simp[aI.fg,Gp.st,Gp.sm]
  .refine iW I.ctl ⟨trivial,f2,f3,f4⟩ ?_ ?_ ?_ ?_ ?_ ?_ ?_ ?_ (λb m e=>by cases e)
   .exact I.ctl.g1
   .simp_all
   .exact Hl I.ctl.g2 z (λk=>a9i)
   .simp_all
   .exact I.ctl.z1
   .exact J
   .exact l
   .rfl
 .let ⟨f1,f2,f3,f4⟩:=mT (sp:=s.sp) (cD:=.sb true) (.inr (.inr (.inl d))) (.inr (.inr (.inr (.inl rfl)))) C.n;have A:s.G2.sm=0:=by cases h:s.G2<;>first|rfl|simp_all
  have a:=i v (by rw[<-A];exact Hp.AR I.hp);refine jq o D I E a (.sb true) 0 s.G1 s.G2 a9i (λ_ _=>rfl) rfl rfl I.hp.rb f1 f2 f3 f4 ?_ ⟨by rw[H];rfl,g,F,rfl⟩ (by rw[f];show 10<11;decide);exact iW I.ctl ⟨trivial,f2,f3,f4⟩ I.ctl.g1 I.ctl.eI I.ctl.g2 I.ctl.eJ I.ctl.z1 I.ctl.z2 l ⟨y.1,y.2,hrel⟩ (λb m e=>by cases e)
def WS(o:p.Ok)(r:∀c,C.SB c->c<C.B0)(I:p.Inv T s gs v t){g:aw}{sl:Option (Nat×Nat)}(w:gs[0]?=some g)(h:s.sp=.ld true)(x:p.LD 4 g)(y:Deaf t 0=1):p.Goes T s gs v t 0 sl:=by
 obtain⟨_,D,a,_,z,i,j,k⟩:=o.ld _ _ x;have A:=cV I.hp.rb;have q:s.G2=.over:=by have:=I.ctl.s2;simp_all;exact this
 have l:s.G1=.over:=by have:=I.ctl.s1;simp_all;exact this
 have d:C.stage s=9:=by grind[aI.stage]
 let ⟨f1,f2,f3,f4⟩:=mT (sp:=s.sp) (cD:=.aq true) (.inr (.inr (.inr (.inr (.inl h))))) (.inr (.inr (.inr (.inr (.inr rfl))))) C.n;have f:=a v (by have:=Hp.pW I.hp;rw[q]at this;exact this);refine jq o r I w f (.aq true) z s.G1 s.G2 (kX ⟨4,a9i,.inr (.inl rfl)⟩ A) (λ_ _=>rfl) rfl rfl I.hp.rb f1 f2 f3 f4 ?_ ⟨i,by rw[y];exact j,k⟩ (by rw[d];show 8<9;decide);exact iW I.ctl ⟨trivial,f2,f3,f4⟩ I.ctl.g1 I.ctl.eI I.ctl.g2 I.ctl.eJ I.ctl.z1 I.ctl.z2 l q (λb m e=>by cases e)
end
section
variable{C:aI}{p:ci C}{s s':St}{v v1:aa}{t0 t u:bm}{gs:Array aw}{B B':Nat}
def OC(k:p.Ok)(n:∀c,C.SB c->c<C.B0)(I:p.Inv t0 s gs v t){g sl}(o:gs[0]?=some g)(d:s.sp=.aq false)(q:p.AQ 1 g)(r:Deaf t 0=0):p.Goes t0 s gs v t 0 sl:=by
 obtain⟨_,E,f,_,h,_⟩:=k.aq _ _ q;obtain⟨m,w,x,y⟩:=h rfl;have z:=cV I.hp.rb;have A:s.G1=.over:=by have:=I.ctl.s1;rw[d]at this;exact this
 have j:s.G2=.idle:=by have:=I.ctl.s2;rw[d]at this;exact this
 have i:C.stage s=16:=by grind[aI.stage]
 refine jq k n I o (f v (gA I.hp)) .cl m s.G1 s.G2 (λe l=>?_) (λ_ _=>rfl) rfl rfl I.hp.rb (by rw[d];rfl) (by rw[d];rfl) (by rw[d];rfl) (by rw[d];rfl) ?_ ⟨w,by rw[r];exact x,y⟩ (by rw[i];show 15<16;decide)
 .simp at l;subst l;exact⟨λa D=>(by cases D),z,by simp[MemAct.ofEvent]⟩
 .exact iW I.ctl ⟨trivial,by rw[d];rfl,by rw[d];rfl,by rw[d];rfl⟩ I.ctl.g1 I.ctl.eI I.ctl.g2 I.ctl.eJ I.ctl.z1 I.ctl.z2 A j (λb m e=>by cases e)
def PW(hp:p.Ok)(hS:∀c,C.SB c->c<C.B0)(I:p.Inv t0 s gs v t){g sl}(hg:gs[0]?=some g)(o:s.sp=.cl)(hA:p.CL g)(hd:Deaf t 0=0):p.Goes t0 s gs v t 0 sl:=by
 obtain⟨_,ab,g7,ad,K,m,g',hQ,hX⟩:=hp.cl _ hA;have A:=I.hp.dc;simp_all;have hG:s.G1=.over:=by have:=I.ctl.s1;simp_all;exact this
 have ae:s.G2=.idle:=by have:=I.ctl.s2;simp_all;exact this
 have hz:C.a1 s=0:=by have:=I.ctl.z1;simp_all;exact this
 have R:C.stage s=15:=by unfold aI.stage;rw[o]
 have L:=I.cls.ge;have S:=K v A;have F:∀i,i<C.n->(s.ph i).num<=8:=λi l=>by
  have h1:(s.ph i).cX=false:=xj.1 hz i l;have y:=I.ctl.g1 i l;rw[hG]at y;have n1:s.ph i≠.la1:=λe=>by have:=y.1.1 e;cases this
  have n2:s.ph i≠.lb1:=λe=>by have:=y.2.1.1 e;cases this
  have n3:s.ph i≠.lc1:=λe=>by have:=y.2.2.1 e;cases this
  revert h1 n1 n2 n3;cases s.ph i<;>decide
 let f:Ph->Ph:=λx=>if x=.park2 then .wok2 else x
 have H:∀x,(f x).cX=x.cX/\(f x).cY=x.cY/\(f x).cC=x.cC/\(f x).said=x.said/\(f x=.unborn↔x=.unborn)/\(f x=.park1↔x=.park1)/\f x≠.park2/\(f x).num<=x.num:=by intro x;cases x<;>decide
 have T:∀x,(f x=.la1↔x=.la1)/\(f x=.lb1↔x=.lb1)/\(f x=.lc1↔x=.lc1)/\(f x=.la2↔x=.la2)/\(f x=.lb2↔x=.lb2)/\(f x=.lc2↔x=.lc2):=by intro x;cases x<;>decide
 let s':St:={s with sp:=.lw true,m0:=m,ph:=λi=>if i<C.n then f (s.ph i)else s.ph i};have d:∀i,i<C.n->s'.ph i=f (s.ph i):=λi l=>if_pos l;have e1:C.a1 s'=C.a1 s:=oM λi l=>by rw[d i l];exact(H (s.ph i)).1
 have e2:C.a2 s'=C.a2 s:=oM λi l=>by rw[d i l];exact(H (s.ph i)).2.1
 have r:∀c,c≠C.dc->(v.setChan C.dc 0 #[] true 0 0 false).heap[c]?=v.heap[c]? :=λc M=>kS M;have D:(v.setChan C.dc 0 #[] true 0 0 false).heap.size=v.heap.size:=by simp[World.setChan]
 have U:p.Hp s' (v.setChan C.dc 0 #[] true 0 0 false):=by
  refine⟨?_,?_,xh A,λc M=>?_,I.hp.os,λi l=>?_⟩
  .rw[r _ L.2.2.2.2.1,e1,e2];exact I.hp.rb
  .rw[r _ L.2.2.2.2.2];exact I.hp.tb
  .rw[r c a9h];exact I.hp.old c M
  .have V:i<s.sp.made C.n:=by rw[o];exact l
   rw[r _ (uj I.cls V).2.2];have:=I.hp.ch i V;rw[o]at this;show v.heap[s.cb i]?=some (if i<C.n then (if (s'.ph i).cC then _ else _)else _);rw[d i l,(H (s.ph i)).2.2.1];exact this
 have J:C.dx s' (v.setChan C.dc 0 #[] true 0 0 false).heap.size:=by rw[D];obtain⟨ao,sh,W,ch,wk,ge⟩:=I.cls;exact⟨ao,sh,W,λi l=>ch i (by rw[o];exact l),λc i M=>by have:=wk c i M;rw[o]at this;exact this,ge⟩
 have ap:∀k,C.Fr k (s.own k) v (v.setChan C.dc 0 #[] true 0 0 false):=λk=>by refine yb (gA U) (by rw[D];exact az _) (λc M=>r c λe=>?_) (r _ L.2.2.2.2.2);have h1:s.cls c=.wk k:=M;rw[e,I.cls.sh.2.2]at h1;cases h1
 have X:C.dJ s':=by
  refine⟨I.ctl.n8,trivial,λi l=>?_,λi l Y=>?_,λi l Y=>?_,λh=>(by cases h),λ_ i l=>?_,λi l=>?_,?_,λi l=>?_,?_,?_,?_,hG,ae,λb m e=>(by cases e)⟩
  .have:=I.ctl.born i l;rw[o]at this;rw[d i l];exact(H _).2.2.2.2.1.trans this
  .rw[d i l]at Y;have:=I.ctl.l9 i l ((H _).2.2.2.2.2.1.1 Y);rw[o]at this;exact this
  .exact l
  .rw[d i l];exact⟨dt (H (s.ph i)).2.2.2.2.2.2.2 (F i l),(H (s.ph i)).2.2.2.2.2.2.1⟩
  .have:=I.ctl.g1 i l;have y:=T (s.ph i);rw[d i l];exact⟨y.1.trans this.1,y.2.1.trans this.2.1,y.2.2.1.trans this.2.2⟩
  .exact I.ctl.eI
  .have:=I.ctl.g2 i l;have y:=T (s.ph i);rw[d i l];exact⟨y.2.2.2.1.trans this.1,y.2.2.2.2.1.trans this.2.1,y.2.2.2.2.2.trans this.2.2⟩
  .exact I.ctl.eJ
  .rw[e1];exact I.ctl.z1
  .rw[e2];exact I.ctl.z2
 have N:∀i x,i<s.sp.aU C.n->gs[C.N0+i]?=some x->p.fa i (s'.cb i) (s'.ph i) (s'.rk i) (s.q (C.N0+i)) (s'.own i) (Deaf t (C.N0+i)) (woken C.P g g7 (v.setChan C.dc 0 #[] true 0 0 false) x) (v.setChan C.dc 0 #[] true 0 0 false):=by
  intro i x l Y;have O:i<C.n:=bL l (gV I.ctl);have hW:=rn hp (I.work i x l Y) (ap i);by_cases w:s.ph i=.park2
  .rw[d i O];show p.fa i (s.cb i) (f (s.ph i)) (s.rk i) (s.q (C.N0+i)) (s.own i) (Deaf t (C.N0+i)) _ _;rw[w]at hW⊢;obtain⟨hT,g',aq,rfl,ar⟩:=hW;refine⟨hT,g',aq,?_,ar⟩;have hw:(mayWake C.P g&&g7.status !=.blocked&&g7.status !=.waiting)=true:=by rw[ab,ad];rfl
   unfold woken;rw[if_pos hw];exact again_some_closed (k:=1) (c:=C.dc) (z:=p.zD) (by simp[ci.cases]) (xh A)
  .have au:f (s.ph i)=s.ph i:=if_neg w;rw[d i O];show p.fa i (s.cb i) (f (s.ph i)) (s.rk i) (s.q (C.N0+i)) (s.own i) (Deaf t (C.N0+i)) _ _;rw[au];have hw:woken C.P g g7 (v.setChan C.dc 0 #[] true 0 0 false) x=x:=by
    obtain⟨Z,_⟩|⟨_,hr|⟨_,av⟩⟩:=pz hp hW
    .rcases Z with h|h
     .have:=F i O;rw[h]at this;exact absurd this a9j
     .exact absurd h w
    .exact woken_run hr
    .unfold woken;split
     .exact again_running _ (.inr av)
     .rfl
   rw[hw];exact hW
 have aP:∀e∈(#[⟨.obj C.dc,false,true⟩,⟨.obj C.dc,true,true⟩]:Array aT),Ev0 C s' (v.setChan C.dc 0 #[] true 0 0 false).heap.size e:=by
  intro e he;simp at he;obtain rfl|rfl:=he
  .refine⟨λa ha _=>?_,by rw[D];exact cV A,by simp[MemAct.ofEvent]⟩;simp[MemAct.ofEvent,MemAct.touch?]at ha;subst ha;exact .inr (.inr ⟨.inr rfl,a9i,a9i⟩)
  .exact⟨λa ha=>(by cases ha),by rw[D];exact cV A,by simp[MemAct.ofEvent]⟩
 apply yw (s':=s') hp I hg S rfl (by rw[o];rfl) ⟨g',by rw[hd];exact hQ,hX⟩ N U J X (wj (s':=s') hS I aP (by rw[D];exact az _) J (by rw[o];rfl) (λ_ _ h=>h) (λk hk h=>by rw[d k hk,(H (s.ph k)).2.2.2.1]at h;exact h) _ _);have E:C.dM s'=C.dM s\/nn (C.N0+C.n) (C.dM s') (C.dM s):=by
  refine TA (C.N0+C.n) _ _ (λj hj=>?_) (λj hj=>?_)
  .unfold aI.dM;by_cases Q:j<C.N0
   .exact .inl (by simp[Q,s'])
   .simp only[Q,if_false];rw[d _ a9h];by_cases w:s.ph (j - C.N0)=.park2
    .rw[w];exact .inr (.num a9j)
    .rw[show f (s.ph (j - C.N0))=s.ph (j - C.N0)from if_neg w];exact .inl rfl
  .unfold aI.dM;have Q: ¬j<C.N0:=a9h
   have ba: ¬(j - C.N0<C.n):=a9h
   simp[s',ba]
 obtain h|h:=E
 .exact .inr ⟨h,.inl (by rw[R];show 13<15;decide)⟩
 .exact .inl h
end
section
variable{C:aI}{p:ci C}{s s':St}{v v1:aa}{t0 t u:bm}{gs:Array aw}{B B':Nat}
def km{o c}(h:c<v.heap.size):({v with heap:=v.heap.push o}:aa).heap[c]?=v.heap[c]? :=by
 grind
def JK{o}:({v with heap:=v.heap.push o}:aa).heap[v.heap.size]?=some o:=by simp_all
def X1(H:p.Ok)(P:∀c,C.SB c->c<C.B0)(I:p.Inv t0 s gs v t){g sl}(Q:gs[0]?=some g){k}(a:s.sp=.mk k)(R:p.MK k g)(S:Deaf t 0=0):p.Goes t0 s gs v t 0 sl:=by
 obtain⟨_,T,o,x⟩:=H.vD _ _ R;obtain⟨_,m,O,U,V⟩:=x v.heap.size;have y:=o v (gA I.hp);have J:k<C.n:=by have:=I.ctl.lF;rw[a]at this;exact this
 have K:=I.cls.ge;have W:=AF I.hp I.cls;let ⟨hr,htb,hdc⟩:=I.cls.sh;let ⟨tc,htc,_⟩:=I.hp.tb;have X:s.G1=.idle:=by have:=I.ctl.s1;rw[a]at this;exact this
 have L:s.G2=.idle:=by have:=I.ctl.s2;rw[a]at this;exact this
 let s':St:={s with sp:=.go k,m0:=m,cb:=upd s.cb k v.heap.size,cls:=upd s.cls v.heap.size (.ch k)};have M:s.cls v.heap.size=.free:=I.cls.free _ (az _);have d:∀i,s'.own i=s.own i:=λi=>by
  funext c;show(upd s.cls v.heap.size (.ch k) c=.wk i)=(s.cls c=.wk i)
  grind[upd_same,upd_ne]
 have q:∀i,i<s.sp.made C.n->s.cb i<v.heap.size:=λi f=>cV (I.hp.ch i f);have z:p.Hp s' {v with heap:=v.heap.push (.chan 1 #[] false 0 0 false)}:=by
  refine⟨?_,⟨tc,?_,by obtain⟨Y,r,Z⟩:=I.hp.tb;rw[htc]at r;cases r;exact Z⟩,?_,λc j=>?_,I.hp.os,λi f=>?_⟩
  .rw[km (cV I.hp.rb)];exact I.hp.rb
  .rw[km (cV htc)];exact htc
  .rw[km (cV I.hp.dc)];have:=I.hp.dc;rw[a]at this;exact this
  .rw[km a9h];exact I.hp.old c j
  .have A:i<k+1:=f;show _=some (if i<k then (if (s.ph i).cC then _ else _)else _);by_cases e:i=k
   .subst e;show({v with heap:=v.heap.push (.chan 1 #[] false 0 0 false)}:aa).heap[upd s.cb i v.heap.size i]?=_;rw[upd_same,JK,if_neg a9h]
   .show({v with heap:=v.heap.push (.chan 1 #[] false 0 0 false)}:aa).heap[upd s.cb k v.heap.size i]?=_;have D:i<s.sp.made C.n:=by rw[a];show i<k;omega
    rw[upd_ne _ _ e,km (q i D),I.hp.ch i D,a];rfl
 have w:({v with heap:=v.heap.push (.chan 1 #[] false 0 0 false)}:aa).heap.size=v.heap.size+1:=by show(v.heap.push _).size=_;simp
 have l:C.dx s' ({v with heap:=v.heap.push (.chan 1 #[] false 0 0 false)}:aa).heap.size:=by
  rw[w];refine⟨λc j=>?_,⟨?_,?_,?_⟩,λc j=>?_,λi f=>?_,λc i j=>?_,K⟩
  .show upd s.cls v.heap.size (.ch k) c=.old;rw[upd_ne _ _ a9h];exact I.cls.old c j
  .grind[upd_ne]
  .grind[upd_ne]
  .grind[upd_ne]
  .show upd s.cls v.heap.size (.ch k) c=.free;rw[upd_ne _ _ a9h];exact I.cls.free c a9h
  .have A:i<k+1:=f;show upd s.cls v.heap.size (.ch k) (upd s.cb k v.heap.size i)=.ch i;by_cases e:i=k
   .subst e;rw[upd_same,upd_same]
   .have D:i<s.sp.made C.n:=by rw[a];show i<k;omega
    rw[upd_ne _ _ e,upd_ne _ _ (by have:=q i D;omega)];exact I.cls.ch i D
  .have r:s.own i c:=by rw[<-d i];exact j
   have:=I.cls.wk c i r;rw[a]at this;exact this
 have N:∀i,C.Fr i (s.own i) v {v with heap:=v.heap.push (.chan 1 #[] false 0 0 false)}:=λi=>
  yb (gA z) (by rw[w];omega) (λc j=>km (by
   apply eQ;intro hn;have r:s.cls c=.wk i:=j;rw[I.cls.free c a9h]at r;cases r)) (km (cV htc))
 have E:C.dJ s':=rP (s:={s with sp:=.go k,m0:=m,G1:=s.G1,G2:=s.G2}) (iW I.ctl ⟨J,by rw[a];rfl,by rw[a];rfl,by rw[a];rfl⟩ I.ctl.g1 I.ctl.eI I.ctl.g2 I.ctl.eJ I.ctl.z1 I.ctl.z2 X L (λb m e=>by cases e)) rfl rfl rfl rfl;have F:C.stage s=30+3*(C.n - k):=by unfold aI.stage;rw[a]
 refine yw (s':=s') H I Q y rfl (by rw[a];rfl) ⟨O,by rw[S];exact U,?_⟩ (Ed (s':=s') H I rfl rfl (λi f=>?_) d (λ_=>?_) (λi f=>km (q i (vr f))) N g (T v.heap.size)) z l E (wj (s':=s') P I a9i (by rw[w];omega) l (by rw[a];rfl) (λi c h=>by rw[d];exact h) (λ_ _ h=>h) _ _) (.inr ⟨y9 rfl rfl rfl,.inl (by rw[F];show 29+3*(C.n - k)<_;omega)⟩)
 .show p.GO k (upd s.cb k v.heap.size k) O;rw[upd_same];exact V
 .have A:i<k:=by rw[a]at f;exact f
  exact upd_ne _ _ a9h
 .have:=I.hp.dc;rw[a]at this
  grind
def U2(hp:p.Ok)(hS:∀c,C.SB c->c<C.B0)(I:p.Inv t0 s gs v t){g sl}(hg:gs[0]?=some g){k}(a:s.sp=.go k)(hA:p.GO k (s.cb k) g)(hd:Deaf t 0=0):p.Goes t0 s gs v t 0 sl:=by
 obtain⟨_,X,Y,J,⟨m,g',hQ,hX⟩,N⟩:=hp.go _ _ _ hA;have O:=I.pos;have R:k<C.n:=by have:=I.ctl.lF;rw[a]at this;exact this
 have Z:gs.size=C.N0+k:=by have:=I.size;rw[a]at this;exact this
 have hG:s.G1=.idle:=by have:=I.ctl.s1;simp_all;exact this
 have S:s.G2=.idle:=by have:=I.ctl.s2;simp_all;exact this
 have K:=runT_crowd_spawn (P:=C.P) (sl:=sl) (i:=0) hg (show stepG C.P (0==0) g v=_ from J v);have o:s.ph k=.unborn:=(I.ctl.born k R).2 (by rw[a];exact az _);let ⟨ρ,hρ⟩:=N v (gA I.hp);have T:s.own k=λ_=>False:=by funext c;refine propext ⟨λh=>?_,False.elim⟩;have:=I.cls.wk c k h;rw[a]at this;exact absurd this (by simp[SP.aU])
 let x:MemOp:={g:=0,fn:=g.frame.fn,pos:=g.frame.place,act:=.go gs.size};let y:MemOp:={g:=gs.size,fn:=Y.frame.fn,pos:=g.frame.place,act:=.start};have W:∀j,Deaf (t++#[x,y]) j=Deaf t j:=λj=>up λA d=>by
  simp at d;obtain rfl|rfl:=d
  .exact⟨by simp[x],by simp[x]⟩
  .exact⟨by simp[y],by simp[y]⟩
 let s':St:={s with sp:=.snd k,m0:=m,ph:=upd s.ph k .ready,rk:=upd s.rk k ρ};have H:∀j,j<gs.size->j≠0->((gs.setIfInBounds 0 X).push Y)[j]?=gs[j]? :=λj hj h0=>by rw[fB,if_neg a9l,dw a9h]
 have U:∀A∈(#[x,y]:bm),A.act.touch?=none:=by intro A d;simp at d;obtain rfl|rfl:=d<;>rfl
 have ab:C.fY s' t0 (t++#[x,y]) v.heap.size:=by
  have h:=I.gi;refine⟨?_,?_,?_,?_,?_,?_,?_⟩
  .obtain⟨w,rfl⟩:=h.pre;exact⟨w++#[x,y],a9i⟩
  .have hf:=gI.fork (k:=gs.size) (x:=x) (y:=y) h.tF (C6 h) (.inl rfl) ⟨rfl,rfl⟩ ⟨rfl,rfl⟩ hd (I.above _ (az _));refine hf.mono (λ_ _ h=>h) (λi f=>?_);obtain rfl|⟨L,h2⟩:=f
   .exact .inl (.inl rfl)
   .have aq:i<C.N0+(k+1):=h2;by_cases e:i=gs.size
    .exact .inr e
    .refine .inl (.inr ⟨L,?_⟩);rw[a];show i<C.N0+k;omega
  .intro i A f d h0 L;obtain⟨_,r⟩|⟨_,l⟩:=getElem?_append_cases d
   .exact h.elder i A f r h0 L
   .exact U A l
  .intro i A f d;show A.g<C.N0+(k+1);obtain⟨_,r⟩|⟨_,l⟩:=getElem?_append_cases d
   .have:=h.born i A f r;rw[a]at this;have:A.g<C.N0+k:=this;omega
   .simp at l;obtain rfl|rfl:=l
    .show 0<_;omega
    .show gs.size<_;omega
  .intro i f;obtain⟨A,ho,ha⟩:=gn.1 f;obtain⟨_,r⟩|⟨_,l⟩:=getElem?_append_cases ho
   .exact h.norel i (by rw[Trace.act?,r];simp[ha])
   .simp at l;obtain rfl|rfl:=l<;>simp at ha
  .refine seen_app h.low λA d=>?_;simp at d;obtain rfl|rfl:=d<;>trivial
  .intro i f D;have D:(upd s.ph k .ready i).said=true:=D;by_cases e:i=k
   .subst e;rw[upd_same]at D;cases D
   .rw[upd_ne _ _ e]at D;exact mR h f D λA d _=>U A d
 refine⟨(gs.setIfInBounds 0 X).push Y,v,#[x,y],s',K,⟨O,?_,⟨X,?_,?_⟩,?_,?_,?_,?_,?_,?_,ab⟩,?_⟩
 .simp[Z];show _=C.N0+(k+1);omega
 .rw[fB,if_neg a9l,lG a9h]
 .rw[W,hd];exact⟨g',hQ,hX⟩
 .intro j z h0 hN M;rw[H j a9h a9h]at M;rw[W];exact I.elder j z h0 hN M
 .intro i z f M;have ar:i<k+1:=f;rw[W];show p.fa i (s.cb i) (upd s.ph k .ready i) (upd s.rk k ρ i) (s.q (C.N0+i)) (s.own i) _ _ _;by_cases e:i=k
  .subst e;rw[upd_same,upd_same,T,I.above _ a9h];rw[fB,if_pos a9l]at M;obtain rfl:=db M;exact hρ
  .rw[H _ a9h a9h]at M;rw[upd_ne _ _ e,upd_ne _ _ e];exact I.work i z (by rw[a];show i<k;omega) M
 .intro j hj;rw[W];exact I.above j (by simp at hj;omega)
 .have L:p.Hp {s with sp:=.snd k,m0:=m,G1:=s.G1,G2:=s.G2} v:=VT I.hp (by rw[a];rfl) (by rw[a];rfl) (by rw[a];rfl) ⟨rfl,rfl⟩ ⟨rfl,rfl⟩;exact vc (rk:=upd s.rk k ρ) (q:=s.q) L (by show Ph.cX _=(s.ph k).cX;rw[o];rfl) (by show Ph.cY _=(s.ph k).cY;rw[o];rfl) (by show Ph.cC _=(s.ph k).cC;rw[o];rfl)
 .obtain⟨ad,sh,V,ch,wk,ge⟩:=I.cls;refine⟨ad,sh,V,λi f=>ch i (by rw[a];exact f),λc i hc=>?_,ge⟩;have:=wk c i hc;rw[a]at this;have:i<k:=this;show i<k+1;omega
 .have E:=I.ctl;have F:∀{Q:Nat->Ph->Prop},(∀i,i<C.n->i≠k->Q i (s.ph i))->Q k .ready->∀i,i<C.n->Q i (upd s.ph k .ready i):=by
   intro Q L h2 i f;by_cases e:i=k
   .subst e;rw[upd_same];exact h2
   .rw[upd_ne _ _ e];exact L i f e
  refine⟨E.n8,R,?_,?_,?_,λ_=>?_,λh=>(by cases h),?_,E.eI,?_,E.eJ,?_,?_,hG,S,λb m e=>(by cases e)⟩
  .refine F (Q:=λi z=>z=.unborn↔k+1<=i) (λi f e=>?_) ⟨λh=>(by cases h),λh=>a9h⟩;have:=E.born i f;rw[a]at this;have:s.ph i=.unborn↔k<=i:=this;rw[this];omega
  .refine F (Q:=λi z=>z=.park1->k<=i) (λi f _ D=>?_) (λh=>(by cases h));have:=E.l9 i f D;rw[a]at this;exact this
  .refine F (Q:=λi z=>z.cC=true->i<k) (λi f _ D=>?_) (λh=>(by cases h));have:=E.cC i f D;rw[a]at this;exact this
  .exact F (Q:=λi z=>7<=z.num) (λi f _=>E.opened (by rw[a];rfl) i f) a9j
  .exact oZ E.g1 (by rw[o];decide) a9j
  .exact o5 E.g2 (by rw[o];decide) a9j
  .show s.G1.zz _;rw[hG];trivial
  .show s.G2.zz _;rw[S];trivial
 .refine .inl (sj (i:=C.N0+k) a9h ?_ λj hj=>?_)
  .have ae: ¬(C.N0+k<C.N0):=a9h
   have ap:C.N0+k - C.N0=k:=a9h
   simp[aI.dM,ae,s',upd_same,o];exact .num a9j
  .unfold aI.dM;by_cases ao:j<C.N0
   .simp[ao,s']
   .have:j - C.N0≠k:=a9h
    simp[s',upd_ne _ _ this]
end
end Go.Mir
end
