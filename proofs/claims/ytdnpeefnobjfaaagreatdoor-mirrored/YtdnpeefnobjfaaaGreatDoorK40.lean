import Derived.Test.YtdnpeefnobjfaaaGreatDoorK39
set_option maxRecDepth 100000
set_option maxHeartbeats 4000000
set_option linter.all false
section
namespace Go.Mir
open Go Go.Conc
open Go.ConcN (upd upd_ne upd_same)
section
variable{P:ay}{gs:Array aw}{w:aa}{sl:Option (Nat×Nat)}{j c dc cap k2 s r s2 r2:Nat}{g g₂:aw}{es:Array aJ}{x z zd:af}{tm m2:Bool}{buf:Array af}
def a0K(d:gs[j]?=some g)(h:stepG P (j==0) g w=.comm g₂ #[rcase c z,rcase dc zd] true .select w #[])(e:w.heap[c]?=some (.chan cap #[x] false s r tm))(f:w.heap[dc]?=some (.chan k2 #[] false s2 r2 m2))(a:partners (gs.setIfInBounds j Conc.ph) c true=[])(b:partners (gs.setIfInBounds j Conc.ph) dc true=[]):runT P (crowd gs w sl) j=(.next (crowd (gs.setIfInBounds j (g₂.finishComm P #[rcase c z,rcase dc zd] .select 0 x true)) (w.setChan c cap #[] false s (r+1) tm) sl),#[{g:=j,fn:=g₂.frame.fn,pos:=g₂.frame.place,act:=.recv c r cap},{g:=j,fn:=g₂.frame.fn,pos:=g₂.frame.place,act:=.recvDone c r}]):=by rw[runT_crowd_comm d h];simp[communicate,ways,rcase,e,f,a,b,choose,Sem.run,Question.forced,bind,Sem.bind,pure,World.setChan,crowd,MemOp.ofEvents]
def a0J(d:gs[j]?=some g)(h:stepG P (j==0) g w=.comm g₂ #[rcase c z,rcase dc zd] true .select w #[])(e:w.heap[c]?=some (.chan cap #[] false s r tm))(f:w.heap[dc]?=some (.chan k2 #[] true s2 r2 m2))(a:partners (gs.setIfInBounds j Conc.ph) c true=[])(b:partners (gs.setIfInBounds j Conc.ph) dc true=[]):runT P (crowd gs w sl) j=(.next (crowd (gs.setIfInBounds j (g₂.finishComm P #[rcase c z,rcase dc zd] .select 1 zd false)) w sl),#[{g:=j,fn:=g₂.frame.fn,pos:=g₂.frame.place,act:=.recvClosed dc}]):=by rw[runT_crowd_comm d h];simp[communicate,ways,rcase,e,f,a,b,choose,Sem.run,Question.forced,bind,Sem.bind,pure,crowd,MemOp.ofEvents]
def Ii(i:gs[j]?=some g)(h:stepG P (j==0) g w=.comm g₂ #[rcase c z,rcase dc zd] true .select w #[])(e:w.heap[c]?=some (.chan cap #[] false s r tm))(f:w.heap[dc]?=some (.chan k2 #[] false s2 r2 m2))(b:partners (gs.setIfInBounds j Conc.ph) c true=[])(d:partners (gs.setIfInBounds j Conc.ph) dc true=[]):runT P (crowd gs w sl) j=(.next (crowd (gs.setIfInBounds j (parked g₂ #[rcase c z,rcase dc zd] .select)) w sl),#[]):=by
 have:=crowd_waits (sl:=sl) i h (λk a=>by
  simp only[dK,cm,dP,or_false]at a;obtain rfl|rfl:=a
  .exact⟨made_recv z e,by simp[ways,rcase,e,b]⟩
  .exact⟨made_recv zd f,by simp[ways,rcase,f,d]⟩)
 simpa[MemOp.ofEvents]using this
end
section
variable{C:aI}{p:cC C}{s s':St}{v v1:aa}{t0 t u:aY}{gs:Array aw}{B B':Nat}
def a1k(a:p.Ok){d f}(h:p.fT s d f)(r b):offersAt f r b=[]:=by
 unfold cC.fT at h;split at h
 .rename_i A D;obtain⟨E,n,i,rfl⟩:=h;obtain⟨_,o,_⟩:=a.sa _ _ i;simp[offersAt,o]
 .obtain⟨n,q,l⟩:=h;have e:f.status=.running:=by
   refine lS q ?_;revert l;cases y:s.sp with
   |mk k=>exact λh=>(a.sI _ _ h).1
   |go k=>exact λh=>(a.go _ _ _ h).1
   |snd k=>exact λh=>(a.sn _ _ _ h).1
   |lw b=>exact λh=>(a.lw _ _ h).1
   |ca b m=>exact λh=>(a.ca _ _ _ h).1
   |sa b=>exact λh=>(a.sa _ _ h).1
   |sb b=>exact λh=>(a.sa _ _ h).1
   |ld b=>exact λh=>(a.ld _ _ h).1
   |aq b=>exact λh=>(a.aq _ _ h).1
   |cl=>exact λh=>(a.cl _ h).1
  exact offersAt_of_not_blocked (by rw[e];simp) _ _
def tL(I:p.Inv t0 s gs v t){j g}(h:gs[j]?=some g):(j=0/\p.fT s (Deaf t 0) g)\/(0<j/\j<C.N0/\QuitsD C.P (s.q j) (Deaf t j) g)\/∃i,j=C.N0+i/\i<s.sp.aW C.n/\i<C.n/\p.eU i (s.cb i) (s.ph i) (s.rk i) (s.q (C.N0+i)) (s.own i) (Deaf t (C.N0+i)) g v:=by
 have b:j<gs.size:=(bW.1 h).1;rw[I.size]at b;obtain rfl|a:=kh j
 .obtain⟨k,h0,f⟩:=I.start;rw[h]at h0;cases h0;exact .inl ⟨rfl,f⟩
 .by_cases e:j<C.N0
  .exact .inr (.inl ⟨a,e,I.elder j g a e h⟩)
  .obtain⟨i,rfl⟩:∃i,j=C.N0+i:=⟨j - C.N0,by omega⟩;have d:i<s.sp.aW C.n:=by omega
   exact .inr (.inr ⟨i,rfl,d,cG d (gM I.ctl),I.work i g d h⟩)
def nF(d:p.Ok)(I:p.Inv t0 s gs v t)(j r):partners (gs.setIfInBounds j Conc.ph) r true=[]:=by
 refine partners_nil λk g b=>?_;obtain⟨_,rfl⟩|⟨_,b⟩:=getElem?_stand gs j k g b
 .rfl
 .rcases tL I b with⟨_,e⟩|⟨_,_,f⟩|⟨i,_,_,_,l⟩
  .exact a1k d e _ _
  .refine offersAt_of_not_blocked ?_ _ _;obtain h|h:=f.status<;>rw[h]<;>simp
  .rcases nQ d l with⟨_,m,rfl⟩|⟨_,h|⟨_,h⟩⟩
   .exact offersAt_parked_sends (λn a=>by
     simp only[cC.cases,dK,cm,dP,or_false]at a;obtain rfl|rfl:=a<;>rfl) _
   .exact offersAt_of_not_blocked (by rw[h];simp) _ _
   .exact offersAt_of_not_blocked (by rw[h];simp) _ _
def vP(S:p.Ok)(I:p.Inv t0 s gs v t){i}(T:i<s.sp.aW C.n){g g' sl}(U:gs[C.N0+i]?=some g)(l:runT C.P (crowd gs v sl) (C.N0+i)=(.next (crowd (gs.setIfInBounds (C.N0+i) g') v1 sl),u))(o:∀b∈u,b.g=C.N0+i/\b.act.touch?=none/\b.act.low v1.heap.size/\∀m,b.act≠.mark m)(X ρ m)(V:p.eU i (s.cb i) X ρ m (s.own i) (Deaf t (C.N0+i)) g' v1)(L:∀k,k≠i->C.Fr k (s.own k) v v1)(M:p.Hp {s with ph:=upd s.ph i X,rk:=upd s.rk i ρ,q:=upd s.q (C.N0+i) m} v1)(W:v1.heap.size=v.heap.size)(y:C.dQ {s with ph:=upd s.ph i X,rk:=upd s.rk i ρ,q:=upd s.q (C.N0+i) m})(N:X.said=true->(s.ph i).said=true)(A:X.num<(s.ph i).num):p.Goes t0 s gs v t (C.N0+i) sl:=by
 have Y:i<C.n:=cG T (gM I.ctl);have D:=I.pos;have O:C.N0+i<gs.size:=(bW.1 U).1;have J:∀j,Deaf (t++u) j=Deaf t j:=λj=>ry λb a=>⟨(o b a).2.2.2 _,(o b a).2.2.2 _⟩;have E:C.dL {s with ph:=upd s.ph i X,rk:=upd s.rk i ρ,q:=upd s.q (C.N0+i) m} v1.heap.size:=by rw[W];exact mw I.cls rfl rfl rfl
 refine⟨_,_,_,{s with ph:=upd s.ph i X,rk:=upd s.rk i ρ,q:=upd s.q (C.N0+i) m},l,⟨D,by simpa using I.size,?_,?_,?_,?_,M,E,y,?_⟩,?_⟩
 .obtain⟨Z,h0,hS⟩:=I.start;refine⟨Z,by rw[di (by omega)];exact h0,?_⟩;rw[J];exact BF rfl rfl rfl hS
 .intro j x h0 hN d;rw[di (by omega)]at d;show QuitsD C.P (upd s.q (C.N0+i) m j) _ _;rw[J,upd_ne _ _ (by omega)];exact I.elder j x h0 hN d
 .intro k x Q d;rw[J];show p.eU k (s.cb k) (upd s.ph i X k) (upd s.rk i ρ k) (upd s.q (C.N0+i) m (C.N0+k)) (s.own k) _ _ _;by_cases f:k=i
  .subst f;rw[j8 O]at d;obtain rfl:=dk d;rw[upd_same,upd_same,upd_same];exact V
  .rw[di (by omega)]at d;rw[upd_ne _ _ f,upd_ne _ _ f,upd_ne _ _ (by omega)];exact pn S (I.work k x Q d) (L k f)
 .intro j K;rw[J];exact I.above j (by simpa using K)
 .refine qJ I.f8 (by omega) rfl (λ_ _ h=>h) (λb a=>(o b a).2.1) (λb a=>by rw[(o b a).1];omega) (λb a=>(o b a).2.2.1) (λb a=>(o b a).2.2.2 _) (λk Q d=>?_);refine lT I.f8 Q ?_ λb a _=>(o b a).2.1;have d:(upd s.ph i X k).said=true:=d;by_cases e:k=i
  .subst e;rw[upd_same]at d;exact N d
  .rwa [upd_ne _ _ e]at d
 .refine .inl (pT (i:=C.N0+i) (by omega) ?_ λj K=>?_)
  .have R: ¬(C.N0+i<C.N0):=by omega
   have F:C.N0+i - C.N0=i:=by omega
   simp only[aI.dV,R,if_false,F,upd_same];exact .num A
  .unfold aI.dV;by_cases H:j<C.N0
   .simp only[H,if_true,upd_ne _ _ K]
   .have:j - C.N0≠i:=by omega
    simp only[H,if_false,upd_ne _ _ this,upd_ne _ _ K]
def ur{c cap buf cl s1 r1 tm o}(h:v.heap[c]?=some o):(v.setChan c cap buf cl s1 r1 tm).heap[c]?=some (.chan cap buf cl s1 r1 tm):=by simp[World.setChan,cP h]
def kp{c c' cap buf cl s1 r1 tm}(h:c'≠c):(v.setChan c cap buf cl s1 r1 tm).heap[c']?=v.heap[c']? :=by have: ¬c=c':=λe=>h e.symm;simp[World.setChan,this]
def yp(a:C.dL s B){i k}(d:i<s.sp.made C.n)(e:k<s.sp.made C.n)(h:s.cb i=s.cb k):i=k:=by have b:=a.ch i d;have f:=a.ch k e;rw[h,f]at b;cases b;rfl
def rp(b:C.dL s B){i}(d:i<s.sp.made C.n):s.cb i≠C.r/\s.cb i≠C.tb/\s.cb i≠C.dc:=by
 obtain⟨f,h,k⟩:=b.sh;have a:=b.ch i d;refine⟨λe=>?_,λe=>?_,λe=>?_⟩<;>rw[e]at a
 .rw[f]at a;cases a
 .rw[h]at a;cases a
 .rw[k]at a;cases a
def sF{i}(a:i<s.sp.aW C.n):i<s.sp.made C.n:=by revert a;cases s.sp<;>simp[SP.aW,SP.made]<;>omega
def vp(a:p.Hp s v)(d:C.dL s v.heap.size){i}(f:i<s.sp.made C.n){cap buf cl s1 r1 tm}:C.Shape (v.setChan (s.cb i) cap buf cl s1 r1 tm)/\∀k,C.Fr k (s.own k) v (v.setChan (s.cb i) cap buf cl s1 r1 tm):=by
 obtain⟨o,h,q⟩:=rp d f;have l:C.Shape (v.setChan (s.cb i) cap buf cl s1 r1 tm):=by refine⟨⟨_,_,_,_,by rw[kp o.symm];exact a.rb⟩,by rw[kp h.symm];exact a.tb,λc b=>?_,a.os,by simpa[World.setChan]using cP a.dc⟩;rw[kp λe=>by have:=d.ch i f;rw[<-e,d.old c b]at this;cases this];exact a.old c b
 refine⟨l,λk=>vr l (by simp[World.setChan]) (λc b=>kp λe=>?_) (kp h.symm)⟩;have m:s.cls c=.wk k:=b;rw[e,d.ch i f]at m;cases m
end
section
variable{C:aI}{p:cC C}{s s':St}{v v1:aa}{t0 t u:aY}{gs:Array aw}{B B':Nat}
def sC(h:p.Hp s v){i X rk q}(b:X.dm=(s.ph i).dm)(c:X.dn=(s.ph i).dn)(d:X.cD=(s.ph i).cD):p.Hp {s with ph:=upd s.ph i X,rk:=rk,q:=q} v:=by
 obtain⟨f,g,j,a,l,m⟩:=h;refine⟨?_,g,j,a,l,λk o=>?_⟩
 .show v.heap[C.r]?=some (C.fc (s.G1.st (cnt _ C.n)) _ (s.G2.st (cnt _ C.n)) _);rw[show cnt (λk=>(upd s.ph i X k).dm) C.n=C.a1 s from kN b,show cnt (λk=>(upd s.ph i X k).dn) C.n=C.a2 s from kO c];exact f
 .have:(upd s.ph i X k).cD=(s.ph k).cD:=by
   by_cases e:k=i
   .subst e;rw[upd_same];exact d
   .rw[upd_ne _ _ e]
  show v.heap[s.cb k]?=some (if _ then (if (upd s.ph i X k).cD then _ else _)else _);rw[this];exact m k o
def rx(h:C.dQ s){i}(f:i<C.n){X rk q}(h0:s.ph i≠.unborn)(g:X≠.unborn)(b:X=.park1->s.sp.cM C.n<=i)(c:X.cD=true->i<s.sp.cM C.n)(d:s.sp.closed=false->7<=X.num)(e:s.sp.closed=true->X.num<=8/\X≠.park2)(a:((s.ph i≠.la1/\s.ph i≠.lb1/\s.ph i≠.lc1)/\X≠.la1/\X≠.lb1/\X≠.lc1)/\(s.ph i≠.la2/\s.ph i≠.lb2/\s.ph i≠.lc2)/\X≠.la2/\X≠.lb2/\X≠.lc2)(j:X.dm=(s.ph i).dm)(k:X.dn=(s.ph i).dn):C.dQ {s with ph:=upd s.ph i X,rk:=rk,q:=q}:=
 kS (cls:=s.cls) h f h0 g b c d e (nD h.g1 a.1.1 a.1.2) h.ee (nE h.g2 a.2.1 a.2.2) h.ef (by rw[kN j];exact h.z1) (by rw[kO k];exact h.z2) h.s1 h.s2
def a0I(o:p.Ok)(I:p.Inv t0 s gs v t){i}(D:i<s.sp.aW C.n){g sl}(E:gs[C.N0+i]?=some g)(a:s.ph i=.ready)(L:p.S1 i (s.cb i) g)(M:Deaf t (C.N0+i)=0):p.Goes t0 s gs v t (C.N0+i) sl:=by
 have q:i<C.n:=cG D (gM I.ctl);have N:=I.pos;have H:(C.N0+i==0)=false:=by simp;omega
 have O:s.ph i≠.unborn:=by rw[a];decide
 have d:=sF D;have w:s.sp.closed=false:=by
  cases e:s.sp.closed with
  |false=>rfl
  |true=>have:=(I.ctl.shut e i q).1;rw[a]at this;exact absurd this (by decide)
 have x:=I.hp.dc;rw[w]at x;have c:=I.hp.ch i d;obtain⟨_,y,z⟩:=o.s1 _ _ _ L;obtain⟨R,V,S⟩:=rp I.cls d;have l:stepG C.P (C.N0+i==0) g v=.comm g #[rcase (s.cb i) p.zT,rcase C.dc p.zD] true .select v #[]:=by rw[H];exact y v
 by_cases F:i<s.sp.cM C.n
 .have J:(s.ph i).cD=false:=by rw[a];rfl
  simp only[F,if_true,J,dj,if_false]at c;have b:=a0K (sl:=sl) E l c x (nF o I _ _) (nF o I _ _);obtain⟨f,K⟩:=vp I.hp I.cls d (cap:=1) (buf:=#[]) (cl:=false) (s1:=1) (r1:=0+1) (tm:=false);obtain⟨ρ,T⟩:=z (s.own i) _ f (sW I.cls (by simp[World.setChan]) i);refine vP o I D E b (λU j=>?_) .work ρ 0 (by rw[M];exact T) (λk _=>K k) ?_ (by simp[World.setChan]) ?_ (by intro h;cases h) (by rw[a];decide)
  .simp only[dK,cm,dP,or_false]at j;have A:s.cb i<(v.setChan (s.cb i) 1 #[] false 1 (0+1) false).heap.size:=by simpa[World.setChan]using cP c
   obtain rfl|rfl:=j
   .exact⟨rfl,rfl,A,λm=>by simp⟩
   .exact⟨rfl,rfl,A,λm=>by simp⟩
  .refine⟨?_,?_,?_,f.old,f.os,λk Q=>?_⟩
   .rw[kp R.symm];show v.heap[C.r]?=some (C.fc (s.G1.st (cnt _ C.n)) _ (s.G2.st (cnt _ C.n)) _);rw[show cnt (λk=>(upd s.ph i .work k).dm) C.n=C.a1 s from kN (by rw[a];rfl),show cnt (λk=>(upd s.ph i .work k).dn) C.n=C.a2 s from kO (by rw[a];rfl)];exact I.hp.rb
   .exact f.tb
   .rw[kp S.symm];exact I.hp.dc
   .show(v.setChan _ _ _ _ _ _ _).heap[s.cb k]?=some (if k<s.sp.cM C.n then (if (upd s.ph i .work k).cD then _ else _)else _);by_cases e:k=i
    .subst e;rw[ur c,upd_same,if_pos F];rfl
    .rw[kp λh=>e (yp I.cls Q d h),upd_ne _ _ e];exact I.hp.ch k Q
  .exact rx I.ctl q O (by decide) (λe=>by cases e) (λ_=>F) (λ_=>by decide) (λh=>by rw[w]at h;cases h) (by rw[a];decide) (by rw[a];rfl) (by rw[a];rfl)
 .simp only[F,if_false]at c;have b:=Ii (sl:=sl) E l c x (nF o I _ _) (nF o I _ _);refine vP o I D E b (λU j=>by simp at j) .park1 .leaf 0 ⟨g,L,rfl,M⟩ (λk _=>.refl (gq I.hp)) (sC I.hp (by rw[a];rfl) (by rw[a];rfl) (by rw[a];rfl)) rfl ?_ (by intro h;cases h) (by rw[a];decide);exact rx I.ctl q O (by decide) (λ_=>by omega) (by intro h;cases h) (λ_=>by decide) (λh=>by rw[w]at h;cases h) (by rw[a];decide) (by rw[a];rfl) (by rw[a];rfl)
def Ih(r:p.Ok)(I:p.Inv t0 s gs v t){i}(F:i<s.sp.aW C.n){g H sl}(J:gs[C.N0+i]?=some g)(a:s.ph i=.dX\/s.ph i=.wok2)(N:p.S2 i (s.cb i) H)(x:∀w,stepG C.P false g w=stepG C.P false H w)(O:Deaf t (C.N0+i)=0)(Q:p.TD i (s.own i) v):p.Goes t0 s gs v t (C.N0+i) sl:=by
 have f:i<C.n:=cG F (gM I.ctl);have R:=I.pos;have K:(C.N0+i==0)=false:=by simp;omega
 have S:s.ph i≠.unborn:=by obtain h|h:=a<;>rw[h]<;>decide
 have L:=sF F;have M:i<s.sp.cM C.n:=I.ctl.cD i f (by obtain h|h:=a<;>rw[h]<;>rfl);have y:(s.ph i).cD=true:=by obtain h|h:=a<;>rw[h]<;>rfl
 have c:=I.hp.dc;have z:=I.hp.ch i L;simp only[M,if_true,y]at z;obtain⟨_,A,D⟩:=r.s2 _ _ _ N;have q:stepG C.P (C.N0+i==0) g v=.comm H #[rcase (s.cb i) p.zT,rcase C.dc p.zD] true .select v #[]:=by rw[K,x];exact A v
 have j:(s.ph i).dm=false:=by obtain h|h:=a<;>rw[h]<;>rfl
 have l:(s.ph i).dn=true:=by obtain h|h:=a<;>rw[h]<;>rfl
 have T:∀X:Ph,(X≠.la1/\X≠.lb1/\X≠.lc1)/\(X≠.la2/\X≠.lb2/\X≠.lc2)->((s.ph i≠.la1/\s.ph i≠.lb1/\s.ph i≠.lc1)/\X≠.la1/\X≠.lb1/\X≠.lc1)/\(s.ph i≠.la2/\s.ph i≠.lb2/\s.ph i≠.lc2)/\X≠.la2/\X≠.lb2/\X≠.lc2:=λX U=>by obtain h|h:=a<;>rw[h]<;>exact⟨⟨by decide,U.1⟩,by decide,U.2⟩
 cases d:s.sp.closed with
 |true=>
  rw[d]at c;have b:=a0J (sl:=sl) J q z c (nF r I _ _) (nF r I _ _);obtain⟨ρ,V⟩:=D (s.own i) _ (gq I.hp) (sW I.cls rfl i) Q;refine vP r I F J b (λW o=>?_) .fin ρ 0 (by rw[O];exact V) (λk _=>.refl (gq I.hp)) (sC I.hp (by rw[j];rfl) (by rw[l];rfl) (by rw[y];rfl)) rfl ?_ (by intro h;cases h) (by obtain h|h:=a<;>rw[h]<;>decide)
  .simp only[dK,cm,dP,or_false]at o;subst o;exact⟨rfl,rfl,cP c,λm=>by simp⟩
  .exact rx I.ctl f S (by decide) (λe=>by cases e) (λ_=>M) (λh=>by rw[d]at h;cases h) (λ_=>by decide) (T _ (by decide)) (by rw[j];rfl) (by rw[l];rfl)
 |false=>
  rw[d]at c;have E:s.ph i=.dX:=by
   obtain h|h:=a
   .exact h
   .have:=I.ctl.opened d i f;rw[h]at this;exact absurd this (by decide)
  have b:=Ii (sl:=sl) J q z c (nF r I _ _) (nF r I _ _);refine vP r I F J b (λW o=>by simp at o) .park2 .leaf 0 ⟨Q,H,N,rfl,O⟩ (λk _=>.refl (gq I.hp)) (sC I.hp (by rw[j];rfl) (by rw[l];rfl) (by rw[y];rfl)) rfl ?_ (by intro h;cases h) (by rw[E];decide);exact rx I.ctl f S (by decide) (λe=>by cases e) (λ_=>M) (λ_=>by decide) (λh=>by rw[d]at h;cases h) (T _ (by decide)) (by rw[j];rfl) (by rw[l];rfl)
def ZM(J:p.Ok)(I:p.Inv t0 s gs v t){i}(K:i<s.sp.aW C.n){g sl}(P:gs[C.N0+i]?=some g)(c:s.ph i=.fin)(Q:p.RL i (s.cb i) g)(L:Deaf t (C.N0+i)=0)(R:p.TD i (s.own i) v):p.Goes t0 s gs v t (C.N0+i) sl:=by
 have l:i<C.n:=cG K (gM I.ctl);have S:s.ph i≠.unborn:=by rw[c];decide
 have T:i<s.sp.cM C.n:=I.ctl.cD i l (by rw[c];rfl);have y:s.sp.closed=true:=by
  cases e:s.sp.closed with
  |true=>rfl
  |false=>have:=I.ctl.opened e i l;rw[c]at this;exact absurd this (by decide)
 obtain⟨_,g1,o,_,m,U,V,W⟩:=J.rl _ _ _ Q;let s':St:={s with ph:=upd s.ph i .hush,rk:=upd s.rk i .leaf,q:=upd s.q (C.N0+i) m};have d:∀f∈MemOp.ofEvents (C.N0+i) g.frame.fn g.frame.place #[⟨.mark (.releaseMerge (C.ca 4)),false,true⟩],f.g=C.N0+i/\f.act=.mark (.releaseMerge (C.ca 4)):=λf b=>by obtain⟨e,M,rfl⟩:=Go.Conc.mem_ofEvents b;simp only[dK,cm,dP,or_false]at M;subst M;exact⟨rfl,rfl⟩
 have z:=vR (s':=s') (sl:=sl) J I K P (o v) (λk w=>⟨upd_ne _ _ w,upd_ne _ _ w⟩) (λj N=>upd_ne _ _ N) rfl (λ_ _=>rfl) rfl rfl
  (by
   show p.eU i (s.cb i) (upd s.ph i .hush i) (upd s.rk i .leaf i) (upd s.q (C.N0+i) m (C.N0+i)) (s.own i) _ _ _;rw[upd_same,upd_same,upd_same,L];exact⟨R,U,V,W⟩) (λk _=>.refl (gq I.hp)) (sC I.hp (by rw[c];rfl) (by rw[c];rfl) (by rw[c];rfl)) (mw I.cls rfl rfl rfl)
  (.inl (rx I.ctl l S (by decide) (λe=>by cases e) (λ_=>T) (λh=>by rw[y]at h;cases h) (λ_=>by decide) (by rw[c];decide) (by rw[c];rfl) (by rw[c];rfl)))
  (qJ (s':=s') I.f8 (aF _) rfl (λ_ _ h=>h) (λf b=>by rw[(d f b).2];rfl) (λf b=>by rw[(d f b).1];omega) (λf b=>by rw[(d f b).2];exact cP I.hp.rb) (λf b=>by rw[(d f b).2];simp) (λk w x=>by
   have x:(upd s.ph i .hush k).said=true:=x;by_cases e:k=i
   .subst e;refine⟨_,ConcN.RelBy.new L _ _,λj f a N b X O=>?_⟩;obtain⟨Y,_⟩|⟨_,A⟩:=getElem?_append_cases b
    .omega
    .rw[(d f A).2]at O;cases O
   .rw[upd_ne _ _ e]at x;exact lT I.f8 w x λf b _=>by rw[(d f b).2];rfl)) ?_
 .obtain⟨D,E,F,Z,h2,h3⟩:=z;exact⟨D,v,E,F,Z,h2,h3⟩
 .have H: ¬(C.N0+i<C.N0):=by omega
  have r:C.N0+i - C.N0=i:=by omega
  simp only[aI.dV,H,if_false,r,s',upd_same,c];exact .num (by decide)
def Hs{main E m d a g g'}(h:C.Quiet main E m d g a g'):(m=0/\d=a/\g=g')\/∃b es c,m=b+1/\(∀v,C.Shape v->stepG C.P main g v=.go c v es)/\(∀e∈es,E e)/\C.Quiet main E b (deafBehind d es) c a g':=by
 cases h with
 |nil=>exact .inl ⟨rfl,rfl,rfl⟩
 |cons es j f i h=>exact .inr ⟨_,es,_,rfl,f,i,h⟩
def a3L(E:p.Ok)(F:∀c,C.SB c->c<C.B0)(I:p.Inv t0 s gs v t){i}(z:i<s.sp.aW C.n){g sl}(D:gs[C.N0+i]?=some g)(x:g.status=.running):p.Goes t0 s gs v t (C.N0+i) sl:=by
 have b:=I.work i g z D;have quiet:∀{r:aw} {A:aw->Prop},C.Quiet false jH (s.q (C.N0+i)) (Deaf t (C.N0+i)) g 1 r->A r->p.TD i (s.own i) v->(∀m d g,p.TD i (s.own i) v->C.Quiet false jH m d g 1 r->p.eU i (s.cb i) (s.ph i) (s.rk i) m (s.own i) d g v)->(A g->Deaf t (C.N0+i)=1->p.Goes t0 s gs v t (C.N0+i) sl)->p.Goes t0 s gs v t (C.N0+i) sl:=by
  intro r A y o l N K;obtain⟨_,e,rfl⟩|⟨T,P,U,Q,H,R,J⟩:=Hs y
  .exact K o e
  .exact Ht E F I z D Q (H v (gq I.hp)) R (N _ _ _ l J)
 cases a:s.ph i with
 |unborn=>rw[a]at b;exact b.elim
 |ready=>
  rw[a]at b;cases j:s.rk i with
  |leaf=>rw[j]at b;exact a0I E I z D a b.1 b.2
  |node f=>rw[j]at b;exact xF E F I z D j b (λρ O d g v h=>by rw[a];exact h) (by rw[a];rfl)
 |park1=>rw[a]at b;obtain⟨r,_,rfl,_⟩:=b;cases x
 |work=>
  rw[a]at b;cases j:s.rk i with
  |leaf=>rw[j]at b;exact a6e E F I z D a b.1 b.2.1 b.2.2
  |node f=>rw[j]at b;exact xF E F I z D j b (λρ O d g v h=>by rw[a];exact h) (by rw[a];rfl)
 |la1=>rw[a]at b;obtain⟨l,r,y,o⟩:=b;exact quiet y o l (λm d g e k=>by rw[a];exact⟨e,r,k,o⟩) (λe k=>TZ E F I z D a e k l)
 |lb1=>rw[a]at b;obtain⟨l,r,y,o⟩:=b;exact quiet y o l (λm d g e k=>by rw[a];exact⟨e,r,k,o⟩) (λe k=>T8 E F I z D a e k l)
 |lc1=>rw[a]at b;obtain⟨l,r,y,o⟩:=b;exact quiet y o l (λm d g e k=>by rw[a];exact⟨e,r,k,o⟩) (λe k=>Ua E F I z D a e k l)
 |dX=>
  rw[a]at b;cases j:s.rk i with
  |leaf=>rw[j]at b;exact Ih E I z D (.inl a) b.1 (λ_=>rfl) b.2.1 b.2.2
  |node f=>rw[j]at b;exact xF E F I z D j b (λρ O d g v h=>by rw[a];exact h) (by rw[a];rfl)
 |park2=>rw[a]at b;obtain⟨_,r,_,rfl,_⟩:=b;cases x
 |wok2=>rw[a]at b;obtain⟨l,r,o,rfl,S⟩:=b;refine Ih E I z D (.inr a) o (λw=>?_) S l;exact stepG_same rfl rfl rfl w
 |fin=>
  rw[a]at b;cases j:s.rk i with
  |leaf=>rw[j]at b;exact ZM E I z D a b.1 b.2.1 b.2.2
  |node f=>rw[j]at b;exact xF E F I z D j b (λρ O d g v h=>by rw[a];exact h) (by rw[a];rfl)
 |hush=>rw[a]at b;obtain⟨l,r,y,o⟩:=b;exact quiet y o l (λm d g e k=>by rw[a];exact⟨e,r,k,o⟩) (λe k=>LH E F I z D a e k l)
 |la2=>rw[a]at b;obtain⟨l,r,y,o⟩:=b;exact quiet y o l (λm d g e k=>by rw[a];exact⟨e,r,k,o⟩) (λe k=>T0 E F I z D a e k l)
 |lb2=>rw[a]at b;obtain⟨l,r,y,o⟩:=b;exact quiet y o l (λm d g e k=>by rw[a];exact⟨e,r,k,o⟩) (λe k=>T9 E F I z D a e k l)
 |lc2=>rw[a]at b;obtain⟨l,r,y,o⟩:=b;exact quiet y o l (λm d g e k=>by rw[a];exact⟨e,r,k,o⟩) (λe k=>Ub E F I z D a e k l)
 |leave=>
  rw[a]at b;obtain⟨l,y⟩:=b;cases L:s.q (C.N0+i)with
  |zero=>rw[L]at y;rw[y.1]at x;cases x
  |succ m=>
   rw[L]at y;obtain⟨e,_⟩|⟨_,r,P,M,H,J⟩:=y
   .rw[e]at x;cases x
   .exact Ht E F I z D L (H v) M (by rw[a];exact⟨l,J⟩)
end
section
variable{C:aI}{p:cC C}{s s':St}{v v1:aa}{t0 t u:aY}{gs:Array aw}{B B':Nat}
def Qo(hp:p.Ok)(I:p.Inv t0 s gs v t){j}(h0:0<j)(hN:j<C.N0){g sl}(T:gs[j]?=some g)(o:g.status=.running):p.Goes t0 s gs v t j sl:=by
 have O:=I.elder j g h0 hN T;cases U:s.q j with
 |zero=>rw[U]at O;rw[O.1]at o;cases o
 |succ m=>
  rw[U]at O;obtain⟨V,_⟩|⟨_,g',Q,D,W,X⟩:=O
  .rw[V]at o;cases o
  .have Y:(j==0)=false:=by simp;omega
   have Z:j<gs.size:=(bW.1 T).1;have E:=runT_crowd_go (P:=C.P) (sl:=sl) (i:=j) T (by rw[Y];exact W v);have f:∀l∈MemOp.ofEvents j g.frame.fn g.frame.place Q,l.g=j/\l.act.touch?=none/\(∀B,l.act.low B)/\l.act≠.mark (.release (C.ca 4)):=λl d=>by obtain⟨e,he,rfl⟩:=Go.Conc.mem_ofEvents d;refine⟨rfl,touch_mute (D e he),λB=>low_mute (D e he) B,λz=>?_⟩;have:=D e he;obtain⟨ab,wr,sy⟩:=e;cases ab<;>simp_all [Event.mute,MemAct.ofEvent]
   have w:∀k,k≠j->Deaf (t++MemOp.ofEvents j g.frame.fn g.frame.place Q) k=Deaf t k:=λk r=>Deaf_other t (g':=j) (λe=>r e.symm) _ (λl d=>(f l d).1);obtain⟨g0,ad,H⟩:=I.start;have A:∀a:St,a.ph=s.ph->a.rk=s.rk->a.q=upd s.q j m->a.cb=s.cb->a.cls=s.cls->a.sp.aW C.n=s.sp.aW C.n->p.Hp a v->C.dL a v.heap.size->C.dQ a->C.fU a t0 (t++MemOp.ofEvents j g.frame.fn g.frame.place Q) v.heap.size->
     p.fT a (Deaf t 0) (woken C.P g g' v g0)->p.Goes t0 s gs v t j sl:=by
    intro a R e2 J e4 e5 S V h2 h3 h4 h5;refine⟨_,_,_,a,E,⟨I.pos,by simpa[S]using I.size,⟨woken C.P g g' v g0,?_,by rw[w 0 (by omega)];exact h5⟩,?_,?_,?_,V,h2,h3,h4⟩,?_⟩
    .rw[di (by omega),fp,ad];rfl
    .intro k x ae ag z;by_cases e:k=j
     .subst e;rw[j8 (by simpa using Z)]at z;obtain rfl:=dk z;rw[Deaf_own,J,upd_same];exact X
     .rw[di (λx=>e x.symm),fp]at z;obtain⟨y,hy,rfl⟩:=fA.1 z;have:=I.elder k y ae ag hy;rw[woken_quitsD this,w k e,J,upd_ne _ _ e];exact this
    .intro k x r z;rw[S]at r;rw[di (by omega),fp]at z;obtain⟨y,hy,rfl⟩:=fA.1 z;have hW:=I.work k y r hy;have K:a.own k=s.own k:=by unfold St.own;rw[e5]
     rw[Jq hp I.ctl I.hp (.inl rfl) rfl r (cG r (gM I.ctl)) hW g g',w _ (by omega),R,e2,J,e4,K,upd_ne _ _ (by omega)];exact hW
    .intro k r;have al:gs.size<=k:=by simpa using r
     rw[w k (by omega)];exact I.above k al
    .refine .inl (pT (i:=j) (by omega) ?_ λk r=>?_)
     .simp only[aI.dV,hN,if_true,J,upd_same,U];exact .step (by omega)
     .unfold aI.dV;rw[R,e2,J];simp only[upd_ne _ _ r]
   have L:∀a:St,a.ph=s.ph->a.cls=s.cls->a.sp.aW C.n=s.sp.aW C.n->C.fU a t0 (t++MemOp.ofEvents j g.frame.fn g.frame.place Q) v.heap.size:=λa R e5 S=>
    qJ I.f8 (aF _) S (λi c h=>by unfold St.own at h⊢;rw[e5];exact h) (λl d=>(f l d).2.1) (λl d=>by rw[(f l d).1];omega) (λl d=>(f l d).2.2.1 _) (λl d=>(f l d).2.2.2) (λk r M=>lT I.f8 r (by rw[R]at M;exact M) λl d _=>(f l d).2.1)
   obtain⟨F,_⟩|⟨b,N,hd,ao⟩:=IY hp H g g' v
   .exact A {s with q:=upd s.q j m} rfl rfl rfl rfl rfl rfl (sD I.hp rfl rfl rfl rfl rfl) (mw I.cls rfl rfl rfl) (pE I.ctl rfl rfl rfl rfl) (L _ rfl rfl rfl) (by rw[F];exact BF rfl rfl rfl H)
   .refine A (St.cR {s with q:=upd s.q j m} b) rfl rfl rfl rfl rfl (by simp[St.cR,SP.aW,N]) (Fc (sD I.hp rfl rfl rfl rfl rfl) N) (CP (mw I.cls rfl rfl rfl) N) (uw (pE I.ctl rfl rfl rfl rfl) N) (L _ rfl rfl (by simp[St.cR,SP.aW,N])) ?_;exact⟨_,by rw[hd];exact .nil,ao⟩
def Ev0(C:aI)(s:St)(B:Nat)(e:aJ):Prop:=(∀a,(MemAct.ofEvent e).touch?=some a->a.loc.isMemory=true->(C.places s).may 0 a)/\(MemAct.ofEvent e).low B/\MemAct.ofEvent e≠.mark (.release (C.ca 4))
def Qy{e}(h:C.d9 e)(d:C.r<B):Ev0 C s B e:=by
 refine⟨λa f g=>?_,MemAct.low_mono d h.low,λb=>h.norel ?_⟩
 .rcases h.touch a f g with h|⟨i,j⟩
  .exact .inr (.inl h)
  .exact .inr (.inr ⟨i,by rw[j];simp,λ_=>rfl⟩)
 .obtain⟨c,wr,k⟩:=e;cases c<;>simp only[MemAct.ofEvent,reduceCtorEq]at b⊢
  .cases wr<;>cases k<;>cases b
  .simpa[aI.ca]using b
def kt{es}(h:m9 C es)(c:C.r<B):∀e∈es,Ev0 C s B e:=λe b=>⟨λa d _=>Cn h b d 0,Cm h c e b,Co h e b⟩
def tJ(w:∀c,C.SB c->c<C.B0)(I:p.Inv t0 s gs v t){es}(d:∀e∈es,Ev0 C s' B e)(x:v.heap.size<=B)(f:C.dL s' B)(m:s'.sp.aW C.n=s.sp.aW C.n)(g:∀i c,s.own i c->s'.own i c)(o:∀k,k<C.n->(s'.ph k).said=true->(s.ph k).said=true)(fn pos):C.fU s' t0 (t++MemOp.ofEvents 0 fn pos es) B:=by
 have q:=I.pos;refine BK I.pos I.f8 (A3 f w) x m g (j:=0) (.inl rfl) (λl b=>by obtain⟨e,_,rfl⟩:=Go.Conc.mem_ofEvents b;rfl) (λl b a y z=>?_) (λl b=>?_) (λl b=>?_) (λk r A=>?_)
 .obtain⟨e,h,rfl⟩:=Go.Conc.mem_ofEvents b;exact(d e h).1 a y z
 .obtain⟨e,h,rfl⟩:=Go.Conc.mem_ofEvents b;exact(d e h).2.1
 .obtain⟨e,h,rfl⟩:=Go.Conc.mem_ofEvents b;exact(d e h).2.2
 .refine lT I.f8 r (o k r A) λl b D=>?_;obtain⟨e,_,rfl⟩:=Go.Conc.mem_ofEvents b;have:(0:Nat)=C.N0+k:=D;omega
def vQ(M:p.Ok)(I:p.Inv t0 s gs v t){g g' es sl}(J:gs[0]?=some g)(r:stepG C.P true g v=.go g' v1 es)(K:s'.q=s.q)(h:s'.sp.aW C.n=s.sp.aW C.n)(w:p.fT s' (deafBehind (Deaf t 0) es) g')(a:∀i x,i<s.sp.aW C.n->gs[C.N0+i]?=some x->p.eU i (s'.cb i) (s'.ph i) (s'.rk i) (s.q (C.N0+i)) (s'.own i) (Deaf t (C.N0+i)) (woken C.P g g' v1 x) v1)(z:p.Hp s' v1)(j:C.dL s' v1.heap.size)(l:C.dQ s')(A:C.fU s' t0 (t++MemOp.ofEvents 0 g.frame.fn g.frame.place es) v1.heap.size)(b:C.Down s' s):p.Goes t0 s gs v t 0 sl:=by
 have m:=I.pos;have D:0<gs.size:=(bW.1 J).1;have c:=runT_crowd_go (P:=C.P) (sl:=sl) (i:=0) J (show stepG C.P (0==0) g v=_ from r);have d:∀k,k≠0->Deaf (t++MemOp.ofEvents 0 g.frame.fn g.frame.place es) k=Deaf t k:=λk f=>Deaf_other t (g':=0) (λe=>f e.symm) _ (λN E=>by obtain⟨e,_,rfl⟩:=Go.Conc.mem_ofEvents E;rfl);refine⟨_,_,_,s',c,⟨m,by simpa[h]using I.size,⟨g',by simp[D],by rw[Deaf_own];exact w⟩,?_,?_,?_,z,j,l,A⟩,b⟩
 .intro k x h0 L o;rw[di (by omega),fp]at o;obtain⟨y,F,rfl⟩:=fA.1 o;have:=I.elder k y h0 L F;rw[woken_quitsD this,d k (by omega),K];exact this
 .intro k x f o;rw[h]at f;rw[di (by omega),fp]at o;obtain⟨y,F,rfl⟩:=fA.1 o;rw[d _ (by omega),K];exact a k y f F
 .intro k f;have H:gs.size<=k:=by simpa using f
  rw[d k (by omega)];exact I.above k H
def BW(w:p.Ok)(I:p.Inv t0 s gs v t)(A:s'.ph=s.ph)(D:s'.rk=s.rk)(E:∀i,i<s.sp.aW C.n->s'.cb i=s.cb i)(F:∀i,s'.own i=s.own i)(c:s.sp.closed=false->∃k b s2 y m,v1.heap[C.dc]?=some (.chan k b false s2 y m))(d:∀i,i<s.sp.aW C.n->v1.heap[s.cb i]?=v.heap[s.cb i]?)(f:∀k,C.Fr k (s.own k) v v1)(g g'):∀i x,i<s.sp.aW C.n->gs[C.N0+i]?=some x->p.eU i (s'.cb i) (s'.ph i) (s'.rk i) (s.q (C.N0+i)) (s'.own i) (Deaf t (C.N0+i)) (woken C.P g g' v1 x) v1:=by
 intro i x a H;have z:=I.work i x a H;have h:i<C.n:=cG a (gM I.ctl);have J:woken C.P g g' v1 x=x:=by
  obtain⟨j,N,rfl⟩|⟨_,K|⟨_,L⟩⟩:=nQ w z
  .have l:s.sp.closed=false:=by
    cases e:s.sp.closed with
    |false=>rfl
    |true=>
     have:=I.ctl.shut e i h;obtain o|o:=j
     .rw[o]at this;simp[Ph.num]at this
     .exact absurd o this.2
   obtain⟨k,b,s2,y,m,M⟩:=c l;obtain⟨O,Q,R,r⟩:=CH I.hp (sF a);exact Hg (by rw[d i a];exact r) M
  .exact woken_run K
  .unfold woken;split
   .exact again_running _ (.inr L)
   .rfl
 rw[J,A,D,E i a,F];exact pn w z (f i)
def a3I(a:p.Ok)(I:p.Inv t0 s gs v t)(b:s'.ph=s.ph)(c:s'.rk=s.rk)(d:s'.cb=s.cb)(e:s'.cls=s.cls)(g g'):∀i x,i<s.sp.aW C.n->gs[C.N0+i]?=some x->p.eU i (s'.cb i) (s'.ph i) (s'.rk i) (s.q (C.N0+i)) (s'.own i) (Deaf t (C.N0+i)) (woken C.P g g' v x) v:=
 BW a I b c (λ_ _=>by rw[d]) (λi=>by unfold St.own;rw[e]) (λf=>by have:=I.hp.dc;rw[f]at this;exact⟨_,_,_,_,_,this⟩) (λ_ _=>rfl) (λk=>.refl (gq I.hp)) g g'
def a3H(b:p.Ok)(I:p.Inv t0 s gs v t)(d:s'.ph=s.ph)(f:s'.rk=s.rk)(h:s'.cb=s.cb)(j:s'.cls=s.cls)(l:C.Shape v1)(m:v1.heap.size=v.heap.size)(a:∀c,c≠C.r->v1.heap[c]?=v.heap[c]?)(g g'):∀i x,i<s.sp.aW C.n->gs[C.N0+i]?=some x->p.eU i (s'.cb i) (s'.ph i) (s'.rk i) (s.q (C.N0+i)) (s'.own i) (Deaf t (C.N0+i)) (woken C.P g g' v1 x) v1:=
 BW b I d f (λ_ _=>by rw[h]) (λi=>by unfold St.own;rw[j]) (λo=>by have:=I.hp.dc;rw[o]at this;exact⟨_,_,_,_,_,by rw[a _ λe=>I.cls.ge.2.2.2.2.1 e.symm];exact this⟩) (λi w=>a _ (rp I.cls (sF w)).1) (λk=>vq I.cls l m a k) g g'
def wR(a:s'.ph=s.ph)(b:s'.rk=s.rk)(c:s'.q=s.q):C.dV s'=C.dV s:=by funext j;simp[aI.dV,a,b,c]
def a1t(f:p.Ok)(i:∀c,C.SB c->c<C.B0)(I:p.Inv t0 s gs v t){g g' es sl m}(j:gs[0]?=some g)(l:s.m0=m+1)(a:stepG C.P true g v=.go g' v es)(b:∀e∈es,C.d9 e)(d:p.fT {s with m0:=m} (deafBehind (Deaf t 0) es) g'):p.Goes t0 s gs v t 0 sl:=
 vQ (s':={s with m0:=m}) f I j a rfl rfl d (a3I f I rfl rfl rfl rfl g g') (sD I.hp rfl rfl rfl rfl rfl) (mw I.cls rfl rfl rfl) (pE I.ctl rfl rfl rfl rfl) (tJ (s':={s with m0:=m}) i I (λe k=>Qy (b e k) (cP I.hp.rb)) (aF _) (mw I.cls rfl rfl rfl) rfl (λ_ _ h=>h) (λ_ _ h=>h) _ _) (.inr ⟨wR rfl rfl rfl,.inr ⟨rfl,by show m<s.m0;omega⟩⟩)
end
section
variable{C:aI}{p:cC C}{s s':St}{v v1:aa}{T t u:aY}{gs:Array aw}{B U:Nat}
def iB(h:C.dQ s){sp:SP}{m0:Nat}{G1 G2:Gp}(f:(match sp with| .mk k| .go k| .snd k=>k<C.n|_=>True)/\sp.aW C.n=s.sp.aW C.n/\sp.cM C.n=s.sp.cM C.n/\sp.closed=s.sp.closed)
  (g:∀k,k<C.n->(s.ph k=.la1↔G1=.la k)/\(s.ph k=.lb1↔G1=.lb k)/\(s.ph k=.lc1↔G1=.lc k)) (a:∀k,G1=.la k\/G1=.lb k\/G1=.lc k->k<C.n)
  (j:∀k,k<C.n->(s.ph k=.la2↔G2=.la k)/\(s.ph k=.lb2↔G2=.lb k)/\(s.ph k=.lc2↔G2=.lc k)) (c:∀k,G2=.la k\/G2=.lb k\/G2=.lc k->k<C.n)
  (l:G1.zz (C.a1 s)) (o:G2.zz (C.a2 s)) (q:sp.jo G1) (r:sp.kv G2) (d:∀b m,sp=.ca b m->1<=m/\m<=8):C.dQ {s with sp:=sp,m0:=m0,G1:=G1,G2:=G2}:=by
 obtain⟨A,D,y,z⟩:=f;refine⟨h.n8,A,?_,?_,?_,?_,?_,g,a,j,c,l,o,q,r,d⟩
 .intro i e;show s.ph i=_↔sp.aW C.n<=i;rw[D];exact h.born i e
 .intro i e w;show sp.cM C.n<=i;rw[y];exact h.ll i e w
 .intro i e w;show i<sp.cM C.n;rw[y];exact h.cD i e w
 .intro x;exact h.opened (z▸x)
 .intro x;exact h.shut (z▸x)
def Tr(h:p.Hp s v){sp m0 G1 G2}(d:sp.made C.n=s.sp.made C.n)(e:sp.cM C.n=s.sp.cM C.n)(f:sp.closed=s.sp.closed)(b:G1.st (C.a1 s)=s.G1.st (C.a1 s)/\G1.sm=s.G1.sm)(c:G2.st (C.a2 s)=s.G2.st (C.a2 s)/\G2.sm=s.G2.sm):p.Hp {s with sp:=sp,m0:=m0,G1:=G1,G2:=G2} v:=by
 obtain⟨g,j,k,a,l,m⟩:=h;refine⟨?_,j,?_,a,l,?_⟩
 .show v.heap[C.r]?=some (C.fc (G1.st (C.a1 s)) G1.sm (G2.st (C.a2 s)) G2.sm);rw[b.1,b.2,c.1,c.2];exact g
 .show v.heap[C.dc]?=some (.chan 0 #[] sp.closed 0 0 false);rw[f];exact k
 .intro i o;show v.heap[s.cb i]?=some (if i<sp.cM C.n then _ else _);rw[e];exact m i (by rw[<-d];exact o)
def NB(h:C.dL s B){sp m0 G1 G2}(d:sp.made C.n=s.sp.made C.n)(e:sp.aW C.n=s.sp.aW C.n):C.dL {s with sp:=sp,m0:=m0,G1:=G1,G2:=G2} B:=by obtain⟨b,sh,a,f,g,j⟩:=h;exact⟨b,sh,a,λi k=>f i (by rw[<-d];exact k),λc i l=>by show i<sp.aW C.n;rw[e];exact g c i l,j⟩
def iW(x:p.Ok)(z:∀c,C.SB c->c<C.B0)(I:p.Inv T s gs v t){g g' es sl}(A:gs[0]?=some g)(l:stepG C.P true g v=.go g' v1 es)(sp m0 G1 G2)(m:∀e∈es,Ev0 C {s with sp:=sp,m0:=m0,G1:=G1,G2:=G2} v.heap.size e)(f:∀c,c≠C.r->v1.heap[c]?=v.heap[c]?)(k:v1.heap.size=v.heap.size)(o:oo v1=oo v)(q:v1.heap[C.r]?=some (C.fc (G1.st (C.a1 s)) G1.sm (G2.st (C.a2 s)) G2.sm))(y:sp.made C.n=s.sp.made C.n)(d:sp.aW C.n=s.sp.aW C.n)(D:sp.cM C.n=s.sp.cM C.n)(E:sp.closed=s.sp.closed)(i:C.dQ {s with sp:=sp,m0:=m0,G1:=G1,G2:=G2})(w:p.fT {s with sp:=sp,m0:=m0,G1:=G1,G2:=G2} (deafBehind (Deaf t 0) es) g')(b:C.stage {s with sp:=sp,m0:=m0,G1:=G1,G2:=G2} <C.stage s):p.Goes T s gs v t 0 sl:=by
 have j:p.Hp {s with sp:=sp,m0:=m0,G1:=G1,G2:=G2} v1:=Fb I.hp I.cls q f o E y D rfl (λ_ _=>rfl) (FI I.ctl);have a:C.dL {s with sp:=sp,m0:=m0,G1:=G1,G2:=G2} v1.heap.size:=by rw[k];exact NB I.cls y d
 refine vQ (s':={s with sp:=sp,m0:=m0,G1:=G1,G2:=G2}) x I A l rfl d w (a3H x I rfl rfl rfl rfl (gq j) k f g g') j a i ?_ (.inr ⟨wR rfl rfl rfl,.inl b⟩);rw[k];rw[k]at a;exact tJ z I m (aF _) a d (λ_ _ h=>h) (λ_ _ h=>h) _ _
def UC(F:p.Ok)(L:∀c,C.SB c->c<C.B0)(I:p.Inv T s gs v t){g sl}(M:gs[0]?=some g){b}(f:s.sp=.lw b)(R:p.LW (o4 b) g)(N:Deaf t 0=1):p.Goes T s gs v t 0 sl:=by
 obtain⟨_,P,j,S,Q,H⟩:=F.lw _ _ R;have O:=cP I.hp.rb;have w:∀sp:SP,(sp=.aq b\/∃m,sp=.ca b m)->sp.made C.n=s.sp.made C.n/\sp.aW C.n=s.sp.aW C.n/\sp.cM C.n=s.sp.cM C.n/\sp.closed=s.sp.closed:=by intro sp h;rw[f];obtain rfl|⟨m,rfl⟩:=h<;>exact⟨rfl,rfl,rfl,rfl⟩
 cases b with
 |false=>
  have x:s.G1=.idle:=by have:=I.ctl.s1;rw[f]at this;exact this
  have J:s.G2=.idle:=by have:=I.ctl.s2;rw[f]at this;exact this
  have i:s.G1.st (C.a1 s)=(C.a1 s:Int)*KK:=by rw[x];rfl
  have a:=j v _ (Hp.og I.hp);have l:C.a1 s<=8:=dF (rr _ _) I.ctl.n8;have d:C.stage s=21:=by unfold aI.stage;rw[f]
  rw[i]at a;obtain h0|h0:=kh (C.a1 s)
  .rw[h0]at a;obtain⟨m,y,z,A⟩:=Q;obtain⟨D,o,q,r⟩:=w (.aq false) (.inl rfl);refine iW F L I M (show _=GStep.go (P 0) v _ by rw[a];simp[o4]) (.aq false) m .over s.G2 (kt ⟨1,by simp,.inr (.inl rfl)⟩ O) (λ_ _=>rfl) rfl rfl ?_ D o q r ?_ ⟨y,by rw[N];exact z,A⟩ (by rw[d];show 16<21;decide)
   .rw[I.hp.rb,i,h0,x];simp[Gp.st,Gp.sm]
   .refine iB I.ctl ⟨trivial,o,q,r⟩ (λk E=>?_) (λk E=>by obtain e|e|e:=E<;>cases e) I.ctl.g2 I.ctl.ef h0 I.ctl.z2 rfl J (λb m e=>by cases e);have:=I.ctl.g1 k E;rw[x]at this;simpa using this
  .obtain⟨_,m,y,z,A⟩:=H (C.a1 s) h0 l;obtain⟨D,o,q,r⟩:=w (.ca false (C.a1 s)) (.inr ⟨_,rfl⟩);refine iW F L I M a (.ca false (C.a1 s)) m s.G1 s.G2 (kt ⟨1,by simp,.inr (.inl rfl)⟩ O) (λ_ _=>rfl) rfl rfl I.hp.rb D o q r ?_ ⟨y,by rw[N];exact z,A⟩ ?_
   .exact iB I.ctl ⟨trivial,o,q,r⟩ I.ctl.g1 I.ctl.ee I.ctl.g2 I.ctl.ef I.ctl.z1 I.ctl.z2 x J (λb m e=>by cases e;exact⟨h0,l⟩)
   .have:C.stage {s with sp:=.ca false (C.a1 s),m0:=m,G1:=s.G1,G2:=s.G2}=20:=by show(if ((C.a1 s:Nat):Int)*KK=s.G1.st (C.a1 s)then 20 else 22)=20;rw[i,if_pos rfl]
    rw[this,d];decide
 |true=>
  have K:s.G1=.over:=by have:=I.ctl.s1;rw[f]at this;exact this
  have x:s.G2=.idle:=by have:=I.ctl.s2;rw[f]at this;exact this
  have i:s.G2.st (C.a2 s)=(C.a2 s:Int)*KK:=by rw[x];rfl
  have a:=j v _ (Hp.oh I.hp);have l:C.a2 s<=8:=dF (rr _ _) I.ctl.n8;have d:C.stage s=13:=by unfold aI.stage;rw[f]
  rw[i]at a;obtain h0|h0:=kh (C.a2 s)
  .rw[h0]at a;obtain⟨m,y,z,A⟩:=Q;obtain⟨D,o,q,r⟩:=w (.aq true) (.inl rfl);refine iW F L I M (show _=GStep.go (P 0) v _ by rw[a];simp[o4]) (.aq true) m s.G1 .over (kt ⟨4,by simp,.inr (.inl rfl)⟩ O) (λ_ _=>rfl) rfl rfl ?_ D o q r ?_ ⟨y,by rw[N];exact z,A⟩ (by rw[d];show 8<13;decide)
   .rw[I.hp.rb,i,h0,x];simp[Gp.st,Gp.sm]
   .refine iB I.ctl ⟨trivial,o,q,r⟩ I.ctl.g1 I.ctl.ee (λk E=>?_) (λk E=>by obtain e|e|e:=E<;>cases e) I.ctl.z1 h0 K rfl (λb m e=>by cases e);have:=I.ctl.g2 k E;rw[x]at this;simpa using this
  .obtain⟨_,m,y,z,A⟩:=H (C.a2 s) h0 l;obtain⟨D,o,q,r⟩:=w (.ca true (C.a2 s)) (.inr ⟨_,rfl⟩);refine iW F L I M a (.ca true (C.a2 s)) m s.G1 s.G2 (kt ⟨4,by simp,.inr (.inl rfl)⟩ O) (λ_ _=>rfl) rfl rfl I.hp.rb D o q r ?_ ⟨y,by rw[N];exact z,A⟩ ?_
   .exact iB I.ctl ⟨trivial,o,q,r⟩ I.ctl.g1 I.ctl.ee I.ctl.g2 I.ctl.ef I.ctl.z1 I.ctl.z2 K x (λb m e=>by cases e;exact⟨h0,l⟩)
   .have:C.stage {s with sp:=.ca true (C.a2 s),m0:=m,G1:=s.G1,G2:=s.G2}=12:=by show(if ((C.a2 s:Nat):Int)*KK=s.G2.st (C.a2 s)then 12 else 14)=12;rw[i,if_pos rfl]
    rw[this,d];decide
end
end Go.Mir
end
