import Derived.Test.YtdnpeefnobjfaaaGreatDoorK38
set_option maxRecDepth 100000
set_option maxHeartbeats 4000000
set_option linter.all false
section
namespace Go.Mir
open Go Go.Conc
open Go.ConcN (upd upd_ne upd_same)
section
variable{C:aI}{p:cC C}{s s':St}{v v':aa}{t0 t u:aY}{gs:Array aw}{B B':Nat}
def pE(h:C.dQ s)(a:s'.sp=s.sp)(b:s'.ph=s.ph)(i:s'.G1=s.G1)(j:s'.G2=s.G2):C.dQ s':=by
 have o:C.a1 s'=C.a1 s:=by unfold aI.a1;rw[b]
 have q:C.a2 s'=C.a2 s:=by unfold aI.a2;rw[b]
 obtain⟨r,k,d,e,f,c,g,w,l,x,m,y,z,A,s2,n⟩:=h;exact⟨r,by rw[a];exact k,by rw[a,b];exact d,by rw[a,b];exact e,by rw[a,b];exact f,by rw[a,b];exact c,by rw[a,b];exact g,by rw[b,i];exact w,by rw[i];exact l,by rw[b,j];exact x,by rw[j];exact m,by rw[i,o];exact y,by rw[j,q];exact z,by rw[a,i];exact A,by rw[a,j];exact s2,by rw[a];exact n⟩
def sD(h:p.Hp s v)(c:s'.sp=s.sp)(a:s'.ph=s.ph)(d:s'.G1=s.G1)(e:s'.G2=s.G2)(f:s'.cb=s.cb):p.Hp s' v:=by
 have g:C.a1 s'=C.a1 s:=by unfold aI.a1;rw[a]
 have i:C.a2 s'=C.a2 s:=by unfold aI.a2;rw[a]
 obtain⟨j,k,l,b,m,n⟩:=h;exact⟨by rw[d,e,g,i];exact j,k,by rw[c];exact l,b,m,by rw[c,a,f];exact n⟩
def mw(h:C.dL s B)(d:s'.sp=s.sp)(e:s'.cb=s.cb)(a:s'.cls=s.cls):C.dL s' B:=by obtain⟨c,sh,b,f,g,i⟩:=h;exact⟨by rw[a];exact c,by rw[a];exact sh,by rw[a];exact b,by rw[d,e,a];exact f,by rw[d,a];exact g,i⟩
def cP{b o}(h:v.heap[b]?=some o):b<v.heap.size:=(bW.1 h).1
def yh(h:p.Hp s v)(a:C.dL s v.heap.size):C.B0<=v.heap.size:=dF a.ge.1 (a7p (cP h.rb))
def sW(a:C.dL s v.heap.size)(j:v'.heap.size=v.heap.size)(i):C.Own (s.own i) v':=by
 obtain⟨f,b,d⟩:=a.sh;intro c h;have h:s.cls c=.wk i:=h;refine⟨?_,λe=>?_,λe=>?_,λe=>?_,?_⟩
 .apply fx;intro g;rw[a.old c (by omega)]at h;cases h
 .rw[e,f]at h;cases h
 .rw[e,b]at h;cases h
 .rw[e,d]at h;cases h
 .apply fx;intro g;rw[a.free c (by omega)]at h;cases h
def mu(f:Nat->Cl)(a b i:Nat):Nat->Cl:=λc=>if a<=c/\c<b then .wk i else f c
def X5(a:C.dL s v.heap.size){b i}:(λc=>mu s.cls v.heap.size b i c=.wk i)=a5O (s.own i) v.heap.size b:=by
 funext c;unfold mu a5O St.own;by_cases h:v.heap.size<=c/\c<b
 .simp[h]
 .simp[h]
def X7(d:C.dL s v.heap.size){b i k}(h:k≠i):(λc=>mu s.cls v.heap.size b i c=.wk k)=s.own k:=by
 funext c;unfold mu St.own;by_cases a:v.heap.size<=c/\c<b
 .have f:s.cls c=.free:=d.free c a.1;have g: ¬i=k:=λe=>h e.symm;simp[a,f,g]
 .simp[a]
def Qm(h:p.Hp s v)(f:C.dL s v.heap.size){i es}(l:C.Eff i (s.own i) v v' es):p.Hp s v'/\∀k,k≠i->C.Fr k (s.own k) v v':=by
 obtain⟨D,m,y⟩:=f.sh;have n:=f.ge;have a:∀c,c<v.heap.size->s.cls c≠.wk i->c≠C.tb->v'.heap[c]?=v.heap[c]? :=λc b o g=>l.kept c b o g;have q:p.Hp s v':=by
  refine⟨?_,?_,?_,?_,?_,?_⟩
  .rw[a C.r (cP h.rb) (by rw[D];simp) n.2.2.2.1];exact h.rb
  .obtain⟨E,w,b,o,g,_⟩:=l.told;obtain⟨F,x,z⟩:=h.tb;rw[b]at x;cases x;exact⟨w,o,by rw[g,z]⟩
  .rw[a C.dc (cP h.dc) (by rw[y];simp) (λe=>n.2.2.2.2.2 e.symm)];exact h.dc
  .intro c d;rw[a c (cG d (yh h f)) (by rw[f.old c d];simp) (by omega)];exact h.old c d
  .exact l.os.trans h.os
  .intro k j;have b:=h.ch k j;rw[a (s.cb k) (cP b) (by rw[f.ch k j];simp) (λe=>by have:=f.ch k j;rw[e,m]at this;cases this)];exact b
 refine⟨q,λk j=>⟨l.size,λc d=>?_,λE w b o=>?_,gq q⟩⟩
 .have b:s.cls c=.wk k:=d;have A:c<v.heap.size:=by apply fx;intro H;rw[f.free c (by omega)]at b;cases b
  exact a c A (by rw[b];simp;exact j) (λe=>by rw[e,m]at b;cases b)
 .obtain⟨I,J,g,x,_,z⟩:=l.told;rw[b]at g;rw[o]at x;cases g;cases x;exact z k j
def xF(hp:p.Ok)(hS:∀c,C.SB c->c<C.B0)(I:p.Inv t0 s gs v t){i}(R:i<s.sp.aW C.n){g sl}(hg:gs[C.N0+i]?=some g){A f}(S:s.rk i=.node f)(hW:C.Way i A (.node f) (s.own i) (Deaf t (C.N0+i)) g v)(F:∀ρ O d g v,C.Way i A ρ O d g v->p.eU i (s.cb i) (s.ph i) ρ (s.q (C.N0+i)) O d g v)(T:(s.ph i).said=false):∃w v' x y,runT C.P (crowd gs v sl) (C.N0+i)=(.next (crowd w v' sl),x)/\p.Inv t0 y w v' (t++x)/\C.Down y s:=by
 have ao:i<C.n:=cG R (gM I.ctl);obtain⟨g1,z,es,U,M,V⟩:=hW.2 v (.refl (gq I.hp));obtain⟨W,X⟩:=Qm I.hp I.cls M;have aq:=yh I.hp I.cls;have Y:=I.cls.ge;obtain⟨hr,Z,ab⟩:=I.cls.sh;let s':St:={s with rk:=upd s.rk i (f v),cls:=mu s.cls v.heap.size z.heap.size i};have l:s'.own i=a5O (s.own i) v.heap.size z.heap.size:=X5 I.cls;have j:∀k,k≠i->s'.own k=s.own k:=λk m=>X7 I.cls m;have H:∀k c,s.own k c->s'.own k c:=λk c h=>by
  by_cases m:k=i
  .subst m;rw[l];exact .inl h
  .rw[j k m];exact h
 have D:C.dL s' z.heap.size:=by
  have hz:=M.size;have o:∀{c:Nat},c<v.heap.size->mu s.cls v.heap.size z.heap.size i c=s.cls c:=fun {c} h=>by
   have: ¬(v.heap.size<=c/\c<z.heap.size):=by omega
   simp[mu,this]
  refine⟨λc Q=>?_,⟨?_,?_,?_⟩,λc Q=>?_,λk m=>?_,λc k Q=>?_,Y⟩
  .exact(o (by omega)).trans (I.cls.old c Q)
  .exact(o (cP I.hp.rb)).trans hr
  .obtain⟨tc,h1,_⟩:=I.hp.tb;exact(o (cP h1)).trans Z
  .exact(o (cP I.hp.dc)).trans ab
  .have: ¬(v.heap.size<=c/\c<z.heap.size):=by omega
   show mu s.cls v.heap.size z.heap.size i c=.free;simp only[mu,this,if_false];exact I.cls.free c (by omega)
  .exact(o (cP (I.hp.ch k m))).trans (I.cls.ch k m)
  .by_cases J:k=i
   .subst J;exact R
   .have:s.own k c:=by rw[<-j k J];exact Q
    exact I.cls.wk c k this
 have E:∀K∈MemOp.ofEvents (C.N0+i) g.frame.fn g.frame.place es,K.g=C.N0+i:=λK b=>by obtain⟨e,_,rfl⟩:=Go.Conc.mem_ofEvents b;rfl
 have ad:C.fU s' t0 (t++MemOp.ofEvents (C.N0+i) g.frame.fn g.frame.place es) z.heap.size:=by
  refine BK I.pos I.f8 (A3 D hS) M.size rfl H (.inr ⟨by omega,by omega⟩) E (λK b a ha hm=>?_) (λK b=>?_) (λK b=>?_) (λk m L=>?_)
  .obtain⟨e,r,rfl⟩:=Go.Conc.mem_ofEvents b;obtain h|h:=(M.zn e r).touch a ha hm
   .exact .inl ⟨i,rfl,by rw[l];exact h⟩
   .exact .inr (.inl h)
  .obtain⟨e,r,rfl⟩:=Go.Conc.mem_ofEvents b;exact(M.zn e r).low
  .obtain⟨e,r,rfl⟩:=Go.Conc.mem_ofEvents b;intro hx;refine(M.zn e r).norel ?_;obtain⟨ae,wr,sy⟩:=e;cases ae<;>simp only[MemAct.ofEvent,reduceCtorEq]at hx⊢
   .cases wr<;>cases sy<;>cases hx
   .simpa[aI.ca]using hx
  .have J:k≠i:=λe=>by subst e;rw[show(s'.ph k).said=false from T]at L;cases L
   exact lT I.f8 m L λK b ar=>by have:=E K b;omega
 have ag:=vR (s':=s') (sl:=sl) hp I R hg U (λk m=>⟨rfl,upd_ne _ _ m⟩) (λ_ _=>rfl) rfl j rfl rfl
  (by rw[l];exact F _ _ _ _ _ (by show C.Way i A (upd s.rk i (f v) i) _ _ _ _;rw[upd_same];exact V)) X (sD W rfl rfl rfl rfl rfl) D (.inl (pE I.ctl rfl rfl rfl rfl)) ad ?_
 .obtain⟨w,x,y,h1,h2,h3⟩:=ag;exact⟨w,z,x,y,h1,h2,h3⟩
 .have al: ¬(C.N0+i<C.N0):=by omega
  have N:C.N0+i - C.N0=i:=by omega
  simp only[aI.dV,al,if_false,N,s',upd_same,S];exact .tree v
def Ht(K:p.Ok)(T:∀c,C.SB c->c<C.B0)(I:p.Inv t0 s gs v t){i}(L:i<s.sp.aW C.n){g g' sl}(M:gs[C.N0+i]?=some g){m es}(N:s.q (C.N0+i)=m+1)(y:stepG C.P false g v=.go g' v es)(r:∀e∈es,Event.mute e=true)(w:p.eU i (s.cb i) (s.ph i) (s.rk i) m (s.own i) (deafBehind (Deaf t (C.N0+i)) es) g' v):∃f v' l o,runT C.P (crowd gs v sl) (C.N0+i)=(.next (crowd f v' sl),l)/\p.Inv t0 o f v' (t++l)/\C.Down o s:=by
 let s':St:={s with q:=upd s.q (C.N0+i) m};have b:∀d∈MemOp.ofEvents (C.N0+i) g.frame.fn g.frame.place es,d.g=C.N0+i/\d.act.touch?=none/\(∀B,d.act.low B)/\d.act≠.mark (.release (C.ca 4)):=λd a=>by obtain⟨e,z,rfl⟩:=Go.Conc.mem_ofEvents a;refine⟨rfl,touch_mute (r e z),λB=>low_mute (r e z) B,λU=>?_⟩;have:=r e z;obtain⟨A,wr,V⟩:=e;cases A<;>simp_all [Event.mute,MemAct.ofEvent]
 have D:C.fU s' t0 (t++MemOp.ofEvents (C.N0+i) g.frame.fn g.frame.place es) v.heap.size:=
  qJ I.f8 (aF _) rfl (λ_ _ h=>h) (λd a=>(b d a).2.1) (λd a=>by rw[(b d a).1];omega) (λd a=>(b d a).2.2.1 _) (λd a=>(b d a).2.2.2) (λk E F=>lT I.f8 E F λd a _=>(b d a).2.1)
 have H:=vR (s':=s') (v':=v) (sl:=sl) K I L M y (λk E=>⟨rfl,rfl⟩) (λj O=>upd_ne _ _ O) rfl (λ_ _=>rfl) rfl rfl (by show p.eU i (s.cb i) (s.ph i) (s.rk i) (upd s.q (C.N0+i) m (C.N0+i)) _ _ _ _;rw[upd_same];exact w) (λk E=>.refl (gq I.hp)) (sD I.hp rfl rfl rfl rfl rfl) (mw I.cls rfl rfl rfl) (.inl (pE I.ctl rfl rfl rfl rfl)) D ?_
 .obtain⟨f,l,o,Q,R,S⟩:=H;exact⟨f,v,l,o,Q,R,S⟩
 .have J: ¬(C.N0+i<C.N0):=by omega
  have x:C.N0+i - C.N0=i:=by omega
  simp only[aI.dV,J,if_false,x,s',upd_same,N];exact .step (by omega)
end
section
variable{C:aI}{p:cC C}{s s':St}{v v':aa}{V t u:aY}{gs:Array aw}{B W:Nat}
def m9(C:aI)(es:Array aJ):Prop:=∃o,(o=1\/o=2\/o=4\/o=5)/\(es=#[jT C o,jD C o]\/es=#[jT C o]\/es=#[jD C o]\/es=semEvents (C.ca o))
def Me{es}(h:m9 C es):deafBehind 1 es=1:=by obtain⟨o,_,rfl|rfl|rfl|rfl⟩:=h<;>rfl
def Cj{o}(a:o=1\/o=2\/o=4\/o=5):C.nh (.cell (C.ca o)):=by obtain rfl|rfl|rfl|rfl:=a<;>simp[aI.nh,aI.ca]
def Ck{o}(a:o=1\/o=2\/o=4\/o=5):C.lJ (.cell (C.ca o)):=.inl (Cj a)
def yg{es}(h:m9 C es):∀e∈es,((MemAct.ofEvent e).touch?=none/\∀B,(MemAct.ofEvent e).low B)\/∃o wr,(o=1\/o=2\/o=4\/o=5)/\e=⟨.cell (C.ca o),wr,true⟩:=by
 obtain⟨o,b,rfl|rfl|rfl|rfl⟩:=h<;>intro e a
 .simp only[dK,cm,dP,or_false]at a;obtain rfl|rfl:=a
  .exact .inr ⟨o,false,b,rfl⟩
  .exact .inr ⟨o,true,b,rfl⟩
 .simp only[dK,cm,dP,or_false]at a;subst a;exact .inr ⟨o,false,b,rfl⟩
 .simp only[dK,cm,dP,or_false]at a;subst a;exact .inr ⟨o,true,b,rfl⟩
 .simp only[semEvents,dK,cm,dP,or_false]at a;obtain rfl|rfl|rfl|rfl:=a
  .exact .inl ⟨rfl,λB=>trivial⟩
  .exact .inr ⟨o,false,b,rfl⟩
  .exact .inr ⟨o,true,b,rfl⟩
  .exact .inl ⟨rfl,λB=>trivial⟩
def Co{es}(h:m9 C es):∀e∈es,MemAct.ofEvent e≠.mark (.release (C.ca 4)):=by
 obtain⟨o,b,rfl|rfl|rfl|rfl⟩:=h<;>intro e a<;>simp only[semEvents,dK,cm,dP,or_false]at a
 .rcases a with rfl|rfl<;>simp[jT,jD,MemAct.ofEvent]
 .subst a;simp[jT,MemAct.ofEvent]
 .subst a;simp[jD,MemAct.ofEvent]
 .rcases a with rfl|rfl|rfl|rfl<;>simp[MemAct.ofEvent]
def Cn{es}(h:m9 C es){e}(c:e∈es){a}(b:(MemAct.ofEvent e).touch?=some a)(g):(C.places s).may g a:=by
 obtain⟨d,_⟩|⟨o,wr,f,rfl⟩:=yg h e c
 .rw[d]at b;cases b
 .refine .inr (.inr ?_);cases wr<;>(simp only[MemAct.ofEvent,MemAct.touch?,cw,if_true]at b;subst b;exact⟨Ck f,by simp,by simp⟩)
def Cm{es}(h:m9 C es)(a:C.r<B):∀e∈es,(MemAct.ofEvent e).low B:=by
 intro e b;obtain⟨_,c⟩|⟨o,wr,d,rfl⟩:=yg h e b
 .exact c B
 .cases wr<;>exact a
def a2p(O:∀c,C.SB c->c<C.B0)(I:p.Inv V s gs v t){i}(T:i<s.sp.aW C.n){es}(f:m9 C es)(P:Deaf t (C.N0+i)=1)(y:s'.sp=s.sp)(q:s'.cls=s.cls)(E:s'.cb=s.cb)(z:∀k,k<C.n->(s'.ph k).said=true->(s.ph k).said=true)(fn pos):C.fU s' V (t++MemOp.ofEvents (C.N0+i) fn pos es) v.heap.size:=by
 have r:∀m∈MemOp.ofEvents (C.N0+i) fn pos es,m.g=C.N0+i:=λm d=>by obtain⟨e,_,rfl⟩:=Go.Conc.mem_ofEvents d;rfl
 refine BK I.pos I.f8 (A3 (mw I.cls y E q) O) (aF _) (by rw[y]) (λk c h=>by unfold St.own at h⊢;rw[q];exact h) (.inr ⟨by omega,by omega⟩) r (λm d a w U=>?_) (λm d=>?_) (λm d=>?_) (λk D M=>?_)
 .obtain⟨e,l,rfl⟩:=Go.Conc.mem_ofEvents d;exact Cn f l w _
 .obtain⟨e,l,rfl⟩:=Go.Conc.mem_ofEvents d;exact Cm f (cP I.hp.rb) e l
 .obtain⟨e,l,rfl⟩:=Go.Conc.mem_ofEvents d;exact Co f e l
 .by_cases F:k=i
  .subst F;obtain⟨x,H,J⟩:=I.f8.rel k D (z k D M);refine⟨x,H.appOwn fn pos es λj e b=>?_,λj m a Q d K w=>?_⟩;rotate_left
   .rcases getElem?_append_cases d with⟨_,A⟩|⟨_,L⟩
    .exact J j m a Q A K w
    .obtain⟨e,b,rfl⟩:=Go.Conc.mem_ofEvents L;obtain⟨R,_⟩|⟨o,wr,N,rfl⟩:=yg f e b
     .rw[R]at w;cases w
     .cases wr<;>(simp only[MemAct.ofEvent,MemAct.touch?,cw,if_true]at w;subst w;exact Cj N)
   rw[P];obtain⟨o,N,rfl|rfl|rfl|rfl⟩:=f
   .match j,b with
    |0,b=>simp at b;subst b;exact .inr ⟨⟨_,_,rfl⟩,by simp[deafBehind]⟩
    |1,b=>simp at b;subst b;exact .inr ⟨⟨_,_,rfl⟩,by simp[deafBehind,jT]⟩
    |n+2,b=>simp at b
   .match j,b with
    |0,b=>simp at b;subst b;exact .inr ⟨⟨_,_,rfl⟩,by simp[deafBehind]⟩
    |n+1,b=>simp at b
   .match j,b with
    |0,b=>simp at b;subst b;exact .inr ⟨⟨_,_,rfl⟩,by simp[deafBehind]⟩
    |n+1,b=>simp at b
   .match j,b with
    |0,b=>simp[semEvents]at b;subst b;exact .inl rfl
    |1,b=>simp[semEvents]at b;subst b;exact .inr ⟨⟨_,_,rfl⟩,by simp[deafBehind,semEvents]⟩
    |2,b=>simp[semEvents]at b;subst b;exact .inr ⟨⟨_,_,rfl⟩,by simp[deafBehind,semEvents]⟩
    |3,b=>simp[semEvents]at b;subst b;exact .inl rfl
    |n+4,b=>simp[semEvents]at b
  .exact lT I.f8 D (z k D M) λm d S=>by have:=r m d;omega
def vq(f:C.dL s v.heap.size)(b:C.Shape v')(j:v'.heap.size=v.heap.size)(a:∀c,c≠C.r->v'.heap[c]?=v.heap[c]?)(k):C.Fr k (s.own k) v v':=by obtain⟨g,h,i⟩:=f.sh;refine vr b (by omega) (λc d=>a c λe=>?_) (a _ λe=>f.ge.2.2.2.1 e.symm);have:s.cls c=.wk k:=d;rw[e,g]at this;cases this
def Fb(h:p.Hp s v)(b:C.dL s v.heap.size)(f:v'.heap[C.r]?=some (C.fc (s'.G1.st (C.a1 s')) s'.G1.sm (s'.G2.st (C.a2 s')) s'.G2.sm))(a:∀c,c≠C.r->v'.heap[c]?=v.heap[c]?)(g:oo v'=oo v)(i:s'.sp.closed=s.sp.closed)(j:s'.sp.made C.n=s.sp.made C.n)(l:s'.sp.cM C.n=s.sp.cM C.n)(m:s'.cb=s.cb)(o:∀k,k<C.n->(s'.ph k).cD=(s.ph k).cD)(w:s.sp.made C.n<=C.n):p.Hp s' v':=by
 obtain⟨x,y,z⟩:=b.sh;refine⟨f,?_,?_,?_,g.trans h.os,?_⟩
 .rw[a _ λe=>b.ge.2.2.2.1 e.symm];exact h.tb
 .rw[a _ λe=>b.ge.2.2.2.2.1 e.symm,i];exact h.dc
 .intro c d;rw[a c (by have:=b.ge.1;omega)];exact h.old c d
 .intro k q;rw[j]at q;rw[l,m,o k (by omega),a _ λe=>by have:=b.ch k q;rw[e,x]at this;cases this];exact h.ch k q
def FI(a:C.dQ s):s.sp.made C.n<=C.n:=by have:=a.kI;cases h:s.sp<;>rw[h]at this<;>simp[SP.made]at this⊢ <;>omega
def kS(h:C.dQ s){i}(D:i<C.n){X G1 G2 rk q cls}(h0:s.ph i≠.unborn)(E:X≠.unborn)(g:X=.park1->s.sp.cM C.n<=i)(j:X.cD=true->i<s.sp.cM C.n)(l:s.sp.closed=false->7<=X.num)(m:s.sp.closed=true->X.num<=8/\X≠.park2)(o:∀k,k<C.n->(upd s.ph i X k=.la1↔G1=.la k)/\(upd s.ph i X k=.lb1↔G1=.lb k)/\(upd s.ph i X k=.lc1↔G1=.lc k))(b:∀k,G1=.la k\/G1=.lb k\/G1=.lc k->k<C.n)(r:∀k,k<C.n->(upd s.ph i X k=.la2↔G2=.la k)/\(upd s.ph i X k=.lb2↔G2=.lb k)/\(upd s.ph i X k=.lc2↔G2=.lc k))(c:∀k,G2=.la k\/G2=.lb k\/G2=.lc k->k<C.n)(w:G1.zz (cnt (λk=>(upd s.ph i X k).dm) C.n))(y:G2.zz (cnt (λk=>(upd s.ph i X k).dn) C.n))(z:s.sp.jo G1)(A:s.sp.kv G2):C.dQ {s with ph:=upd s.ph i X,rk:=rk,q:=q,cls:=cls,G1:=G1,G2:=G2}:=by
 have d:∀{Q:Nat->Ph->Prop},(∀k,k<C.n->k≠i->Q k (s.ph k))->Q i X->∀k,k<C.n->Q k (upd s.ph i X k):=by
  intro Q F H k a;by_cases e:k=i
  .subst e;rw[upd_same];exact H
  .rw[upd_ne _ _ e];exact F k a e
 refine⟨h.n8,h.kI,?_,?_,?_,λf=>?_,λf=>?_,o,b,r,c,w,y,z,A,h.ni⟩
 .refine d (Q:=λk x=>x=.unborn↔s.sp.aW C.n<=k) (λk a _=>h.born k a) ⟨λe=>absurd e E,λe=>absurd ((h.born i D).2 e) h0⟩
 .exact d (Q:=λk x=>x=.park1->s.sp.cM C.n<=k) (λk a _=>h.ll k a) g
 .exact d (Q:=λk x=>x.cD=true->k<s.sp.cM C.n) (λk a _=>h.cD k a) j
 .exact d (Q:=λk x=>7<=x.num) (λk a _=>h.opened f k a) (l f)
 .exact d (Q:=λk x=>x.num<=8/\x≠.park2) (λk a _=>h.shut f k a) (m f)
def nD{i}{X:Ph}{G:Gp}{n ph}(h:∀k,k<n->(ph k=.la1↔G=.la k)/\(ph k=.lb1↔G=.lb k)/\(ph k=.lc1↔G=.lc k))(h0:ph i≠.la1/\ph i≠.lb1/\ph i≠.lc1)(a:X≠.la1/\X≠.lb1/\X≠.lc1):∀k,k<n->(upd ph i X k=.la1↔G=.la k)/\(upd ph i X k=.lb1↔G=.lb k)/\(upd ph i X k=.lc1↔G=.lc k):=by
 intro k b;have:=h k b;by_cases e:k=i
 .subst e;rw[upd_same];exact⟨⟨λe=>absurd e a.1,λe=>absurd (this.1.2 e) h0.1⟩,⟨λe=>absurd e a.2.1,λe=>absurd (this.2.1.2 e) h0.2.1⟩,⟨λe=>absurd e a.2.2,λe=>absurd (this.2.2.2 e) h0.2.2⟩⟩
 .rw[upd_ne _ _ e];exact this
def nE{i}{X:Ph}{G:Gp}{n ph}(h:∀k,k<n->(ph k=.la2↔G=.la k)/\(ph k=.lb2↔G=.lb k)/\(ph k=.lc2↔G=.lc k))(h0:ph i≠.la2/\ph i≠.lb2/\ph i≠.lc2)(a:X≠.la2/\X≠.lb2/\X≠.lc2):∀k,k<n->(upd ph i X k=.la2↔G=.la k)/\(upd ph i X k=.lb2↔G=.lb k)/\(upd ph i X k=.lc2↔G=.lc k):=by
 intro k b;have:=h k b;by_cases e:k=i
 .subst e;rw[upd_same];exact⟨⟨λe=>absurd e a.1,λe=>absurd (this.1.2 e) h0.1⟩,⟨λe=>absurd e a.2.1,λe=>absurd (this.2.1.2 e) h0.2.1⟩,⟨λe=>absurd e a.2.2,λe=>absurd (this.2.2.2 e) h0.2.2⟩⟩
 .rw[upd_ne _ _ e];exact this
end
def Jz(a b:Nat)(e:1<=a)(f:a<=8)(g:b<=1):IntKind.u64.wrap ((a:Int)*KK+b+18446744069414584320)=((a - 1:Nat):Int)*KK+b:=by
 have c:b=0\/b=1:=by omega
 have d:a=1\/a=2\/a=3\/a=4\/a=5\/a=6\/a=7\/a=8:=by omega
 obtain rfl|rfl:=c<;>obtain rfl|rfl|rfl|rfl|rfl|rfl|rfl|rfl:=d<;>decide
section
variable{C:aI}{p:cC C}{s:St}{v v1:aa}{t0 t u:aY}{gs:Array aw}{B B':Nat}
def cY{o:Nat}{x:af}:(∀c,c≠C.r->(v.setCell (C.ca o) x).heap[c]?=v.heap[c]?)/\(v.setCell (C.ca o) x).heap.size=v.heap.size/\oo (v.setCell (C.ca o) x)=oo v:=
 ⟨λc a=>pc a,by simp[World.setCell],rfl⟩
def lU(T:p.Ok)(U:∀c,C.SB c->c<C.B0)(I:p.Inv t0 s gs v t){i:Nat}(O:i<s.sp.aW C.n){g g':aw}{es:Array aJ}{sl:Option (Nat×Nat)}(V:gs[C.N0+i]?=some g)(D:stepG C.P false g v=.go g' v1 es)(h:m9 C es)(Q:Deaf t (C.N0+i)=1)(X:Ph)(ρ:Rk)(m:Nat)(G1 G2:Gp)(l:∀c,c≠C.r->v1.heap[c]?=v.heap[c]?)(E:v1.heap.size=v.heap.size)(F:oo v1=oo v)(H:v1.heap[C.r]?=some (C.fc (G1.st (cnt (λk=>(upd s.ph i X k).dm) C.n)) G1.sm (G2.st (cnt (λk=>(upd s.ph i X k).dn) C.n)) G2.sm))(J:X.cD=(s.ph i).cD)(K:X.said=true->(s.ph i).said=true)(o:X.num<(s.ph i).num)(W:C.Fr i (s.own i) v v1->p.eU i (s.cb i) X ρ m (s.own i) 1 g' v1)(w:C.dQ {s with ph:=upd s.ph i X,rk:=upd s.rk i ρ,q:=upd s.q (C.N0+i) m,G1:=G1,G2:=G2}\/(mayWake C.P g=true/\g'.status=.running/\∃b,s.sp=.sb b/\C.dQ (St.cR {s with ph:=upd s.ph i X,rk:=upd s.rk i ρ,q:=upd s.q (C.N0+i) m,G1:=G1,G2:=G2} b))):∃a R d f,runT C.P (crowd gs v sl) (C.N0+i)=(.next (crowd a R sl),d)/\p.Inv t0 f a R (t++d)/\C.Down f s:=by
 let s':St:={s with ph:=upd s.ph i X,rk:=upd s.rk i ρ,q:=upd s.q (C.N0+i) m,G1:=G1,G2:=G2};have x:p.Hp s' v1:=Fb I.hp I.cls H l F rfl rfl rfl rfl (λk A=>by
  by_cases e:k=i
  .subst e;show(upd s.ph k X k).cD=_;rw[upd_same];exact J
  .show(upd s.ph i X k).cD=_;rw[upd_ne _ _ e]) (FI I.ctl)
 have y:=vq I.cls (gq x) E l;have L:C.fU s' t0 (t++MemOp.ofEvents (C.N0+i) g.frame.fn g.frame.place es) v1.heap.size:=by
  rw[E];refine a2p (s':=s') U I O h Q rfl rfl rfl (λk A S=>?_) _ _;by_cases e:k=i
  .subst e;have:(upd s.ph k X k).said=true:=S;rw[upd_same]at this;exact K this
  .have:(upd s.ph i X k).said=true:=S
   rwa [upd_ne _ _ e]at this
 have M:=vR (s':=s') (sl:=sl) T I O V D (λk A=>⟨upd_ne _ _ A,upd_ne _ _ A⟩) (λj Y=>upd_ne _ _ Y) rfl (λ_ _=>rfl) rfl rfl
  (by
   rw[Q,Me h];show p.eU i (s.cb i) (upd s.ph i X i) (upd s.rk i ρ i) (upd s.q (C.N0+i) m (C.N0+i)) (s.own i) 1 g' v1;rw[upd_same,upd_same,upd_same];exact W (y i)) (λk _=>y k) x (by rw[E];exact mw I.cls rfl rfl rfl) w L ?_
 .obtain⟨a,d,f,Z,h2,h3⟩:=M;exact⟨a,v1,d,f,Z,h2,h3⟩
 .have N: ¬(C.N0+i<C.N0):=by omega
  have z:C.N0+i - C.N0=i:=by omega
  simp only[aI.dV,N,if_false,z,s',upd_same];exact .num o
def AP{sp:SP}{G G':Gp}(h:sp.jo G)(c:G≠.idle)(d:G≠.over)(a:G'≠.idle)(b:G'≠.over)(e:G'≠.rel):sp.jo G':=by unfold SP.jo at h⊢;split at h<;>first|exact absurd h c|exact absurd h d|exact⟨a,b⟩|exact⟨a,b,e⟩
def AR{sp:SP}{G G':Gp}(h:sp.kv G)(c:G≠.idle)(d:G≠.over)(a:G'≠.idle)(b:G'≠.over)(e:G'≠.rel):sp.kv G':=by unfold SP.kv at h⊢;split at h<;>first|exact absurd h c|exact absurd h d|exact⟨a,b⟩|exact⟨a,b,e⟩
def Ly{i:Nat}(a:i<C.n){X:Ph}(h:(s.ph i).dm=true)(b:X.dm=false):C.a1 s=cnt (λk=>(upd s.ph i X k).dm) C.n+1:=
 yw (f:=λk=>(s.ph k).dm) (g:=λk=>(upd s.ph i X k).dm) h (by simpa[upd_same]using b) (λj c=>by simp only[upd_ne _ _ c]) a
def LF{i:Nat}(a:i<C.n){X:Ph}(h:(s.ph i).dn=true)(b:X.dn=false):C.a2 s=cnt (λk=>(upd s.ph i X k).dn) C.n+1:=
 yw (f:=λk=>(s.ph k).dn) (g:=λk=>(upd s.ph i X k).dn) h (by simpa[upd_same]using b) (λj c=>by simp only[upd_ne _ _ c]) a
def kN{i:Nat}{X:Ph}(h:X.dm=(s.ph i).dm):cnt (λk=>(upd s.ph i X k).dm) C.n=C.a1 s:=
 nn λk _=>by
  by_cases e:k=i
  .subst e;rw[upd_same];exact h
  .rw[upd_ne _ _ e]
def kO{i:Nat}{X:Ph}(h:X.dn=(s.ph i).dn):cnt (λk=>(upd s.ph i X k).dn) C.n=C.a2 s:=
 nn λk _=>by
  by_cases e:k=i
  .subst e;rw[upd_same];exact h
  .rw[upd_ne _ _ e]
def E1{i n:Nat}{X:Ph}{G a:Gp}{ph:Nat->Ph}(h:∀k,k<n->(ph k=.la1↔G=.la k)/\(ph k=.lb1↔G=.lb k)/\(ph k=.lc1↔G=.lc k))(q:∀k,k≠i->G≠.la k/\G≠.lb k/\G≠.lc k)(o:(X=.la1/\a=.la i)\/(X=.lb1/\a=.lb i)\/(X=.lc1/\a=.lc i)\/((X≠.la1/\X≠.lb1/\X≠.lc1)/\∀k,a≠.la k/\a≠.lb k/\a≠.lc k)):∀k,k<n->(upd ph i X k=.la1↔a=.la k)/\(upd ph i X k=.lb1↔a=.lb k)/\(upd ph i X k=.lc1↔a=.lc k):=by
 intro k r;by_cases e:k=i
 .subst e;rw[upd_same];obtain⟨rfl,rfl⟩|⟨rfl,rfl⟩|⟨rfl,rfl⟩|⟨b,g⟩:=o
  .simp
  .simp
  .simp
  .have:=g k;exact⟨⟨λe=>absurd e b.1,λe=>absurd e this.1⟩,⟨λe=>absurd e b.2.1,λe=>absurd e this.2.1⟩,⟨λe=>absurd e b.2.2,λe=>absurd e this.2.2⟩⟩
 .rw[upd_ne _ _ e];have j:=h k r;have l:=q k e;have c:ph k≠.la1:=λx=>l.1 (j.1.1 x);have d:ph k≠.lb1:=λx=>l.2.1 (j.2.1.1 x);have f:ph k≠.lc1:=λx=>l.2.2 (j.2.2.1 x);have m: ¬i=k:=λx=>e x.symm;obtain⟨rfl,rfl⟩|⟨rfl,rfl⟩|⟨rfl,rfl⟩|⟨b,g⟩:=o
  .simp[c,d,f,m]
  .simp[c,d,f,m]
  .simp[c,d,f,m]
  .have:=g k;simp[c,d,f,this]
def E2{i n:Nat}{X:Ph}{G a:Gp}{ph:Nat->Ph}(h:∀k,k<n->(ph k=.la2↔G=.la k)/\(ph k=.lb2↔G=.lb k)/\(ph k=.lc2↔G=.lc k))(q:∀k,k≠i->G≠.la k/\G≠.lb k/\G≠.lc k)(o:(X=.la2/\a=.la i)\/(X=.lb2/\a=.lb i)\/(X=.lc2/\a=.lc i)\/((X≠.la2/\X≠.lb2/\X≠.lc2)/\∀k,a≠.la k/\a≠.lb k/\a≠.lc k)):∀k,k<n->(upd ph i X k=.la2↔a=.la k)/\(upd ph i X k=.lb2↔a=.lb k)/\(upd ph i X k=.lc2↔a=.lc k):=by
 intro k r;by_cases e:k=i
 .subst e;rw[upd_same];obtain⟨rfl,rfl⟩|⟨rfl,rfl⟩|⟨rfl,rfl⟩|⟨b,g⟩:=o
  .simp
  .simp
  .simp
  .have:=g k;exact⟨⟨λe=>absurd e b.1,λe=>absurd e this.1⟩,⟨λe=>absurd e b.2.1,λe=>absurd e this.2.1⟩,⟨λe=>absurd e b.2.2,λe=>absurd e this.2.2⟩⟩
 .rw[upd_ne _ _ e];have j:=h k r;have l:=q k e;have c:ph k≠.la2:=λx=>l.1 (j.1.1 x);have d:ph k≠.lb2:=λx=>l.2.1 (j.2.1.1 x);have f:ph k≠.lc2:=λx=>l.2.2 (j.2.2.1 x);have m: ¬i=k:=λx=>e x.symm;obtain⟨rfl,rfl⟩|⟨rfl,rfl⟩|⟨rfl,rfl⟩|⟨b,g⟩:=o
  .simp[c,d,f,m]
  .simp[c,d,f,m]
  .simp[c,d,f,m]
  .have:=g k;simp[c,d,f,this]
end
section
variable{C:aI}{p:cC C}{s:St}{v v1:aa}{t0 t u:aY}{gs:Array aw}{B B':Nat}
abbrev cC.Goes(p:cC C)(t0:aY)(s:St)(gs:Array aw)(v:aa)(t:aY)(j:Nat)(sl:Option (Nat×Nat)):Prop:=
 ∃a d b c,runT C.P (crowd gs v sl) j=(.next (crowd a d sl),b)/\p.Inv t0 c a d (t++b)/\C.Down c s
def IT(h:p.Hp s v)(g:C.dL s v.heap.size){o x}(i:∃a b c d,(v.setCell (C.ca o) x).heap[C.r]?=some (C.fc a b c d)):C.Shape (v.setCell (C.ca o) x):=
 ⟨i,by rw[cY.1 _ λe=>g.ge.2.2.2.1 e.symm];exact h.tb,λc f=>by rw[cY.1 c (by have:=g.ge.1;omega)];exact h.old c f,h.os,by rw[cY.2.1];exact cP h.dc⟩
def a1b(h:p.Hp s v)(a:C.dL s v.heap.size)(x):C.Shape (v.setCell (C.ca 1) (.int .u64 x)):=IT h a ⟨x,s.G1.sm,s.G2.st (C.a2 s),s.G2.sm,by rw[show(C.ca 1)=⟨C.r,1,none⟩from rfl,gp h.rb];simp[aI.fc]⟩
def IS(h:p.Hp s v)(a:C.dL s v.heap.size)(x):C.Shape (v.setCell (C.ca 2) (.int .u32 x)):=IT h a ⟨s.G1.st (C.a1 s),x,s.G2.st (C.a2 s),s.G2.sm,by rw[show(C.ca 2)=⟨C.r,2,none⟩from rfl,gp h.rb];simp[aI.fc]⟩
def a6e(E:p.Ok)(Y:∀c,C.SB c->c<C.B0)(I:p.Inv t0 s gs v t){i}(R:i<s.sp.aW C.n){g sl}(Z:gs[C.N0+i]?=some g)(d:s.ph i=.work)(hA:p.AD 1 i (s.cb i) g)(hd:Deaf t (C.N0+i)=1)(hT:p.TD i (s.own i) v):p.Goes t0 s gs v t (C.N0+i) sl:=by
 have j:i<C.n:=cG R (gM I.ctl);obtain⟨_,g1,A,⟨ae,S⟩,F,T⟩:=E.ad _ _ _ _ hA;have hb:(s.ph i).dm=true:=by rw[d];rfl
 have U:C.a1 s<=8:=dF (rr _ _) I.ctl.n8;have h7:s.ph i≠.unborn:=by rw[d];decide
 have o:i<s.sp.cM C.n:=I.ctl.cD i j (by rw[d];rfl);have l:=A v _ (Hp.og I.hp) (Hp.thaw I.hp 1);have f:∀X:Ph,X.dm=false->C.a1 s=cnt (λk=>(upd s.ph i X k).dm) C.n+1:=λX hX=>Ly j hb hX;have H:0<C.a1 s:=by have:=f .dX rfl;omega
 have J:s.G1=.idle\/s.G1=.reg:=by have:=I.ctl.z1;cases h:s.G1<;>rw[h]at this<;>first|exact .inl rfl|exact .inr rfl|(simp only[Gp.zz]at this;omega)
 have q:∀k,s.G1≠.la k/\s.G1≠.lb k/\s.G1≠.lc k:=λk=>by obtain h|h:=J<;>rw[h]<;>simp
 have K:s.ph i≠.la2/\s.ph i≠.lb2/\s.ph i≠.lc2:=by rw[d];decide
 have V:s.ph i≠.la1/\s.ph i≠.lb1/\s.ph i≠.lc1:=by rw[d];decide
 have ab:s.sp.closed=false->8<=(s.ph i).num:=λh=>by have:=I.ctl.opened h i j;rw[d]at this⊢;simp[Ph.num]at this⊢
 have D:s.sp.closed=true->(s.ph i).num<=8:=λh=>(I.ctl.shut h i j).1;by_cases a:s.G1=.reg/\C.a1 s=1
 .
  have w:IntKind.u64.wrap (s.G1.st (C.a1 s)+18446744069414584320)=1:=by rw[a.1,a.2];decide
  rw[w]at l;have L:cnt (λk=>(upd s.ph i .la1 k).dm) C.n=0:=by have:=f .la1 rfl;omega
  have x:cnt (λk=>(upd s.ph i .la1 k).dn) C.n=C.a2 s:=kO (by rw[d];rfl);obtain⟨m,g',hQ,hL⟩:=S;refine lU E Y I R Z l ⟨1,by simp,.inl rfl⟩ hd .la1 .leaf m (.la i) s.G2 cY.1 cY.2.1 cY.2.2 ?_ (by rw[d];rfl) (by intro h;cases h) (by rw[d];decide) (λQ=>⟨E.td _ _ _ _ hT Q,g',hQ,hL⟩) (.inl ?_)
  .rw[show(C.ca 1)=⟨C.r,1,none⟩from rfl,gp I.hp.rb,L,x];simp[aI.fc,Gp.st,Gp.sm,a.1]
  .refine kS I.ctl j h7 (by decide) (λe=>by cases e) (λ_=>o) (λh=>?_) (λh=>?_) ?_ ?_ ?_ ?_ ?_ ?_ ?_ ?_
   .decide
   .have:=D h;rw[d]at this;exact absurd this (by decide)
   .exact E1 I.ctl.g1 (λk _=>q k) (.inl ⟨rfl,rfl⟩)
   .exact λk hk=>by obtain e|e|e:=hk<;>cases e;exact j
   .exact nE I.ctl.g2 K (by decide)
   .exact I.ctl.ef
   .show cnt _ _=0;exact L
   .rw[x];exact I.ctl.z2
   .exact AP I.ctl.s1 (by rw[a.1];simp) (by rw[a.1];simp) (by simp) (by simp) (by simp)
   .exact I.ctl.s2
 .
  obtain⟨b,M,y⟩:∃b:Nat,b<=1/\s.G1.st (C.a1 s)=(C.a1 s:Int)*KK+b/\(b=1->s.G1=.reg)/\(b=0->s.G1=.idle):=by
   obtain h|h:=J
   .exact⟨0,by omega,by rw[h];simp[Gp.st],λe=>by omega,λ_=>h⟩
   .exact⟨1,by omega,by rw[h];simp[Gp.st],λ_=>h,λe=>by omega⟩
  have w:IntKind.u64.wrap (s.G1.st (C.a1 s)+18446744069414584320)=((C.a1 s - 1:Nat):Int)*KK+b:=by rw[y.1];exact Jz _ _ H U M
  rw[w]at l;have N:cnt (λk=>(upd s.ph i .dX k).dm) C.n=C.a1 s - 1:=by have:=f .dX rfl;omega
  have x:cnt (λk=>(upd s.ph i .dX k).dn) C.n=C.a2 s:=kO (by rw[d];rfl);have O: ¬(C.a1 s - 1=0/\b=1):=λ⟨h1,h2⟩=>a ⟨y.2.1 h2,by omega⟩;have hw:=λ(Q:C.Fr i (s.own i) v (v.setCell (C.ca 1) (.int .u64 (((C.a1 s - 1:Nat):Int)*KK+b))))=>(F rfl (C.a1 s - 1) b (by omega) M O).2 (s.own i) _ Q.shape (sW I.cls cY.2.1 i) (E.td _ _ _ _ hT Q);have z:=a1b I.hp I.cls (((C.a1 s - 1:Nat):Int)*KK+b);obtain⟨ρ,hρ⟩:=hw (vq I.cls z cY.2.1 cY.1 i);refine lU E Y I R Z l ⟨1,by simp,.inl rfl⟩ hd .dX ρ 0 s.G1 s.G2 cY.1 cY.2.1 cY.2.2 ?_ (by rw[d];rfl) (by intro h;cases h) (by rw[d];decide) (λ_=>hρ) (.inl ?_)
  .rw[show(C.ca 1)=⟨C.r,1,none⟩from rfl,gp I.hp.rb,N,x];have ag:s.G1.sm=0:=by obtain h|h:=J<;>rw[h]<;>rfl
   have P:s.G1.st (C.a1 s - 1)=((C.a1 s - 1:Nat):Int)*KK+b:=by
    obtain h|h:=J
    .have:b=0:=by apply fx;intro W;have:=y.2.1 (by omega);rw[h]at this;cases this
     subst this;rw[h];simp[Gp.st]
    .have:b=1:=by apply fx;intro W;have:=y.2.2 (by omega);rw[h]at this;cases this
     subst this;rw[h];simp[Gp.st]
   rw[P];simp[aI.fc]
  .refine kS I.ctl j h7 (by decide) (λe=>by cases e) (λ_=>o) (λh=>?_) (λh=>?_) ?_ ?_ ?_ ?_ ?_ ?_ ?_ ?_
   .decide
   .decide
   .exact nD I.ctl.g1 V (by decide)
   .exact I.ctl.ee
   .exact nE I.ctl.g2 K (by decide)
   .exact I.ctl.ef
   .rw[N];obtain h|h:=J
    .rw[h];trivial
    .rw[h];show 0<_;have:C.a1 s≠1:=λe=>a ⟨h,e⟩;omega
   .rw[x];exact I.ctl.z2
   .exact I.ctl.s1
   .exact I.ctl.s2
def LH(F:p.Ok)(Z:∀c,C.SB c->c<C.B0)(I:p.Inv t0 s gs v t){i}(Q:i<s.sp.aW C.n){g sl}(hg:gs[C.N0+i]?=some g)(a:s.ph i=.hush)(hA:p.AD 4 i (s.cb i) g)(hd:Deaf t (C.N0+i)=1)(hT:p.TD i (s.own i) v):p.Goes t0 s gs v t (C.N0+i) sl:=by
 have j:i<C.n:=cG Q (gM I.ctl);obtain⟨_,g1,D,⟨ae,R⟩,ab,E⟩:=F.ad _ _ _ _ hA;have hb:(s.ph i).dn=true:=by rw[a];rfl
 have S:C.a2 s<=8:=dF (rr _ _) I.ctl.n8;have h7:s.ph i≠.unborn:=by rw[a];decide
 have o:i<s.sp.cM C.n:=I.ctl.cD i j (by rw[a];rfl);have l:=D v _ (Hp.oh I.hp) (Hp.thaw I.hp 4);have f:∀X:Ph,X.dn=false->C.a2 s=cnt (λk=>(upd s.ph i X k).dn) C.n+1:=λX hX=>LF j hb hX;have H:0<C.a2 s:=by have:=f .leave rfl;omega
 have J:s.G2=.idle\/s.G2=.reg:=by have:=I.ctl.z2;cases h:s.G2<;>rw[h]at this<;>first|exact .inl rfl|exact .inr rfl|(simp only[Gp.zz]at this;omega)
 have w:∀k,s.G2≠.la k/\s.G2≠.lb k/\s.G2≠.lc k:=λk=>by obtain h|h:=J<;>rw[h]<;>simp
 have K:s.ph i≠.la1/\s.ph i≠.lb1/\s.ph i≠.lc1:=by rw[a];decide
 have T:s.ph i≠.la2/\s.ph i≠.lb2/\s.ph i≠.lc2:=by rw[a];decide
 have A:s.sp.closed=false->8<=(s.ph i).num:=λh=>by have:=I.ctl.opened h i j;rw[a]at this⊢;simp[Ph.num]at this⊢
 have U:s.sp.closed=true->(s.ph i).num<=8:=λh=>(I.ctl.shut h i j).1;by_cases d:s.G2=.reg/\C.a2 s=1
 .
  have x:IntKind.u64.wrap (s.G2.st (C.a2 s)+18446744069414584320)=1:=by rw[d.1,d.2];decide
  rw[x]at l;have L:cnt (λk=>(upd s.ph i .la2 k).dn) C.n=0:=by have:=f .la2 rfl;omega
  have y:cnt (λk=>(upd s.ph i .la2 k).dm) C.n=C.a1 s:=kN (by rw[a];rfl);obtain⟨m,g',V,hL⟩:=R;refine lU F Z I Q hg l ⟨4,by simp,.inl rfl⟩ hd .la2 .leaf m s.G1 (.la i) cY.1 cY.2.1 cY.2.2 ?_ (by rw[a];rfl) (by intro _;rw[a];rfl) (by rw[a];decide) (λW=>⟨F.td _ _ _ _ hT W,g',V,hL⟩) (.inl ?_)
  .rw[show(C.ca 4)=⟨C.r,4,none⟩from rfl,gp I.hp.rb,L,y];simp[aI.fc,Gp.st,Gp.sm,d.1]
  .refine kS I.ctl j h7 (by decide) (λe=>by cases e) (λ_=>o) (λh=>?_) (λh=>?_) ?_ ?_ ?_ ?_ ?_ ?_ ?_ ?_
   .have:=A h;rw[a]at this;exact absurd this (by decide)
   .decide
   .exact nD I.ctl.g1 K (by decide)
   .exact I.ctl.ee
   .exact E2 I.ctl.g2 (λk _=>w k) (.inl ⟨rfl,rfl⟩)
   .exact λk hk=>by obtain e|e|e:=hk<;>cases e;exact j
   .rw[y];exact I.ctl.z1
   .show cnt _ _=0;exact L
   .exact I.ctl.s1
   .exact AR I.ctl.s2 (by rw[d.1];simp) (by rw[d.1];simp) (by simp) (by simp) (by simp)
 .
  obtain⟨b,M,z⟩:∃b:Nat,b<=1/\s.G2.st (C.a2 s)=(C.a2 s:Int)*KK+b/\(b=1->s.G2=.reg)/\(b=0->s.G2=.idle):=by
   obtain h|h:=J
   .exact⟨0,by omega,by rw[h];simp[Gp.st],λe=>by omega,λ_=>h⟩
   .exact⟨1,by omega,by rw[h];simp[Gp.st],λ_=>h,λe=>by omega⟩
  have x:IntKind.u64.wrap (s.G2.st (C.a2 s)+18446744069414584320)=((C.a2 s - 1:Nat):Int)*KK+b:=by rw[z.1];exact Jz _ _ H S M
  rw[x]at l;have N:cnt (λk=>(upd s.ph i .leave k).dn) C.n=C.a2 s - 1:=by have:=f .leave rfl;omega
  have y:cnt (λk=>(upd s.ph i .leave k).dm) C.n=C.a1 s:=kN (by rw[a];rfl);have O: ¬(C.a2 s - 1=0/\b=1):=λ⟨h1,h2⟩=>d ⟨z.2.1 h2,by omega⟩;obtain⟨_,q,V⟩:=E rfl (C.a2 s - 1) b (by omega) M O;refine lU F Z I Q hg l ⟨4,by simp,.inl rfl⟩ hd .leave .leaf q s.G1 s.G2 cY.1 cY.2.1 cY.2.2 ?_ (by rw[a];rfl) (λ_=>by rw[a];rfl) (by rw[a];decide) (λW=>⟨F.td _ _ _ _ hT W,V⟩) (.inl ?_)
  .rw[show(C.ca 4)=⟨C.r,4,none⟩from rfl,gp I.hp.rb,N,y];have ag:s.G2.sm=0:=by obtain h|h:=J<;>rw[h]<;>rfl
   have P:s.G2.st (C.a2 s - 1)=((C.a2 s - 1:Nat):Int)*KK+b:=by
    obtain h|h:=J
    .have:b=0:=by apply fx;intro Y;have:=z.2.1 (by omega);rw[h]at this;cases this
     subst this;rw[h];simp[Gp.st]
    .have:b=1:=by apply fx;intro Y;have:=z.2.2 (by omega);rw[h]at this;cases this
     subst this;rw[h];simp[Gp.st]
   rw[P];simp[aI.fc]
  .refine kS I.ctl j h7 (by decide) (λe=>by cases e) (λ_=>o) (λh=>?_) (λh=>?_) ?_ ?_ ?_ ?_ ?_ ?_ ?_ ?_
   .have:=A h;rw[a]at this;exact absurd this (by decide)
   .decide
   .exact nD I.ctl.g1 K (by decide)
   .exact I.ctl.ee
   .exact nE I.ctl.g2 T (by decide)
   .exact I.ctl.ef
   .rw[y];exact I.ctl.z1
   .rw[N];obtain h|h:=J
    .rw[h];trivial
    .rw[h];show 0<_;have:C.a2 s≠1:=λe=>d ⟨h,e⟩;omega
   .exact I.ctl.s1
   .exact I.ctl.s2
end
section
variable{C:aI}{p:cC C}{s:St}{v v1:aa}{t0 t u:aY}{gs:Array aw}{B B':Nat}
def Af(I:p.Inv t0 s gs v t){i}(a:i<C.n){X}{G:Gp}(b:s.G1=.la i\/s.G1=.lb i\/s.G1=.lc i)(c:(X=.la1/\G=.la i)\/(X=.lb1/\G=.lb i)\/(X=.lc1/\G=.lc i)\/((X≠.la1/\X≠.lb1/\X≠.lc1)/\∀k,G≠.la k/\G≠.lb k/\G≠.lc k)):∀k,k<C.n->(upd s.ph i X k=.la1↔G=.la k)/\(upd s.ph i X k=.lb1↔G=.lb k)/\(upd s.ph i X k=.lc1↔G=.lc k):=by refine E1 I.ctl.g1 (λk d=>?_) c;have e: ¬i=k:=λx=>d x.symm;obtain h|h|h:=b<;>rw[h]<;>simp[e]
def TZ(r:p.Ok)(z:∀c,C.SB c->c<C.B0)(I:p.Inv t0 s gs v t){i}(x:i<s.sp.aW C.n){g sl}(A:gs[C.N0+i]?=some g)(a:s.ph i=.la1)(D:p.LA 1 i (s.cb i) g)(E:Deaf t (C.N0+i)=1)(F:p.TD i (s.own i) v):p.Goes t0 s gs v t (C.N0+i) sl:=by
 have b:i<C.n:=cG x (gM I.ctl);have j:s.G1=.la i:=((I.ctl.g1 i b).1).1 a;have H:s.ph i≠.unborn:=by rw[a];decide
 have d:i<s.sp.cM C.n:=I.ctl.cD i b (by rw[a];rfl);have w:s.ph i≠.la2/\s.ph i≠.lb2/\s.ph i≠.lc2:=by rw[a];decide
 have y:C.a1 s=0:=by have:=I.ctl.z1;rw[j]at this;exact this
 obtain⟨_,O,f,_,m,J,K,L⟩:=r.la _ _ _ _ D;have l:=f v (by rw[Hp.og I.hp,j];rfl);have o:cnt (λk=>(upd s.ph i .lb1 k).dm) C.n=C.a1 s:=kN (by rw[a];rfl);have q:cnt (λk=>(upd s.ph i .lb1 k).dn) C.n=C.a2 s:=kO (by rw[a];rfl);refine lU r z I x A l ⟨1,by simp,.inr (.inl rfl)⟩ E .lb1 .leaf m (.lb i) s.G2 (λ_ _=>rfl) rfl rfl ?_ (by rw[a];rfl) (by intro h;cases h) (by rw[a];decide) (λM=>⟨r.td _ _ _ _ F M,J,K,L⟩) (.inl ?_)
 .rw[o,q,I.hp.rb,j,y];rfl
 .refine kS I.ctl b H (by decide) (λe=>by cases e) (λ_=>d) (λh=>?_) (λh=>?_) ?_ ?_ ?_ ?_ ?_ ?_ ?_ ?_
  .decide
  .have:=(I.ctl.shut h i b).1;rw[a]at this;exact absurd this (by decide)
  .exact Af I b (.inl j) (.inr (.inl ⟨rfl,rfl⟩))
  .exact λk N=>by obtain e|e|e:=N<;>cases e;exact b
  .exact nE I.ctl.g2 w (by decide)
  .exact I.ctl.ef
  .show cnt _ _=0;rw[o];exact y
  .rw[q];exact I.ctl.z2
  .exact AP I.ctl.s1 (by rw[j];simp) (by rw[j];simp) (by simp) (by simp) (by simp)
  .exact I.ctl.s2
def T8(w:p.Ok)(A:∀c,C.SB c->c<C.B0)(I:p.Inv t0 s gs v t){i}(y:i<s.sp.aW C.n){g sl}(D:gs[C.N0+i]?=some g)(a:s.ph i=.lb1)(E:p.LB 1 i (s.cb i) g)(F:Deaf t (C.N0+i)=1)(H:p.TD i (s.own i) v):p.Goes t0 s gs v t (C.N0+i) sl:=by
 have b:i<C.n:=cG y (gM I.ctl);have j:s.G1=.lb i:=((I.ctl.g1 i b).2.1).1 a;have J:s.ph i≠.unborn:=by rw[a];decide
 have d:i<s.sp.cM C.n:=I.ctl.cD i b (by rw[a];rfl);have x:s.ph i≠.la2/\s.ph i≠.lb2/\s.ph i≠.lc2:=by rw[a];decide
 have z:C.a1 s=0:=by have:=I.ctl.z1;rw[j]at this;exact this
 obtain⟨_,P,f,_,m,K,L,M⟩:=w.lb _ _ _ _ E;have l:=f v _ (Hp.og I.hp) (Hp.thaw I.hp 1);have o:cnt (λk=>(upd s.ph i .lc1 k).dm) C.n=C.a1 s:=kN (by rw[a];rfl);have q:cnt (λk=>(upd s.ph i .lc1 k).dn) C.n=C.a2 s:=kO (by rw[a];rfl);refine lU w A I y D l ⟨1,by simp,.inr (.inr (.inl rfl))⟩ F .lc1 .leaf m (.lc i) s.G2 cY.1 cY.2.1 cY.2.2 ?_ (by rw[a];rfl) (by intro h;cases h) (by rw[a];decide) (λN=>⟨w.td _ _ _ _ H N,K,L,M⟩) (.inl ?_)
 .rw[show(C.ca 1)=⟨C.r,1,none⟩from rfl,gp I.hp.rb,o,q,j,z];simp[aI.fc,Gp.st,Gp.sm]
 .refine kS I.ctl b J (by decide) (λe=>by cases e) (λ_=>d) (λh=>?_) (λh=>?_) ?_ ?_ ?_ ?_ ?_ ?_ ?_ ?_
  .decide
  .have:=(I.ctl.shut h i b).1;rw[a]at this;exact absurd this (by decide)
  .exact Af I b (.inr (.inl j)) (.inr (.inr (.inl ⟨rfl,rfl⟩)))
  .exact λk O=>by obtain e|e|e:=O<;>cases e;exact b
  .exact nE I.ctl.g2 x (by decide)
  .exact I.ctl.ef
  .show cnt _ _=0;rw[o];exact z
  .rw[q];exact I.ctl.z2
  .exact AP I.ctl.s1 (by rw[j];simp) (by rw[j];simp) (by simp) (by simp) (by simp)
  .exact I.ctl.s2
def Ua(D:p.Ok)(P:∀c,C.SB c->c<C.B0)(I:p.Inv t0 s gs v t){i}(M:i<s.sp.aW C.n){g sl}(Q:gs[C.N0+i]?=some g)(a:s.ph i=.lc1)(R:p.LC 1 i (s.cb i) g)(S:Deaf t (C.N0+i)=1)(T:p.TD i (s.own i) v):p.Goes t0 s gs v t (C.N0+i) sl:=by
 have b:i<C.n:=cG M (gM I.ctl);have l:s.G1=.lc i:=((I.ctl.g1 i b).2.2).1 a;have U:s.ph i≠.unborn:=by rw[a];decide
 have E:i<s.sp.cM C.n:=I.ctl.cD i b (by rw[a];rfl);have F:s.ph i≠.la2/\s.ph i≠.lb2/\s.ph i≠.lc2:=by rw[a];decide
 have N:C.a1 s=0:=by have:=I.ctl.z1;rw[l]at this;exact this
 obtain⟨_,H,X,J,j,m,K⟩:=D.lc _ _ _ _ R;have d:=j v _ (Hp.yq I.hp) (Hp.thaw I.hp 2);have o:IntKind.u32.wrap (s.G1.sm+1)=1:=by rw[l];show IntKind.u32.wrap (0+1)=1;decide
 rw[o]at d;have w:cnt (λk=>(upd s.ph i .dX k).dm) C.n=C.a1 s:=kN (by rw[a];rfl);have x:cnt (λk=>(upd s.ph i .dX k).dn) C.n=C.a2 s:=kO (by rw[a];rfl);have y:s.sp=.sa false\/s.sp=.sb false:=by have:=I.ctl.s1;rw[l]at this;unfold SP.jo at this;split at this<;>rename_i h<;>first|exact .inl h|exact .inr h|cases this
 obtain⟨ρ,V⟩:=m rfl (s.own i) (v.setCell (C.ca 2) (.int .u32 1)) (IS I.hp I.cls 1) (sW I.cls cY.2.1 i) (D.td _ _ _ _ T (vq I.cls (IS I.hp I.cls 1) cY.2.1 cY.1 i));refine lU D P I M Q d ⟨2,by simp,.inr (.inr (.inr rfl))⟩ S .dX ρ 0 .rel s.G2 cY.1 cY.2.1 cY.2.2 ?_ (by rw[a];rfl) (by intro h;cases h) (by rw[a];decide) (λ_=>V) ?_
 .rw[show(C.ca 2)=⟨C.r,2,none⟩from rfl,gp I.hp.rb,w,x,l,N];simp[aI.fc,Gp.st,Gp.sm]
 .have f:∀s0:St,C.dQ s0->s0.ph=s.ph->s0.G1=s.G1->s0.G2=s.G2->s0.sp=.sa false->s0.q=s.q->s0.rk=s.rk->s0.cb=s.cb->s0.cls=s.cls->C.dQ {s0 with ph:=upd s0.ph i .dX,rk:=upd s.rk i ρ,q:=upd s.q (C.N0+i) 0,G1:=.rel,G2:=s0.G2}:=by
   intro s0 O z Y L A Z e6 e7 e8;refine kS O b (by rw[z];exact U) (by decide) (λe=>by cases e) (λ_=>by rw[A];exact b) (λh=>?_) (λh=>?_) ?_ ?_ ?_ ?_ ?_ ?_ ?_ ?_
   .rw[A]at h;decide
   .rw[A]at h;decide
   .rw[z];exact Af I b (.inr (.inr l)) (.inr (.inr (.inr ⟨by decide,λk=>by simp⟩)))
   .exact λk W=>by obtain e|e|e:=W<;>cases e
   .rw[z,L];exact nE I.ctl.g2 F (by decide)
   .rw[L];exact I.ctl.ef
   .show cnt _ _=0;rw[z,w];exact N
   .rw[z,x,L];exact I.ctl.z2
   .rw[A];exact⟨by simp,by simp⟩
   .exact O.s2
  obtain h|h:=y
  .exact .inl (f s I.ctl rfl rfl rfl h rfl rfl rfl rfl)
  .exact .inr ⟨H,J,false,h,f (s.cR false) (uw I.ctl h) rfl rfl rfl rfl rfl rfl rfl rfl⟩
def Ag(I:p.Inv t0 s gs v t){i}(a:i<C.n){X}{G:Gp}(b:s.G2=.la i\/s.G2=.lb i\/s.G2=.lc i)(c:(X=.la2/\G=.la i)\/(X=.lb2/\G=.lb i)\/(X=.lc2/\G=.lc i)\/((X≠.la2/\X≠.lb2/\X≠.lc2)/\∀k,G≠.la k/\G≠.lb k/\G≠.lc k)):∀k,k<C.n->(upd s.ph i X k=.la2↔G=.la k)/\(upd s.ph i X k=.lb2↔G=.lb k)/\(upd s.ph i X k=.lc2↔G=.lc k):=by refine E2 I.ctl.g2 (λk d=>?_) c;have e: ¬i=k:=λx=>d x.symm;obtain h|h|h:=b<;>rw[h]<;>simp[e]
def T0(r:p.Ok)(z:∀c,C.SB c->c<C.B0)(I:p.Inv t0 s gs v t){i}(x:i<s.sp.aW C.n){g sl}(A:gs[C.N0+i]?=some g)(a:s.ph i=.la2)(D:p.LA 4 i (s.cb i) g)(E:Deaf t (C.N0+i)=1)(F:p.TD i (s.own i) v):p.Goes t0 s gs v t (C.N0+i) sl:=by
 have b:i<C.n:=cG x (gM I.ctl);have j:s.G2=.la i:=((I.ctl.g2 i b).1).1 a;have H:s.ph i≠.unborn:=by rw[a];decide
 have d:i<s.sp.cM C.n:=I.ctl.cD i b (by rw[a];rfl);have w:s.ph i≠.la1/\s.ph i≠.lb1/\s.ph i≠.lc1:=by rw[a];decide
 have y:C.a2 s=0:=by have:=I.ctl.z2;rw[j]at this;exact this
 obtain⟨_,O,f,_,m,J,K,L⟩:=r.la _ _ _ _ D;have l:=f v (by rw[Hp.oh I.hp,j];rfl);have o:cnt (λk=>(upd s.ph i .lb2 k).dn) C.n=C.a2 s:=kO (by rw[a];rfl);have q:cnt (λk=>(upd s.ph i .lb2 k).dm) C.n=C.a1 s:=kN (by rw[a];rfl);refine lU r z I x A l ⟨4,by simp,.inr (.inl rfl)⟩ E .lb2 .leaf m s.G1 (.lb i) (λ_ _=>rfl) rfl rfl ?_ (by rw[a];rfl) (by intro _;rw[a];rfl) (by rw[a];decide) (λM=>⟨r.td _ _ _ _ F M,J,K,L⟩) (.inl ?_)
 .rw[o,q,I.hp.rb,j,y];rfl
 .refine kS I.ctl b H (by decide) (λe=>by cases e) (λ_=>d) (λh=>?_) (λh=>?_) ?_ ?_ ?_ ?_ ?_ ?_ ?_ ?_
  .have:=I.ctl.opened h i b;rw[a]at this;exact absurd this (by decide)
  .decide
  .exact nD I.ctl.g1 w (by decide)
  .exact I.ctl.ee
  .exact Ag I b (.inl j) (.inr (.inl ⟨rfl,rfl⟩))
  .exact λk N=>by obtain e|e|e:=N<;>cases e;exact b
  .rw[q];exact I.ctl.z1
  .show cnt _ _=0;rw[o];exact y
  .exact I.ctl.s1
  .exact AR I.ctl.s2 (by rw[j];simp) (by rw[j];simp) (by simp) (by simp) (by simp)
def T9(w:p.Ok)(A:∀c,C.SB c->c<C.B0)(I:p.Inv t0 s gs v t){i}(y:i<s.sp.aW C.n){g sl}(D:gs[C.N0+i]?=some g)(a:s.ph i=.lb2)(E:p.LB 4 i (s.cb i) g)(F:Deaf t (C.N0+i)=1)(H:p.TD i (s.own i) v):p.Goes t0 s gs v t (C.N0+i) sl:=by
 have b:i<C.n:=cG y (gM I.ctl);have j:s.G2=.lb i:=((I.ctl.g2 i b).2.1).1 a;have J:s.ph i≠.unborn:=by rw[a];decide
 have d:i<s.sp.cM C.n:=I.ctl.cD i b (by rw[a];rfl);have x:s.ph i≠.la1/\s.ph i≠.lb1/\s.ph i≠.lc1:=by rw[a];decide
 have z:C.a2 s=0:=by have:=I.ctl.z2;rw[j]at this;exact this
 obtain⟨_,P,f,_,m,K,L,M⟩:=w.lb _ _ _ _ E;have l:=f v _ (Hp.oh I.hp) (Hp.thaw I.hp 4);have o:cnt (λk=>(upd s.ph i .lc2 k).dn) C.n=C.a2 s:=kO (by rw[a];rfl);have q:cnt (λk=>(upd s.ph i .lc2 k).dm) C.n=C.a1 s:=kN (by rw[a];rfl);refine lU w A I y D l ⟨4,by simp,.inr (.inr (.inl rfl))⟩ F .lc2 .leaf m s.G1 (.lc i) cY.1 cY.2.1 cY.2.2 ?_ (by rw[a];rfl) (by intro _;rw[a];rfl) (by rw[a];decide) (λN=>⟨w.td _ _ _ _ H N,K,L,M⟩) (.inl ?_)
 .rw[show(C.ca 4)=⟨C.r,4,none⟩from rfl,gp I.hp.rb,o,q,j,z];simp[aI.fc,Gp.st,Gp.sm]
 .refine kS I.ctl b J (by decide) (λe=>by cases e) (λ_=>d) (λh=>?_) (λh=>?_) ?_ ?_ ?_ ?_ ?_ ?_ ?_ ?_
  .have:=I.ctl.opened h i b;rw[a]at this;exact absurd this (by decide)
  .decide
  .exact nD I.ctl.g1 x (by decide)
  .exact I.ctl.ee
  .exact Ag I b (.inr (.inl j)) (.inr (.inr (.inl ⟨rfl,rfl⟩)))
  .exact λk O=>by obtain e|e|e:=O<;>cases e;exact b
  .rw[q];exact I.ctl.z1
  .show cnt _ _=0;rw[o];exact z
  .exact I.ctl.s1
  .exact AR I.ctl.s2 (by rw[j];simp) (by rw[j];simp) (by simp) (by simp) (by simp)
def Ub(D:p.Ok)(P:∀c,C.SB c->c<C.B0)(I:p.Inv t0 s gs v t){i}(L:i<s.sp.aW C.n){g sl}(Q:gs[C.N0+i]?=some g)(a:s.ph i=.lc2)(R:p.LC 4 i (s.cb i) g)(S:Deaf t (C.N0+i)=1)(T:p.TD i (s.own i) v):p.Goes t0 s gs v t (C.N0+i) sl:=by
 have b:i<C.n:=cG L (gM I.ctl);have m:s.G2=.lc i:=((I.ctl.g2 i b).2.2).1 a;have U:s.ph i≠.unborn:=by rw[a];decide
 have E:i<s.sp.cM C.n:=I.ctl.cD i b (by rw[a];rfl);have F:s.ph i≠.la1/\s.ph i≠.lb1/\s.ph i≠.lc1:=by rw[a];decide
 have M:C.a2 s=0:=by have:=I.ctl.z2;rw[m]at this;exact this
 obtain⟨_,H,Y,J,j,N,l⟩:=D.lc _ _ _ _ R;have d:=j v _ (Hp.yr I.hp) (Hp.thaw I.hp 5);have o:IntKind.u32.wrap (s.G2.sm+1)=1:=by rw[m];show IntKind.u32.wrap (0+1)=1;decide
 rw[o]at d;have w:cnt (λk=>(upd s.ph i .leave k).dn) C.n=C.a2 s:=kO (by rw[a];rfl);have x:cnt (λk=>(upd s.ph i .leave k).dm) C.n=C.a1 s:=kN (by rw[a];rfl);have y:s.sp=.sa true\/s.sp=.sb true:=by have:=I.ctl.s2;rw[m]at this;unfold SP.kv at this;split at this<;>rename_i h<;>first|exact .inl h|exact .inr h|cases this
 obtain⟨q,V⟩:=l rfl;refine lU D P I L Q d ⟨5,by simp,.inr (.inr (.inr rfl))⟩ S .leave .leaf q s.G1 .rel cY.1 cY.2.1 cY.2.2 ?_ (by rw[a];rfl) (λ_=>by rw[a];rfl) (by rw[a];decide) (λW=>⟨D.td _ _ _ _ T W,V⟩) ?_
 .rw[show(C.ca 5)=⟨C.r,5,none⟩from rfl,gp I.hp.rb,w,x,m,M];simp[aI.fc,Gp.st,Gp.sm]
 .have f:∀s0:St,C.dQ s0->s0.ph=s.ph->s0.G1=s.G1->s0.G2=s.G2->s0.sp=.sa true->s0.q=s.q->s0.rk=s.rk->s0.cb=s.cb->s0.cls=s.cls->C.dQ {s0 with ph:=upd s0.ph i .leave,rk:=upd s.rk i .leaf,q:=upd s.q (C.N0+i) q,G1:=s0.G1,G2:=.rel}:=by
   intro s0 O z K Z A e5 e6 e7 e8;refine kS O b (by rw[z];exact U) (by decide) (λe=>by cases e) (λ_=>by rw[A];exact b) (λh=>?_) (λh=>?_) ?_ ?_ ?_ ?_ ?_ ?_ ?_ ?_
   .rw[A]at h;cases h
   .rw[A]at h;decide
   .rw[z,K];exact nD I.ctl.g1 F (by decide)
   .rw[K];exact I.ctl.ee
   .rw[z];exact Ag I b (.inr (.inr m)) (.inr (.inr (.inr ⟨by decide,λk=>by simp⟩)))
   .exact λk X=>by obtain e|e|e:=X<;>cases e
   .rw[z,x,K];exact I.ctl.z1
   .show cnt _ _=0;rw[z,w];exact M
   .exact O.s1
   .rw[A];exact⟨by simp,by simp⟩
  obtain h|h:=y
  .exact .inl (f s I.ctl rfl rfl rfl h rfl rfl rfl rfl)
  .exact .inr ⟨H,J,true,h,f (s.cR true) (uw I.ctl h) rfl rfl rfl rfl rfl rfl rfl rfl⟩
end
end Go.Mir
end
