import Derived.Conc.CrowdTrace
import Derived.Test.YtdnpeefnobjfaaaGreatDoorK12
set_option maxRecDepth 100000
set_option maxHeartbeats 4000000
set_option linter.all false
section
namespace Go.Mir
open Go
def tY{α:Type}(r:α->α->Prop)(n:Nat)(g f:Nat->α):Prop:=∃i,i<n/\r (g i) (f i)/\∀j,j≠i->g j=f j
def LG{α r}:∀n (f:Nat->α),(∀i,i<n->Acc r (f i))->Acc (tY r n) f:=by
 intro n;induction n with
 |zero=>intro f _;exact⟨_,λg ⟨i,s,_⟩=>absurd s (a6u i)⟩
 |succ n w=>
  have o:∀(a:α),Acc r a->∀(h:Nat->α),Acc (tY r n) h->∀f:Nat->α,(∀i,i≠n->f i=h i)->f n=a->(∀i,i<n->Acc r (f i))->Acc (tY r (n+1)) f:=by
   intro a y;induction y with
   |intro a _ t=>
    intro h z;induction z with
    |intro h _ u=>
     intro f l x c;refine⟨_,λg ⟨i,s,hr,hs⟩=>?_⟩;by_cases k:i=n
     .subst k;rw[x]at hr;have A:∀j,j≠i->g j=h j:=λj d=>by rw[hs j d,l j d]
      have b:∀j,j<i->Acc r (g j):=λj d=>by rw[hs j (by omega)];exact c j d
      exact t (g i) hr g (w g b) g (λ_ _=>rfl) rfl b
     .have p:i<n:=by omega
      have v:g n=a:=by rw[hs n (λe=>k e.symm)];exact x
      have b:∀j,j<n->Acc r (g j):=λj d=>by
       by_cases q:j=i
       .subst q;exact(c j d).inv hr
       .rw[hs j q];exact c j d
      refine u (λj=>if j=n then h n else g j) ⟨i,p,?_,λj d=>?_⟩ g (λj d=>by simp[d]) v b
      .simp only[k,if_false];rw[<-l i k];exact hr
      .by_cases m:j=n
       .simp[m]
       .simp only[m,if_false];rw[hs j d,l j m]
  intro f l;exact o (f n) (l n (kj n)) f (w f λi s=>l i (by omega)) f (λ_ _=>rfl) rfl λi s=>l i (by omega)
end Go.Mir
end
section
namespace Go.Mir
open Go Go.Conc
structure mn where
 own:Nat->Loc->Prop
 old:Loc->Prop
 lJ:Loc->Prop
structure mn.Ok (p:mn) (U:Loc->Prop):Prop where
 apart:∀i j l,p.own i l->p.own j l->i=j
 GW:∀i l,p.own i l->¬p.old l
 Ci:∀i l,p.own i l->¬p.lJ l
 Ch:∀l,p.old l->¬p.lJ l
 a1f:∀i l,p.own i l->¬U l
 a1e:∀l,p.old l->¬U l
 a1d:∀l,p.lJ l->¬U l
def mn.may(p:mn)(g:Nat)(a:Touch):Prop:=p.own g a.loc\/(p.old a.loc/\a.write=false)\/(p.lJ a.loc/\a.kind≠.plain/\(a.kind=.said->g=0))
structure gz (p:mn) (U:Loc->Prop) (W:Nat) (V:Nat->Prop) (t:aY):Prop where
 clean:∀said,¬Race said t
 first:∀k a,k<W->touchAt t k=some a->a.loc.isMemory=true->∀i,V i->Knows t i k\/(U a.loc/\a.kind=.atomic)
 later:∀k op a,W<=k->t[k]?=some op->op.act.touch?=some a->a.loc.isMemory=true->p.may op.g a
section
variable{p:mn}{U:Loc->Prop}{W:Nat}{V:Nat->Prop}{t u:aY}{g:Nat}
def gz.app(j:p.Ok U)(h:gz p U W V t)(T:W<=t.size)(O:V g)(K:∀l∈u,l.g=g)(L:∀l∈u,∀a,l.act.touch?=some a->a.loc.isMemory=true->p.may g a):gz p U W V (t++u):=by
 refine⟨λv=>noRace_append (h.clean v) K λi a n l q b P Q=>?_,λk a w n f i D=>?_,λk l a w q n f=>?_⟩
 .obtain⟨y,E,M,z⟩:=Q;have m:=L l q b P (y▸E);obtain⟨x,N,F⟩:=touch_of n;by_cases D:i<W
  .rcases h.first i a D n E g O with w|⟨C,_⟩
   .exact w
   .exfalso;rw[y]at C;obtain c|⟨c,_⟩|⟨c,_⟩:=m
    .exact j.a1f _ _ c C
    .exact j.a1e _ c C
    .exact j.a1d _ c C
  .have H:=h.later i x a (by omega) N F E;have A:x.g=g->Knows t g i:=λe=>by
    have:=knows_own N
    rwa [e]at this
   obtain d|⟨d,r⟩|⟨d,r,I⟩:=H
   .rw[y]at d;obtain c|⟨c,_⟩|⟨c,_⟩:=m
    .exact A (j.apart _ _ _ d c)
    .exact absurd c (j.GW _ _ d)
    .exact absurd c (j.Ci _ _ d)
   .rw[y]at d;obtain c|⟨_,s⟩|⟨c,_⟩:=m
    .exact absurd d (j.GW _ _ c)
    .rw[r,s]at M;simp at M
    .exact absurd c (j.Ch _ d)
   .rw[y]at d;obtain c|⟨c,_⟩|⟨_,s,J⟩:=m
    .exact absurd d (j.Ci _ _ c)
    .exact absurd d (j.Ch _ c)
    .rcases z with z|z|⟨_,R,S⟩
     .exact absurd z r
     .exact absurd z s
     .exact A ((I R).trans (J S).symm)
 .rw[touchAt_old (by omega)]at n;exact(h.first k a w n f i D).imp (·.app u) id
 .rcases getElem?_append_cases q with⟨_,B⟩|⟨_,o⟩
  .exact h.later k l a w B n f
  .have:=L l o a n f
   rwa [K l o]
def gz.fork(h:gz p U W V t)(R:W<=t.size)(h0:V 0){k x y}(I:x.g=0/\x.act=.go k)(J:y.g=k/\y.act=.start)(C:Deaf t 0=0)(D:Deaf t k=0):gz p U W (λi=>V i\/i=k) (t++#[x,y]):=by
 have n:∀A∈(#[x,y]:aY),A.act.touch?=none:=by
  intro A l;simp only[dK,cm,dP,or_false]at l;obtain rfl|rfl:=l
  .rw[I.2];rfl
  .rw[J.2];rfl
 refine⟨λq K=>?_,λi a r m c j B=>?_,λi A a r l m c=>?_⟩
 .obtain⟨i,j,E,⟨a,b,m,L,M⟩,N,O⟩:=K;obtain⟨S,F,d⟩:=touch_of m;obtain⟨T,H,f⟩:=touch_of L;obtain⟨r,s⟩|⟨_,o⟩:=getElem?_append_cases F
  .rcases getElem?_append_cases H with⟨B,v⟩|⟨_,o⟩
   .exact h.clean q ⟨i,j,E,⟨a,b,by simp[Trace.act?,s,d],by simp[Trace.act?,v,f],M⟩,λe=>N (hb_app _ e),λe=>O (hb_app _ e)⟩
   .rw[n _ o]at f;cases f
  .rw[n _ o]at d;cases d
 .rw[touchAt_old (by omega)]at m;obtain B|rfl:=B
  .exact(h.first i a r m c j B).imp (·.app _) id
  .rcases h.first i a r m c 0 h0 with P|Q
   .exact .inl (Go.ConcN.fork_knows I J C D P)
   .exact .inr Q
 .rcases getElem?_append_cases l with⟨_,w⟩|⟨_,z⟩
  .exact h.later i A a r w m c
  .rw[n _ z]at m;cases m
def gz.aj{b B}(h:gz p U W V t)(h0:V 0)(v:∀l,U l->b l)(w:∀k e a,W<=k->t[k]?=some e->e.act.touch?=some a->a.loc.isMemory=true->e.g≠0->a.kind=.atomic/\b a.loc\/Knows t 0 k)(c:t.HandedOver)(y:Deaf t 0=0)(d:∀e∈t,e.act.low B):Past b B t:=by
 refine⟨h.clean,λk a f q=>?_,c,y,d⟩;obtain⟨x,r,i⟩:=touch_of f;by_cases j:k<W
 .rcases h.first k a j f q 0 h0 with m|⟨n,o⟩
  .exact .inl m
  .exact .inr ⟨v _ n,o⟩
 .by_cases s:x.g=0
  .have:=knows_own r;rw[s]at this;exact .inl this
  .rcases w k x a (by omega) r i q s with⟨n,o⟩|m
   .exact .inr ⟨o,n⟩
   .exact .inl m
def Zd{a k r q}(h:ConcN.RelBy a t k r)(d:r<q)(f:NoRelease a t)(j:t.act? q=some (.mark (.acquire a)))(s:t.g? q=some 0)(l:t.heard q){i}(e:t.g? i=some k)(m:t.counts i):HappensBefore t i q:=by
 have b:HappensBefore t r q:=.single (.inr ⟨.marked d (.inr h.act) j (λk _ _=>f k),h.heard,l⟩);have n:i<=r:=Nat.le_of_not_lt λc=>h.after i c e m;obtain c|o:=a8g i r
 .exact .trans (.single (.inl ⟨c,k,e,h.g⟩)) b
 .obtain rfl:i=r:=by omega
  exact b
def TO{q i}(b:t.g? q=some 0)(h:HappensBefore t i q):Knows t 0 i:=by unfold Trace.g? at b;obtain⟨z,c,a⟩:=fA.1 b;exact⟨q,z,c,a,.inr h⟩
def a2g{b a q}(h0:b.HandedOver)(d:∀i g,b.size<=i->(b++u).g? i=some g->g≠0->(b++u).counts i->∃r,ConcN.RelBy a (b++u) g r/\r<q)(o:NoRelease a (b++u))(s:(b++u).act? q=some (.mark (.acquire a)))(m:(b++u).g? q=some 0)(v:(b++u).heard q):(b++u).HandedOver:=by
 intro i g c e f;by_cases n:i<b.size
 .obtain⟨j,h,w⟩:=h0 i g (by simpa[Trace.g?,getElem?_append_old n]using c) e ((counts_old n).1 f);have k:j<b.size:=by unfold Trace.g? at h;obtain⟨z,x,_⟩:=fA.1 h;exact lt_size_of_getElem? x
  exact⟨j,by simpa[Trace.g?,getElem?_append_old k]using h,hb_app u w⟩
 .obtain⟨r,y,l⟩:=d i g (by omega) c e f;exact⟨q,m,Zd y l o s m v c f⟩
end
structure aI where
 P:ay
 n:Nat
 N0:Nat
 r:Nat
 tb:Nat
 dc:Nat
 B0:Nat
 SB:Nat->Prop
 tr:aA
 tt:aA
 v0:aa
def aI.fc(C:aI)(s1 a s2 b:Int):Obj:=.cells #[.slice (some ⟨C.tb,0,none⟩) C.n C.n,.int .u64 s1,.int .u32 a,.chan (some C.dc),.int .u64 s2,.int .u32 b] C.tr
structure aI.Shape (C:aI) (v:aa):Prop where
 rb:∃s1 m1 s2 m2,v.heap[C.r]?=some (C.fc s1 m1 s2 m2)
 tb:∃tc,v.heap[C.tb]?=some (.cells tc C.tt)/\tc.size=C.n
 old:∀c,c<C.B0->v.heap[c]?=C.v0.heap[c]?
 os:oo v=oo C.v0
 dl:C.dc<v.heap.size
structure aI.Fr (C:aI) (i:Nat) (O:Nat->Prop) (v v':aa):Prop where
 size:v.heap.size<=v'.heap.size
 own:∀c,O c->v'.heap[c]?=v.heap[c]?
 cell:∀tc tc',v.heap[C.tb]?=some (.cells tc C.tt)->v'.heap[C.tb]?=some (.cells tc' C.tt)->tc'[i]?=tc[i]?
 shape:C.Shape v'
def aI.Fr.trans{C:aI}{i:Nat}{O:Nat->Prop}{v v' v'':aa}(h:C.Fr i O v v')(k:C.Fr i O v' v''):C.Fr i O v v'':=by refine⟨dF h.size k.size,λc b=>(k.own c b).trans (h.own c b),λj a l m=>?_,k.shape⟩;obtain⟨e,f,_⟩:=h.shape.tb;exact(k.cell e a f m).trans (h.cell j e l f)
def aI.Fr.refl{C:aI}{i:Nat}{O:Nat->Prop}{v:aa}(h:C.Shape v):C.Fr i O v v:=
 ⟨aF _,λ_ _=>rfl,λe b c a=>by rw[c]at a;cases a;rfl,h⟩
def a5O(O:Nat->Prop)(a b:Nat):Nat->Prop:=λc=>O c\/(a<=c/\c<b)
def pY(O:Nat->Prop)(a:Nat):a5O O a a=O:=by funext c;exact propext ⟨λh=>h.elim id λh=>by omega,.inl⟩
def aI.mine(C:aI)(i:Nat)(O:Nat->Prop):Loc->Prop
 | .cell a=>O a.block\/a=⟨C.tb,i,none⟩
 | .obj b=>O b
 |_=>False
def aI.common(C:aI):Loc->Prop
 | .cell a=>(a.block<C.B0/\¬C.SB a.block)\/a=⟨C.r,0,none⟩\/a=⟨C.r,3,none⟩
 | .obj b=>b<C.B0/\¬C.SB b
 |_=>False
structure aI.Ev (C:aI) (i:Nat) (O:Nat->Prop) (B:Nat) (e:aJ):Prop where
 touch:∀x,(MemAct.ofEvent e).touch?=some x->x.loc.isMemory=true->C.mine i O x.loc\/(C.common x.loc/\x.write=false)
 low:(MemAct.ofEvent e).low B
 norel:e.loc≠.mark (.release ⟨C.r,4,none⟩)
structure aI.Eff (C:aI) (i:Nat) (O:Nat->Prop) (v v':aa) (es:Array aJ):Prop where
 size:v.heap.size<=v'.heap.size
 kept:∀c,c<v.heap.size->¬O c->c≠C.tb->v'.heap[c]?=v.heap[c]?
 told:∃tc tc',v.heap[C.tb]?=some (.cells tc C.tt)/\v'.heap[C.tb]?=some (.cells tc' C.tt)/\tc'.size=tc.size/\∀j,j≠i->tc'[j]?=tc[j]?
 os:oo v'=oo v
 zn:∀e∈es,C.Ev i (a5O O v.heap.size v'.heap.size) v'.heap.size e
def aI.Own(C:aI)(O:Nat->Prop)(v:aa):Prop:=∀c,O c->C.B0<=c/\c≠C.r/\c≠C.tb/\c≠C.dc/\c<v.heap.size
inductive Rk:Type
 |leaf
 |node (f:aa->Rk)
abbrev i7:=(Nat->Prop)->Nat->aw->aa->Prop
def aI.Way(C:aI)(i:Nat)(A:i7):Rk->(Nat->Prop)->Nat->aw->aa->Prop
 | .leaf,O,d,g,v=>A O d g v
 | .node f,O,d,g,v=>g.status=.running/\∀v',C.Fr i O v v'->∃c a b,stepG C.P false g v'=.go c a b/\C.Eff i O v' a b/\C.Way i A (f v') (a5O O v'.heap.size a.heap.size) (deafBehind d b) c a
def aI.fh(C:aI)(i:Nat)(A:i7)(O:Nat->Prop)(d:Nat)(g:aw)(v:aa):Prop:=∃ρ,C.Way i A ρ O d g v
section
variable{C:aI}{i:Nat}{A B:i7}{O:Nat->Prop}{d:Nat}{g:aw}{v v':aa}
def aI.qV(C:aI)(i:Nat)(A:i7):Prop:=∀O d g v v',A O d g v->C.Fr i O v v'->A O d g v'
def xD(c:C.qV i A){ρ:Rk}(h:C.Way i A ρ O d g v)(b:C.Fr i O v v'):C.Way i A ρ O d g v':=by
 cases ρ with
 |leaf=>exact c _ _ _ _ _ h b
 |node f=>exact⟨h.1,λa e=>h.2 a (b.trans e)⟩
def xE(h:A O d g v):C.fh i A O d g v:=⟨.leaf,h⟩
def qL(f:g.status=.running)(h:∀v',C.Fr i O v v'->∃b v1 a,stepG C.P false g v'=.go b v1 a/\C.Eff i O v' v1 a/\C.fh i A (a5O O v'.heap.size v1.heap.size) (deafBehind d a) b v1):C.fh i A O d g v:=by
 classical
 have e:∀v',∃ρ,C.Fr i O v v'->∃b v1 a,stepG C.P false g v'=.go b v1 a/\C.Eff i O v' v1 a/\C.Way i A ρ (a5O O v'.heap.size v1.heap.size) (deafBehind d a) b v1:=by
  intro v';by_cases c:C.Fr i O v v'
  .obtain⟨b,v1,a,j,k,ρ,l⟩:=h v' c;exact⟨ρ,λ_=>⟨b,v1,a,j,k,l⟩⟩
  .exact⟨.leaf,λx=>absurd x c⟩
 exact⟨.node λv'=>(e v').choose,f,λv' c=>(e v').choose_spec c⟩
def Qn{es:Array aJ}(c:C.Shape v)(f:∀e∈es,C.Ev i O v.heap.size e):C.Eff i O v v es:=by obtain⟨a,b,_⟩:=c.tb;exact⟨aF _,λ_ _ _ _=>rfl,⟨a,a,b,b,rfl,λ_ _=>rfl⟩,rfl,by rw[pY];exact f⟩
def iq(f:g.status=.running)(h:∀v',C.Fr i O v v'->∃b a,stepG C.P false g v'=.go b v' a/\(∀e∈a,C.Ev i O v'.heap.size e)/\C.fh i A O (deafBehind d a) b v'):C.fh i A O d g v:=by refine qL f λv' c=>?_;obtain⟨b,a,j,k,l⟩:=h v' c;exact⟨b,v',a,j,Qn c.shape k,by rw[pY];exact l⟩
def jB{m:Nat}{g':aw}(c:aS C.P false m g g')(h:∀v',C.Fr i O v v'->C.fh i A O d g' v')(e:C.Shape v):C.fh i A O d g v:=by
 induction c generalizing v with
 |nil=>exact h v (.refl e)
 |cons f j _ k=>refine iq f λv' b=>⟨_,#[],j v',by simp,?_⟩;exact k (λa l=>h a (b.trans l)) b.shape
end
inductive aI.Quiet (C:aI) (main:Bool) (E:aJ->Prop):Nat->Nat->aw->Nat->aw->Prop
 |nil {d:Nat} {g:aw}:C.Quiet main E 0 d g d g
 |cons {m d d':Nat} {g g1 g2:aw} (es:Array aJ) (hs:g.status=.running) (hg:∀v,C.Shape v->stepG C.P main g v=.go g1 v es) (he:∀e∈es,E e) (h:C.Quiet main E m (deafBehind d es) g1 d' g2):C.Quiet main E (m+1) d g d' g2
def aI.Quiet.trans{C:aI}{main:Bool}{E:aJ->Prop}{m b d c a:Nat}{g g' g'':aw}(h:C.Quiet main E m d g c g')(k:C.Quiet main E b c g' a g''):C.Quiet main E (m+b) d g a g'':=by
 induction h with
 |nil=>rw[dG];exact k
 |cons e f j l _ n=>rw[a6G];exact .cons e f j l (n k)
def YG{C:aI}{main:Bool}{E:aJ->Prop}{m d:Nat}{g g':aw}(h:aS C.P main m g g'):C.Quiet main E m d g d g':=by
 induction h with
 |nil=>exact .nil
 |cons a b _ c=>exact .cons #[] a (λv _=>b v) (by simp) (by simpa[deafBehind]using c)
def aI.To(C:aI)(main:Bool)(E:aJ->Prop)(d:Nat)(g:aw)(b:Nat)(X:aw->Prop):Prop:=∃m a,C.Quiet main E m d g b a/\X a
end Go.Mir
end
