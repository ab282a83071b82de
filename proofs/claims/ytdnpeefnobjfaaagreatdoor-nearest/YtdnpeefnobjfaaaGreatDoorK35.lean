import Derived.Conc.CrowdTrace
import Derived.Test.YtdnpeefnobjfaaaGreatDoorK07
set_option maxRecDepth 100000
set_option maxHeartbeats 4000000
set_option linter.all false
section
namespace Go.Mir
open Go
def wJ{α:Type}(r:α->α->Prop)(n:Nat)(g f:Nat->α):Prop:=∃i,i<n/\r (g i) (f i)/\∀j,j≠i->g j=f j
def Of{α r}:∀n (f:Nat->α),(∀i,i<n->Acc r (f i))->Acc (wJ r n) f:=by
 intro n;induction n with
 |zero=>intro f _;exact⟨_,λg ⟨i,p,_⟩=>absurd p (lL i)⟩
 |succ n w=>
  have d:∀(a:α),Acc r a->∀(h:Nat->α),Acc (wJ r n) h->∀f:Nat->α,(∀i,i≠n->f i=h i)->f n=a->(∀i,i<n->Acc r (f i))->Acc (wJ r (n+1)) f:=by
   intro a y;induction y with
   |intro a _ s=>
    intro h z;induction z with
    |intro h _ t=>
     intro f q x k;refine⟨_,λg ⟨i,p,hr,hs⟩=>?_⟩;by_cases l:i=n
     .subst l;rw[x]at hr;have A:∀j,j≠i->g j=h j:=λj c=>by simp_all
      have b:∀j,j<i->Acc r (g j):=λj c=>by rw[hs j a9h];simp_all
      exact s (g i) hr g (w g b) g (λ_ _=>rfl) rfl b
     .have o:i<n:=a9h
      have u:g n=a:=by rw[hs n (λe=>l e.symm)];exact x
      have b:∀j,j<n->Acc r (g j):=λj c=>by
       by_cases v:j=i
       .subst v;exact(k j c).inv hr
       simp_all
      refine t (λj=>if j=n then h n else g j) ⟨i,o,?_,λj c=>?_⟩ g (λj c=>by simp[c]) u b
      all_goals simp_all
  intro f q;exact d (f n) (q n (lK n)) f (w f λi p=>q i a9h) f (λ_ _=>rfl) rfl λi p=>q i a9h
end Go.Mir
end
section
namespace Go.Mir
open Go Go.Conc
structure pO where
 own:Nat->Loc->Prop
 old:Loc->Prop
 mD:Loc->Prop
structure pO.Ok (p:pO) (m:Loc->Prop):Prop where
 apart:∀i j l,p.own i l->p.own j l->i=j
 Jj:∀i l,p.own i l->¬p.old l
 EA:∀i l,p.own i l->¬p.mD l
 Ez:∀l,p.old l->¬p.mD l
 a3K:∀i l,p.own i l->¬m l
 a3J:∀l,p.old l->¬m l
 a9g:∀l,p.mD l->¬m l
def pO.may(p:pO)(g:Nat)(a:Touch):Prop:=p.own g a.loc\/(p.old a.loc/\a.write=false)\/(p.mD a.loc/\a.kind≠.plain/\(a.kind=.said->g=0))
structure gI (p:pO) (m:Loc->Prop) (W:Nat) (V:Nat->Prop) (t:bm):Prop where
 clean:∀said,¬Race said t
 first:∀k a,k<W->touchAt t k=some a->a.loc.isMemory=true->∀i,V i->Knows t i k\/(m a.loc/\a.kind=.atomic)
 later:∀k op a,W<=k->t[k]?=some op->op.act.touch?=some a->a.loc.isMemory=true->p.may op.g a
section
variable{p:pO}{m:Loc->Prop}{W:Nat}{V:Nat->Prop}{t u:bm}{g:Nat}
def gI.app(j:p.Ok m)(h:gI p m W V t)(P:W<=t.size)(H:V g)(I:∀n∈u,n.g=g)(J:∀n∈u,∀a,n.act.touch?=some a->a.loc.isMemory=true->p.may g a):gI p m W V (t++u):=by
 refine⟨λr=>noRace_append (h.clean r) I λi a o n q b K L=>?_,λk a s o f i A=>?_,λk n a s q o f=>?_⟩
 .obtain⟨v,B,M,Q⟩:=L;have l:=J n q b K (v▸B);let ⟨x,hx,hxa⟩:=touch_of o;by_cases A:i<W
  .rcases h.first i a A o B g H with s|⟨C,_⟩
   .exact s
   .exfalso;rw[v]at C;obtain c|⟨c,_⟩|⟨c,_⟩:=l
    .exact j.a3K _ _ c C
    .exact j.a3J _ c C
    simp_all
  .have D:=h.later i x a a9h hx hxa B;have E:x.g=g->Knows t g i:=λe=>by
    have:=knows_own hx
    rwa [e]at this
   obtain d|⟨d,w⟩|⟨d,w,N⟩:=D
   .rw[v]at d;obtain c|⟨c,_⟩|⟨c,_⟩:=l
    .exact E (j.apart _ _ _ d c)
    .exact absurd c (j.Jj _ _ d)
    .exact absurd c (j.EA _ _ d)
   .rw[v]at d;obtain c|⟨_,y⟩|⟨c,_⟩:=l
    .exact absurd d (j.Jj _ _ c)
    .rw[w,y]at M
     grind
    .exact absurd c (j.Ez _ d)
   .rw[v]at d;obtain c|⟨c,_⟩|⟨_,y,O⟩:=l
    .exact absurd d (j.EA _ _ c)
    .exact absurd d (j.Ez _ c)
    simp_all
 .rw[touchAt_old a9h]at o;exact(h.first k a s o f i A).imp (·.app u) id
 .rcases getElem?_append_cases q with⟨_,z⟩|⟨_,F⟩
  .exact h.later k n a s z o f
  grind
def gI.fork(h:gI p m W V t)(Q:W<=t.size)(h0:V 0){k x y}(F:x.g=0/\x.act=.go k)(H:y.g=k/\y.act=.start)(I:Deaf t 0=0)(J:Deaf t k=0):gI p m W (λi=>V i\/i=k) (t++#[x,y]):=by
 have K:∀q∈(#[x,y]:bm),q.act.touch?=none:=by
  intro q d;simp at d;obtain rfl|rfl:=d
  .rw[F.2];rfl
  .rw[H.2];rfl
 refine⟨λl L=>?_,λi a n f c j r=>?_,λi q a n d f c=>?_⟩
 .obtain⟨i,j,s,⟨a,b,f,M,N⟩,O,P⟩:=L;obtain⟨R,v,A⟩:=touch_of f;obtain⟨S,w,B⟩:=touch_of M;obtain⟨n,C⟩|⟨_,z⟩:=getElem?_append_cases v
  .rcases getElem?_append_cases w with⟨r,D⟩|⟨_,z⟩
   .exact h.clean l ⟨i,j,s,⟨a,b,by grind[Trace.act?],by grind[Trace.act?],N⟩,λe=>O (hb_app _ e),λe=>P (hb_app _ e)⟩
   grind
  grind
 .rw[touchAt_old a9h]at f;obtain r|rfl:=r
  .exact(h.first i a n f c j r).imp (·.app _) id
  .rcases h.first i a n f c 0 h0 with T|U
   all_goals grind[Go.ConcN.fork_knows]
 .rcases getElem?_append_cases d with⟨_,o⟩|⟨_,E⟩
  .exact h.later i q a n o f c
  grind
def gI.ai{b B}(h:gI p m W V t)(h0:V 0)(q:∀l,m l->b l)(r:∀k e a,W<=k->t[k]?=some e->e.act.touch?=some a->a.loc.isMemory=true->e.g≠0->a.kind=.atomic/\b a.loc\/Knows t 0 k)(c:t.HandedOver)(j:Deaf t 0=0)(d:∀e∈t,e.act.low B):Past b B t:=by
 refine⟨h.clean,λk a f n=>?_,c,j,d⟩;obtain⟨x,s,o⟩:=touch_of f;by_cases i:k<W
 .rcases h.first k a i f n 0 h0 with v|⟨w,y⟩
  all_goals simp_all
 grind[knows_own]
theorem a1v{a k r q}(h:ConcN.RelBy a t k r)(d:r<q)(f:NoRelease a t)(j:t.act? q=some (.mark (.acquire a)))(v:t.g? q=some 0)(l:t.heard q){i}(e:t.g? i=some k)(n:t.counts i):HappensBefore t i q:=by
 have c:HappensBefore t r q:=.single (.inr ⟨.marked d (.inr h.act) j (λk _ _=>f k),h.heard,l⟩);have o:i<=r:=Nat.le_of_not_lt λb=>h.after i b e n;obtain b|s:=b1m i r
 .exact .trans (.single (.inl ⟨b,k,e,h.g⟩)) c
 grind
def Wp{q i}(b:t.g? q=some 0)(h:HappensBefore t i q):Knows t 0 i:=by unfold Trace.g? at b;obtain⟨z,c,a⟩:=gn.1 b;exact⟨q,z,c,a,.inr h⟩
def a4P{b a q}(h0:b.HandedOver)(d:∀i g,b.size<=i->(b++u).g? i=some g->g≠0->(b++u).counts i->∃r,ConcN.RelBy a (b++u) g r/\r<q)(k:NoRelease a (b++u))(l:(b++u).act? q=some (.mark (.acquire a)))(n:(b++u).g? q=some 0)(o:(b++u).heard q):(b++u).HandedOver:=by
 intro i g e c f;by_cases h:i<b.size
 .obtain⟨j,s,v⟩:=h0 i g (by grind[Trace.g?]) c ((counts_old h).1 f)
  grind[Trace.g?,hb_app]
 grind[a1v]
end
structure aI where
 P:aA
 n:Nat
 N0:Nat
 r:Nat
 tb:Nat
 dc:Nat
 B0:Nat
 SB:Nat->Prop
 tr:bD
 tt:bD
 v0:aa
def aI.fg(C:aI)(s1 a s2 b:Int):Obj:=.cells #[.slice (some ⟨C.tb,0,none⟩) C.n C.n,.int .u64 s1,.int .u32 a,.chan (some C.dc),.int .u64 s2,.int .u32 b] C.tr
structure aI.Shape (C:aI) (v:aa):Prop where
 rb:∃s1 m1 s2 m2,v.heap[C.r]?=some (C.fg s1 m1 s2 m2)
 tb:∃tc,v.heap[C.tb]?=some (.cells tc C.tt)/\tc.size=C.n
 old:∀c,c<C.B0->v.heap[c]?=C.v0.heap[c]?
 os:oo v=oo C.v0
 dl:C.dc<v.heap.size
structure aI.Fr (C:aI) (i:Nat) (O:Nat->Prop) (v v':aa):Prop where
 size:v.heap.size<=v'.heap.size
 own:∀c,O c->v'.heap[c]?=v.heap[c]?
 cell:∀tc tc',v.heap[C.tb]?=some (.cells tc C.tt)->v'.heap[C.tb]?=some (.cells tc' C.tt)->tc'[i]?=tc[i]?
 shape:C.Shape v'
def aI.Fr.trans{C:aI}{i:Nat}{O:Nat->Prop}{v v' v'':aa}(h:C.Fr i O v v')(k:C.Fr i O v' v''):C.Fr i O v v'':=by refine⟨dt h.size k.size,λc b=>(k.own c b).trans (h.own c b),λj a l n=>?_,k.shape⟩;obtain⟨e,f,_⟩:=h.shape.tb;exact(k.cell e a f n).trans (h.cell j e l f)
def aI.Fr.refl{C:aI}{i:Nat}{O:Nat->Prop}{v:aa}(h:C.Shape v):C.Fr i O v v:=
 ⟨az _,λ_ _=>rfl,λe a b c=>by rw[b]at c;simp_all,h⟩
def a9s(O:Nat->Prop)(a b:Nat):Nat->Prop:=λc=>O c\/(a<=c/\c<b)
def sA(O:Nat->Prop)(a:Nat):a9s O a a=O:=by funext c;exact propext ⟨λh=>h.elim id λh=>a9h,.inl⟩
def aI.mine(C:aI)(i:Nat)(O:Nat->Prop):Loc->Prop
 | .cell a=>O a.block\/a=⟨C.tb,i,none⟩
 | .obj b=>O b
 |_=>False
def aI.common(C:aI):Loc->Prop
 | .cell a=>(a.block<C.B0/\¬C.SB a.block)\/a=⟨C.r,0,none⟩\/a=⟨C.r,3,none⟩
 | .obj b=>b<C.B0/\¬C.SB b
 |_=>False
structure aI.Ev (C:aI) (i:Nat) (O:Nat->Prop) (B:Nat) (e:aT):Prop where
 touch:∀x,(MemAct.ofEvent e).touch?=some x->x.loc.isMemory=true->C.mine i O x.loc\/(C.common x.loc/\x.write=false)
 low:(MemAct.ofEvent e).low B
 norel:e.loc≠.mark (.release ⟨C.r,4,none⟩)
structure aI.Eff (C:aI) (i:Nat) (O:Nat->Prop) (v v':aa) (es:Array aT):Prop where
 size:v.heap.size<=v'.heap.size
 kept:∀c,c<v.heap.size->¬O c->c≠C.tb->v'.heap[c]?=v.heap[c]?
 told:∃tc tc',v.heap[C.tb]?=some (.cells tc C.tt)/\v'.heap[C.tb]?=some (.cells tc' C.tt)/\tc'.size=tc.size/\∀j,j≠i->tc'[j]?=tc[j]?
 os:oo v'=oo v
 Bt:∀e∈es,C.Ev i (a9s O v.heap.size v'.heap.size) v'.heap.size e
def aI.Own(C:aI)(O:Nat->Prop)(v:aa):Prop:=∀c,O c->C.B0<=c/\c≠C.r/\c≠C.tb/\c≠C.dc/\c<v.heap.size
inductive Rk:Type
 |leaf
 |node (f:aa->Rk)
abbrev kP:=(Nat->Prop)->Nat->aw->aa->Prop
def aI.Way(C:aI)(i:Nat)(A:kP):Rk->(Nat->Prop)->Nat->aw->aa->Prop
 | .leaf,O,d,g,v=>A O d g v
 | .node f,O,d,g,v=>g.status=.running/\∀v',C.Fr i O v v'->∃c a b,stepG C.P false g v'=.go c a b/\C.Eff i O v' a b/\C.Way i A (f v') (a9s O v'.heap.size a.heap.size) (deafBehind d b) c a
def aI.fk(C:aI)(i:Nat)(A:kP)(O:Nat->Prop)(d:Nat)(g:aw)(v:aa):Prop:=∃ρ,C.Way i A ρ O d g v
section
variable{C:aI}{i:Nat}{A B:kP}{O:Nat->Prop}{d:Nat}{g:aw}{v v':aa}
def aI.tW(C:aI)(i:Nat)(A:kP):Prop:=∀O d g v v',A O d g v->C.Fr i O v v'->A O d g v'
def z7(c:C.tW i A){ρ:Rk}(h:C.Way i A ρ O d g v)(b:C.Fr i O v v'):C.Way i A ρ O d g v':=by
 cases ρ with
 |leaf=>exact c _ _ _ _ _ h b
 |node f=>exact⟨h.1,λa e=>h.2 a (b.trans e)⟩
def z8(h:A O d g v):C.fk i A O d g v:=⟨.leaf,h⟩
def tM(f:g.status=.running)(h:∀v',C.Fr i O v v'->∃b v1 a,stepG C.P false g v'=.go b v1 a/\C.Eff i O v' v1 a/\C.fk i A (a9s O v'.heap.size v1.heap.size) (deafBehind d a) b v1):C.fk i A O d g v:=by
 classical
 have e:∀v',∃ρ,C.Fr i O v v'->∃b v1 a,stepG C.P false g v'=.go b v1 a/\C.Eff i O v' v1 a/\C.Way i A ρ (a9s O v'.heap.size v1.heap.size) (deafBehind d a) b v1:=by
  intro v';by_cases c:C.Fr i O v v'
  .obtain⟨b,v1,a,j,k,ρ,l⟩:=h v' c;exact⟨ρ,λ_=>⟨b,v1,a,j,k,l⟩⟩
  .exact⟨.leaf,λx=>absurd x c⟩
 exact⟨.node λv'=>(e v').choose,f,λv' c=>(e v').choose_spec c⟩
def SY{es:Array aT}(c:C.Shape v)(f:∀e∈es,C.Ev i O v.heap.size e):C.Eff i O v v es:=by obtain⟨a,b,_⟩:=c.tb;exact⟨az _,λ_ _ _ _=>rfl,⟨a,a,b,b,rfl,λ_ _=>rfl⟩,rfl,by rw[sA];exact f⟩
def iL(f:g.status=.running)(h:∀v',C.Fr i O v v'->∃b a,stepG C.P false g v'=.go b v' a/\(∀e∈a,C.Ev i O v'.heap.size e)/\C.fk i A O (deafBehind d a) b v'):C.fk i A O d g v:=by refine tM f λv' c=>?_;obtain⟨b,a,j,k,l⟩:=h v' c;exact⟨b,v',a,j,SY c.shape k,by rw[sA];exact l⟩
def jS{m:Nat}{g':aw}(c:aR C.P false m g g')(h:∀v',C.Fr i O v v'->C.fk i A O d g' v')(e:C.Shape v):C.fk i A O d g v:=by
 induction c generalizing v with
 |nil=>exact h v (.refl e)
 |cons f j _ k=>refine iL f λv' b=>⟨_,#[],j v',a9i,?_⟩;exact k (λa l=>h a (b.trans l)) b.shape
end
inductive aI.Quiet (C:aI) (main:Bool) (E:aT->Prop):Nat->Nat->aw->Nat->aw->Prop
 |nil {d:Nat} {g:aw}:C.Quiet main E 0 d g d g
 |cons {m d d':Nat} {g g1 g2:aw} (es:Array aT) (hs:g.status=.running) (hg:∀v,C.Shape v->stepG C.P main g v=.go g1 v es) (he:∀e∈es,E e) (h:C.Quiet main E m (deafBehind d es) g1 d' g2):C.Quiet main E (m+1) d g d' g2
def aI.Quiet.trans{C:aI}{main:Bool}{E:aT->Prop}{m b d c a:Nat}{g g' g'':aw}(h:C.Quiet main E m d g c g')(k:C.Quiet main E b c g' a g''):C.Quiet main E (m+b) d g a g'':=by
 induction h with
 |nil=>simp;exact k
 |cons e f j l _ n=>rw[b0k];exact .cons e f j l (n k)
def a0M{C:aI}{main:Bool}{E:aT->Prop}{m d:Nat}{g g':aw}(h:aR C.P main m g g'):C.Quiet main E m d g d g':=by
 induction h with
 |nil=>exact .nil
 |cons a b _ c=>exact .cons #[] a (λv _=>b v) a9i (by grind[deafBehind])
def aI.To(C:aI)(main:Bool)(E:aT->Prop)(d:Nat)(g:aw)(b:Nat)(X:aw->Prop):Prop:=∃m a,C.Quiet main E m d g b a/\X a
end Go.Mir
end
