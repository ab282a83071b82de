import Derived.Conc.Events
import Derived.Test.YtdnpeefnobjfaaaGreatDoorK04
set_option maxRecDepth 100000
set_option maxHeartbeats 4000000
set_option linter.all false
section
namespace Go.Mir
def fC{α:Type}:Sem α->Sem (α⊕af)
 | .pure a=>.pure (.inl a)
 | .load m a k=>.load m a λv=>fC (k v)
 | .store m a v k=>.store m a v (fC k)
 | .new o k=>.new o λr=>fC (k r)
 | .shape r k=>.shape r λs=>fC (k s)
 | .freeze a n k=>.freeze a n (fC k)
 | .frozen a k=>.frozen a λb=>fC (k b)
 | .getObj r k=>.getObj r λo=>fC (k o)
 | .setObj r o k=>.setObj r o (fC k)
 | .choose q k=>.choose q λn=>fC (k n)
 | .sys c k=>.sys c λr=>fC (k r)
 | .program k=>.program λp=>fC (k p)
 | .mark m k=>.mark m (fC k)
 | .halt (.panic v)=>.pure (.inr v)
 | .halt h=>.halt h
def nj{α:Type}:Result α->Result (α⊕af)
 | .ok a w=>.ok (.inl a) w
 | .halt (.panic v) w=>.ok (.inr v) w
 | .halt h w=>.halt h w
def H2{α}(P):∀(s:Sem α) (w) (es),(fC s).runT P w es=(nj (s.runT P w es).1,(s.runT P w es).2):=by
 intro s;induction s with
 |pure a=>intros;rfl
 |load m a k b=>
  intro w es;simp only[fC,Sem.runT];split
  .exact b _ _ _
  .cases d:w.farLoad P a (m==.atomic)with
   |ok q=>obtain⟨v,t⟩:=q;exact b _ _ _
   |error h=>
    simp only[];have:∀v,h≠.panic v:=by
     intro v e;subst e;simp only[World.farLoad,World.noCell]at d;split at d
     .split at d<;>cases d
     .split at d<;>cases d
    cases h<;>first|rfl|exact absurd rfl (this _)
 |store m a v k b=>
  intro w es;have g:∀v,(∀c,v≠Value.agg c)->(∀c,v≠Value.tuple c)->(fC (Sem.store m a v k)).runT P w es=(nj ((Sem.store m a v k).runT P w es).1,((Sem.store m a v k).runT P w es).2):=by
   intro v i j;have l:∀{β:Type} (k:Sem β),Sem.runT P (.store m a v k) w es=match w.cell? a with
     |some _=>if w.frozen? a then (.halt (.unsupported (.unsafePointer "a write to bytes that a string shares")) w,es)else k.runT P (w.setCell a v) (es.push ⟨.cell a,true,m==.atomic⟩)
     |none=>match w.farStore P a v (m==.atomic)with
      | .ok (w,f)=>k.runT P w (es++f.toArray.map (⟨.cell ·,true,m==.atomic⟩))
      | .error h=>(.halt h w,es):=by
    intro β k;cases v<;>first|rfl|exact absurd rfl (i _)|exact absurd rfl (j _)
   simp only[fC,l];split
   .split
    .rfl
    .exact b _ _
   .cases d:w.farStore P a v (m==.atomic)with
    |ok q=>obtain⟨p,t⟩:=q;exact b _ _
    |error h=>
     simp only[];have:∀v,h≠.panic v:=by
      intro v e;subst e;simp only[World.farStore,World.noCell]at d;split at d
      .split at d<;>cases d
      .split at d<;>cases d
     cases h<;>first|rfl|exact absurd rfl (this _)
  cases v<;>first|rfl|exact g _ (by simp) (by simp)
 |new o k b=>intro w es;exact b _ _ _
 |shape r k b=>intro w es;exact b _ _ _
 |freeze a n k b=>intro w es;exact b _ _
 |frozen a k b=>intro w es;exact b _ _ _
 |getObj r k b=>intro w es;simp only[fC,Sem.runT];split<;>first|rfl|exact b _ _ _
 |setObj r o k b=>intro w es;simp only[fC,Sem.runT];split<;>first|rfl|exact b _ _
 |choose q k b=>intro w es;simp only[fC,Sem.runT];split<;>exact b _ _ _
 |sys c k b=>intro w es;exact b _ _ _
 |program k b=>intro w es;exact b _ _ _
 |mark m k b=>intro w es;exact b _ _
 |halt h=>intro w es;cases h<;>rfl
def xV(f:Nat->Nat){α β:Type}(R:α->β->Prop):α⊕af->β⊕af->Prop
 | .inl a,.inl b=>R a b
 | .inr v,.inr c=>c=ak f v
 |_,_=>False
def a0L{P Q f α β R}:∀{s:Sem α} {s':Sem β},aE P Q f R s s'->aE P Q f (xV f R) (fC s) (fC s'):=by
 intro s;induction s with
 |pure a=>intro s' h;cases s'<;>simp only[aE]at h;exact h
 |load m a k b=>intro s' h;cases s'<;>simp only[aE]at h;exact⟨h.1,h.2.1,λv=>b v (h.2.2 v)⟩
 |store m a v k b=>intro s' h;cases s'<;>simp only[aE]at h;exact⟨h.1,h.2.1,h.2.2.1,b h.2.2.2⟩
 |new o k b=>intro s' h;cases s'<;>simp only[aE]at h;exact⟨h.1,h.2.1,λv=>b v (h.2.2 v)⟩
 |shape r k b=>intro s' h;cases s'<;>simp only[aE]at h;exact⟨h.1,λv=>b v (h.2 v)⟩
 |freeze a n k b=>intro s' h;cases s'<;>simp only[aE]at h;exact⟨h.1,h.2.1,b h.2.2⟩
 |frozen a k b=>intro s' h;cases s'<;>simp only[aE]at h;exact⟨h.1,λv=>b v (h.2 v)⟩
 |getObj r k b=>intro s' h;cases s'<;>simp only[aE]at h;exact⟨h.1,λv e=>b v (h.2.1 v e),λv e=>b _ (h.2.2 v e)⟩
 |setObj r o k b=>intro s' h;cases s'<;>simp only[aE]at h;exact⟨h.1,h.2.1,h.2.2.1,b h.2.2.2⟩
 |choose q k b=>intro s' h;cases s'<;>simp only[aE]at h;exact⟨h.1,λv=>b v (h.2 v)⟩
 |sys c k b=>intro s' h;cases s'<;>simp only[aE]at h;exact⟨h.1,h.2.1,λr=>b r (h.2.2 r)⟩
 |program k b=>intro s' h;cases s'<;>simp only[aE]at h;exact b _ h
 |mark m k b=>intro s' h;cases s'<;>simp only[aE]at h;exact⟨h.1,b h.2⟩
 |halt h=>
  intro s' d;rw[pb]at d;cases h<;>first
   |(simp only[qW]at d;rw[d];exact(rfl:_=_))
   |exact jZ d _
   |(simp[qW,eO]at d;done)
def cO(G:Nat)(w:aa):Prop:=∀(b:Nat) o,w.heap[b]?=some o->eM G o
def cO.modify{G w}(h:cO G w){b x}(g:∀o,eM G o->eM G (x o)):cO G {w with heap:=w.heap.modify b x}:=by
 intro c o a;simp only[j7]at a;by_cases e:b=c
 .subst e;simp only[if_true]at a;cases d:w.heap[b]? with
  |none=>simp[d]at a
  |some f=>simp[d]at a;subst a;exact g f (h b f d)
 .simp only[e,if_false]at a;exact h c o a
def cO.set{G w}(h:cO G w){b o}(f:eM G o):cO G {w with heap:=w.heap.setIfInBounds b o}:=by
 intro c x a;by_cases e:b=c
 .subst e;by_cases d:b<w.heap.size
  .simp[d]at a;exact a▸f
  .simp[d]at a
 .rw[di e]at a;exact h c x a
def qY{α:Type}:Result α->Prop
 | .ok _ _=>True
 | .halt h _=>(∃v,h=.panic v)\/eO h=true
def GD{G w}(h:cO G w)(a s):eO (w.noCell a s)=true:=by
 unfold World.noCell;cases b:w.heap[a.block]? with
 |none=>rfl
 |some o=>cases o<;>rfl
def kG{P Q f α β R}:∀(s:Sem α) (s':Sem β) (w) (es),aE P Q f R s s'->cO P.globals.size w->cO P.globals.size (fH (s.runT P w es).1)/\qY (s.runT P w es).1:=by
 intro s;induction s with
 |pure a=>intro s' w es _ h;exact⟨h,trivial⟩
 |load m a k g=>
  intro s' w es d h;cases s'<;>simp only[aE]at d;simp only[Sem.runT];split
  .exact g _ _ _ _ (d.2.2 _) h
  .cases i:w.farLoad P a (m==.atomic)with
   |ok q=>obtain⟨v,t⟩:=q;exact g _ _ _ _ (d.2.2 _) h
   |error e=>
    refine⟨h,.inr ?_⟩;simp only[World.farLoad]at i;split at i
    .split at i<;>cases i;rfl
    .cases i;exact GD h _ _
 |store m a v k g=>
  intro s' w es d h;cases s'<;>simp only[aE]at d;have p:cO P.globals.size (w.setCell a v):=h.modify λo y=>by cases o<;>exact y
  have F:(∀c,v≠Value.agg c)->(∀c,v≠Value.tuple c)->Sem.runT P (.store m a v k) w es=match w.cell? a with
    |some _=>if w.frozen? a then (.halt (.unsupported (.unsafePointer "a write to bytes that a string shares")) w,es)else k.runT P (w.setCell a v) (es.push ⟨.cell a,true,m==.atomic⟩)
    |none=>match w.farStore P a v (m==.atomic)with
     | .ok (w,l)=>k.runT P w (es++l.toArray.map (⟨.cell ·,true,m==.atomic⟩))
     | .error h=>(.halt h w,es):=by
   intro B C;cases v<;>first|rfl|exact absurd rfl (B _)|exact absurd rfl (C _)
  have D:(
        ∀c,v≠Value.agg c)->(∀c,v≠Value.tuple c)->cO P.globals.size (fH (Sem.runT P (.store m a v k) w es).1)/\qY (Sem.runT P (.store m a v k) w es).1:=by
   intro B C;rw[F B C];split
   .split
    .exact⟨h,.inr rfl⟩
    .exact g _ _ _ d.2.2.2 p
   .cases i:w.farStore P a v (m==.atomic)with
    |ok q=>
     obtain⟨H,t⟩:=q;refine g _ _ _ d.2.2.2 ?_;simp only[World.farStore]at i;split at i
     .rename_i z u J;cases j:w.viewStore P z u a v (m==.atomic)with
      |error e=>rw[j]at i;cases i
      |ok r=>
       rw[j]at i;cases i;have:∃c e E,H={w with heap:=w.heap.setIfInBounds z.block (.cells c e E)}:=by
        unfold World.viewStore at j;simp only[bind,Except.bind]at j;split at j
        .cases j
        .split at j
         .cases j
         .split at j
          .split at j
           .cases j
           .split at j
            .cases j
            .cases j;exact⟨_,_,_,rfl⟩
          .cases j
       obtain⟨c,e,E,rfl⟩:=this;exact h.set trivial
     .cases i
    |error e=>
     refine⟨h,.inr ?_⟩;simp only[World.farStore]at i;split at i
     .split at i<;>cases i;rfl
     .cases i;exact GD h _ _
  cases v<;>first|exact⟨h,.inr rfl⟩|exact D (by simp) (by simp)
 |new o k g=>
  intro s' w es d h;cases s'<;>simp only[aE]at d;refine g _ _ _ _ (d.2.2 _) ?_;intro b x A;rw[fe]at A;split at A
  .cases A;exact d.2.1.1
  .exact h b x A
 |shape r k g=>intro s' w es d h;cases s'<;>simp only[aE]at d;exact g _ _ _ _ (d.2 _) h
 |freeze a n k g=>
  intro s' w es d h;cases s'<;>simp only[aE]at d;refine g _ _ _ d.2.2 ?_;unfold World.freeze;split
  .exact h
  .exact h.modify λo y=>by cases o<;>exact y
 |frozen a k g=>intro s' w es d h;cases s'<;>simp only[aE]at d;exact g _ _ _ _ (d.2 _) h
 |getObj r k g=>
  intro s' w es d h;cases s'<;>simp only[aE]at d;simp only[Sem.runT];split
  .exact⟨h,.inr rfl⟩
  .rename_i o _ y;exact g _ _ _ _ (d.2.1 _ (h _ _ y)) h
  .exact⟨h,.inr rfl⟩
 |setObj r o k g=>
  intro s' w es d h;cases s'<;>simp only[aE]at d;simp only[Sem.runT];split
  .exact⟨h,.inr rfl⟩
  .exact g _ _ _ d.2.2.2 (h.set d.2.2.1.1)
  .exact⟨h,.inr rfl⟩
 |choose q k g=>
  intro s' w es d h;cases s'<;>simp only[aE]at d;simp only[Sem.runT];split
  .exact g _ _ _ _ (d.2 _) h
  .exact g _ _ _ _ (d.2 _) h
 |sys c k g=>intro s' w es d h;cases s'<;>simp only[aE]at d;obtain⟨rfl,_,I⟩:=d;exact g _ _ _ _ (I _) h
 |program k g=>intro s' w es d h;cases s'<;>simp only[aE]at d;exact g _ _ _ _ d h
 |mark m k g=>intro s' w es d h;cases s'<;>simp only[aE]at d;exact g _ _ _ d.2 h
 |halt h0=>intro s' w es d h;rw[pb]at d;refine⟨h,?_⟩;cases h0<;>first|exact .inl ⟨_,rfl⟩|exact .inr d
def dD{α:Type}:Sem α->Prop
 | .pure _=>False
 | .load _ _ k=> ∀v,dD (k v)
 | .store _ _ _ k=>dD k
 | .new _ k=> ∀r,dD (k r)
 | .shape _ k=> ∀s,dD (k s)
 | .freeze _ _ k=>dD k
 | .frozen _ k=> ∀b,dD (k b)
 | .getObj _ k=> ∀o,dD (k o)
 | .setObj _ _ k=>dD k
 | .choose _ k=> ∀n,dD (k n)
 | .sys _ k=> ∀r,dD (k r)
 | .program k=> ∀P,dD (k P)
 | .mark _ k=>dD k
 | .halt (.panic _)=>False
 | .halt _=>True
def thin:Obj->Prop
 | .cells _ _ z=>z=(0,0)
 | .pending .. | .chan .. =>False
 |_=>True
section
variable{P:ay}{α β:Type}
def dD.bind'{f:α->Sem β}:∀{s:Sem α},dD s->dD (s.bind f):=by
 intro s;induction s with
 |pure a=>intro h;exact h.elim
 |load m a k b=>intro h v;exact b v (h v)
 |store m a v k b=>intro h;exact b h
 |new o k b=>intro h v;exact b v (h v)
 |shape r k b=>intro h v;exact b v (h v)
 |freeze a n k b=>intro h;exact b h
 |frozen a k b=>intro h v;exact b v (h v)
 |getObj r k b=>intro h v;exact b v (h v)
 |setObj r o k b=>intro h;exact b h
 |choose q k b=>intro h v;exact b v (h v)
 |sys c k b=>intro h v;exact b v (h v)
 |program k b=>intro h v;exact b v (h v)
 |mark m k b=>intro h;exact b h
 |halt h=>intro d;cases h<;>first|exact d|trivial
end
def yE:Obj->Prop
 | .cells .. | .view .. | .number .. | .pending .. | .chan .. =>False
 |_=>True
def a6a:Obj->Prop
 | .view .. | .number .. =>True
 |_=>False
structure bK (Z:Nat->Prop) (K:Nat->Obj) (w u:aa):Prop where
 tape:u.tape=w.tape
 drawn:u.drawn=w.drawn
 os:u.os=w.os
 output:u.output=w.output
 size:u.heap.size=w.heap.size
 other:∀b,¬Z b->u.heap[b]?=w.heap[b]?
 old:∀b,Z b->(∃c e,K b=.cells c e (0,0)/\w.heap[b]?=some (.cells c e (0,0))/\u.heap[b]?=some (.cells c e (0,c.size)))\/(yE (K b)/\w.heap[b]?=some (K b)/\u.heap[b]?=some dead)\/(a6a (K b)/\w.heap[b]?=some (K b)/\u.heap[b]?=some (K b))
 thin:∀(b:Nat) o,w.heap[b]?=some o->thin o
def yF{w:aa}{o:Obj}{a:ap}(h:w.heap[a.block]?=some o)(b:yE o):w.cell? a=none:=by simp only[World.cell?,h];cases o<;>first|exact b.elim|rfl
def bK.cell{Z:Nat->Prop}{K:Nat->Obj}{w u:aa}(h:bK Z K w u)(a:ap):u.cell? a=w.cell? a:=by
 by_cases g:Z a.block
 .rcases h.old _ g with⟨c,e,f,b,d⟩|⟨f,b,d⟩|⟨f,b,d⟩
  .simp only[World.cell?,b,d]
  .rw[yF b f,yF d trivial]
  .simp only[World.cell?,b,d]
 .simp only[World.cell?,h.other _ g]
def bK.shape{Z:Nat->Prop}{K:Nat->Obj}{w u:aa}(h:bK Z K w u)(r:Nat):u.shape? r=w.shape? r:=by
 by_cases g:Z r
 .rcases h.old _ g with⟨c,e,d,a,b⟩|⟨d,a,b⟩|⟨d,a,b⟩
  .simp only[World.shape?,a,b]
  .simp only[World.shape?,a,b,dead];cases f:K r<;>rw[f]at d<;>first|exact d.elim|rfl
  .simp only[World.shape?,a,b]
 .simp only[World.shape?,h.other _ g]
def bK.qK{Z:Nat->Prop}{K:Nat->Obj}{w u:aa}(h:bK Z K w u)(a:ap):w.frozen? a=false:=by
 unfold World.frozen?;split
 .rename_i c e d f b;have:=h.thin _ _ b;simp only[Mir.thin,gQ]at this;simp[this.2]
 .rfl
def bK.frozen{Z:Nat->Prop}{K:Nat->Obj}{w u:aa}(h:bK Z K w u){a:ap}(b:u.frozen? a=true):Z a.block/\∃c e,w.heap[a.block]?=some (.cells c e (0,0))/\a.off<c.size:=by
 by_cases i:Z a.block
 .rcases h.old _ i with⟨c,e,j,g,d⟩|⟨j,g,d⟩|⟨j,g,d⟩
  .simp only[World.frozen?,d]at b;exact⟨i,c,e,g,by simpa using b⟩
  .simp[World.frozen?,d,dead]at b
  .have f:=h.qK a;simp only[World.frozen?,g]at f;simp only[World.frozen?,d]at b;rw[f]at b;cases b
 .have f:=h.qK a;simp only[World.frozen?,h.other _ i]at b f;rw[f]at b;cases b
def BA{P:ay}{w u:aa}{at_:ap}(h:u.heap[at_.block]?=w.heap[at_.block]?)(t:aA)(k:ap)(b:Bool):u.seen P at_ t k b=w.seen P at_ t k b:=by unfold World.seen;rw[h]
def Bz{P:ay}{w u:aa}{at_:ap}{c:Array af}{e:aA}{z d:Nat×Nat}(g:w.heap[at_.block]?=some (.cells c e z))(h:u.heap[at_.block]?=some (.cells c e d))(t:aA)(k:ap)(b:Bool):(∃x,w.seen P at_ t k b=.error x/\u.seen P at_ t k b=.error x)\/∃f l cs n x y,w.seen P at_ t k b=.ok (c,e,z,f,l,cs)/\u.seen P at_ t k b=.ok (c,e,d,f,l,cs)/\seenCells P c e n x y=.ok cs:=by
 unfold World.seen;rw[g,h];simp only[bind,Except.bind,pure,Except.pure];split
 .exact .inl ⟨_,rfl,rfl⟩
 split;rotate_left
 .exact .inl ⟨_,rfl,rfl⟩
 split;rotate_left
 .exact .inl ⟨_,rfl,rfl⟩
 split;rotate_left
 .exact .inl ⟨_,rfl,rfl⟩
 split
 .exact .inl ⟨_,rfl,rfl⟩
 split;rotate_left
 .exact .inl ⟨_,rfl,rfl⟩
 split
 .exact .inl ⟨_,rfl,rfl⟩
 rename_i cs a;split
 .split
  .split
   .exact .inl ⟨_,rfl,rfl⟩
   .exact .inr ⟨_,_,_,_,_,_,rfl,rfl,a⟩
  .exact .inl ⟨_,rfl,rfl⟩
 .exact .inr ⟨_,_,_,_,_,_,rfl,rfl,a⟩
def a0F{P:ay}{c:Array af}{e:aA}:∀(n x y:Nat) (cs:List (Nat×Nat×List UInt8)),seenCells P c e n x y=.ok cs->∀q∈cs,q.1<c.size:=by
 intro n;induction n with
 |zero=>intro x y cs h;cases h
 |succ n d=>
  intro x y cs h q a;unfold seenCells at h;split at h
  .cases h;cases a
  dsimp only at h;split at h
  .cases h
  split at h
  .cases h
  split at h
  .cases h
  rename_i _ i s k _ v f;split at h
  .cases h
  .cases h
  rename_i _ g _ j;cases b:seenCells P c e n (s+g.length) y with
  |error x=>rw[b]at h;cases h
  |ok l=>
   rw[b]at h;simp only[Except.map,a6t]at h;subst h;obtain rfl|a:=cm.1 a
   .exact(bW.1 f).1
   .exact d _ _ _ b q a
def a3f{P:ay}{Z:Nat->Prop}{K:Nat->Obj}{w u:aa}(h:bK Z K w u)(at_:ap)(t:aA)(k:ap)(b:Bool):u.viewLoad P at_ t k b=w.viewLoad P at_ t k b\/∃x y,u.viewLoad P at_ t k b=.error x/\w.viewLoad P at_ t k b=.error y:=by
 by_cases m:Z at_.block
 .rcases h.old _ m with⟨c,e,i,a,d⟩|⟨i,a,d⟩|⟨i,a,d⟩
  .left;unfold World.viewLoad;obtain⟨x,q1,j⟩|⟨f,l,q,_,_,_,q1,j,_⟩:=Bz (P:=P) a d t k b
   .rw[q1,j]
   .rw[q1,j];rfl
  .right;obtain⟨x,n⟩:=pa (P:=P) (w:=u) (at_:=at_) (λc e z g=>by rw[d]at g;cases g) t k b;obtain⟨y,o⟩:=pa (P:=P) (w:=w) (at_:=at_) (λc e z g=>by rw[a]at g;have p:=dk g;rw[p]at i;exact i) t k b;unfold World.viewLoad;rw[n,o];exact⟨_,_,rfl,rfl⟩
  .left;unfold World.viewLoad;rw[BA (d.trans a.symm)]
 .left;unfold World.viewLoad;rw[BA (h.other _ m)]
def EL{P:ay}{Z:Nat->Prop}{K:Nat->Obj}{w u:aa}(h:bK Z K w u)(a:ap)(b:Bool)(d:u.heap[a.block]?=w.heap[a.block]?):u.farLoad P a b=w.farLoad P a b\/∃e e',u.farLoad P a b=.error e/\w.farLoad P a b=.error e':=by
 unfold World.farLoad;rw[d];cases i:w.heap[a.block]? with
 |none=>exact .inr ⟨_,_,rfl,rfl⟩
 |some o=>
  cases o with
  |view c t=>
   dsimp only;obtain f|⟨x,y,q1,g⟩:=a3f (P:=P) h c t a b
   .rw[f];exact .inl rfl
   .rw[q1,g];exact .inr ⟨_,_,rfl,rfl⟩
  |_=>exact .inr ⟨_,_,rfl,rfl⟩
def QR{P:ay}{Z:Nat->Prop}{K:Nat->Obj}{w u:aa}(h:bK Z K w u)(a:ap)(b:Bool):u.farLoad P a b=w.farLoad P a b\/∃e e',u.farLoad P a b=.error e/\w.farLoad P a b=.error e':=by
 by_cases j:Z a.block
 .rcases h.old _ j with⟨c,e,g,d,f⟩|⟨g,d,f⟩|⟨g,d,f⟩
  .unfold World.farLoad;rw[d,f];exact .inr ⟨_,_,rfl,rfl⟩
  .unfold World.farLoad;rw[d,f];cases i:K a.block<;>rw[i]at g<;>first|exact g.elim|exact .inr ⟨_,_,rfl,rfl⟩
  .exact EL h a b (f.trans d.symm)
 .exact EL h a b (h.other _ j)
def E0{Z:Nat->Prop}{K:Nat->Obj}{w u:aa}(h:bK Z K w u){r:Nat}(f: ¬Z r){o:Obj}(g:thin o):bK Z K {w with heap:=w.heap.setIfInBounds r o} {u with heap:=u.heap.setIfInBounds r o}:=by
 refine⟨h.tape,h.drawn,h.os,h.output,by simp[h.size],λb d=>?_,λb d=>?_,λb x a=>?_⟩
 .simp only[a6k,h.size,h.other b d]
 .have c:r≠b:=λe=>f (e▸d);rw[di c,di c];exact h.old b d
 .simp only[a6k]at a;split at a
  .split at a
   .cases a;exact g
   .cases a
  .exact h.thin b x a
def Ij{w:aa}{r:Nat}{o:Obj}(h:w.heap[r]?=some o):{w with heap:=w.heap.setIfInBounds r o}=w:=by
 have:w.heap.setIfInBounds r o=w.heap:=by
  refine a6C λi=>?_;by_cases a:r=i
  .subst a;rw[j8 (bW.1 h).1,h]
  .rw[di a]
 rw[this]
def a3i{P:ay}{Z:Nat->Prop}{K:Nat->Obj}{w u u':aa}(h:bK Z K w u)(at_:ap)(t:aA)(k:ap)(v:af)(b:Bool){l:List ap}(a:u.viewStore P at_ t k v b=.ok (u',l)):∃F,w.viewStore P at_ t k v b=.ok (F,l)/\bK Z K F u'/\∀x∈l,¬Z x.block:=by
 by_cases r:Z at_.block
 .rcases h.old _ r with⟨c,e,s,A,j⟩|⟨s,A,j⟩|⟨s,A,j⟩;rotate_left
  .obtain⟨x,d⟩:=pa (P:=P) (w:=u) (at_:=at_) (λc e z g=>by rw[j]at g;cases g) t k b;unfold World.viewStore at a;rw[d]at a;simp only[bind,Except.bind]at a;split at a<;>cases a
  .obtain⟨x,d⟩:=pa (P:=P) (w:=u) (at_:=at_) (λc e z g=>by rw[j]at g;have m:=dk g;rw[m]at s;exact s) t k b;unfold World.viewStore at a;rw[d]at a;simp only[bind,Except.bind]at a;split at a<;>cases a
  unfold World.viewStore at a⊢;obtain⟨x,q1,B⟩|⟨f,J,H,n,x,y,q1,B,q3⟩:=Bz (P:=P) A j t k b
  .rw[B]at a;simp only[bind,Except.bind]at a;split at a<;>cases a
  .rw[B]at a;rw[q1];cases H with
   |cons q M=>
    exfalso;have C:=a0F n x y _ q3 q (by simp);simp only[bind,Except.bind,pure,Except.pure,a7i]at a;split at a
    .cases a
    split at a;rotate_left
    .cases a
    split at a
    .cases a
    split at a
    .cases a
    rename_i d;split at d
    .cases d
    .rename_i i;split at i
     .cases i
     .rw[if_pos (by simp[C])]at i;cases i
   |nil=>
    simp only[bind,Except.bind,pure,Except.pure,List.foldlM_nil,d7]at a⊢;split at a
    .cases a
    rename_i D;rw[if_neg D];split at a;rotate_left
    .cases a
    split at a
    .cases a
    rename_i m;rw[if_neg m];simp only[a6t,gQ]at a;obtain⟨rfl,rfl⟩:=a;exact⟨w,by rw[Ij A],by rw[Ij j];exact h,λx d=>by cases d⟩
 .unfold World.viewStore at a⊢;rw[BA (h.other _ r)]at a;cases p:w.heap[at_.block]? with
  |none=>obtain⟨x,d⟩:=pa (P:=P) (w:=w) (at_:=at_) (λc e z g=>by rw[p]at g;cases g) t k b;rw[d]at a;simp only[bind,Except.bind]at a;split at a<;>cases a
  |some o=>
   by_cases I:∃c e z,o=.cells c e z
   .obtain⟨c,e,z,rfl⟩:=I;have E:z=(0,0):=h.thin _ _ p;obtain⟨x,q1,_⟩|⟨f,J,H,n,x,y,q1,_,q3⟩:=Bz (P:=P) p p t k b
    .rw[q1]at a;simp only[bind,Except.bind]at a;split at a<;>cases a
    .rw[q1]at a⊢;simp only[bind,Except.bind,pure,Except.pure]at a⊢;split at a
     .cases a
     rename_i D;rw[if_neg D];split at a;rotate_left
     .cases a
     split at a
     .cases a
     rename_i m;rw[if_neg m];split at a
     .cases a
     rename_i N L;simp only[a6t,gQ]at a;obtain⟨rfl,rfl⟩:=a;refine⟨_,rfl,E0 h r E,λx d=>?_⟩;obtain⟨q,_,rfl⟩:=eS.1 d;exact r
   .obtain⟨x,d⟩:=pa (P:=P) (w:=w) (at_:=at_) (λc e z g=>by rw[p]at g;cases g;exact I ⟨_,_,_,rfl⟩) t k b;rw[d]at a;simp only[bind,Except.bind]at a;split at a<;>cases a
def QU{P:ay}{Z:Nat->Prop}{K:Nat->Obj}{w u u':aa}(h:bK Z K w u)(a:ap)(v:af)(b:Bool){l:List ap}(d:u.farStore P a v b=.ok (u',l)):∃f,w.farStore P a v b=.ok (f,l)/\bK Z K f u'/\∀x∈l,¬Z x.block:=by
 have i:u.heap[a.block]?=w.heap[a.block]? ->∃f,w.farStore P a v b=.ok (f,l)/\bK Z K f u'/\∀x∈l,¬Z x.block:=by
  intro s;unfold World.farStore at d⊢;rw[s]at d;cases n:w.heap[a.block]? with
  |none=>rw[n]at d;cases d
  |some o=>
   rw[n]at d;cases o with
   |view j t=>
    dsimp only at d⊢;cases m:u.viewStore P j t a v b with
    |error x=>rw[m]at d;cases d
    |ok q=>rw[m]at d;cases d;obtain⟨f,k,g,y⟩:=a3i h j t a v b m;exact⟨f,by rw[k],g,y⟩
   |_=>cases d
 by_cases p:Z a.block
 .rcases h.old _ p with⟨c,e,r,k,g⟩|⟨r,k,g⟩|⟨r,k,g⟩
  .unfold World.farStore at d;rw[g]at d;cases d
  .unfold World.farStore at d;rw[g]at d;cases d
  .exact i (g.trans k.symm)
 .exact i (h.other _ p)
def Yields{α:Type}:Result α->Prop
 | .ok _ _=>True
 | .halt (.panic _) _=>True
 |_=>False
def GC{w:aa}{a:ap}{s:String}{α:Type}{w':aa}: ¬Yields (.halt (w.noCell a s) w':Result α):=by unfold World.noCell;split<;>exact id
def vm{P:ay}{u w':aa}{a:ap}{at_:Bool}{e:Halt}{α:Type}(h:u.farLoad P a at_=.error e): ¬Yields (.halt e w':Result α):=by
 unfold World.farLoad at h;split at h
 .split at h
  .cases h
  .cases h;exact id
 .cases h;exact GC
def zw{P:ay}{u w':aa}{a:ap}{v:af}{at_:Bool}{e:Halt}{α:Type}(h:u.farStore P a v at_=.error e): ¬Yields (.halt e w':Result α):=by
 unfold World.farStore at h;split at h
 .split at h
  .cases h
  .cases h;exact id
 .cases h;exact GC
theorem xe{P:ay}{α:Type}{m:Mode}{a:ap}{v:af}{k:Sem α}{w:aa}{es:Array aJ}(d:∀c,v≠.agg c)(e:∀c,v≠.tuple c):Sem.runT P (.store m a v k) w es=match w.cell? a with
  |some _=>if w.frozen? a then (.halt (.unsupported (.unsafePointer "a write to bytes that a string shares")) w,es)else k.runT P (w.setCell a v) (es.push ⟨.cell a,true,m==.atomic⟩)
  |none=>match w.farStore P a v (m==.atomic)with
   | .ok (w,b)=>k.runT P w (es++b.toArray.map (⟨.cell ·,true,m==.atomic⟩))
   | .error h=>(.halt h w,es):=by
 cases v<;>first|rfl|exact absurd rfl (d _)|exact absurd rfl (e _)
def xz(v:af):((∀c,v≠.agg c)/\∀c,v≠.tuple c)\/(∃c,v=.agg c)\/∃c,v=.tuple c:=by cases v<;>first|exact .inr (.inl ⟨_,rfl⟩)|exact .inr (.inr ⟨_,rfl⟩)|exact .inl ⟨by simp,by simp⟩
def dD.run{α:Type}{P:ay}:∀(s:Sem α) (w:aa) (es:Array aJ),dD s->¬Yields (s.runT P w es).1:=by
 intro s;induction s with
 |pure a=>intro w es h;exact h.elim
 |load m a k b=>
  intro w es h;simp only[Sem.runT];split
  .exact b _ _ _ (h _)
  .split
   .exact b _ _ _ (h _)
   .rename_i e d;exact vm d
 |store m a v k b=>
  intro w es h;obtain⟨f,g⟩|⟨c,rfl⟩|⟨c,rfl⟩:=xz v
  .rw[xe f g];split
   .split
    .exact id
    .exact b _ _ h
   .split
    .exact b _ _ h
    .rename_i e d;exact zw d
  .exact id
  .exact id
 |new o k b=>intro w es h;exact b _ _ _ (h _)
 |shape r k b=>intro w es h;exact b _ _ _ (h _)
 |freeze a n k b=>intro w es h;exact b _ _ h
 |frozen a k b=>intro w es h;exact b _ _ _ (h _)
 |getObj r k b=>
  intro w es h;simp only[Sem.runT];split
  .exact id
  .exact b _ _ _ (h _)
  .exact id
 |setObj r o k b=>
  intro w es h;simp only[Sem.runT];split
  .exact id
  .exact b _ _ h
  .exact id
 |choose q k b=>
  intro w es h;simp only[Sem.runT];split
  .exact b _ _ _ (h _)
  .exact b _ _ _ (h _)
 |sys c k b=>intro w es h;exact b _ _ _ (h _)
 |program k b=>intro w es h;exact b _ _ _ (h _)
 |mark m k b=>intro w es h;exact b _ _ h
 |halt h=>intro w es i;cases h<;>first|exact i.elim|exact id
def jl{α:Type}(w:aa):Result α->Result α
 | .ok a _=>.ok a w
 | .halt h _=>.halt h w
def i8(Z:Nat->Prop)(e:aJ):Prop:=(∀a,e.loc=.cell a->e.write=true->¬Z a.block)/\∀r,e.loc=.obj r->e.write=true->¬Z r
def TH(P:ay){α:Type}(s:Sem α):Prop:=∀(Z:Nat->Prop) (K:Nat->Obj) (w u:aa) (b:Array aJ),bK Z K w u->∀r a,s.runT P u b=(r,a)->Yields r->∃c,s.runT P w b=(jl c r,a)/\bK Z K c (fH r)/\∀e∈a,e∈b\/i8 Z e
def NF(P:ay){α:Type}:Sem α->Prop
 | .pure _=>True
 | .load _ _ k=> ∀v,NF P (k v)
 | .store _ _ _ k=>NF P k
 | .new o k=>thin o/\∀r,NF P (k r)
 | .shape _ k=> ∀s,NF P (k s)
 | .freeze _ _ _=>False
 | .frozen a k=>(∀b,dD (k b))\/(dD (k true)/\NF P (k false))\/TH P (.frozen a k)
 | .getObj r k=>((∀o,NF P (k o))/\(dD (k dead)\/∀o,yE o->k o=k dead))\/TH P (.getObj r k)
 | .setObj _ _ _=>False
 | .choose _ k=> ∀n,NF P (k n)
 | .sys c k=>c=.env/\∀r,NF P (k r)
 | .program k=>NF P (k P)
 | .mark _ k=>NF P k
 | .halt _=>True
def bK.set{Z:Nat->Prop}{K:Nat->Obj}{w u:aa}(h:bK Z K w u){a:ap}{s:af}(f:u.cell? a=some s)(p:u.frozen? a=false)(v:af): ¬Z a.block/\bK Z K (w.setCell a v) (u.setCell a v):=by
 have k: ¬Z a.block:=by
  intro l;obtain⟨c,e,j,_,i⟩|⟨j,_,i⟩|⟨j,_,i⟩:=h.old _ l;rotate_left
  .rw[yF i trivial]at f;cases f
  .simp only[World.cell?,i]at f;cases m:K a.block<;>rw[m]at j f<;>first|exact j.elim|cases f
  simp only[World.cell?,i]at f;simp only[World.frozen?,i]at p;by_cases q:a.spot.isSome=true
  .simp[q]at f
  .simp only[q]at f;have:=(bW.1 f).1;simp at p;omega
 refine⟨k,⟨h.tape,h.drawn,h.os,h.output,by simpa[World.setCell]using h.size,λb d=>?_,λb d=>?_,λb o d=>?_⟩⟩
 .by_cases g:a.block=b
  .subst g;simp only[World.setCell,j7,if_true,h.other _ k]
  .simp only[World.setCell,j7,g,if_false,h.other _ d]
 .have g:a.block≠b:=λe=>k (e▸d);simp only[World.setCell,j7,g,if_false];exact h.old b d
 .simp only[World.setCell,j7]at d;split at d
  .cases n:w.heap[b]? with
   |none=>rw[n]at d;cases d
   |some r=>rw[n]at d;have:=h.thin b r n;cases r<;>(simp only[Option.map_some,cw]at d;subst d;exact this)
  .exact h.thin b _ d
def RD{Z:Nat->Prop}{K:Nat->Obj}{w u:aa}(h:bK Z K w u){o:Obj}(i:thin o):bK Z K {w with heap:=w.heap.push o} {u with heap:=u.heap.push o}:=by
 have j:∀b,Z b->b<w.heap.size:=λb a=>by
  obtain⟨c,e,g,f,_⟩|⟨g,f,_⟩|⟨g,f,_⟩:=h.old b a
  all_goals exact(bW.1 f).1
 refine⟨h.tape,h.drawn,h.os,h.output,by simp[h.size],λb a=>?_,λb a=>?_,λb x d=>?_⟩
 .simp only[fe,h.size,h.other b a]
 .have:=j b a;have k:=h.size;have l:(w.heap.push o)[b]?=w.heap[b]? :=by rw[fe,if_neg (by omega)]
  have m:(u.heap.push o)[b]?=u.heap[b]? :=by rw[fe,if_neg (by omega)]
  simp only[l,m];exact h.old b a
 .simp only[fe]at d;split at d
  .cases d;exact i
  .exact h.thin b x d
def a5U{α:Type}{P:ay}{Z:Nat->Prop}{K:Nat->Obj}:∀(s:Sem α) (w u:aa) (es:Array aJ),NF P s->bK Z K w u->∀r f,s.runT P u es=(r,f)->Yields r->∃t,s.runT P w es=(jl t r,f)/\bK Z K t (fH r)/\∀e∈f,e∈es\/i8 Z e:=by
 intro s;induction s with
 |pure a=>intro w u es _ h r f d _;cases d;exact⟨w,rfl,h,λe y=>.inl y⟩
 |load m a k l=>
  intro w u es g h r f d i;simp only[Sem.runT]at d⊢;rw[h.cell a]at d;cases F:w.cell? a with
  |some v=>
   rw[F]at d;obtain⟨t,D,A,L⟩:=l v w u _ (g v) h r f d i;refine⟨t,D,A,λe y=>?_⟩;obtain j|j:=L e y
   .rcases kJ.1 j with z|rfl
    .exact .inl z
    .exact .inr ⟨λ_ _ H=>by simp at H,λ_ p _=>by simp at p⟩
   .exact .inr j
  |none=>
   rw[F]at d;dsimp only at d⊢;obtain M|⟨e,e',q1,C⟩:=QR (P:=P) h a (m==.atomic)
   .rw[M]at d;cases B:w.farLoad P a (m==.atomic)with
    |error e=>rw[B]at d;cases d;exact absurd i (vm B)
    |ok q=>
     rw[B]at d;obtain⟨t,D,A,L⟩:=l q.1 w u _ (g q.1) h r f d i;refine⟨t,D,A,λe y=>?_⟩;obtain j|j:=L e y
     .rcases l8.1 j with z|z
      .exact .inl z
      .obtain⟨x,_,rfl⟩:=l9.1 z;exact .inr ⟨λ_ _ H=>by simp at H,λ_ p _=>by simp at p⟩
     .exact .inr j
   .rw[q1]at d;cases d;exact absurd i (vm q1)
 |store m a v k l=>
  intro w u es g h r f d i;obtain⟨D,A⟩|⟨c,rfl⟩|⟨c,rfl⟩:=xz v
  .rw[xe D A]at d⊢;cases F:u.cell? a with
   |some v0=>
    rw[F]at d;dsimp only at d;by_cases E:u.frozen? a=true
    .rw[if_pos E]at d;cases d;exact i.elim
    .have I:u.frozen? a=false:=by simpa using E
     rw[if_neg E]at d;obtain⟨N,B⟩:=h.set F I v;obtain⟨t,q1,C,q3⟩:=l _ _ _ g B r f d i;have S:w.frozen? a=false:=by have:=h.other _ N;simp only[World.frozen?]at I⊢;rw[<-this];exact I
     refine⟨t,?_,C,λe y=>?_⟩
     .rw[<-h.cell a,F];dsimp only;rw[if_neg (by simp[S])];exact q1
     .rcases q3 e y with j|j
      .rcases kJ.1 j with z|rfl
       .exact .inl z
       .exact .inr ⟨λb O _=>by simp only[Loc.cell.injEq]at O;exact O▸N,λ_ p _=>by simp at p⟩
      .exact .inr j
   |none=>
    rw[F]at d;dsimp only at d;rw[<-h.cell a,F];dsimp only;cases B:u.farStore P a v (m==.atomic)with
    |error e=>rw[B]at d;cases d;exact absurd i (zw B)
    |ok q=>
     rw[B]at d;obtain⟨U,q1,C,q3⟩:=QU h a v _ B;rw[q1];obtain⟨t,D,A,L⟩:=l U q.1 _ g C r f d i;refine⟨t,D,A,λe y=>?_⟩;obtain j|j:=L e y
     .rcases l8.1 j with z|z
      .exact .inl z
      .obtain⟨x,V,rfl⟩:=l9.1 z;exact .inr ⟨λb O _=>by simp only[Loc.cell.injEq]at O;exact O▸q3 x (by simpa using V),λ_ p _=>by simp at p⟩
     .exact .inr j
  .cases d;exact i.elim
  .cases d;exact i.elim
 |new o k l=>intro w u es g h r f d i;simp only[Sem.runT]at d⊢;rw[h.size]at d;exact l _ _ _ _ (g.2 _) (RD h g.1) r f d i
 |shape b k l=>intro w u es g h r f d i;simp only[Sem.runT]at d⊢;rw[h.shape b]at d;exact l _ _ _ _ (g _) h r f d i
 |freeze a n k l=>intro w u es g;exact g.elim
 |frozen a k l=>
  intro w u es g h r f d i;obtain g|⟨p,g⟩|g:=g;rotate_left 2
  .exact g Z K w u es h r f d i
  all_goals simp only[Sem.runT]at d⊢
  .have:=dD.run (P:=P) _ u es (g (u.frozen? a));rw[d]at this;exact absurd i this
  .rw[h.qK a];cases B:u.frozen? a with
   |true=>rw[B]at d;have:=dD.run (P:=P) _ u es p;rw[d]at this;exact absurd i this
   |false=>rw[B]at d;exact l _ _ _ _ g h r f d i
 |getObj b k l=>
  intro w u es g h r f d i;obtain⟨g,J⟩|g:=g;rotate_left
  .exact g Z K w u es h r f d i
  have Q:u.heap[b]?=w.heap[b]? ->∃t,(Sem.getObj b k).runT P w es=(jl t r,f)/\bK Z K t (fH r)/\∀e∈f,e∈es\/i8 Z e:=by
   intro W;simp only[Sem.runT]at d⊢;rw[W]at d;split at d
   .cases d;exact i.elim
   .rename_i o _ H;obtain⟨t,q1,C,q3⟩:=l _ _ _ _ (g _) h r f d i;refine⟨t,q1,C,λe y=>?_⟩;obtain j|j:=q3 e y
    .rcases kJ.1 j with z|rfl
     .exact .inl z
     .exact .inr ⟨λ_ p=>by simp at p,λx p H=>by simp at H⟩
    .exact .inr j
   .cases d;exact i.elim
  have E:Z b\/¬Z b:=a8f _;obtain E|E:=E
  .rcases h.old b E with⟨c,e,_,_,A⟩|⟨R,D,A⟩|⟨R,D,A⟩
   .simp only[Sem.runT,A]at d;cases d;exact i.elim
   .have X:(Sem.getObj b k).runT P u es=(k dead).runT P u (es.push ⟨.obj b,false,false⟩):=by simp only[Sem.runT,A,dead,Obj.isChan]
    have Y:(Sem.getObj b k).runT P w es=(k (K b)).runT P w (es.push ⟨.obj b,false,false⟩):=by simp only[Sem.runT,D];cases T:K b<;>rw[T]at R<;>first|exact R.elim|rfl
    rw[X]at d;obtain J|J:=J
    .have:=dD.run (P:=P) _ u (es.push ⟨.obj b,false,false⟩) J;rw[d]at this;exact absurd i this
    .rw[Y,J _ R];obtain⟨t,q1,C,q3⟩:=l _ _ _ _ (g _) h r f d i;refine⟨t,q1,C,λe y=>?_⟩;obtain j|j:=q3 e y
     .rcases kJ.1 j with z|rfl
      .exact .inl z
      .exact .inr ⟨λ_ p=>by simp at p,λx p H=>by simp at H⟩
     .exact .inr j
   .exact Q (A.trans D.symm)
  .exact Q (h.other b E)
 |setObj b o k l=>intro w u es g;exact g.elim
 |choose q k l=>
  intro w u es g h r f d i;simp only[Sem.runT]at d⊢;split at d
  .rename_i M;rw[if_pos M];exact l _ _ _ _ (g _) h r f d i
  .rename_i M;rw[if_neg M];rw[h.tape,h.drawn]at d;exact l _ {w with drawn:=w.drawn+1} {u with tape:=w.tape,drawn:=w.drawn+1} _ (g _) ⟨rfl,rfl,h.os,h.output,h.size,h.other,h.old,h.thin⟩ r f d i
 |sys c k l=>
  intro w u es g h r f d i;obtain⟨rfl,g⟩:=g;have J:∀x:aa,x.sys .env=(.strings x.os.env,x):=λx=>rfl;simp only[Sem.runT,J]at d⊢;rw[h.os]at d;obtain⟨t,q1,C,q3⟩:=l _ _ _ _ (g _) h r f d i;refine⟨t,q1,C,λe y=>?_⟩;obtain j|j:=q3 e y
  .rcases kJ.1 j with z|rfl
   .exact .inl z
   .exact .inr ⟨λ_ p=>by simp at p,λ_ p _=>by simp at p⟩
  .exact .inr j
 |program k l=>intro w u es g h r f d i;exact l P _ _ _ g h r f d i
 |mark m k l=>
  intro w u es g h r f d i;simp only[Sem.runT]at d⊢;obtain⟨t,q1,C,q3⟩:=l _ _ _ g h r f d i;refine⟨t,q1,C,λe y=>?_⟩;obtain j|j:=q3 e y
  .rcases kJ.1 j with z|rfl
   .exact .inl z
   .exact .inr ⟨λ_ p=>by simp at p,λ_ p _=>by simp at p⟩
  .exact .inr j
 |halt h0=>intro w u es _ h r f d i;cases d;exact⟨w,rfl,h,λe y=>.inl y⟩
def Jd{α:Type}{P:ay}{s:Sem α}(h:NF P s):TH P s:=λ_ _ w u b hF r a c d=>a5U s w u b h hF r a c d
def TH.bind'{α β:Type}{P:ay}{s:Sem α}{f:α->Sem β}(h:TH P s)(p:∀a,TH P (f a)):TH P (s.bind f):=by
 intro Z K w u c hF r q b o;rw[Sem.runT_bind']at b⊢;rcases d:s.runT P u c with⟨t,g⟩;rw[d]at b;cases t with
 |ok a u1=>
  obtain⟨i,j,k,l⟩:=h Z K w u c hF _ _ d trivial;rw[j];obtain⟨v,q1,y,q3⟩:=p a Z K i u1 g k _ _ b o;refine⟨v,q1,y,λe z=>?_⟩;obtain m|m:=q3 e z
  .exact l e m
  .exact .inr m
 |halt x u1=>
  simp only[gQ]at b;obtain⟨rfl,rfl⟩:=b;have n:Yields (.halt x u1:Result α):=by cases x<;>first|exact o.elim|trivial
  obtain⟨i,j,k,l⟩:=h Z K w u c hF _ _ d n;rw[j];exact⟨i,rfl,k,l⟩
section
variable{P:ay}{α β:Type}
def NF.bind'{f:α->Sem β}(g:∀a,NF P (f a)):∀{s:Sem α},NF P s->NF P (s.bind f):=by
 intro s;induction s with
 |pure a=>intro _;exact g a
 |load m a k d=>intro h v;exact d v (h v)
 |store m a v k d=>intro h;exact d h
 |new o k d=>intro h;exact⟨h.1,λv=>d v (h.2 v)⟩
 |shape r k d=>intro h v;exact d v (h v)
 |freeze a n k d=>intro h;exact h.elim
 |frozen a k d=>
  intro h;obtain h|⟨i,e⟩|h:=h
  .exact .inl λb=>dD.bind' (h b)
  .exact .inr (.inl ⟨dD.bind' i,d false e⟩)
  .exact .inr (.inr (TH.bind' h λa=>Jd (g a)))
 |getObj r k d=>
  intro h;obtain⟨i,e⟩|h:=h
  .refine .inl ⟨λo=>d o (i o),?_⟩;obtain e|e:=e
   .exact .inl (dD.bind' e)
   .exact .inr λo j=>congrArg (λs=>Sem.bind s f) (e o j)
  .exact .inr (TH.bind' h λa=>Jd (g a))
 |setObj r o k d=>intro h;exact h.elim
 |choose q k d=>intro h v;exact d v (h v)
 |sys c k d=>intro h;exact⟨h.1,λv=>d v (h.2 v)⟩
 |program k d=>intro h;exact d P h
 |mark m k d=>intro h;exact d h
 |halt h=>intro _;trivial
def NF.bind{s:Sem α}{f:α->Sem β}(h:NF P s)(b:∀a,NF P (f a)):NF P (s>>=f):=NF.bind' b h
def NF.pure(a:α):NF P (Pure.pure a:Sem α):=trivial
def NF.stuck(s:String):NF P (stuck s:Sem α):=trivial
def NF.unsupported(s:Unsupported):NF P (unsupported s:Sem α):=trivial
def NF.ite{c:Prop}[Decidable c]{s t:Sem α}(a:c->NF P s)(b: ¬c->NF P t):NF P (if c then s else t):=by
 split
 .exact a ‹_›
 .exact b ‹_›
end
def tI{P:ay}{α:Type}{l:Nat}{k:Obj->Sem α}(N:dD (k dead))(O:∀o,a6a o->NF P (k o))(L:∀o,NF P (k o)\/∃q s,k o=.setObj l q s/\thin q/\NF P s):NF P (.getObj l k):=by
 refine Or.inr ?_;intro Z K w u d h r j a m;have n:Z l\/¬Z l:=a8f _;obtain n|n:=n
 .rcases h.old l n with⟨c,e,_,_,v⟩|⟨L,M,v⟩|⟨F,M,v⟩
  .simp only[Sem.runT,v]at a;cases a;exact m.elim
  rotate_left
  .have y:∀x:aa,x.heap[l]?=some (K l)->(Sem.getObj l k).runT P x d=(k (K l)).runT P x (d.push ⟨.obj l,false,false⟩):=by intro x A;simp only[Sem.runT,A];cases H:K l<;>rw[H]at F<;>first|exact F.elim|rfl
   rw[y u v]at a;rw[y w M];obtain⟨B,q1,C,q3⟩:=a5U _ _ _ _ (O _ F) h r j a m;refine⟨B,q1,C,λe p=>?_⟩;obtain f|f:=q3 e p
   .rcases kJ.1 f with D|rfl
    .exact .inl D
    .exact .inr ⟨λ_ g=>by simp at g,λx g i=>by simp at i⟩
   .exact .inr f
  .have Q:(Sem.getObj l k).runT P u d=(k dead).runT P u (d.push ⟨.obj l,false,false⟩):=by simp only[Sem.runT,v,dead,Obj.isChan]
   rw[Q]at a;have:=dD.run (P:=P) _ u (d.push ⟨.obj l,false,false⟩) N;rw[a]at this;exact absurd m this
 .have t:=h.other l n;have rd:∀(e:aJ) (b:Bool),e∈d.push ⟨.obj l,false,b⟩->e∈d\/i8 Z e:=by
   intro e b p;obtain D|rfl:=kJ.1 p
   .exact .inl D
   .exact .inr ⟨λ_ g=>by simp at g,λx g i=>by simp at i⟩
  cases i:w.heap[l]? with
  |none=>rw[i]at t;simp only[Sem.runT,t]at a;cases a;exact m.elim
  |some o=>
   rw[i]at t;by_cases I:∃c e z,o=.cells c e z
   .obtain⟨c,e,z,rfl⟩:=I;simp only[Sem.runT,t]at a;cases a;exact m.elim
   .have y:∀x:aa,x.heap[l]?=some o->(Sem.getObj l k).runT P x d=(k o).runT P x (d.push ⟨.obj l,false,o.isChan⟩):=by intro x A;simp only[Sem.runT,A];cases o<;>first|exact absurd ⟨_,_,_,rfl⟩ I|rfl
    rw[y u t]at a;rw[y w i];obtain J|⟨q,s,R,S,J⟩:=L o
    .obtain⟨B,q1,C,q3⟩:=a5U _ _ _ _ J h r j a m;refine⟨B,q1,C,λe p=>?_⟩;obtain f|f:=q3 e p
     .exact rd e _ f
     .exact .inr f
    .rw[R]at a⊢;have E:∀x:aa,x.heap[l]?=some o->(Sem.setObj l q s).runT P x (d.push ⟨.obj l,false,o.isChan⟩)=s.runT P {x with heap:=x.heap.setIfInBounds l q} ((d.push ⟨.obj l,false,o.isChan⟩).push ⟨.obj l,true,q.isChan⟩):=by intro x A;simp only[Sem.runT,A];cases o<;>first|exact absurd ⟨_,_,_,rfl⟩ I|rfl
     rw[E u t]at a;rw[E w i];obtain⟨B,q1,C,q3⟩:=a5U _ _ _ _ J (E0 h n S) r j a m;refine⟨B,q1,C,λe p=>?_⟩;obtain f|f:=q3 e p
     .rcases kJ.1 f with D|rfl
      .exact rd e _ D
      .exact .inr ⟨λ_ g=>by simp at g,λx g _=>by simp only[Loc.obj.injEq]at g;exact g▸n⟩
     .exact .inr f
end Go.Mir
end
