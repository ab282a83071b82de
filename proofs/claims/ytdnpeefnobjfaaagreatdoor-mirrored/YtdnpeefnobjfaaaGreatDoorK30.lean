import Derived.Deep.DeepCutAuto
import Derived.Deep.RegionLaw
import Derived.Test.YtdnpeefnobjfaaaGreatDoorK26
import Derived.Test.YtdnpeefnobjfaaaGreatDoorK29
set_option maxRecDepth 100000
set_option maxHeartbeats 4000000
set_option linter.all false
section
namespace Go.Proofs.q
open Go.RowKit Go.Shelf
section
attribute [local go_sem ↓] Go.wp_at_zero Go.wp_at_succ
structure jI (r:Rw):Prop where
 met:r.met<=16
 az: -1<=r.az
 a5A:0<=r.bM
 bM:r.bM<180
 dead:r.met=16->r.bM<120
end
structure nZ (n:Rw):Prop where
 met:n.met<=16
 az: -1<=n.az
 bM:n.bM=0
def nZ.fresh{n}(h:nZ n):jI (jv n):=⟨h.met,h.az,a7T _,show(0:Int)<180 by decide,λ_=>show(0:Int)<120 by decide⟩
def jI.gone{r}(h:jI r):jI (fZ r):=by
 unfold fZ;split
 .exact h
 .exact⟨a7T _,h.az,a7T _,show(0:Int)<180 by decide,λ_=>show(0:Int)<120 by decide⟩
def jI.heard{r n}(h:jI r)(a:nZ n):jI (eQ r n):=by
 unfold eQ;split
 .exact h
 .split
  .unfold gn;split
   .exact h.gone
   .exact⟨a.met,a.az,a7T _,show(0:Int)<180 by decide,λ_=>show(0:Int)<120 by decide⟩
  .split
   .exact a.fresh
   .exact h
def jI.take{L n}(h:∀r∈L,jI r)(d:nZ n):∀r∈gt L n,jI r:=by
 have a:∀i,∀r∈L.take i++jv n::L.drop i,jI r:=λi r c=>by
  obtain b|b:=kf.1 c
  .exact h r (a6z b)
  .rcases cm.1 b with rfl|e
   .exact d.fresh
   .exact h r (a6N e)
 unfold gt pi;split
 .rename_i x f;split
  .intro r c;obtain b|rfl:=a7E c
   .exact h r b
   .exact(h x (a7o f)).heard d
  .split
   .exact a _
   .exact h
 .split
  .exact a _
  .exact h
def nZ.of(e)(az:Nat)(a):nZ (iG e az a):=⟨by show min _ _<=_;omega,by show(-1:Int)<=(az:Int);omega,rfl⟩
def mq(r:Rw):Prop:=(0<=r.addr/\r.addr<4294967296)/\db r.addr r.len=true/\f7 r.tag=true/\dZ r.met=true
def UZ:dZ 16=true:=by decide
def mq.lost{r}(h:mq r):mq (fZ r):=by
 unfold fZ;split
 .exact h
 .exact⟨h.1,h.2.1,h.2.2.1,UZ⟩
def mq.heard{r n}(h:mq r)(a:mq n):mq (eQ r n):=by
 unfold eQ;split
 .exact h
 .split
  .unfold gn;split
   .exact h.lost
   .exact a
  .split
   .exact a
   .exact h
def I8{P:Rw->Prop}{L n}(h:∀r∈L,P r)(d:P (jv n))(e:∀r,P r->P (eQ r n)):∀r∈gt L n,P r:=by
 have a:∀i,∀r∈L.take i++jv n::L.drop i,P r:=λi r c=>by
  obtain b|b:=kf.1 c
  .exact h r (a6z b)
  .rcases cm.1 b with rfl|f
   .exact d
   .exact h r (a6N f)
 unfold gt pi;split
 .rename_i x g;split
  .intro r c;obtain b|rfl:=a7E c
   .exact h r b
   .exact e x (h x (a7o g))
  .split
   .exact a _
   .exact h
 .split
  .exact a _
  .exact h
def qU(e:aT):Prop:=(0<=e.addr/\e.addr<4294967296)/\db e.addr e.len=true/\f7 e.tag=true/\dZ e.met=true
def EQ{l k}(h:fj l k=none):∀e∈l,dw e=0:=by
 induction l generalizing k with
 |nil=>simp
 |cons e l a=>
  rw[fj]at h;split at h
  .rename_i h0;intro x b;obtain rfl|c:=cm.1 b
   .exact h0
   .exact a h x c
  .cases h
def El{e}(h:dw e=0):db e.addr e.len=true/\f7 e.tag=true/\dZ e.met=true:=by
 unfold dw at h;cases a:db e.addr e.len with
 |false=>rw[a]at h;simp at h
 |true=>
  cases b:f7 e.tag with
  |false=>rw[a,b]at h;simp at h
  |true=>
   cases c:dZ e.met with
   |false=>rw[a,b,c]at h;simp at h
   |true=>exact⟨rfl,rfl,rfl⟩
def Y3{b}(h:gD b=none):∀e∈eX b,qU e:=by
 obtain⟨a,_,d⟩:=a6c h;intro e c;refine⟨d e c,?_⟩;unfold eJ at a;split at a
 .cases a
 .split at a
  .cases a
  .first
    |exact El (EQ a e c)
    |(split at a<;>first|cases a|exact El (EQ a e c))
def FQ{e}(h:qU e)(az){a}(g:1<=a):mq (iG e az a):=by obtain⟨b,c,d,f⟩:=h;refine⟨b,c,d,?_⟩;simp only[dZ,dW,decide_eq_true_eq]at f;show dZ (min (e.met+a) 16)=true;simp only[dZ,dW,decide_eq_true_eq];omega
structure nb (L:List Rw):Prop where
 sorted:jy L
 len:L.length<=60
 ok:∀r∈L,jI r
 kX:fY L
def nb.take{L}(h:nb L){e}(b:qU e)(az:Nat){a}(c:1<=a):nb (gt L (iG e az a)):=
 ⟨Jc _ h.sorted,Ja _ _ h.len,jI.take h.ok (nZ.of e az a),I8 (P:=mq) h.kX (FQ b az c) (λ_ d=>d.heard (FQ b az c))⟩
def nb.heard{L}(h:nb L)(az:Nat){a}(c:1<=a){es}(b:∀e∈es,qU e):nb (eK L az a es):=by
 induction es generalizing L with
 |nil=>exact h
 |cons e es d=>exact d (h.take (b e (ga ..)) az c) (λx f=>b x (fJ _ f))
end Go.Proofs.q
end
