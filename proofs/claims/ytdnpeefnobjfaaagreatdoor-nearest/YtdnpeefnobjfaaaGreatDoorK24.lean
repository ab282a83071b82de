import Derived.Test.YtdnpeefnobjfaaaGreatDoorK13
import Derived.Test.YtdnpeefnobjfaaaGreatDoorK20
import Derived.Test.YtdnpeefnobjfaaaGreatDoorK22
set_option maxRecDepth 100000
set_option maxHeartbeats 4000000
set_option linter.all false
section
namespace Go.Proofs.q
open Go.RowKit Go.Shelf
attribute [local go_sem ↓] Go.wp_at_zero Go.wp_at_succ
structure NT (r:Rw):Prop where
 met:r.met<=16
 an: -1<=r.an
 a8b:0<=r.bi
 bi:r.bi<180
 dead:r.met=16->r.bi<120
end Go.Proofs.q
end
section
namespace Go.Proofs.q
open Go.RowKit Go.Shelf
def Ek(e:cR):Prop:=(0<=e.addr/\e.addr<4294967296)/\dn e.addr e.len=true/\kz e.tag=true/\fH e.met=true
def Ha{l k}(h:gM l k=none):∀e∈l,fE e=0:=by
 induction l generalizing k with
 |nil=>simp
 |cons e l a=>
  rw[gM]at h;split at h
  .rename_i h0;intro x b;obtain rfl|c:=dj.1 b
   .exact h0
   .exact a h x c
  .cases h
def Gr{e}(h:fE e=0):dn e.addr e.len=true/\kz e.tag=true/\fH e.met=true:=by
 unfold fE at h;cases a:dn e.addr e.len with
 |false=>rw[a]at h;simp at h
 |true=>
  cases b:kz e.tag with
  |false=>rw[a,b]at h;simp at h
  |true=>
   cases c:fH e.met with
   |false=>rw[a,b,c]at h;simp at h
   |true=>exact⟨rfl,rfl,rfl⟩
def a1l{b}(h:f9 b=none):∀e∈eE b,Ek e:=by
 obtain⟨a,_,d⟩:=a9I h;intro e c;refine⟨d e c,?_⟩;unfold oR at a;split at a
 .cases a
 .split at a
  .cases a
  .first
    |exact Gr (Ha a e c)
    |(split at a<;>first|cases a|exact Gr (Ha a e c))
def Ld{L f}(a:∀r,aM (f r)=aM r)(h:eX L):eX (L.map f):=by unfold eX at h⊢;rw[List.pairwise_map];simpa only[a]using h
structure rH (L:List Rw):Prop where
 sorted:eX L
 len:L.length<=60
 ok:∀r∈L,NT r
 uL:jb L
end Go.Proofs.q
end
