import Derived.Test.YtdnpeefnobjfaaaGreatDoorK25
import Derived.Test.YtdnpeefnobjfaaaGreatDoorK30
set_option maxRecDepth 100000
set_option maxHeartbeats 4000000
set_option linter.all false
section
namespace Go.Proofs.q
open Go.RowKit Go.Shelf
def Ju{w:aa}{b e d n cap:Nat}{ao:Option aF}{f:List aj}(h:w.ownsRow b e d (.slice ao n cap) n f)(h0:0<n):∃g,ao=some ⟨g,0,none⟩/\g<w.heap.size:=by
 obtain⟨_,⟨_,a⟩|⟨g,c,i,a,_,j,_⟩⟩:=h
 .omega
 .cases a;exact⟨g,rfl,(bz.1 j).1⟩
def CQ{w:aa}{b e c n cap g j:Nat}{a:List aj}{u:aj}(h:w.ownsRow b e c (.slice (some ⟨g,0,none⟩) n cap) n a)(d:a[j]?=some u):w.cell? ⟨g,j,none⟩=some u:=by
 have:=h.cells (g:=g) rfl j u d
 rwa [show(⟨g,0,none⟩:aF).add j=⟨g,j,none⟩by unfold Addr.add;split<;>simp_all]at this
end Go.Proofs.q
end
