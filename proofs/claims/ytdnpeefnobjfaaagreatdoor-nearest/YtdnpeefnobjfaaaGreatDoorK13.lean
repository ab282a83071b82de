import Derived.Deep.DeepCutAuto
import Derived.Deep.RegionLaw
import Derived.Test.YtdnpeefnobjfaaaGreatDoorK12
set_option maxRecDepth 100000
set_option maxHeartbeats 4000000
set_option linter.all false
section
namespace Go.Proofs.q
open Go.RowKit
attribute [local go_sem ↓] Go.wp_at_zero Go.wp_at_succ
def XI(m:Int):cR:=⟨0,0,m,0⟩
def Cp(w:aa)(g:Nat)(L:List cR)(q:Nat)(m:Int):Prop:=
 ∃a,w.heap[g]?=some (.cells a 42 (0,0))/\∀k,(h:k<L.length)->xe a (k*4) (if k<q then XI m else L[k])
end Go.Proofs.q
end
