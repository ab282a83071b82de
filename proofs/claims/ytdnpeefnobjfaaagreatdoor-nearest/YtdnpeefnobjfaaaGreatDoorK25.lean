import Derived.Test.YtdnpeefnobjfaaaGreatDoorK23
set_option maxRecDepth 100000
set_option maxHeartbeats 4000000
set_option linter.all false
section
namespace Go.Proofs.q
open Go.RowKit Go.Shelf Go.Lib
attribute [local go_sem ↓] Go.wp_at_zero Go.wp_at_succ
def Bo(w:aa):Prop:=w.cell? ⟨0,0,none⟩=some (.iface 288 (.agg #[.pointer (some ⟨1,35,none⟩)]))
end Go.Proofs.q
end
