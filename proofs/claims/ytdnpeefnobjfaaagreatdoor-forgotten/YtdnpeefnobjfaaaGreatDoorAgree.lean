/- milepostlaw.agree says yes where the program's error is the reference's. -/
import Derived.Test.YtdnpeefnobjfaaaGreatDoorRefEnc
namespace Go.Proofs.YtdnpeefnobjfaaaGreatDoor
open Go.RowKit

set_option maxHeartbeats 400000 in
theorem agree_none (w : World) :
    Calls Tryz.prog 64 #[.nilIface, refF none] w fun e w' => e = .returned (.bool true) ∧ Below w.heap.size w w' := by
  unfold refF
  go_enter Tryz.func64, Tryz.ntmps64
  go_wp2
  go_ret
  exact ⟨rfl, below_new _ _⟩

theorem assert_errno (b : Nat) (W : World) : (Instr.typeAssert (.iface 180 (.pointer (some ⟨b, 0, none⟩))) 35 102 true).run Tryz.prog W = .ok (.tuple #[.int .i64 0, .bool false]) W := by kernel_rfl
theorem assert_fault (b : Nat) (W : World) : (Instr.typeAssert (.iface 180 (.pointer (some ⟨b, 0, none⟩))) 35 180 true).run Tryz.prog W = .ok (.tuple #[.pointer (some ⟨b, 0, none⟩), .bool true]) W := by kernel_rfl

set_option maxHeartbeats 400000 in
theorem agree_some (w : World) (b : Nat) (x n : Int) (h0 : w.cell? ⟨b, 0, none⟩ = some (.int .i64 x)) (h1 : w.cell? ⟨b, 1, none⟩ = some (.int .i64 n)) :
    Calls Tryz.prog 64 #[.iface 180 (.pointer (some ⟨b, 0, none⟩)), refF (some (x, n))] w fun e w' => e = .returned (.bool true) ∧ Below w.heap.size w w' := by
  have hlt := World.block_lt_of_cell? w _ h0
  have t1 := assert_errno b
  have t2 := assert_fault b
  unfold refF
  go_enter Tryz.func64, Tryz.ntmps64
  go_wp2_with fail
  go_quiet ((go_at_call 113; exact Calls.quiet_of_same (num_any _ _)))
  go_wp2
  go_ret
  exact ⟨rfl, below_drewN (below_new _ _) _⟩

theorem agree_any (w : World) (v : Value) (x : Option (Int × Int)) (h : errIs w v x) :
    Calls Tryz.prog 64 #[v, refF x] w fun e w' => e = .returned (.bool true) ∧ Below w.heap.size w w' := by
  cases x with
  | none => obtain rfl : v = .nilIface := h; exact agree_none w
  | some y => obtain ⟨b, rfl, h0, h1⟩ := h; exact agree_some w b y.1 y.2 h0 h1

end Go.Proofs.YtdnpeefnobjfaaaGreatDoor
