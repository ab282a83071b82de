/- milepostlaw.agree says yes where the program's error is the reference's. -/
import Derived.Test.YtdnpeefnobjfaaaRefEnc
namespace Go.Proofs.Ytdnpeefnobjfaaa
open Go.RowKit

set_option maxHeartbeats 400000 in
theorem agree_none (w : World) :
    Calls Try.prog 14 #[.nilIface, refF none] w fun e w' => e = .returned (.bool true) ∧ Below w.heap.size w w' := by
  unfold refF
  go_enter Try.func14, Try.ntmps14
  go_wp2
  go_ret
  exact ⟨rfl, below_new _ _⟩

theorem assert_errno (b : Nat) (W : World) : (Instr.typeAssert (.iface 87 (.pointer (some ⟨b, 0, none⟩))) 35 79 true).run Try.prog W = .ok (.tuple #[.int .i64 0, .bool false]) W := by kernel_rfl
theorem assert_fault (b : Nat) (W : World) : (Instr.typeAssert (.iface 87 (.pointer (some ⟨b, 0, none⟩))) 35 87 true).run Try.prog W = .ok (.tuple #[.pointer (some ⟨b, 0, none⟩), .bool true]) W := by kernel_rfl

set_option maxHeartbeats 400000 in
theorem agree_some (w : World) (b : Nat) (x n : Int) (h0 : w.cell? ⟨b, 0, none⟩ = some (.int .i64 x)) (h1 : w.cell? ⟨b, 1, none⟩ = some (.int .i64 n)) :
    Calls Try.prog 14 #[.iface 87 (.pointer (some ⟨b, 0, none⟩)), refF (some (x, n))] w fun e w' => e = .returned (.bool true) ∧ Below w.heap.size w w' := by
  have hlt := World.block_lt_of_cell? w _ h0
  have t1 := assert_errno b
  have t2 := assert_fault b
  unfold refF
  go_enter Try.func14, Try.ntmps14
  go_wp2_with fail
  go_quiet ((go_at_call 31; exact Calls.quiet_of_same (num_any _ _)))
  go_wp2
  go_ret
  exact ⟨rfl, below_drewN (below_new _ _) _⟩

theorem agree_any (w : World) (v : Value) (x : Option (Int × Int)) (h : errIs w v x) :
    Calls Try.prog 14 #[v, refF x] w fun e w' => e = .returned (.bool true) ∧ Below w.heap.size w w' := by
  cases x with
  | none => obtain rfl : v = .nilIface := h; exact agree_none w
  | some y => obtain ⟨b, rfl, h0, h1⟩ := h; exact agree_some w b y.1 y.2 h0 h1

end Go.Proofs.Ytdnpeefnobjfaaa
