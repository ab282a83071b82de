/- What the small functions of the program and of the reference answer: each for every argument; they write nothing that was there. -/
import Derived.Test.YtdnpeefnobjfaaaGreatDoorProg
import Derived.Test.YtdnpeefnobjfaaaGreatDoorMath
import Derived.WalkKit
import Derived.WalkSpells
import Derived.WalkLawsBesides
import Derived.Deep.QuietTactic
import Derived.BigQuiet
namespace Go.Proofs.YtdnpeefnobjfaaaGreatDoor
open Go.RowKit

theorem ret_bool {a b : Bool} (h : a = b) : Ending.returned (.bool a) = .returned (.bool b) := by rw [h]
theorem ret_int {k : IntKind} {a b : Int} (h : a = b) : Ending.returned (.int k a) = .returned (.int k b) := by rw [h]

set_option maxHeartbeats 400000 in
theorem mask_any (a l : Int) (w : World) (h0 : 0 ≤ l) (h1 : l ≤ 32) :
    Calls Tryz.prog 127 #[.agg #[.int .u32 a, .int .i64 l]] w fun e w' => e = .returned (.int .u32 (4294967296 - 2 ^ (32 - l).toNat)) ∧ w' = w.alloc (.cells #[.int .u32 a, .int .i64 l] 32) := by
  go_enter Tryz.func127, Tryz.ntmps127
  go_wp2
  go_ret
  exact ⟨ret_int (mask_val _ (by omega)), rfl⟩

set_option maxHeartbeats 400000 in
theorem isMetric_any (n : Int) (w : World) :
    Calls Tryz.prog 174 #[.int .i64 n] w fun e w' => e = .returned (.bool (metB n)) ∧ w' = w := by
  go_enter Tryz.func174, Tryz.ntmps174
  go_wp2
  · go_ret
    exact ⟨ret_bool (by have h : 1 ≤ n := by assumption
                        simp [metB, h]), rfl⟩
  · go_ret
    exact ⟨ret_bool (by have h : n < 1 := by assumption
                        have h' : decide (1 ≤ n) = false := by simp; omega
                        simp [metB, h']), rfl⟩

set_option maxHeartbeats 400000 in
theorem isTag_any (n : Int) (w : World) :
    Calls Tryz.prog 173 #[.int .i64 n] w fun e w' => e = .returned (.bool (tagB n)) ∧ w' = w := by
  go_enter Tryz.func173, Tryz.ntmps173
  go_wp2
  · go_ret
    exact ⟨ret_bool (by have h : 0 ≤ n := by assumption
                        simp [tagB, h]), rfl⟩
  · go_ret
    exact ⟨ret_bool (by have h : n < 0 := by assumption
                        have h' : decide (0 ≤ n) = false := by simp; omega
                        simp [tagB, h']), rfl⟩

set_option maxHeartbeats 400000 in
theorem fault_any (e n : Int) (w : World) :
    Calls Tryz.prog 87 #[.int .i64 e, .int .i64 n] w fun r w' => r = .returned (.iface 180 (.pointer (some ⟨w.heap.size, 0, none⟩))) ∧ w' = w.alloc (.cells #[.int .i64 e, .int .i64 n] 203) := by
  go_enter Tryz.func87, Tryz.ntmps87
  go_wp2
  go_ret
  exact ⟨rfl, rfl⟩

set_option maxHeartbeats 400000 in
theorem num_any (e : Int) (w : World) :
    Calls Tryz.prog 113 #[.int .i64 e] w fun r w' => r = .returned (.int .i64 e) ∧ w' = w := by
  go_enter Tryz.func113, Tryz.ntmps113
  go_wp2
  go_ret
  exact ⟨rfl, rfl⟩

set_option maxHeartbeats 400000 in
theorem of_any (e n : Int) (w : World) :
    Calls Tryz.prog 161 #[.int .i64 e, .int .i64 n] w fun r w' => r = .returned (.agg #[.int .i64 e, .int .i64 n, .bool true]) ∧ Below w.heap.size w w' := by
  go_enter Tryz.func161, Tryz.ntmps161
  go_wp2
  exact bodyPost_ret (v := .agg #[.int .i64 e, .int .i64 n, .bool true]) (by simp [results, Tryz.results161, go_sem]) rfl ⟨rfl, (Below.refl _ _).alloc (Nat.le_refl _) _⟩

set_option maxHeartbeats 400000 in
theorem block_any (n : Int) (w : World) (h0 : 0 ≤ n) (h1 : n ≤ 32) :
    Calls Tryz.prog 159 #[.int .i64 n] w fun e w' => e = .returned (.int .i64 (2 ^ (32 - n).toNat)) ∧ w' = w := by
  go_enter Tryz.func159, Tryz.ntmps159
  go_wp2
  go_loop [3, 4] (fun b i => ∃ k : Int, n ≤ k ∧ k ≤ 32 ∧ i = .int .i64 k ∧ b = .int .i64 (2 ^ (k - n).toNat)) (fun _ i => (32 - intOf i).toNat)
  case atStart => exact ⟨n, by omega, by omega, rfl, by simp⟩
  case round =>
    obtain ⟨k, hk1, hk2, rfl, rfl⟩ := hrel
    have hp := pow_pos' (k - n).toNat
    have hl := pow_le32 (k - n).toNat (by omega)
    by_cases hlt : k < 32
    · go_wp2
      go_round
      case rel => exact ⟨k + 1, by omega, by omega, rfl, by rw [show (k + 1 - n).toNat = (k - n).toNat + 1 by omega, Int.pow_succ, Int.mul_comm]⟩
      case measure => simp [intOf]; omega
    · go_wp2
      go_ret
      exact ⟨ret_int (by rw [show k = 32 by omega]), rfl⟩

end Go.Proofs.YtdnpeefnobjfaaaGreatDoor
