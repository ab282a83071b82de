/- What the small functions of the program and of the reference answer: each for every argument; they write nothing that was there. -/
import Derived.Test.YtdnpeefnobjfaaaProg
import Derived.Test.YtdnpeefnobjfaaaMath
import Derived.WalkKit
import Derived.WalkSpells
import Derived.WalkLawsBesides
import Derived.Deep.QuietTactic
import Derived.BigQuiet
namespace Go.Proofs.Ytdnpeefnobjfaaa
open Go.RowKit

theorem ret_bool {a b : Bool} (h : a = b) : Ending.returned (.bool a) = .returned (.bool b) := by rw [h]
theorem ret_int {k : IntKind} {a b : Int} (h : a = b) : Ending.returned (.int k a) = .returned (.int k b) := by rw [h]

set_option maxHeartbeats 400000 in
theorem mask_any (a l : Int) (w : World) (h0 : 0 ≤ l) (h1 : l ≤ 32) :
    Calls Try.prog 69 #[.agg #[.int .u32 a, .int .i64 l]] w fun e w' => e = .returned (.int .u32 (4294967296 - 2 ^ (32 - l).toNat)) ∧ w' = w.alloc (.cells #[.int .u32 a, .int .i64 l] 40) := by
  go_enter Try.func69, Try.ntmps69
  go_wp2
  go_ret
  exact ⟨ret_int (mask_val _ (by omega)), rfl⟩

set_option maxHeartbeats 400000 in
theorem isMetric_any (n : Int) (w : World) :
    Calls Try.prog 65 #[.int .i64 n] w fun e w' => e = .returned (.bool (metB n)) ∧ w' = w := by
  go_enter Try.func65, Try.ntmps65
  go_wp2
  · go_ret
    exact ⟨ret_bool (by have h : 1 ≤ n := by assumption
                        simp [metB, h]), rfl⟩
  · go_ret
    exact ⟨ret_bool (by have h : n < 1 := by assumption
                        have h' : decide (1 ≤ n) = false := by simp; omega
                        simp [metB, h']), rfl⟩

set_option maxHeartbeats 400000 in
theorem isTag_any (n : Int) (w : World) :
    Calls Try.prog 66 #[.int .i64 n] w fun e w' => e = .returned (.bool (tagB n)) ∧ w' = w := by
  go_enter Try.func66, Try.ntmps66
  go_wp2
  · go_ret
    exact ⟨ret_bool (by have h : 0 ≤ n := by assumption
                        simp [tagB, h]), rfl⟩
  · go_ret
    exact ⟨ret_bool (by have h : n < 0 := by assumption
                        have h' : decide (0 ≤ n) = false := by simp; omega
                        simp [tagB, h']), rfl⟩

set_option maxHeartbeats 400000 in
theorem fault_any (e n : Int) (w : World) :
    Calls Try.prog 26 #[.int .i64 e, .int .i64 n] w fun r w' => r = .returned (.iface 87 (.pointer (some ⟨w.heap.size, 0, none⟩))) ∧ w' = w.alloc (.cells #[.int .i64 e, .int .i64 n] 89) := by
  go_enter Try.func26, Try.ntmps26
  go_wp2
  go_ret
  exact ⟨rfl, rfl⟩

set_option maxHeartbeats 400000 in
theorem num_any (e : Int) (w : World) :
    Calls Try.prog 31 #[.int .i64 e] w fun r w' => r = .returned (.int .i64 e) ∧ w' = w := by
  go_enter Try.func31, Try.ntmps31
  go_wp2
  go_ret
  exact ⟨rfl, rfl⟩

set_option maxHeartbeats 400000 in
theorem of_any (e n : Int) (w : World) :
    Calls Try.prog 28 #[.int .i64 e, .int .i64 n] w fun r w' => r = .returned (.agg #[.int .i64 e, .int .i64 n, .bool true]) ∧ Below w.heap.size w w' := by
  go_enter Try.func28, Try.ntmps28
  go_wp2
  exact bodyPost_ret (v := .agg #[.int .i64 e, .int .i64 n, .bool true]) (by simp [results, Try.results28, go_sem]) rfl ⟨rfl, (Below.refl _ _).alloc (Nat.le_refl _) _⟩

set_option maxHeartbeats 400000 in
theorem block_any (n : Int) (w : World) (h0 : 0 ≤ n) (h1 : n ≤ 32) :
    Calls Try.prog 47 #[.int .i64 n] w fun e w' => e = .returned (.int .i64 (2 ^ (32 - n).toNat)) ∧ w' = w := by
  go_enter Try.func47, Try.ntmps47
  go_wp2
  go_loop [3, 4] (fun b i => ∃ k : Int, n ≤ k ∧ k ≤ 32 ∧ i = .int .i64 k ∧ b = .int .i64 (2 ^ (k - n).toNat)) (fun _ i => (32 - intOf i).toNat)
  case atStart => exact ⟨n, by omega, by omega, rfl, by simp⟩
  case round =>
    obtain ⟨k, hk1, hk2, rfl, rfl⟩ := hrel
    have hp := pow_pos' (k - n).toNat
    have hl := pow_le32 (k - n).toNat (by omega)
    by_cases hlt : k < 32
    · go_wp2
      go_round
      case rel => exact ⟨k + 1, by omega, by omega, rfl, by rw [show (k + 1 - n).toNat = (k - n).toNat + 1 by omega, Int.pow_succ, Int.mul_comm]⟩
      case measure => simp [intOf]; omega
    · go_wp2
      go_ret
      exact ⟨ret_int (by rw [show k = 32 by omega]), rfl⟩

end Go.Proofs.Ytdnpeefnobjfaaa
