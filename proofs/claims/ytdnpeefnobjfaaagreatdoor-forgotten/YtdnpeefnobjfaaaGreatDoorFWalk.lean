/- The law Forgotten's small functions: pick, prefix. -/
import Derived.Test.YtdnpeefnobjfaaaGreatDoorTReceive
import Derived.Test.YtdnpeefnobjfaaaGreatDoorFMath
import Derived.Test.YtdnpeefnobjfaaaGreatDoorRMath
namespace Go.Proofs.YtdnpeefnobjfaaaGreatDoor
open Go.RowKit Go.Shelf Go.Lib
attribute [local go_sem ↓] Go.wp_at_zero Go.wp_at_succ

def pickI (c n : Int) : Int := (if c < 0 then -(c + 1) else c) % n
theorem pickI_range (c n : Int) (hn : 0 < n) : 0 ≤ pickI c n ∧ pickI c n < n := by
  unfold pickI
  exact ⟨Int.emod_nonneg _ (by omega), Int.emod_lt_of_pos _ hn⟩

theorem wrap_in (n : Int) (h0 : -9223372036854775808 ≤ n) (h1 : n < 9223372036854775808) : IntKind.i64.wrap n = n := by
  by_cases h : 0 ≤ n
  · exact wrap_small n h h1
  · unfold IntKind.wrap
    simp [IntKind.bits, IntKind.signed]
    omega

set_option maxHeartbeats 1000000 in
theorem pick_any (c n : Int) (w : World) (hn : 0 < n) (hn' : n ≤ 1000) (h0 : -9223372036854775808 ≤ c) (h1 : c < 9223372036854775808) :
    Calls Tryz.prog 15 #[.int .i64 c, .int .i64 n] w fun e w' => e = .returned (.int .i64 (pickI c n)) ∧ w' = w := by
  have hne : ¬ n = 0 := by omega
  by_cases hc : c < 0
  · have hw1 : IntKind.i64.wrap (c + 1) = c + 1 := wrap_in _ (by omega) (by omega)
    have hw2 : IntKind.i64.wrap (-(c + 1)) = -(c + 1) := wrap_small _ (by omega) (by omega)
    have hd : pickI c n = -((c + 1).tmod n) := by
      unfold pickI
      rw [if_pos hc, ← Int.neg_tmod, Int.tmod_eq_emod_of_nonneg (by omega)]
    have hr := pickI_range c n hn
    have hw3 : IntKind.i64.wrap (-((c + 1).tmod n)) = -((c + 1).tmod n) := by rw [← hd]; exact wrap_in _ (by omega) (by omega)
    rw [hd]
    clear hd hr
    go_enter Tryz.func15, Tryz.ntmps15
    go_wp2
    go_ret
    exact ⟨rfl, rfl⟩
  · have hd : pickI c n = c % n := by
      unfold pickI
      rw [if_neg hc]
    have hr := pickI_range c n hn
    have hw3 : IntKind.i64.wrap (c % n) = c % n := by rw [← hd]; exact wrap_in _ (by omega) (by omega)
    rw [hd]
    clear hd hr
    go_enter Tryz.func15, Tryz.ntmps15
    go_wp2
    go_ret
    exact ⟨rfl, rfl⟩

set_option maxHeartbeats 1000000 in
theorem prefix0_any (w : World) :
    Calls Tryz.prog 12 #[.int .i64 0] w fun e w' => e = .returned (.agg #[.int .u32 16777216, .int .i64 8]) ∧ Grows w w' := by
  go_enter Tryz.func12, Tryz.ntmps12
  go_wp2
  exact bodyPost_ret (v := .agg #[.int .u32 16777216, .int .i64 8]) (by simp [results, Tryz.results12, go_sem]) rfl ⟨rfl, (Grows.refl w).alloc _⟩

end Go.Proofs.YtdnpeefnobjfaaaGreatDoor
