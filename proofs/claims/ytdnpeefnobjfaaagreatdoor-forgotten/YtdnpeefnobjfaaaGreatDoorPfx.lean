/- What prefix.Is, milepostref.IsPrefix and packet.checkEntry answer. -/
import Derived.Test.YtdnpeefnobjfaaaGreatDoorLeaf
import Derived.Test.YtdnpeefnobjfaaaGreatDoorGrow
import Derived.Deep.RegionHeld3
import Derived.Deep.DrawnRows
namespace Go.Proofs.YtdnpeefnobjfaaaGreatDoor
open Go.RowKit
attribute [local go_sem ↓] Go.wp_at_zero Go.wp_at_succ

set_option maxHeartbeats 400000 in
theorem Is_lo (a l : Int) (w : World) (h : l < 0) :
    Calls Tryz.prog 77 #[.agg #[.int .u32 a, .int .i64 l]] w fun e w' => e = .returned (.bool (pfxB a l)) ∧ Grows w w' := by
  have hd : decide (0 ≤ l) = false := by simp; omega
  have hv : Hid (pfxB a l = false) := pfx_lo h
  go_enter Tryz.func77, Tryz.ntmps77
  go_wp2_with fail
  go_quiet (fail)
  go_wp2
  go_ret
  exact ⟨ret_bool hv.out.symm, ((Grows.refl _).alloc _).drewN _⟩

set_option maxHeartbeats 400000 in
theorem Is_hi (a l : Int) (w : World) (h : 32 < l) :
    Calls Tryz.prog 77 #[.agg #[.int .u32 a, .int .i64 l]] w fun e w' => e = .returned (.bool (pfxB a l)) ∧ Grows w w' := by
  have hd0 : 0 ≤ l := by omega
  have hd : decide (l ≤ 32) = false := by simp; omega
  have hv : Hid (pfxB a l = false) := pfx_hi h
  go_enter Tryz.func77, Tryz.ntmps77
  go_wp2_with fail
  go_quiet (fail)
  go_wp2
  go_ret
  exact ⟨ret_bool hv.out.symm, ((Grows.refl _).alloc _).drewN _⟩

set_option maxHeartbeats 400000 in
theorem Is_in (a l : Int) (w : World) (h0 : 0 ≤ l) (h1 : l ≤ 32) (ha : 0 ≤ a) (ha' : a < 4294967296) :
    Calls Tryz.prog 77 #[.agg #[.int .u32 a, .int .i64 l]] w fun e w' => e = .returned (.bool (pfxB a l)) ∧ Grows w w' := by
  go_enter Tryz.func77, Tryz.ntmps77
  go_wp2_with fail
  go_region_held3 (fun w' => w'.cell? ⟨w.heap.size, 0, none⟩ = some (.int .u32 a) ∧ w'.cell? ⟨w.heap.size, 1, none⟩ = some (.int .i64 l)) (go_keep)
    (first | (go_at_call 127; refine (mask_any a l _ h0 h1).mono ?_; rintro e w' ⟨rfl, rfl⟩))
  all_goals go_wp2
  all_goals go_ret
  all_goals refine ⟨ret_bool ?_, (((Grows.refl _).alloc _).alloc _).drew⟩
  all_goals rw [pfx_in h0 h1, u32_andNot _ _ ha ha' (by have := pow_le32 (32 - l).toNat (by omega); omega) (by have := pow_pos' (32 - l).toNat; omega), andNot_mask _ _ (by omega) ha]

theorem Is_grows (a l : Int) (w : World) (ha : 0 ≤ a) (ha' : a < 4294967296) :
    Calls Tryz.prog 77 #[.agg #[.int .u32 a, .int .i64 l]] w fun e w' => e = .returned (.bool (pfxB a l)) ∧ Grows w w' := by
  by_cases h0 : 0 ≤ l
  · by_cases h1 : l ≤ 32
    · exact Is_in a l w h0 h1 ha ha'
    · exact Is_hi a l w (by omega)
  · exact Is_lo a l w (by omega)

theorem Is_any (a l : Int) (w : World) (ha : 0 ≤ a) (ha' : a < 4294967296) :
    Calls Tryz.prog 77 #[.agg #[.int .u32 a, .int .i64 l]] w fun e w' => e = .returned (.bool (pfxB a l)) ∧ Below w.heap.size w w' :=
  (Is_grows a l w ha ha').mono fun _ _ ⟨h, g⟩ => ⟨h, g.below⟩

set_option maxHeartbeats 400000 in
theorem IsPrefix_lo (a l : Int) (w : World) (h : l < 0) :
    Calls Tryz.prog 110 #[.agg #[.int .u32 a, .int .i64 l]] w fun e w' => e = .returned (.bool (pfxB a l)) ∧ Below w.heap.size w w' := by
  have hd : decide (0 ≤ l) = false := by simp; omega
  have hv : Hid (pfxB a l = false) := pfx_lo h
  go_enter Tryz.func110, Tryz.ntmps110
  go_wp2_with fail
  go_quiet (fail)
  go_wp2
  go_ret
  exact ⟨ret_bool hv.out.symm, below_drewN ((Below.refl _ _).alloc (Nat.le_refl _) _) _⟩

set_option maxHeartbeats 400000 in
theorem IsPrefix_hi (a l : Int) (w : World) (h : 32 < l) :
    Calls Tryz.prog 110 #[.agg #[.int .u32 a, .int .i64 l]] w fun e w' => e = .returned (.bool (pfxB a l)) ∧ Below w.heap.size w w' := by
  have hd0 : 0 ≤ l := by omega
  have hd : decide (l ≤ 32) = false := by simp; omega
  have hv : Hid (pfxB a l = false) := pfx_hi h
  go_enter Tryz.func110, Tryz.ntmps110
  go_wp2_with fail
  go_quiet (fail)
  go_wp2
  go_ret
  exact ⟨ret_bool hv.out.symm, below_drewN ((Below.refl _ _).alloc (Nat.le_refl _) _) _⟩

set_option maxHeartbeats 400000 in
theorem IsPrefix_in (a l : Int) (w : World) (h0 : 0 ≤ l) (h1 : l ≤ 32) (ha : 0 ≤ a) (ha' : a < 4294967296) :
    Calls Tryz.prog 110 #[.agg #[.int .u32 a, .int .i64 l]] w fun e w' => e = .returned (.bool (pfxB a l)) ∧ Below w.heap.size w w' := by
  have hp := pow_pos' (32 - l).toNat
  have hl := pow_le32 (32 - l).toNat (by omega)
  go_enter Tryz.func110, Tryz.ntmps110
  go_wp2_with fail
  go_quiet ((go_at_call 159; exact Calls.quiet_of_same (block_any _ _ h0 h1)))
  go_wp2
  go_ret
  refine ⟨ret_bool ?_, below_drewN ((Below.refl _ _).alloc (Nat.le_refl _) _) _⟩
  rw [pfx_in h0 h1, Bool.eq_iff_iff]
  simp

theorem IsPrefix_any (a l : Int) (w : World) (ha : 0 ≤ a) (ha' : a < 4294967296) :
    Calls Tryz.prog 110 #[.agg #[.int .u32 a, .int .i64 l]] w fun e w' => e = .returned (.bool (pfxB a l)) ∧ Below w.heap.size w w' := by
  by_cases h0 : 0 ≤ l
  · by_cases h1 : l ≤ 32
    · exact IsPrefix_in a l w h0 h1 ha ha'
    · exact IsPrefix_hi a l w (by omega)
  · exact IsPrefix_lo a l w (by omega)

end Go.Proofs.YtdnpeefnobjfaaaGreatDoor
