/- What prefix.Is, milepostref.IsPrefix and packet.checkEntry answer. -/
import Derived.Test.YtdnpeefnobjfaaaGreatDoorMathM
import Derived.Deep.RegionHeld3
import Derived.Deep.DrawnRows
namespace Go.Proofs.YtdnpeefnobjfaaaGreatDoor
open Go.RowKit
attribute [local go_sem ↓] Go.wp_at_zero Go.wp_at_succ

set_option maxHeartbeats 400000 in
theorem Is_lo (a l : Int) (w : World) (h : l < 0) :
    Calls Tryz.prog 77 #[.agg #[.int .u32 a, .int .i64 l]] w fun e w' => e = .returned (.bool (pfxB a l)) ∧ Grows w w' := by
  have hd : decide (0 ≤ l) = false := by simp; omega
  have hv : Hid (pfxB a l = false) := pfx_lo h
  go_enter Tryz.func77, Tryz.ntmps77
  go_wp2_with fail
  go_quiet (fail)
  go_wp2
  go_ret
  exact ⟨ret_bool hv.out.symm, ((Grows.refl _).alloc _).drewN _⟩

set_option maxHeartbeats 400000 in
theorem Is_hi (a l : Int) (w : World) (h : 32 < l) :
    Calls Tryz.prog 77 #[.agg #[.int .u32 a, .int .i64 l]] w fun e w' => e = .returned (.bool (pfxB a l)) ∧ Grows w w' := by
  have hd0 : 0 ≤ l := by omega
  have hd : decide (l ≤ 32) = false := by simp; omega
  have hv : Hid (pfxB a l = false) := pfx_hi h
  go_enter Tryz.func77, Tryz.ntmps77
  go_wp2_with fail
  go_quiet (fail)
  go_wp2
  go_ret
  exact ⟨ret_bool hv.out.symm, ((Grows.refl _).alloc _).drewN _⟩

set_option maxHeartbeats 400000 in
theorem Is_in (a l : Int) (w : World) (h0 : 0 ≤ l) (h1 : l ≤ 32) (ha : 0 ≤ a) (ha' : a < 4294967296) :
    Calls Tryz.prog 77 #[.agg #[.int .u32 a, .int .i64 l]] w fun e w' => e = .returned (.bool (pfxB a l)) ∧ Grows w w' := by
  go_enter Tryz.func77, Tryz.ntmps77
  go_wp2_with fail
  go_region_held3 (fun w' => w'.cell? ⟨w.heap.size, 0, none⟩ = some (.int .u32 a) ∧ w'.cell? ⟨w.heap.size, 1, none⟩ = some (.int .i64 l)) (go_keep)
    (first | (go_at_call 127; refine (mask_any a l _ h0 h1).mono ?_; rintro e w' ⟨rfl, rfl⟩))
  all_goals go_wp2
  all_goals go_ret
  all_goals refine ⟨ret_bool ?_, (((Grows.refl _).alloc _).alloc _).drew⟩
  all_goals rw [pfx_in h0 h1, u32_andNot _ _ ha ha' (by have := pow_le32 (32 - l).toNat (by omega); omega) (by have := pow_pos' (32 - l).toNat; omega), andNot_mask _ _ (by omega) ha]

theorem Is_grows (a l : Int) (w : World) (ha : 0 ≤ a) (ha' : a < 4294967296) :
    Calls Tryz.prog 77 #[.agg #[.int .u32 a, .int .i64 l]] w fun e w' => e = .returned (.bool (pfxB a l)) ∧ Grows w w' := by
  by_cases h0 : 0 ≤ l
  · by_cases h1 : l ≤ 32
    · exact Is_in a l w h0 h1 ha ha'
    · exact Is_hi a l w (by omega)
  · exact Is_lo a l w (by omega)

theorem Is_any (a l : Int) (w : World) (ha : 0 ≤ a) (ha' : a < 4294967296) :
    Calls Tryz.prog 77 #[.agg #[.int .u32 a, .int .i64 l]] w fun e w' => e = .returned (.bool (pfxB a l)) ∧ Below w.heap.size w w' :=
  (Is_grows a l w ha ha').mono fun _ _ ⟨h, g⟩ => ⟨h, g.below⟩

set_option maxHeartbeats 400000 in
theorem IsPrefix_lo (a l : Int) (w : World) (h : l < 0) :
    Calls Tryz.prog 110 #[.agg #[.int .u32 a, .int .i64 l]] w fun e w' => e = .returned (.bool (pfxB a l)) ∧ Below w.heap.size w w' := by
  have hd : decide (0 ≤ l) = false := by simp; omega
  have hv : Hid (pfxB a l = false) := pfx_lo h
  go_enter Tryz.func110, Tryz.ntmps110
  go_wp2_with fail
  go_quiet (fail)
  go_wp2
  go_ret
  exact ⟨ret_bool hv.out.symm, below_drewN ((Below.refl _ _).alloc (Nat.le_refl _) _) _⟩

set_option maxHeartbeats 400000 in
theorem IsPrefix_hi (a l : Int) (w : World) (h : 32 < l) :
    Calls Tryz.prog 110 #[.agg #[.int .u32 a, .int .i64 l]] w fun e w' => e = .returned (.bool (pfxB a l)) ∧ Below w.heap.size w w' := by
  have hd0 : 0 ≤ l := by omega
  have hd : decide (l ≤ 32) = false := by simp; omega
  have hv : Hid (pfxB a l = false) := pfx_hi h
  go_enter Tryz.func110, Tryz.ntmps110
  go_wp2_with fail
  go_quiet (fail)
  go_wp2
  go_ret
  exact ⟨ret_bool hv.out.symm, below_drewN ((Below.refl _ _).alloc (Nat.le_refl _) _) _⟩

set_option maxHeartbeats 400000 in
theorem IsPrefix_in (a l : Int) (w : World) (h0 : 0 ≤ l) (h1 : l ≤ 32) (ha : 0 ≤ a) (ha' : a < 4294967296) :
    Calls Tryz.prog 110 #[.agg #[.int .u32 a, .int .i64 l]] w fun e w' => e = .returned (.bool (pfxB a l)) ∧ Below w.heap.size w w' := by
  have hp := pow_pos' (32 - l).toNat
  have hl := pow_le32 (32 - l).toNat (by omega)
  go_enter Tryz.func110, Tryz.ntmps110
  go_wp2_with fail
  go_quiet ((go_at_call 159; exact Calls.quiet_of_same (block_any _ _ h0 h1)))
  go_wp2
  go_ret
  refine ⟨ret_bool ?_, below_drewN ((Below.refl _ _).alloc (Nat.le_refl _) _) _⟩
  rw [pfx_in h0 h1, Bool.eq_iff_iff]
  simp

theorem IsPrefix_any (a l : Int) (w : World) (ha : 0 ≤ a) (ha' : a < 4294967296) :
    Calls Tryz.prog 110 #[.agg #[.int .u32 a, .int .i64 l]] w fun e w' => e = .returned (.bool (pfxB a l)) ∧ Below w.heap.size w w' := by
  by_cases h0 : 0 ≤ l
  · by_cases h1 : l ≤ 32
    · exact IsPrefix_in a l w h0 h1 ha ha'
    · exact IsPrefix_hi a l w (by omega)
  · exact IsPrefix_lo a l w (by omega)

end Go.Proofs.YtdnpeefnobjfaaaGreatDoor

/- The order of prefixes: what cmp.Compare, cmp.Or and prefix.Compare answer; prefixes and routes as numbers. -/
namespace Go.Proofs.YtdnpeefnobjfaaaGreatDoor
open Go.RowKit Go.Sort
attribute [local go_sem ↓] Go.wp_at_zero Go.wp_at_succ

/-- A cell of the block that was laid last. -/
theorem cell_top (W : World) (cs : Array Value) (t : TypeId) {B i : Nat} {v : Value} (hB : B = W.heap.size) (h : cs[i]? = some v) : (W.alloc (.cells cs t)).cell? ⟨B, i, none⟩ = some v := by
  subst hB
  simpa using h

/-- -1, 0 or 1. -/
def cmpI (a b : Int) : Int := if a < b then -1 else if b < a then 1 else 0
theorem cmpI_lt {a b : Int} (h : a < b) : cmpI a b = -1 := by simp [cmpI, h]
theorem cmpI_gt {a b : Int} (h : b < a) : cmpI a b = 1 := by simp [cmpI, h]; omega
theorem cmpI_eq {a b : Int} (h : a = b) : cmpI a b = 0 := by simp [cmpI, h]

/-- A prefix, by its two numbers. -/
structure Pf where
  addr : Int
  len : Int
deriving DecidableEq, Inhabited
def pfVals (p : Pf) : List Value := [.int .u32 p.addr, .int .i64 p.len]
def cmpP (p q : Pf) : Int := if cmpI p.addr q.addr ≠ 0 then cmpI p.addr q.addr else cmpI p.len q.len

set_option maxHeartbeats 400000 in
theorem cmpU_any (a b : Int) (w : World) : Calls Tryz.prog 133 #[.int .u32 a, .int .u32 b] w fun e w' => e = .returned (.int .i64 (cmpI a b)) ∧ w' = w := by
  by_cases h1 : a < b
  · rw [cmpI_lt h1]
    go_enter Tryz.func133, Tryz.ntmps133
    go_wp2
    go_ret
    exact ⟨rfl, rfl⟩
  · by_cases h2 : b < a
    · rw [cmpI_gt h2]
      go_enter Tryz.func133, Tryz.ntmps133
      go_wp2
      go_ret
      exact ⟨rfl, rfl⟩
    · rw [cmpI_eq (by omega)]
      go_enter Tryz.func133, Tryz.ntmps133
      go_wp2
      go_ret
      exact ⟨rfl, rfl⟩

set_option maxHeartbeats 400000 in
theorem cmpN_any (a b : Int) (w : World) : Calls Tryz.prog 134 #[.int .i64 a, .int .i64 b] w fun e w' => e = .returned (.int .i64 (cmpI a b)) ∧ w' = w := by
  by_cases h1 : a < b
  · rw [cmpI_lt h1]
    go_enter Tryz.func134, Tryz.ntmps134
    go_wp2
    go_ret
    exact ⟨rfl, rfl⟩
  · by_cases h2 : b < a
    · rw [cmpI_gt h2]
      go_enter Tryz.func134, Tryz.ntmps134
      go_wp2
      go_ret
      exact ⟨rfl, rfl⟩
    · rw [cmpI_eq (by omega)]
      go_enter Tryz.func134, Tryz.ntmps134
      go_wp2
      go_ret
      exact ⟨rfl, rfl⟩

/-- cmp.Or of two numbers. -/
def orI (a b : Int) : Int := if a ≠ 0 then a else b
set_option maxHeartbeats 400000 in
theorem or_any (B : Nat) (a b : Int) (w : World) (h0 : w.cell? ⟨B, 0, none⟩ = some (.int .i64 a)) (h1 : w.cell? ⟨B, 1, none⟩ = some (.int .i64 b)) :
    Calls Tryz.prog 132 #[.slice (some ⟨B, 0, none⟩) 2 2] w fun e w' => e = .returned (.int .i64 (orI a b)) ∧ w' = w := by
  have HV : Hid (orI a b = if a ≠ 0 then a else b) := rfl
  go_enter Tryz.func132, Tryz.ntmps132
  go_wp2
  go_loop [8] (fun i => ∃ k : Nat, k ≤ 2 ∧ i = .int .i64 k ∧ (0 < k → a = 0) ∧ (1 < k → b = 0)) (fun i => 2 - (intOf i).toNat)
  case atStart => exact ⟨0, by omega, rfl, by omega, by omega⟩
  case round =>
    obtain ⟨k, hk, rfl, ha, hb⟩ := hrel
    rcases (by omega : k = 0 ∨ k = 1 ∨ k = 2) with rfl | rfl | rfl
    · by_cases hz : a = 0
      · go_wp2
        go_round
        case rel => exact ⟨1, by omega, rfl, fun _ => hz, by omega⟩
        case measure => simp [intOf]
      · go_wp2
        go_ret
        exact ⟨ret_int (by rw [HV.out, if_pos hz]), rfl⟩
    · have hz := ha (by omega)
      by_cases hz2 : b = 0
      · go_wp2
        go_round
        case rel => exact ⟨2, by omega, rfl, fun _ => hz, fun _ => hz2⟩
        case measure => simp [intOf]
      · go_wp2
        go_ret
        exact ⟨ret_int (by simp [orI]), rfl⟩
    · have hz := ha (by omega)
      have hz2 := hb (by omega)
      go_wp2
      go_ret
      exact ⟨ret_int (by simp [orI]), rfl⟩

theorem cmpP_or (p q : Pf) : orI (cmpI p.addr q.addr) (cmpI p.len q.len) = cmpP p q := rfl

set_option maxHeartbeats 1600000 in
theorem compare_any (p q : Pf) (w : World) :
    Calls Tryz.prog 82 #[.agg #[.int .u32 p.addr, .int .i64 p.len], .agg #[.int .u32 q.addr, .int .i64 q.len]] w fun e w' => e = .returned (.int .i64 (cmpP p q)) ∧ Grows w w' := by
  rw [← cmpP_or]
  have hu := cmpU_any p.addr q.addr
  have hn := cmpN_any p.len q.len
  generalize cmpI p.addr q.addr = x at hu ⊢
  generalize cmpI p.len q.len = y at hn ⊢
  go_enter Tryz.func82, Tryz.ntmps82
  go_wp2_with fail
  go_region_held3 (fun w' => w'.cell? ⟨w.heap.size, 0, none⟩ = some (.int .u32 p.addr) ∧ w'.cell? ⟨w.heap.size, 1, none⟩ = some (.int .i64 p.len) ∧ w'.cell? ⟨w.heap.size + 1, 0, none⟩ = some (.int .u32 q.addr) ∧ w'.cell? ⟨w.heap.size + 1, 1, none⟩ = some (.int .i64 q.len)) (go_keep)
    (first | (go_at_call 133; refine (hu _).mono ?_; rintro e w' ⟨rfl, rfl⟩) | (go_at_call 134; refine (hn _).mono ?_; rintro e w' ⟨rfl, rfl⟩) | (go_at_call 132; refine (or_any _ x y _ (by exact cell_top _ #[.int .i64 x, .int .i64 y] _ (by simp) rfl) (by exact cell_top _ #[.int .i64 x, .int .i64 y] _ (by simp) rfl)).mono ?_; rintro e w' ⟨rfl, rfl⟩))
  all_goals go_wp2
  all_goals go_ret
  all_goals exact ⟨rfl, ((((Grows.refl w).alloc _).alloc _).alloc _).drew⟩

end Go.Proofs.YtdnpeefnobjfaaaGreatDoor

/- What packet.checkEntry and packet.check answer: the first fault of the entries, or none. -/
namespace Go.Proofs.YtdnpeefnobjfaaaGreatDoor
open Go.RowKit

theorem bcell {W w1 : World} (hb : Below W.heap.size W w1) : (∀ b o, b < W.heap.size → w1.cell? ⟨b, o, none⟩ = W.cell? ⟨b, o, none⟩) ∧ (∀ b o, b < W.heap.size → w1.frozen? ⟨b, o, none⟩ = W.frozen? ⟨b, o, none⟩) :=
  ⟨fun b o h => hb.cell (p := ⟨b, o, none⟩) h, fun b o h => hb.frozen (p := ⟨b, o, none⟩) h⟩
theorem hide {p : Prop} (h : p) : Hid p := h
theorem unhide {p : Prop} (h : Hid p) : p := h
theorem below_new (w : World) (o : Obj) : Below w.heap.size w (w.alloc o) := (Below.refl _ _).alloc (Nat.le_refl _) _
theorem below_box {w w1 : World} {o : Obj} (hb : Below (w.alloc o).heap.size (w.alloc o) w1) : Below w.heap.size w w1 := (below_new w o).trans (hb.mono (by simp))
theorem below_seq {w w1 w2 : World} (h : Below w.heap.size w w1) (h2 : Below w1.heap.size w1 w2) : Below w.heap.size w w2 := h.trans (h2.mono h.size)

/-- An error that the program answered: none, or a fault with its number and its entry. -/
def errIs (w : World) (v : Value) : Option (Int × Int) → Prop
  | none => v = .nilIface
  | some (e, n) => ∃ b, v = .iface 180 (.pointer (some ⟨b, 0, none⟩)) ∧ w.cell? ⟨b, 0, none⟩ = some (.int .i64 e) ∧ w.cell? ⟨b, 1, none⟩ = some (.int .i64 n)

theorem errIs_fault (w : World) (e n : Int) : errIs (w.alloc (.cells #[.int .i64 e, .int .i64 n] 203)) (.iface 180 (.pointer (some ⟨w.heap.size, 0, none⟩))) (some (e, n)) :=
  ⟨w.heap.size, rfl, by simp, by simp⟩
theorem errIs_fault1 (w : World) (o : Obj) (e n : Int) : errIs ((w.alloc o).alloc (.cells #[.int .i64 e, .int .i64 n] 203)) (.iface 180 (.pointer (some ⟨w.heap.size + 1, 0, none⟩))) (some (e, n)) := by
  have h := errIs_fault (w.alloc o) e n
  rw [show (w.alloc o).heap.size = w.heap.size + 1 by simp] at h
  exact h
theorem errIs_some {w : World} {b : Nat} {e n : Int} (h0 : w.cell? ⟨b, 0, none⟩ = some (.int .i64 e)) (h1 : w.cell? ⟨b, 1, none⟩ = some (.int .i64 n)) : errIs w (.iface 180 (.pointer (some ⟨b, 0, none⟩))) (some (e, n)) := ⟨b, rfl, h0, h1⟩

set_option maxHeartbeats 400000 in
theorem checkEntry_pfx (a l t m n : Int) (w : World) (ha : 0 ≤ a) (ha' : a < 4294967296) (h : pfxB a l = false) :
    Calls Tryz.prog 136 #[.agg #[.int .u32 a, .int .i64 l, .int .i64 t, .int .i64 m], .int .i64 n] w fun e w' => ∃ v, e = .returned v ∧ errIs w' v (some (6, n)) ∧ Below w.heap.size w w' := by
  go_enter Tryz.func136, Tryz.ntmps136
  go_wp2_with (first | (go_at_call 77; refine (Is_any a l _ ha ha').mono ?_; rintro e w1 ⟨rfl, hb1⟩) | (go_at_call 87; refine (fault_any _ _ _).mono ?_; rintro e w2 ⟨rfl, rfl⟩))
  go_ret
  exact ⟨_, rfl, errIs_fault _ _ _, below_seq (below_box hb1) (below_new _ _)⟩

set_option maxHeartbeats 400000 in
theorem checkEntry_tag (a l t m n : Int) (w : World) (ha : 0 ≤ a) (ha' : a < 4294967296) (h : pfxB a l = true) (h2 : tagB t = false) :
    Calls Tryz.prog 136 #[.agg #[.int .u32 a, .int .i64 l, .int .i64 t, .int .i64 m], .int .i64 n] w fun e w' => ∃ v, e = .returned v ∧ errIs w' v (some (5, n)) ∧ Below w.heap.size w w' := by
  go_enter Tryz.func136, Tryz.ntmps136
  go_wp2_with (first | (go_at_call 77; refine (Is_any a l _ ha ha').mono ?_; rintro e w1 ⟨rfl, hb1⟩; obtain ⟨hc1, hf1⟩ := bcell hb1) | (go_at_call 173; refine (isTag_any _ _).mono ?_; rintro e w2 ⟨rfl, rfl⟩) | (go_at_call 87; refine (fault_any _ _ _).mono ?_; rintro e w2 ⟨rfl, rfl⟩))
  go_ret
  exact ⟨_, rfl, errIs_fault _ _ _, below_seq (below_box hb1) (below_new _ _)⟩

set_option maxHeartbeats 400000 in
theorem checkEntry_met (a l t m n : Int) (w : World) (ha : 0 ≤ a) (ha' : a < 4294967296) (h : pfxB a l = true) (h2 : tagB t = true) (h3 : metB m = false) :
    Calls Tryz.prog 136 #[.agg #[.int .u32 a, .int .i64 l, .int .i64 t, .int .i64 m], .int .i64 n] w fun e w' => ∃ v, e = .returned v ∧ errIs w' v (some (8, n)) ∧ Below w.heap.size w w' := by
  go_enter Tryz.func136, Tryz.ntmps136
  go_wp2_with (first | (go_at_call 77; refine (Is_any a l _ ha ha').mono ?_; rintro e w1 ⟨rfl, hb1⟩; obtain ⟨hc1, hf1⟩ := bcell hb1) | (go_at_call 173; refine (isTag_any _ _).mono ?_; rintro e w2 ⟨rfl, rfl⟩) | (go_at_call 174; refine (isMetric_any _ _).mono ?_; rintro e w2 ⟨rfl, rfl⟩) | (go_at_call 87; refine (fault_any _ _ _).mono ?_; rintro e w2 ⟨rfl, rfl⟩))
  go_ret
  exact ⟨_, rfl, errIs_fault _ _ _, below_seq (below_box hb1) (below_new _ _)⟩

set_option maxHeartbeats 400000 in
theorem checkEntry_ok (a l t m n : Int) (w : World) (ha : 0 ≤ a) (ha' : a < 4294967296) (h : pfxB a l = true) (h2 : tagB t = true) (h3 : metB m = true) :
    Calls Tryz.prog 136 #[.agg #[.int .u32 a, .int .i64 l, .int .i64 t, .int .i64 m], .int .i64 n] w fun e w' => e = .returned .nilIface ∧ Below w.heap.size w w' := by
  go_enter Tryz.func136, Tryz.ntmps136
  go_wp2_with (first | (go_at_call 77; refine (Is_any a l _ ha ha').mono ?_; rintro e w1 ⟨rfl, hb1⟩; obtain ⟨hc1, hf1⟩ := bcell hb1) | (go_at_call 173; refine (isTag_any _ _).mono ?_; rintro e w2 ⟨rfl, rfl⟩) | (go_at_call 174; refine (isMetric_any _ _).mono ?_; rintro e w2 ⟨rfl, rfl⟩))
  go_ret
  exact ⟨rfl, below_box hb1⟩

/-- The error of one entry. -/
theorem checkEntry_bad (e : Ent) (n : Int) (w : World) (ha : 0 ≤ e.addr ∧ e.addr < 4294967296) (h : entErr e ≠ 0) :
    Calls Tryz.prog 136 #[.agg #[.int .u32 e.addr, .int .i64 e.len, .int .i64 e.tag, .int .i64 e.met], .int .i64 n] w fun r w' => ∃ v, r = .returned v ∧ errIs w' v (some (entErr e, n)) ∧ Below w.heap.size w w' := by
  cases h1 : pfxB e.addr e.len
  · rw [show entErr e = 6 by simp [entErr, h1]]; exact checkEntry_pfx _ _ _ _ _ _ ha.1 ha.2 h1
  · cases h2 : tagB e.tag
    · rw [show entErr e = 5 by simp [entErr, h1, h2]]; exact checkEntry_tag _ _ _ _ _ _ ha.1 ha.2 h1 h2
    · cases h3 : metB e.met
      · rw [show entErr e = 8 by simp [entErr, h1, h2, h3]]; exact checkEntry_met _ _ _ _ _ _ ha.1 ha.2 h1 h2 h3
      · exact absurd (by simp [entErr, h1, h2, h3]) h

theorem checkEntry_good (e : Ent) (n : Int) (w : World) (ha : 0 ≤ e.addr ∧ e.addr < 4294967296) (h : entErr e = 0) :
    Calls Tryz.prog 136 #[.agg #[.int .u32 e.addr, .int .i64 e.len, .int .i64 e.tag, .int .i64 e.met], .int .i64 n] w fun r w' => r = .returned .nilIface ∧ Below w.heap.size w w' :=
  checkEntry_ok _ _ _ _ _ _ ha.1 ha.2 (entErr_zero h).1 (entErr_zero h).2.1 (entErr_zero h).2.2

/-- The cells of a list of entries, from an address on. -/
def entCells (w : World) (b off : Nat) (l : List Ent) : Prop := ∀ k, (h : k < l.length) → w.cell? ⟨b, off + k * 4, none⟩ = some (.int .u32 l[k].addr) ∧ w.cell? ⟨b, off + k * 4 + 1, none⟩ = some (.int .i64 l[k].len) ∧ w.cell? ⟨b, off + k * 4 + 2, none⟩ = some (.int .i64 l[k].tag) ∧ w.cell? ⟨b, off + k * 4 + 3, none⟩ = some (.int .i64 l[k].met)
theorem entCells_below {w w1 : World} {b off B : Nat} {l : List Ent} (h : entCells w b off l) (hb : Below B w w1) (hB : b < B) : entCells w1 b off l := fun k hk => by
  obtain ⟨h0, h1, h2, h3⟩ := h k hk
  exact ⟨(hb.cell (p := ⟨b, _, none⟩) hB).trans h0, (hb.cell (p := ⟨b, _, none⟩) hB).trans h1, (hb.cell (p := ⟨b, _, none⟩) hB).trans h2, (hb.cell (p := ⟨b, _, none⟩) hB).trans h3⟩
theorem entCells_lt {w : World} {b off : Nat} {l : List Ent} (h : entCells w b off l) (h0 : 0 < l.length) : b < w.heap.size := World.block_lt_of_cell? w _ (h 0 h0).1
def entsOk (l : List Ent) : Prop := ∀ e ∈ l, 0 ≤ e.addr ∧ e.addr < 4294967296

set_option maxHeartbeats 400000 in
theorem check_loop (b off cap n : Nat) (l : List Ent) (w : World) (hok : entsOk l) (hn : l.length = n) (h0 : 0 < n) (h25 : n ≤ 25) (hB : b < w.heap.size) (hc : entCells w b off l) :
    Calls Tryz.prog 84 #[.agg #[.int .i64 2, .slice (some ⟨b, off, none⟩) n cap]] w fun e w' => ∃ v, e = .returned v ∧ errIs w' v (firstErr l 0) ∧ Below w.heap.size w w' := by
  have HN := hide hn
  clear hn
  have e0 : ((n : Int) == 0) = false := by simp; omega
  have e1 : decide ((25 : Int) < n) = false := by simp; omega
  go_enter Tryz.func84, Tryz.ntmps84
  go_wp2
  go_loopw [36] (fun i wr => ∃ k : Nat, k ≤ n ∧ i = .int .i64 k ∧ Below w.heap.size w wr ∧ ∀ j, (hj : j < l.length) → j < k → entErr l[j] = 0) (fun i _ => n - (intOf i).toNat)
  case atStart => exact ⟨0, by omega, rfl, below_new _ _, fun j hj h => by omega⟩
  case round =>
    obtain ⟨k, hk, rfl, hb, hgood⟩ := hrel
    have HG := hide hgood
    clear hgood e0 e1
    by_cases hlt : k < n
    · have hlt' : k < l.length := by rw [unhide HN]; exact hlt
      have hcx := hc k hlt'
      have hoke := hok l[k] (List.getElem_mem _)
      generalize hE : l[k] = E at *
      have HE := hide hE
      clear hE
      obtain ⟨c0, c1, c2, c3⟩ := hcx
      rw [← hb.cell (p := ⟨b, _, none⟩) hB] at c0 c1 c2 c3
      by_cases hz : entErr E = 0
      · have HZ := hide hz
        clear hz
        go_wp2_with (go_at_call 136; refine (checkEntry_good E _ _ hoke (unhide HZ)).mono ?_; rintro e w1 ⟨rfl, hb1⟩)
        go_roundw
        case rel =>
          refine ⟨k + 1, by omega, by go_num, below_seq (hb.alloc hb.size _) (hb1.mono (by simp)), fun j hj hjk => ?_⟩
          by_cases hjk' : j = k
          · subst hjk'; rw [unhide HE]; exact unhide HZ
          · exact unhide HG j hj (by omega)
        case measure => simp [intOf]; omega
      · have HZ := hide hz
        clear hz
        go_wp2_with (go_at_call 136; refine (checkEntry_bad E _ _ hoke (unhide HZ)).mono ?_; rintro e w1 ⟨v, rfl, ⟨bf, rfl, hx0, hx1⟩, hb1⟩)
        go_ret
        refine ⟨_, rfl, ?_, below_seq (hb.alloc hb.size _) (hb1.mono (by simp))⟩
        rw [firstErr_at k hlt' (fun j hj => unhide HG j (by omega) hj) (by rw [unhide HE]; exact unhide HZ), unhide HE, Int.zero_add]
        exact errIs_some hx0 hx1
    · go_wp2
      go_ret
      exact ⟨_, rfl, by rw [firstErr_none (fun j hj => unhide HG j hj (by have := unhide HN; omega))]; rfl, hb⟩

set_option maxHeartbeats 400000 in
theorem check_ask (ao : Option Addr) (cap : Nat) (w : World) :
    Calls Tryz.prog 84 #[.agg #[.int .i64 1, .slice ao 0 cap]] w fun e w' => e = .returned .nilIface ∧ Below w.heap.size w w' := by
  go_enter Tryz.func84, Tryz.ntmps84
  go_wp2
  go_ret
  exact ⟨rfl, below_new _ _⟩

set_option maxHeartbeats 400000 in
theorem check_head1 (ao : Option Addr) (n cap : Nat) (w : World) (h0 : 0 < n) :
    Calls Tryz.prog 84 #[.agg #[.int .i64 1, .slice ao n cap]] w fun e w' => ∃ v, e = .returned v ∧ errIs w' v (some (4, -1)) ∧ Below w.heap.size w w' := by
  have e0 : ((n : Int) == 0) = false := by simp; omega
  go_enter Tryz.func84, Tryz.ntmps84
  go_wp2_with (go_at_call 87; refine (fault_any _ _ _).mono ?_; rintro e w2 ⟨rfl, rfl⟩)
  go_ret
  exact ⟨_, rfl, errIs_fault1 _ _ _ _, below_seq (below_new _ _) (below_new _ _)⟩

set_option maxHeartbeats 400000 in
theorem check_head (cmd : Int) (ao : Option Addr) (n cap : Nat) (w : World) (h1 : (cmd == 1) = false) (h2 : (cmd != 2) = true) :
    Calls Tryz.prog 84 #[.agg #[.int .i64 cmd, .slice ao n cap]] w fun e w' => ∃ v, e = .returned v ∧ errIs w' v (some (4, -1)) ∧ Below w.heap.size w w' := by
  go_enter Tryz.func84, Tryz.ntmps84
  go_wp2_with (go_at_call 87; refine (fault_any _ _ _).mono ?_; rintro e w2 ⟨rfl, rfl⟩)
  go_ret
  exact ⟨_, rfl, errIs_fault1 _ _ _ _, below_seq (below_new _ _) (below_new _ _)⟩

set_option maxHeartbeats 400000 in
theorem check_size (ao : Option Addr) (n cap : Nat) (w : World) (h25 : 25 < n) :
    Calls Tryz.prog 84 #[.agg #[.int .i64 2, .slice ao n cap]] w fun e w' => ∃ v, e = .returned v ∧ errIs w' v (some (3, -1)) ∧ Below w.heap.size w w' := by
  have e0 : ((n : Int) == 0) = false := by simp; omega
  have e1 : decide ((25 : Int) < n) = true := by simp; omega
  go_enter Tryz.func84, Tryz.ntmps84
  go_wp2_with (go_at_call 87; refine (fault_any _ _ _).mono ?_; rintro e w2 ⟨rfl, rfl⟩)
  go_ret
  exact ⟨_, rfl, errIs_fault1 _ _ _ _, below_seq (below_new _ _) (below_new _ _)⟩

set_option maxHeartbeats 400000 in
theorem check_none (ao : Option Addr) (cap : Nat) (w : World) :
    Calls Tryz.prog 84 #[.agg #[.int .i64 2, .slice ao 0 cap]] w fun e w' => ∃ v, e = .returned v ∧ errIs w' v (some (3, -1)) ∧ Below w.heap.size w w' := by
  go_enter Tryz.func84, Tryz.ntmps84
  go_wp2_with (go_at_call 87; refine (fault_any _ _ _).mono ?_; rintro e w2 ⟨rfl, rfl⟩)
  go_ret
  exact ⟨_, rfl, errIs_fault1 _ _ _ _, below_seq (below_new _ _) (below_new _ _)⟩

/-- A list of entries lies where a slice says. -/
def entSlice (w : World) (ao : Option Addr) (l : List Ent) : Prop := l = [] ∨ ∃ b off, ao = some ⟨b, off, none⟩ ∧ entCells w b off l
theorem entSlice_below {w w1 : World} {ao : Option Addr} {l : List Ent} (h : entSlice w ao l) (hb : Below w.heap.size w w1) : entSlice w1 ao l := by
  rcases h with h | ⟨b, off, ha, hc⟩
  · exact .inl h
  · by_cases h0 : 0 < l.length
    · exact .inr ⟨b, off, ha, entCells_below hc hb (entCells_lt hc h0)⟩
    · exact .inl (List.eq_nil_of_length_eq_zero (by omega))

theorem check_any (cmd : Int) (ao : Option Addr) (n cap : Nat) (l : List Ent) (w : World) (hok : entsOk l) (hn : l.length = n) (hs : entSlice w ao l) :
    Calls Tryz.prog 84 #[.agg #[.int .i64 cmd, .slice ao n cap]] w fun e w' => ∃ v, e = .returned v ∧ errIs w' v (encErr cmd l) ∧ Below w.heap.size w w' := by
  by_cases h1 : cmd = 1
  · subst h1
    by_cases h0 : n = 0
    · subst h0
      obtain rfl : l = [] := List.eq_nil_of_length_eq_zero hn
      refine (check_ask ao cap w).mono ?_
      rintro e w' ⟨rfl, hb⟩
      exact ⟨_, rfl, rfl, hb⟩
    · rw [show encErr 1 l = some (4, -1) by simp [encErr]; intro h; subst h; simp at hn; omega]
      exact check_head1 ao n cap w (by omega)
  · by_cases h2 : cmd = 2
    · subst h2
      by_cases h0 : n = 0
      · subst h0
        rw [show encErr 2 l = some (3, -1) by simp [encErr, hn]]
        exact check_none ao cap w
      · by_cases h25 : n ≤ 25
        · rw [show encErr 2 l = firstErr l 0 by simp [encErr, hn]; omega]
          rcases hs with rfl | ⟨b, off, rfl, hc⟩
          · simp at hn; omega
          · exact check_loop b off cap n l w hok hn (by omega) h25 (entCells_lt hc (by omega)) hc
        · rw [show encErr 2 l = some (3, -1) by simp [encErr, hn]; omega]
          exact check_size ao n cap w (by omega)
    · rw [show encErr cmd l = some (4, -1) by simp [encErr, h1, h2]]
      exact check_head cmd ao n cap w (by simp [h1]) (by simp [h2])

end Go.Proofs.YtdnpeefnobjfaaaGreatDoor
