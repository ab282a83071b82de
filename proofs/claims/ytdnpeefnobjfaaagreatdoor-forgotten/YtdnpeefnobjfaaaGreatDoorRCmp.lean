/- The order of prefixes: what cmp.Compare, cmp.Or and prefix.Compare answer; prefixes and routes as numbers. -/
import Derived.Test.YtdnpeefnobjfaaaGreatDoorPfx
namespace Go.Proofs.YtdnpeefnobjfaaaGreatDoor
open Go.RowKit Go.Sort
attribute [local go_sem ↓] Go.wp_at_zero Go.wp_at_succ

/-- A cell of the block that was laid last. -/
theorem cell_top (W : World) (cs : Array Value) (t : TypeId) {B i : Nat} {v : Value} (hB : B = W.heap.size) (h : cs[i]? = some v) : (W.alloc (.cells cs t)).cell? ⟨B, i, none⟩ = some v := by
  subst hB
  simpa using h

/-- -1, 0 or 1. -/
def cmpI (a b : Int) : Int := if a < b then -1 else if b < a then 1 else 0
theorem cmpI_lt {a b : Int} (h : a < b) : cmpI a b = -1 := by simp [cmpI, h]
theorem cmpI_gt {a b : Int} (h : b < a) : cmpI a b = 1 := by simp [cmpI, h]; omega
theorem cmpI_eq {a b : Int} (h : a = b) : cmpI a b = 0 := by simp [cmpI, h]

/-- A prefix, by its two numbers. -/
structure Pf where
  addr : Int
  len : Int
deriving DecidableEq, Inhabited
def pfVals (p : Pf) : List Value := [.int .u32 p.addr, .int .i64 p.len]
def cmpP (p q : Pf) : Int := if cmpI p.addr q.addr ≠ 0 then cmpI p.addr q.addr else cmpI p.len q.len

set_option maxHeartbeats 400000 in
theorem cmpU_any (a b : Int) (w : World) : Calls Tryz.prog 133 #[.int .u32 a, .int .u32 b] w fun e w' => e = .returned (.int .i64 (cmpI a b)) ∧ w' = w := by
  by_cases h1 : a < b
  · rw [cmpI_lt h1]
    go_enter Tryz.func133, Tryz.ntmps133
    go_wp2
    go_ret
    exact ⟨rfl, rfl⟩
  · by_cases h2 : b < a
    · rw [cmpI_gt h2]
      go_enter Tryz.func133, Tryz.ntmps133
      go_wp2
      go_ret
      exact ⟨rfl, rfl⟩
    · rw [cmpI_eq (by omega)]
      go_enter Tryz.func133, Tryz.ntmps133
      go_wp2
      go_ret
      exact ⟨rfl, rfl⟩

set_option maxHeartbeats 400000 in
theorem cmpN_any (a b : Int) (w : World) : Calls Tryz.prog 134 #[.int .i64 a, .int .i64 b] w fun e w' => e = .returned (.int .i64 (cmpI a b)) ∧ w' = w := by
  by_cases h1 : a < b
  · rw [cmpI_lt h1]
    go_enter Tryz.func134, Tryz.ntmps134
    go_wp2
    go_ret
    exact ⟨rfl, rfl⟩
  · by_cases h2 : b < a
    · rw [cmpI_gt h2]
      go_enter Tryz.func134, Tryz.ntmps134
      go_wp2
      go_ret
      exact ⟨rfl, rfl⟩
    · rw [cmpI_eq (by omega)]
      go_enter Tryz.func134, Tryz.ntmps134
      go_wp2
      go_ret
      exact ⟨rfl, rfl⟩

/-- cmp.Or of two numbers. -/
def orI (a b : Int) : Int := if a ≠ 0 then a else b
set_option maxHeartbeats 400000 in
theorem or_any (B : Nat) (a b : Int) (w : World) (h0 : w.cell? ⟨B, 0, none⟩ = some (.int .i64 a)) (h1 : w.cell? ⟨B, 1, none⟩ = some (.int .i64 b)) :
    Calls Tryz.prog 132 #[.slice (some ⟨B, 0, none⟩) 2 2] w fun e w' => e = .returned (.int .i64 (orI a b)) ∧ w' = w := by
  have HV : Hid (orI a b = if a ≠ 0 then a else b) := rfl
  go_enter Tryz.func132, Tryz.ntmps132
  go_wp2
  go_loop [8] (fun i => ∃ k : Nat, k ≤ 2 ∧ i = .int .i64 k ∧ (0 < k → a = 0) ∧ (1 < k → b = 0)) (fun i => 2 - (intOf i).toNat)
  case atStart => exact ⟨0, by omega, rfl, by omega, by omega⟩
  case round =>
    obtain ⟨k, hk, rfl, ha, hb⟩ := hrel
    rcases (by omega : k = 0 ∨ k = 1 ∨ k = 2) with rfl | rfl | rfl
    · by_cases hz : a = 0
      · go_wp2
        go_round
        case rel => exact ⟨1, by omega, rfl, fun _ => hz, by omega⟩
        case measure => simp [intOf]
      · go_wp2
        go_ret
        exact ⟨ret_int (by rw [HV.out, if_pos hz]), rfl⟩
    · have hz := ha (by omega)
      by_cases hz2 : b = 0
      · go_wp2
        go_round
        case rel => exact ⟨2, by omega, rfl, fun _ => hz, fun _ => hz2⟩
        case measure => simp [intOf]
      · go_wp2
        go_ret
        exact ⟨ret_int (by simp [orI]), rfl⟩
    · have hz := ha (by omega)
      have hz2 := hb (by omega)
      go_wp2
      go_ret
      exact ⟨ret_int (by simp [orI]), rfl⟩

theorem cmpP_or (p q : Pf) : orI (cmpI p.addr q.addr) (cmpI p.len q.len) = cmpP p q := rfl

set_option maxHeartbeats 1600000 in
theorem compare_any (p q : Pf) (w : World) :
    Calls Tryz.prog 82 #[.agg #[.int .u32 p.addr, .int .i64 p.len], .agg #[.int .u32 q.addr, .int .i64 q.len]] w fun e w' => e = .returned (.int .i64 (cmpP p q)) ∧ Grows w w' := by
  rw [← cmpP_or]
  have hu := cmpU_any p.addr q.addr
  have hn := cmpN_any p.len q.len
  generalize cmpI p.addr q.addr = x at hu ⊢
  generalize cmpI p.len q.len = y at hn ⊢
  go_enter Tryz.func82, Tryz.ntmps82
  go_wp2_with fail
  go_region_held3 (fun w' => w'.cell? ⟨w.heap.size, 0, none⟩ = some (.int .u32 p.addr) ∧ w'.cell? ⟨w.heap.size, 1, none⟩ = some (.int .i64 p.len) ∧ w'.cell? ⟨w.heap.size + 1, 0, none⟩ = some (.int .u32 q.addr) ∧ w'.cell? ⟨w.heap.size + 1, 1, none⟩ = some (.int .i64 q.len)) (go_keep)
    (first | (go_at_call 133; refine (hu _).mono ?_; rintro e w' ⟨rfl, rfl⟩) | (go_at_call 134; refine (hn _).mono ?_; rintro e w' ⟨rfl, rfl⟩) | (go_at_call 132; refine (or_any _ x y _ (by exact cell_top _ #[.int .i64 x, .int .i64 y] _ (by simp) rfl) (by exact cell_top _ #[.int .i64 x, .int .i64 y] _ (by simp) rfl)).mono ?_; rintro e w' ⟨rfl, rfl⟩))
  all_goals go_wp2
  all_goals go_ret
  all_goals exact ⟨rfl, ((((Grows.refl w).alloc _).alloc _).alloc _).drew⟩

end Go.Proofs.YtdnpeefnobjfaaaGreatDoor
