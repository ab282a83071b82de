/- milepostlaw.sameEntries says yes of two lists of the same entries. -/
import Derived.Test.YtdnpeefnobjfaaaGreatDoorDec
namespace Go.Proofs.YtdnpeefnobjfaaaGreatDoor
open Go.RowKit
attribute [local go_sem ↓] Go.wp_at_zero Go.wp_at_succ

theorem own_slice {w : World} {B n cap : Nat} {ao : Option Addr} {L : List Ent} (h : w.ownsRow B 42 4 (.slice ao n cap) n (entList L)) : entSlice w ao L ∧ L.length = n := by
  have hl : L.length = n := by have := h.1; rw [entList_length] at this; omega
  refine ⟨?_, hl⟩
  rcases h.2 with ⟨hv, h0⟩ | ⟨g, c, cur, hv, _, hg, _⟩
  · subst h0; exact .inl (List.eq_nil_of_length_eq_zero hl)
  · simp at hv
    obtain ⟨rfl, rfl⟩ := hv
    exact .inr ⟨g, 0, rfl, dataRow_cells (dataRow_of h)⟩

set_option maxHeartbeats 400000 in
theorem same_none (a1 a2 : Option Addr) (c1 c2 : Nat) (w : World) :
    Calls Tryz.prog 122 #[.slice a1 0 c1, .slice a2 0 c2] w fun e w' => e = .returned (.bool true) ∧ Below w.heap.size w w' := by
  go_enter Tryz.func122, Tryz.ntmps122
  go_wp2
  refine wp_loop_rounds 1 ?_
  rw [rounds_succ]
  go_wp2
  go_ret
  exact ⟨rfl, Below.refl _ _⟩

set_option maxRecDepth 100000 in
set_option maxHeartbeats 1000000 in
theorem same_some (b1 o1 b2 o2 c1 c2 n : Nat) (L : List Ent) (w : World) (hl : L.length = n) (hn : n ≤ 1000000) (h1 : entCells w b1 o1 L) (h2 : entCells w b2 o2 L) :
    Calls Tryz.prog 122 #[.slice (some ⟨b1, o1, none⟩) n c1, .slice (some ⟨b2, o2, none⟩) n c2] w fun e w' => e = .returned (.bool true) ∧ Below w.heap.size w w' := by
  have H1 := hide h1
  have H2 := hide h2
  have HL := hide hl
  clear h1 h2 hl
  go_enter Tryz.func122, Tryz.ntmps122
  go_wp2
  go_loopw [5] (fun i wr => ∃ (k d : Nat), k ≤ n ∧ i = .int .i64 k ∧ wr = w.drewN d) (fun i _ => n - (intOf i).toNat)
  case atStart => exact ⟨0, 0, by omega, rfl, rfl⟩
  case round =>
    obtain ⟨k, d, hk, rfl, rfl⟩ := hrel
    by_cases hlt : k < n
    · have hkL : k < L.length := by rw [unhide HL]; exact hlt
      obtain ⟨d0, d1, d2, d3⟩ := unhide H1 k hkL
      obtain ⟨y0, y1, y2, y3⟩ := unhide H2 k hkL
      have j0 : (0 : Int) ≤ (k : Int) := by omega
      have j1 : (k : Int) < (n : Int) := by omega
      generalize L[k] = E at *
      go_wp2_with fail
      go_quiet (fail)
      go_wp2
      go_roundw
      case rel => exact ⟨k + 1, d + _, by omega, by go_num, rfl⟩
      case measure => simp [intOf]; omega
    · have hkn : k = n := by omega
      subst hkn
      go_wp2
      go_ret
      exact ⟨rfl, below_drewN (Below.refl _ _) _⟩

theorem same_any (a1 a2 : Option Addr) (c1 c2 n : Nat) (L : List Ent) (w : World) (hl : L.length = n) (hn : n ≤ 1000000) (h1 : entSlice w a1 L) (h2 : entSlice w a2 L) :
    Calls Tryz.prog 122 #[.slice a1 n c1, .slice a2 n c2] w fun e w' => e = .returned (.bool true) ∧ Below w.heap.size w w' := by
  by_cases h0 : n = 0
  · subst h0; exact same_none a1 a2 c1 c2 w
  · rcases h1 with rfl | ⟨b1, o1, rfl, q1⟩
    · simp at hl; omega
    · rcases h2 with rfl | ⟨b2, o2, rfl, q2⟩
      · simp at hl; omega
      · exact same_some b1 o1 b2 o2 c1 c2 n L w hl hn q1 q2

end Go.Proofs.YtdnpeefnobjfaaaGreatDoor
