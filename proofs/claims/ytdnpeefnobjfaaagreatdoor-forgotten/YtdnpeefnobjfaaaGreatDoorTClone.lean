/- slices.Clone of a table's rows: what comes out is new. -/
import Derived.Test.YtdnpeefnobjfaaaGreatDoorTSearch
import Derived.Test.YtdnpeefnobjfaaaGreatDoorRNew2
namespace Go.Proofs.YtdnpeefnobjfaaaGreatDoor
open Go.RowKit
attribute [local go_sem ↓] Go.wp_at_zero Go.wp_at_succ

theorem rwList_one (L : List Rw) : ∀ u ∈ rwList L, u.oneCell' = true := by
  intro u hu
  simp only [rwList, List.mem_flatMap] at hu
  obtain ⟨r, _, hr⟩ := hu
  exact rwVals_one r u hr
/-- A row that is owned: its block. -/
theorem owned_cells {w : World} {base g n cap : Nat} {xs : List Value} {e sz : Nat} (h : w.ownsRow base e sz (.slice (some ⟨g, 0, none⟩) n cap) n xs) : ∀ j u, xs[j]? = some u → w.cell? ((⟨g, 0, none⟩ : Addr).add j) = some u := h.cells (g := g) rfl

set_option maxHeartbeats 1000000 in
theorem cloneRow_some (base g n cap : Nat) (xs : List Value) (w : World) (h0 : 0 < n) (hn : n ≤ 1000000) (h1 : ∀ u ∈ xs, u.oneCell' = true) (hc : w.ownsRow base 137 7 (.slice (some ⟨g, 0, none⟩) n cap) n xs) :
    Calls Tryz.prog 95 #[.slice (some ⟨g, 0, none⟩) n cap] w fun e w' => ∃ v, e = .returned v ∧ w'.ownsRow w.heap.size 137 7 v n xs ∧ Below w.heap.size w w' := by
  obtain ⟨iE, hiE, hE0, hE1, hE2⟩ := info_parts Tryz.info137
  have hq : ∀ (w : World) (a : Option Addr) (n c n' c' : Nat), (binOp .eql 118 (.slice a n c) (.slice none n' c')).run Tryz.prog w = .ok (.bool a.isNone) w := fun w a n c n' c' => Lib.run_eql_slice_nil w _ _ a n c n' c' Tryz.underlying118
  have hlen : xs.length = n * 7 := hc.1
  have HC := hide (owned_cells (ownsRow_below hc (below_new w (.cells #[] 137)) (Nat.le_refl _)))
  clear hc
  go_enter Tryz.func95, Tryz.ntmps95
  go_wp2_with (at_builtin; go_loud (refine wpList_append_lies _ rfl (.tmp 5) (.tmp 6) 118 rfl w.heap.size 137 iE (.agg #[.int .u32 0, .int .i64 0, .int .i64 0, .int .i64 0, .int .i64 0, .int .i64 0, .bool false]) 7 56 Tryz.underlying118 hiE hE0 hE1 hE2 rfl (by decide) (.slice (some ⟨w.heap.size, 0, none⟩) 0 0) 0 [] rfl ⟨rfl, .inr ⟨w.heap.size, 0, #[], rfl, Nat.le_refl _, by exact heap_alloc_new w _, Nat.le_refl _, by unfold maxLen; omega, rfl, rfl⟩⟩ ⟨g, 0, none⟩ n cap xs rfl hlen (unhide HC) h1 h0 (by unfold maxLen; omega) (by omega) (by simp) (w.heap.size + 1) (by simp) ?_; intro g1 c1 w1 hown1 hg1 hat1 hlt1; simp only [Nat.zero_add, List.nil_append] at hown1))
  go_ret
  exact ⟨_, rfl, hown1, (below_new w _).trans ((Below.refl _ _).grown hg1 (by simp) (by simp [Value.ownBlock]))⟩

set_option maxHeartbeats 1000000 in
theorem cloneRow_zero (a : Addr) (cap : Nat) (w : World) :
    Calls Tryz.prog 95 #[.slice (some a) 0 cap] w fun e w' => ∃ v, e = .returned v ∧ w'.ownsRow w.heap.size 137 7 v 0 [] ∧ Below w.heap.size w w' := by
  obtain ⟨iE, hiE, hE0, hE1, hE2⟩ := info_parts Tryz.info137
  have hq : ∀ (w : World) (a : Option Addr) (n c n' c' : Nat), (binOp .eql 118 (.slice a n c) (.slice none n' c')).run Tryz.prog w = .ok (.bool a.isNone) w := fun w a n c n' c' => Lib.run_eql_slice_nil w _ _ a n c n' c' Tryz.underlying118
  go_enter Tryz.func95, Tryz.ntmps95
  go_wp2_with (at_builtin; go_loud (refine wpList_append_own _ rfl (.tmp 5) (.tmp 6) 118 rfl w.heap.size 137 iE (.agg #[.int .u32 0, .int .i64 0, .int .i64 0, .int .i64 0, .int .i64 0, .int .i64 0, .bool false]) 7 56 Tryz.underlying118 hiE hE0 hE1 hE2 rfl (by decide) (.slice (some ⟨w.heap.size, 0, none⟩) 0 0) 0 [] rfl ⟨rfl, .inr ⟨w.heap.size, 0, #[], rfl, Nat.le_refl _, by exact heap_alloc_new w _, Nat.le_refl _, by unfold maxLen; omega, rfl, rfl⟩⟩ a 0 cap [] rfl rfl (by intro j u hu; simp at hu) (by simp) (by decide) (by decide) (by simp) ?_; intro v1 w1 hown1 hg1 hn1))
  go_ret
  exact ⟨_, rfl, hown1, (below_new w _).trans ((Below.refl _ _).grown hg1 (by simp) (by simp [Value.ownBlock]))⟩

set_option maxHeartbeats 1000000 in
theorem cloneRow_nil (w : World) :
    Calls Tryz.prog 95 #[.slice none 0 0] w fun e w' => ∃ v, e = .returned v ∧ w'.ownsRow w.heap.size 137 7 v 0 [] ∧ Below w.heap.size w w' := by
  have hq : ∀ (w : World) (a : Option Addr) (n c n' c' : Nat), (binOp .eql 118 (.slice a n c) (.slice none n' c')).run Tryz.prog w = .ok (.bool a.isNone) w := fun w a n c n' c' => Lib.run_eql_slice_nil w _ _ a n c n' c' Tryz.underlying118
  go_enter Tryz.func95, Tryz.ntmps95
  go_wp2
  go_ret
  exact ⟨_, rfl, World.ownsRow_nil _ _ _ _, Below.refl _ _⟩

/-- A table's rows, cloned. -/
theorem cloneRow_any (base : Nat) (v : Value) (L : List Rw) (w : World) (hn : L.length ≤ 1000000) (hc : w.ownsRow base 137 7 v L.length (rwList L)) :
    Calls Tryz.prog 95 #[v] w fun e w' => ∃ v', e = .returned v' ∧ w'.ownsRow w.heap.size 137 7 v' L.length (rwList L) ∧ Below w.heap.size w w' := by
  have hc0 := hc
  obtain ⟨hl, ⟨rfl, h0⟩ | ⟨g, cap, cur, rfl, hr⟩⟩ := hc0
  · have : L = [] := List.eq_nil_of_length_eq_zero h0
    subst this
    exact cloneRow_nil w
  · by_cases h0 : L.length = 0
    · have : L = [] := List.eq_nil_of_length_eq_zero h0
      subst this
      exact cloneRow_zero _ cap w
    · exact cloneRow_some base g L.length cap (rwList L) w (by omega) hn (rwList_one L) hc

end Go.Proofs.YtdnpeefnobjfaaaGreatDoor
