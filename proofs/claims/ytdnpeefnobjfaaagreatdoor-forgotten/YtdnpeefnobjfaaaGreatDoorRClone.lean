/- slices.Clone of costs: what comes out is new. -/
import Derived.Test.YtdnpeefnobjfaaaGreatDoorROwn
import Derived.Test.YtdnpeefnobjfaaaGreatDoorBook
namespace Go.Proofs.YtdnpeefnobjfaaaGreatDoor
open Go.RowKit
attribute [local go_sem ↓] Go.wp_at_zero Go.wp_at_succ

def numList (l : List Int) : List Value := l.map (.int .i64)
theorem numList_length (l : List Int) : (numList l).length = l.length := by simp [numList]
theorem numList_one (l : List Int) : ∀ u ∈ numList l, u.oneCell' = true := by
  intro u hu
  simp only [numList, List.mem_map] at hu
  obtain ⟨x, _, rfl⟩ := hu
  rfl
theorem numList_news {w : World} {b off : Nat} {l : List Int} (h : numCells w b off l) : ∀ j u, (numList l)[j]? = some u → w.cell? ((⟨b, off, none⟩ : Addr).add j) = some u := by
  intro j u hu
  have hj : j < l.length := by
    have := (List.getElem?_eq_some_iff.1 hu).1
    rwa [numList_length] at this
  have := h j hj
  rw [show (⟨b, off, none⟩ : Addr).add j = ⟨b, off + j, none⟩ by unfold Addr.add; split <;> simp_all]
  rw [this]
  simp [numList, hj] at hu
  rw [hu]

set_option maxHeartbeats 1000000 in
theorem cloneNum_some (b off n cap : Nat) (l : List Int) (w : World) (hn : l.length = n) (h0 : 0 < n) (h8 : n ≤ 8) (hB : b < w.heap.size) (hc : numCells w b off l) :
    Calls Tryz.prog 36 #[.slice (some ⟨b, off, none⟩) n cap] w fun e w' => ∃ v, e = .returned v ∧ w'.ownsRow w.heap.size 3 1 v n (numList l) ∧ Below w.heap.size w w' := by
  obtain ⟨iE, hiE, hE0, hE1, hE2⟩ := info_parts Tryz.info3
  have hq : ∀ (w : World) (a : Option Addr) (n c n' c' : Nat), (binOp .eql 22 (.slice a n c) (.slice none n' c')).run Tryz.prog w = .ok (.bool a.isNone) w := fun w a n c n' c' => Lib.run_eql_slice_nil w _ _ a n c n' c' Tryz.underlying22
  have HN := hide hn
  have HC := hide (numCells_below hc (below_new w (.cells #[] 3)) hB)
  clear hn hc
  go_enter Tryz.func36, Tryz.ntmps36
  go_wp2_with (at_builtin; go_loud (refine wpList_append_lies _ rfl (.tmp 5) (.tmp 6) 22 rfl w.heap.size 3 iE (.int .i64 0) 1 8 Tryz.underlying22 hiE hE0 hE1 hE2 rfl (by decide) (.slice (some ⟨w.heap.size, 0, none⟩) 0 0) 0 [] rfl ⟨rfl, .inr ⟨w.heap.size, 0, #[], rfl, Nat.le_refl _, by exact heap_alloc_new w _, Nat.le_refl _, by unfold maxLen; omega, rfl, rfl⟩⟩ ⟨b, off, none⟩ n cap (numList l) rfl (by rw [numList_length, unhide HN, Nat.mul_one]) (numList_news (unhide HC)) (numList_one l) h0 (by unfold maxLen; omega) (by omega) (by simp) (w.heap.size + 1) (by simp) ?_; intro g1 c1 w1 hown1 hg1 hat1 hlt1; simp only [Nat.zero_add, List.nil_append] at hown1))
  go_ret
  exact ⟨_, rfl, hown1, (below_new w _).trans ((Below.refl _ _).grown hg1 (by simp) (by simp [Value.ownBlock]))⟩

set_option maxHeartbeats 1000000 in
theorem cloneNum_zero (a : Addr) (cap : Nat) (w : World) :
    Calls Tryz.prog 36 #[.slice (some a) 0 cap] w fun e w' => ∃ v, e = .returned v ∧ w'.ownsRow w.heap.size 3 1 v 0 [] ∧ Below w.heap.size w w' := by
  obtain ⟨iE, hiE, hE0, hE1, hE2⟩ := info_parts Tryz.info3
  have hq : ∀ (w : World) (a : Option Addr) (n c n' c' : Nat), (binOp .eql 22 (.slice a n c) (.slice none n' c')).run Tryz.prog w = .ok (.bool a.isNone) w := fun w a n c n' c' => Lib.run_eql_slice_nil w _ _ a n c n' c' Tryz.underlying22
  go_enter Tryz.func36, Tryz.ntmps36
  go_wp2_with (at_builtin; go_loud (refine wpList_append_own _ rfl (.tmp 5) (.tmp 6) 22 rfl w.heap.size 3 iE (.int .i64 0) 1 8 Tryz.underlying22 hiE hE0 hE1 hE2 rfl (by decide) (.slice (some ⟨w.heap.size, 0, none⟩) 0 0) 0 [] rfl ⟨rfl, .inr ⟨w.heap.size, 0, #[], rfl, Nat.le_refl _, by exact heap_alloc_new w _, Nat.le_refl _, by unfold maxLen; omega, rfl, rfl⟩⟩ a 0 cap [] rfl rfl (by intro j u hu; simp at hu) (by simp) (by decide) (by decide) (by simp) ?_; intro v1 w1 hown1 hg1 hn1))
  go_ret
  exact ⟨_, rfl, hown1, (below_new w _).trans ((Below.refl _ _).grown hg1 (by simp) (by simp [Value.ownBlock]))⟩

set_option maxHeartbeats 1000000 in
theorem cloneNum_nil (w : World) :
    Calls Tryz.prog 36 #[.slice none 0 0] w fun e w' => ∃ v, e = .returned v ∧ w'.ownsRow w.heap.size 3 1 v 0 [] ∧ Below w.heap.size w w' := by
  have hq : ∀ (w : World) (a : Option Addr) (n c n' c' : Nat), (binOp .eql 22 (.slice a n c) (.slice none n' c')).run Tryz.prog w = .ok (.bool a.isNone) w := fun w a n c n' c' => Lib.run_eql_slice_nil w _ _ a n c n' c' Tryz.underlying22
  go_enter Tryz.func36, Tryz.ntmps36
  go_wp2
  go_ret
  exact ⟨_, rfl, World.ownsRow_nil _ _ _ _, Below.refl _ _⟩

/-- The costs of a router: a list of its own. -/
theorem cloneNum_any (ao : Option Addr) (n cap : Nat) (l : List Int) (w : World) (hn : l.length = n) (h8 : n ≤ 8) (hnil : ao = none → n = 0 ∧ cap = 0) (hs : numSlice w ao l) :
    Calls Tryz.prog 36 #[.slice ao n cap] w fun e w' => ∃ v, e = .returned v ∧ w'.ownsRow w.heap.size 3 1 v n (numList l) ∧ Below w.heap.size w w' := by
  by_cases h0 : n = 0
  · subst h0
    have : l = [] := List.eq_nil_of_length_eq_zero hn
    subst this
    cases ao with
    | none =>
      obtain ⟨_, rfl⟩ := hnil rfl
      exact cloneNum_nil w
    | some a => exact cloneNum_zero a cap w
  · rcases hs with rfl | ⟨b, off, rfl, hc⟩
    · simp at hn; omega
    · exact cloneNum_some b off n cap l w hn (by omega) h8 (numCells_lt hc (by omega)) hc

end Go.Proofs.YtdnpeefnobjfaaaGreatDoor
