/- milepostkeep.begin: a router whose own prefix is found. -/
import Derived.Test.YtdnpeefnobjfaaaGreatDoorRNew2
namespace Go.Proofs.YtdnpeefnobjfaaaGreatDoor
open Go.RowKit Go.Shelf Go.Sort
attribute [local go_sem ↓] Go.wp_at_zero Go.wp_at_succ

/-- A slice of rows that are owned. -/
theorem rwSlice_own {w : World} {base n cap : Nat} {ao : Option Addr} {L : List Rw} (h : w.ownsRow base 137 7 (.slice ao n cap) n (rwList L)) : rwSlice w ao L := by
  obtain ⟨hl, ⟨hv, h0⟩ | ⟨g, c, cur, hv, _, hg, _, _, _, ht⟩⟩ := h
  · subst h0
    rw [rwList_length] at hl
    exact .inl (List.eq_nil_of_length_eq_zero (by omega))
  · simp at hv
    obtain ⟨rfl, rfl⟩ := hv
    rw [rwList_length] at hl
    have hn : L.length = n := by omega
    refine .inr ⟨g, 0, rfl, fun k hk => ?_⟩
    have hc : ∀ j, j < n * 7 → w.cell? ⟨g, j, none⟩ = (rwList L)[j]? := fun j hj => by
      rw [show w.cell? ⟨g, j, none⟩ = cur[j]? by simp [World.cell?, hg], ← ht, List.getElem?_take, if_pos hj]
      simp
    have hv : ∀ i, i < 7 → (rwList L)[k * 7 + i]? = (rwVals L[k])[i]? := fun i hi => by
      clear hc ht hl hn
      induction L generalizing k with
      | nil => simp at hk
      | cons r R ih =>
        cases k with
        | zero =>
          simp only [Nat.zero_mul, Nat.zero_add, rwList, List.flatMap_cons, List.getElem_cons_zero]
          rw [List.getElem?_append_left (by simp [rwVals]; omega)]
        | succ k =>
          have := ih k (by simpa using hk)
          simp only [rwList, List.flatMap_cons, List.getElem_cons_succ] at this ⊢
          rw [List.getElem?_append_right (by simp [rwVals]; omega), ← this]
          congr 1
          simp [rwVals]; omega
    have hlt : k * 7 + 6 < n * 7 := by omega
    simp only [Nat.zero_add]
    refine ⟨?_, ?_, ?_, ?_, ?_, ?_, ?_⟩
    · have := hv 0 (by decide); rw [Nat.add_zero] at this; rw [hc _ (by omega), this]; rfl
    · rw [hc _ (by omega), hv 1 (by decide)]; rfl
    · rw [hc _ (by omega), hv 2 (by decide)]; rfl
    · rw [hc _ (by omega), hv 3 (by decide)]; rfl
    · rw [hc _ (by omega), hv 4 (by decide)]; rfl
    · rw [hc _ (by omega), hv 5 (by decide)]; rfl
    · rw [hc _ (by omega), hv 6 (by decide)]; rfl

def ten8 : Pf := ⟨167772160, 8⟩
theorem ten8_found : findR [ownRw ten8] 167838211 = some (ownRw ten8) := by decide

set_option maxRecDepth 100000 in
set_option maxHeartbeats 2000000 in
theorem begin_any (w : World) : Calls Tryz.prog 10 #[] w fun e w' => e = .returned (.bool true) ∧ Below w.heap.size w w' := by
  have hgood : (costsB [1] && ownB [ten8]) = true := by decide
  have bP := hide (((Blk.new w #[.int .u32 167772160, .int .i64 8] 32).alloc (.cells #[.int .i64 1] 3)).alloc (.cells #[.int .u32 167772160, .int .i64 8] 32))
  have bC := (Blk.new (w.alloc (.cells #[.int .u32 167772160, .int .i64 8] 32)) #[.int .i64 1] 3).alloc (.cells #[.int .u32 167772160, .int .i64 8] 32)
  have bO := Blk.new ((w.alloc (.cells #[.int .u32 167772160, .int .i64 8] 32)).alloc (.cells #[.int .i64 1] 3)) #[.int .u32 167772160, .int .i64 8] 32
  have hsz : (((w.alloc (.cells #[.int .u32 167772160, .int .i64 8] 32)).alloc (.cells #[.int .i64 1] 3)).alloc (.cells #[.int .u32 167772160, .int .i64 8] 32)).heap.size = w.heap.size + 3 := by simp
  have HB0 := hide ((((Grows.refl w).alloc (.cells #[.int .u32 167772160, .int .i64 8] 32)).alloc (.cells #[.int .i64 1] 3)).alloc (.cells #[.int .u32 167772160, .int .i64 8] 32)).below
  simp only [World.size_alloc] at bC bO
  have hnum : numCells (((w.alloc (.cells #[.int .u32 167772160, .int .i64 8] 32)).alloc (.cells #[.int .i64 1] 3)).alloc (.cells #[.int .u32 167772160, .int .i64 8] 32)) (w.heap.size + 1) 0 [1] := fun k hk => by
    obtain rfl : k = 0 := by simpa using hk
    exact bC.cell 0
  have hpf : pfCells (((w.alloc (.cells #[.int .u32 167772160, .int .i64 8] 32)).alloc (.cells #[.int .i64 1] 3)).alloc (.cells #[.int .u32 167772160, .int .i64 8] 32)) (w.heap.size + 1 + 1) 0 [ten8] := fun k hk => by
    obtain rfl : k = 0 := by simpa using hk
    exact ⟨bO.cell 0, bO.cell 1⟩
  have hN := new_good (some ⟨w.heap.size + 1, 0, none⟩) (some ⟨w.heap.size + 1 + 1, 0, none⟩) 1 1 [1] [ten8] _ hgood (by intro p hp; simp at hp; subst hp; decide) (Nat.le_refl _) (by intro h; cases h) (.inr ⟨_, _, rfl, hnum⟩) (.inr ⟨_, _, rfl, hpf⟩)
  simp only [List.length_cons, List.length_nil, Nat.zero_add] at hN
  clear hnum hpf bC bO
  go_enter Tryz.func10, Tryz.ntmps10
  go_wp2_with fail
  refine hN.mono ?_
  rintro e w1 ⟨R, V, cv, rv, Ls, rfl, hR, hperm, _, hb1⟩
  obtain rfl : Ls = [ten8] := List.perm_singleton.1 hperm
  obtain ⟨ar, cr, rfl⟩ := ownsRow_slice hR.rows
  simp only [List.map_cons, List.map_nil, List.length_cons, List.length_nil, Nat.zero_add] at hR
  have hV := view_any R V _ _ 0 0 w1 hR.blk hR.view
  have hL := lookup_any V ar 1 cr [ownRw ten8] 167838211 w1 hR.view rfl (by decide) (by intro r hr; simp at hr; subst hr; decide) (by decide) (by decide) (rwSlice_own hR.rows)
  rw [ten8_found] at hL
  simp only [lookOut, routeVals, ownRw, freshRw, ten8] at hL
  have bP1 := (unhide bP).below hb1 (by rw [hsz]; omega)
  have c0 := (bP1.cell 0).trans (show _ = some (.int .u32 167772160) from rfl)
  have c1 := (bP1.cell 1).trans (show _ = some (.int .i64 8) from rfl)
  have HB1 := hide ((unhide HB0).trans (hb1.mono (unhide HB0).size))
  clear hR hb1 hN hperm
  go_wp2_with (first | (go_at_call 17; refine hV.mono ?_; rintro e w2 ⟨rfl, rfl⟩) | (go_at_call 18; refine hL.mono ?_; rintro e w2 ⟨rfl, hb2⟩; have bP2 := (bP1.below hb2 bP1.lt).alloc (.cells #[.int .u32 167772160, .int .i64 8, .int .i64 0, .int .i64 1, .int .i64 (-1)] 52); have d0 := (bP2.cell 0).trans (show _ = some (.int .u32 167772160) from rfl); have d1 := (bP2.cell 1).trans (show _ = some (.int .i64 8) from rfl)))
  go_ret
  exact ⟨rfl, ((unhide HB1).trans (hb2.mono (unhide HB1).size)).alloc (by have := (unhide HB1).size; have := hb2.size; omega) _⟩

end Go.Proofs.YtdnpeefnobjfaaaGreatDoor
