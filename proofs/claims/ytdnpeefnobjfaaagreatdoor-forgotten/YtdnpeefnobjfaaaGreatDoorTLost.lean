/- A table when a neighbour is reached no more: (Table).Lost. -/
import Derived.Test.YtdnpeefnobjfaaaGreatDoorTWrite
namespace Go.Proofs.YtdnpeefnobjfaaaGreatDoor
open Go.RowKit
attribute [local go_sem ↓] Go.wp_at_zero Go.wp_at_succ

/-- The first k mapped. -/
def mapUpto (f : Rw → Rw) (L : List Rw) (k : Nat) : List Rw := (L.take k).map f ++ L.drop k
theorem mapUpto_length (f : Rw → Rw) (L : List Rw) (k : Nat) : (mapUpto f L k).length = L.length := by simp [mapUpto]; omega
theorem mapUpto_zero (f : Rw → Rw) (L : List Rw) : mapUpto f L 0 = L := by simp [mapUpto]
theorem mapUpto_all (f : Rw → Rw) (L : List Rw) : mapUpto f L L.length = L.map f := by simp [mapUpto]
theorem mapUpto_at (f : Rw → Rw) (L : List Rw) (k : Nat) (hk : k < L.length) (hk' : k < (mapUpto f L k).length) : (mapUpto f L k)[k] = L[k] := by
  simp only [mapUpto]
  rw [List.getElem_append_right (by simp; omega)]
  simp [Nat.min_eq_left (Nat.le_of_lt hk)]
theorem mapUpto_set (f : Rw → Rw) (L : List Rw) (k : Nat) (hk : k < L.length) : (mapUpto f L k).set k (f L[k]) = mapUpto f L (k + 1) := by
  simp only [mapUpto]
  rw [List.set_append_right _ _ (by simp; omega), List.take_succ_eq_append_getElem hk, List.map_append, List.append_assoc]
  congr 1
  rw [List.length_map, List.length_take, Nat.min_eq_left (Nat.le_of_lt hk), Nat.sub_self, List.drop_eq_getElem_cons hk]
  rfl
theorem mapUpto_same (f : Rw → Rw) (L : List Rw) (k : Nat) (hk : k < L.length) (h : f L[k] = L[k]) : mapUpto f L k = mapUpto f L (k + 1) := by
  rw [← mapUpto_set f L k hk, h, ← mapUpto_at f L k hk (by rw [mapUpto_length]; exact hk), List.set_getElem_self]

theorem rwList_set (L : List Rw) (k : Nat) (hk : k < L.length) (r : Rw) : ((((((((rwList L).set (k * 7) (.int .u32 r.addr)).set (k * 7 + 1) (.int .i64 r.len)).set (k * 7 + 2) (.int .i64 r.tag)).set (k * 7 + 3) (.int .i64 r.met)).set (k * 7 + 4) (.int .i64 r.frm)).set (k * 7 + 5) (.int .i64 r.age)).set (k * 7 + 6) (.bool r.chg)) = rwList (L.set k r) := by
  induction L generalizing k with
  | nil => simp at hk
  | cons x R ih =>
    cases k with
    | zero => simp [rwList, rwVals]
    | succ k =>
      have := ih k (by simpa using hk)
      simp only [rwList, List.flatMap_cons, List.set_cons_succ] at this ⊢
      have hl : (rwVals x).length = 7 := rfl
      have e : ∀ j, (k + 1) * 7 + j - 7 = k * 7 + j := fun j => by omega
      have e0 : (k + 1) * 7 - 7 = k * 7 := by omega
      rw [List.set_append_right _ _ (by rw [hl]; omega), hl, e0, List.set_append_right _ _ (by rw [hl]; omega), hl, e, List.set_append_right _ _ (by rw [hl]; omega), hl, e, List.set_append_right _ _ (by rw [hl]; omega), hl, e, List.set_append_right _ _ (by rw [hl]; omega), hl, e, List.set_append_right _ _ (by rw [hl]; omega), hl, e, List.set_append_right _ _ (by rw [hl]; omega), hl, e, this]

/-- A row of a table that is owned is written. -/
theorem ownsRow_put {w : World} {base g n cap k : Nat} {L : List Rw} (h : w.ownsRow base 137 7 (.slice (some ⟨g, 0, none⟩) n cap) n (rwList L)) (hk : k < L.length) (r : Rw) :
    (((((((w.setCell ⟨g, k * 7, none⟩ (.int .u32 r.addr)).setCell ⟨g, k * 7 + 1, none⟩ (.int .i64 r.len)).setCell ⟨g, k * 7 + 2, none⟩ (.int .i64 r.tag)).setCell ⟨g, k * 7 + 3, none⟩ (.int .i64 r.met)).setCell ⟨g, k * 7 + 4, none⟩ (.int .i64 r.frm)).setCell ⟨g, k * 7 + 5, none⟩ (.int .i64 r.age)).setCell ⟨g, k * 7 + 6, none⟩ (.bool r.chg)).ownsRow base 137 7 (.slice (some ⟨g, 0, none⟩) n cap) n (rwList (L.set k r)) := by
  obtain ⟨hl, ⟨hv, _⟩ | ⟨g', c', cur, hv, hbg, hg, hnc, hcm, hcs, ht⟩⟩ := h
  · simp at hv
  · simp at hv
    obtain ⟨rfl, rfl⟩ := hv
    refine ⟨by rw [rwList_length] at hl ⊢; rw [List.length_set]; exact hl, .inr ⟨g, cap, (((((((cur.setIfInBounds (k * 7) (.int .u32 r.addr)).setIfInBounds (k * 7 + 1) (.int .i64 r.len)).setIfInBounds (k * 7 + 2) (.int .i64 r.tag)).setIfInBounds (k * 7 + 3) (.int .i64 r.met)).setIfInBounds (k * 7 + 4) (.int .i64 r.frm)).setIfInBounds (k * 7 + 5) (.int .i64 r.age)).setIfInBounds (k * 7 + 6) (.bool r.chg)), rfl, hbg, ?_, hnc, hcm, by simpa using hcs, ?_⟩⟩
    · exact (((((((show Blk w g cur 137 from hg).set _ _).set _ _).set _ _).set _ _).set _ _).set _ _).set _ _
    · rw [← rwList_set L k hk r, ← ht]
      simp only [Array.toList_setIfInBounds, List.take_set]
theorem ownsRow_cellsOf {w : World} {base g n cap k : Nat} {L : List Rw} (h : w.ownsRow base 137 7 (.slice (some ⟨g, 0, none⟩) n cap) n (rwList L)) (hk : k < L.length) :
    (∃ cur, Blk w g cur 137 ∧ n * 7 ≤ cur.size) ∧ rwCells w g 0 L := by
  constructor
  · obtain ⟨hl, ⟨hv, _⟩ | ⟨g', c', cur, hv, hbg, hg, hnc, hcm, hcs, ht⟩⟩ := h
    · simp at hv
    · simp at hv
      obtain ⟨rfl, rfl⟩ := hv
      exact ⟨cur, hg, by rw [hcs]; exact Nat.mul_le_mul_right 7 hnc⟩
  · rcases rwSlice_own h with h0 | ⟨b, off, hb, hc⟩
    · rw [h0] at hk; simp at hk
    · simp at hb
      obtain ⟨rfl, rfl⟩ := hb
      exact hc

theorem cell_there {w : World} {g n k : Nat} {cur : Array Value} (h : Blk w g cur 137) (hn : n * 7 ≤ cur.size) (hk : k < n) (j : Nat) (hj : j < 7) : ∃ v, w.cell? ⟨g, k * 7 + j, none⟩ = some v := by
  rw [h.cell, Array.getElem?_eq_getElem (by omega)]
  exact ⟨_, rfl⟩

def lostL (nb : Int) (L : List Rw) : List Rw := L.map fun r => if r.frm = nb then rwLost r else r

set_option maxRecDepth 100000 in
set_option maxHeartbeats 4000000 in
theorem lostTable_any (base : Nat) (ao : Option Addr) (cap : Nat) (L : List Rw) (nb : Int) (w : World) (hn : L.length ≤ 1000000) (hown : w.ownsRow base 137 7 (.slice ao L.length cap) L.length (rwList L)) :
    Calls Tryz.prog 60 #[.agg #[.slice ao L.length cap], .int .i64 nb] w fun e w' => ∃ v, e = .returned (.agg #[v]) ∧ w'.ownsRow w.heap.size 137 7 v L.length (rwList (lostL nb L)) ∧ Below w.heap.size w w' := by
  have bT := outBlk w #[.slice ao L.length cap] 120 #[.slice none 0 0] 120
  have hb0 := (((Grows.refl w).alloc (.cells #[.slice ao L.length cap] 120)).alloc (.cells #[.slice none 0 0] 120)).below
  have hsz : ((w.alloc (.cells #[.slice ao L.length cap] 120)).alloc (.cells #[.slice none 0 0] 120)).heap.size = w.heap.size + 2 := by simp
  have hcl := cloneRow_any base (.slice ao L.length cap) L ((w.alloc (.cells #[.slice ao L.length cap] 120)).alloc (.cells #[.slice none 0 0] 120)) hn (ownsRow_below hown hb0 (Nat.le_refl _))
  have HT := hide bT
  have HB0 := hide hb0
  have HSZ := hide hsz
  clear bT hb0 hown hsz
  go_enter Tryz.func60, Tryz.ntmps60
  go_wp2_with fail
  refine hcl.mono ?_
  rintro e w1 ⟨v', rfl, hown1, hb1⟩
  rw [unhide HSZ] at hown1 hb1
  obtain ⟨ao', cap', rfl⟩ := ownsRow_slice hown1
  have HB1 := hide hb1
  have hs1 : w.heap.size + 2 ≤ w1.heap.size := by have := hb1.size; rw [unhide HSZ] at this; exact this
  have bT1 := (unhide HT).below hb1 (by omega)
  clear hcl hb1
  go_wp2_with fail
  go_loopw [13] (fun i wr => ∃ k : Nat, k ≤ L.length ∧ i = .int .i64 k ∧ wr.ownsRow (w.heap.size + 2) 137 7 (.slice ao' L.length cap') L.length (rwList (mapUpto (fun r => if r.frm = nb then rwLost r else r) L k)) ∧ Below (w.heap.size + 2) w1 wr) (fun i _ => L.length - (intOf i).toNat)
  case atStart => exact ⟨0, by omega, rfl, by rw [mapUpto_zero]; exact hown1, Below.refl _ _⟩
  case round =>
    obtain ⟨k, hk, rfl, hown, hb⟩ := hrel
    clear hown1
    by_cases hlt : k < L.length
    · obtain ⟨g, rfl⟩ : ∃ g, ao' = some ⟨g, 0, none⟩ := by
        rcases hown.2 with ⟨_, h0⟩ | ⟨g, c, cur, hv, _⟩
        · omega
        · simp at hv; exact ⟨g, hv.1⟩
      have hlt' : k < (mapUpto (fun r => if r.frm = nb then rwLost r else r) L k).length := by rw [mapUpto_length]; exact hlt
      have hgb : w.heap.size + 2 ≤ g := by
        rcases hown.2 with ⟨hv, _⟩ | ⟨g', c, cur, hv, hbg, _⟩
        · simp at hv
        · simp at hv; omega
      obtain ⟨_, hce⟩ := ownsRow_cellsOf hown hlt'
      have hcek := hce k hlt'
      rw [mapUpto_at _ _ _ hlt hlt'] at hcek
      simp only [Nat.zero_add] at hcek
      obtain ⟨c0, c1, c2, c3, c4, c5, c6⟩ := hcek
      have HSET := hide (mapUpto_set (fun r => if r.frm = nb then rwLost r else r) L k hlt)
      have HSAME := hide (mapUpto_same (fun r => if r.frm = nb then rwLost r else r) L k hlt)
      have HOWN := hide hown
      have HB := hide hb
      have j0 : (0 : Int) ≤ (k : Int) := by omega
      have j1 : (k : Int) < (L.length : Int) := by omega
      clear hown hce
      generalize hE : L[k] = E at *
      clear hE
      by_cases hf : E.frm = nb
      · have he : (E.frm == nb) = true := by simp [hf]
        have hL := fun W => lost_any E W
        rw [if_pos hf] at HSET
        generalize rwLost E = r2 at hL HSET
        clear hf HSAME hb
        go_wp2_with (go_at_call 109; refine (hL _).mono ?_; rintro e w4 ⟨rfl, hg4⟩; have hg4' := ((Grows.refl wr).alloc _).trans hg4; have hown4 := ownsRow_block (unhide HOWN) (hg4'.below.block _ (ownsRow_lt (unhide HOWN))); obtain ⟨⟨cur, bG, hcur⟩, _⟩ := ownsRow_cellsOf hown4 hlt'; obtain ⟨u0, s0⟩ := cell_there bG hcur hlt 0 (by decide); obtain ⟨u1, s1⟩ := cell_there bG hcur hlt 1 (by decide); obtain ⟨u2, s2⟩ := cell_there bG hcur hlt 2 (by decide); obtain ⟨u3, s3⟩ := cell_there bG hcur hlt 3 (by decide); obtain ⟨u4, s4⟩ := cell_there bG hcur hlt 4 (by decide); obtain ⟨u5, s5⟩ := cell_there bG hcur hlt 5 (by decide); obtain ⟨u6, s6⟩ := cell_there bG hcur hlt 6 (by decide); rw [Nat.add_zero] at s0; have z0 := bG.frozen (k * 7); have z1 := bG.frozen (k * 7 + 1); have z2 := bG.frozen (k * 7 + 2); have z3 := bG.frozen (k * 7 + 3); have z4 := bG.frozen (k * 7 + 4); have z5 := bG.frozen (k * 7 + 5); have z6 := bG.frozen (k * 7 + 6); have HO4 := hide hown4; have HG4 := hide hg4'; clear hown4 hg4 hg4' hcur bG)
        go_roundw
        case rel =>
          refine ⟨k + 1, by omega, by go_num, by rw [← unhide HSET]; exact ownsRow_put (unhide HO4) hlt' r2, ?_⟩
          have h4 := (unhide HB).trans ((unhide HG4).below.mono (by have := (unhide HB).size; omega))
          exact ((((((h4.setCell (p := ⟨g, _, none⟩) hgb _).setCell (p := ⟨g, _, none⟩) hgb _).setCell (p := ⟨g, _, none⟩) hgb _).setCell (p := ⟨g, _, none⟩) hgb _).setCell (p := ⟨g, _, none⟩) hgb _).setCell (p := ⟨g, _, none⟩) hgb _).setCell (p := ⟨g, _, none⟩) hgb _
        case measure => simp [intOf]; omega
      · have he : (E.frm == nb) = false := by simp [hf]
        rw [if_neg hf] at HSAME
        clear hf HSET hb
        go_wp2
        go_roundw
        case rel =>
          refine ⟨k + 1, by omega, by go_num, ?_, (unhide HB).alloc (by have := (unhide HB).size; omega) _⟩
          rw [← unhide HSAME rfl]
          exact (unhide HOWN).alloc _
        case measure => simp [intOf]; omega
    · have hkn : k = L.length := by omega
      subst hkn
      have bT2 := bT1.below hb (by omega)
      have s0 := bT2.cell 0
      have z0 := bT2.frozen 0
      have HOWN := hide hown
      have HB := hide hb
      clear hown hb
      go_wp2
      have bT3 := bT2.set 0 (.slice ao' L.length cap')
      have t0 := bT3.cell 0
      simp at t0
      refine bodyPost_ret (v := .agg #[.slice ao' L.length cap']) (by simp [results, Tryz.results60, go_sem, t0]) rfl ⟨_, rfl, ?_, ?_⟩
      · have := unhide HOWN
        rw [mapUpto_all] at this
        exact ownsRow_mono (ownsRow_other this bT2 (by decide)) (by omega)
      · exact ((unhide HB0).trans (((unhide HB1).mono (by omega)).trans ((unhide HB).mono (by omega)))).setCell (p := ⟨w.heap.size + 1, 0, none⟩) (by simp) _

end Go.Proofs.YtdnpeefnobjfaaaGreatDoor
