/- A table when a neighbour is reached no more: (Table).Lost. -/
import Derived.Test.YtdnpeefnobjfaaaGreatDoorTCloneM
import Derived.Lib.SliceRun
namespace Go.Proofs.YtdnpeefnobjfaaaGreatDoor
open Go.RowKit
attribute [local go_sem ↓] Go.wp_at_zero Go.wp_at_succ

/-- The first k mapped. -/
def mapUpto (f : Rw → Rw) (L : List Rw) (k : Nat) : List Rw := (L.take k).map f ++ L.drop k
theorem mapUpto_length (f : Rw → Rw) (L : List Rw) (k : Nat) : (mapUpto f L k).length = L.length := by simp [mapUpto]; omega
theorem mapUpto_zero (f : Rw → Rw) (L : List Rw) : mapUpto f L 0 = L := by simp [mapUpto]
theorem mapUpto_all (f : Rw → Rw) (L : List Rw) : mapUpto f L L.length = L.map f := by simp [mapUpto]
theorem mapUpto_at (f : Rw → Rw) (L : List Rw) (k : Nat) (hk : k < L.length) (hk' : k < (mapUpto f L k).length) : (mapUpto f L k)[k] = L[k] := by
  simp only [mapUpto]
  rw [List.getElem_append_right (by simp; omega)]
  simp [Nat.min_eq_left (Nat.le_of_lt hk)]
theorem mapUpto_set (f : Rw → Rw) (L : List Rw) (k : Nat) (hk : k < L.length) : (mapUpto f L k).set k (f L[k]) = mapUpto f L (k + 1) := by
  simp only [mapUpto]
  rw [List.set_append_right _ _ (by simp; omega), List.take_succ_eq_append_getElem hk, List.map_append, List.append_assoc]
  congr 1
  rw [List.length_map, List.length_take, Nat.min_eq_left (Nat.le_of_lt hk), Nat.sub_self, List.drop_eq_getElem_cons hk]
  rfl
theorem mapUpto_same (f : Rw → Rw) (L : List Rw) (k : Nat) (hk : k < L.length) (h : f L[k] = L[k]) : mapUpto f L k = mapUpto f L (k + 1) := by
  rw [← mapUpto_set f L k hk, h, ← mapUpto_at f L k hk (by rw [mapUpto_length]; exact hk), List.set_getElem_self]

theorem rwList_set (L : List Rw) (k : Nat) (hk : k < L.length) (r : Rw) : ((((((((rwList L).set (k * 7) (.int .u32 r.addr)).set (k * 7 + 1) (.int .i64 r.len)).set (k * 7 + 2) (.int .i64 r.tag)).set (k * 7 + 3) (.int .i64 r.met)).set (k * 7 + 4) (.int .i64 r.frm)).set (k * 7 + 5) (.int .i64 r.age)).set (k * 7 + 6) (.bool r.chg)) = rwList (L.set k r) := by
  induction L generalizing k with
  | nil => simp at hk
  | cons x R ih =>
    cases k with
    | zero => simp [rwList, rwVals]
    | succ k =>
      have := ih k (by simpa using hk)
      simp only [rwList, List.flatMap_cons, List.set_cons_succ] at this ⊢
      have hl : (rwVals x).length = 7 := rfl
      have e : ∀ j, (k + 1) * 7 + j - 7 = k * 7 + j := fun j => by omega
      have e0 : (k + 1) * 7 - 7 = k * 7 := by omega
      rw [List.set_append_right _ _ (by rw [hl]; omega), hl, e0, List.set_append_right _ _ (by rw [hl]; omega), hl, e, List.set_append_right _ _ (by rw [hl]; omega), hl, e, List.set_append_right _ _ (by rw [hl]; omega), hl, e, List.set_append_right _ _ (by rw [hl]; omega), hl, e, List.set_append_right _ _ (by rw [hl]; omega), hl, e, List.set_append_right _ _ (by rw [hl]; omega), hl, e, this]

/-- A row of a table that is owned is written. -/
theorem ownsRow_put {w : World} {base g n cap k : Nat} {L : List Rw} (h : w.ownsRow base 137 7 (.slice (some ⟨g, 0, none⟩) n cap) n (rwList L)) (hk : k < L.length) (r : Rw) :
    (((((((w.setCell ⟨g, k * 7, none⟩ (.int .u32 r.addr)).setCell ⟨g, k * 7 + 1, none⟩ (.int .i64 r.len)).setCell ⟨g, k * 7 + 2, none⟩ (.int .i64 r.tag)).setCell ⟨g, k * 7 + 3, none⟩ (.int .i64 r.met)).setCell ⟨g, k * 7 + 4, none⟩ (.int .i64 r.frm)).setCell ⟨g, k * 7 + 5, none⟩ (.int .i64 r.age)).setCell ⟨g, k * 7 + 6, none⟩ (.bool r.chg)).ownsRow base 137 7 (.slice (some ⟨g, 0, none⟩) n cap) n (rwList (L.set k r)) := by
  obtain ⟨hl, ⟨hv, _⟩ | ⟨g', c', cur, hv, hbg, hg, hnc, hcm, hcs, ht⟩⟩ := h
  · simp at hv
  · simp at hv
    obtain ⟨rfl, rfl⟩ := hv
    refine ⟨by rw [rwList_length] at hl ⊢; rw [List.length_set]; exact hl, .inr ⟨g, cap, (((((((cur.setIfInBounds (k * 7) (.int .u32 r.addr)).setIfInBounds (k * 7 + 1) (.int .i64 r.len)).setIfInBounds (k * 7 + 2) (.int .i64 r.tag)).setIfInBounds (k * 7 + 3) (.int .i64 r.met)).setIfInBounds (k * 7 + 4) (.int .i64 r.frm)).setIfInBounds (k * 7 + 5) (.int .i64 r.age)).setIfInBounds (k * 7 + 6) (.bool r.chg)), rfl, hbg, ?_, hnc, hcm, by simpa using hcs, ?_⟩⟩
    · exact (((((((show Blk w g cur 137 from hg).set _ _).set _ _).set _ _).set _ _).set _ _).set _ _).set _ _
    · rw [← rwList_set L k hk r, ← ht]
      simp only [Array.toList_setIfInBounds, List.take_set]
theorem ownsRow_cellsOf {w : World} {base g n cap k : Nat} {L : List Rw} (h : w.ownsRow base 137 7 (.slice (some ⟨g, 0, none⟩) n cap) n (rwList L)) (hk : k < L.length) :
    (∃ cur, Blk w g cur 137 ∧ n * 7 ≤ cur.size) ∧ rwCells w g 0 L := by
  constructor
  · obtain ⟨hl, ⟨hv, _⟩ | ⟨g', c', cur, hv, hbg, hg, hnc, hcm, hcs, ht⟩⟩ := h
    · simp at hv
    · simp at hv
      obtain ⟨rfl, rfl⟩ := hv
      exact ⟨cur, hg, by rw [hcs]; exact Nat.mul_le_mul_right 7 hnc⟩
  · rcases rwSlice_own h with h0 | ⟨b, off, hb, hc⟩
    · rw [h0] at hk; simp at hk
    · simp at hb
      obtain ⟨rfl, rfl⟩ := hb
      exact hc

theorem cell_there {w : World} {g n k : Nat} {cur : Array Value} (h : Blk w g cur 137) (hn : n * 7 ≤ cur.size) (hk : k < n) (j : Nat) (hj : j < 7) : ∃ v, w.cell? ⟨g, k * 7 + j, none⟩ = some v := by
  rw [h.cell, Array.getElem?_eq_getElem (by omega)]
  exact ⟨_, rfl⟩

def lostL (nb : Int) (L : List Rw) : List Rw := L.map fun r => if r.frm = nb then rwLost r else r

set_option maxRecDepth 100000 in
set_option maxHeartbeats 4000000 in
theorem lostTable_any (base : Nat) (ao : Option Addr) (cap : Nat) (L : List Rw) (nb : Int) (w : World) (hn : L.length ≤ 1000000) (hown : w.ownsRow base 137 7 (.slice ao L.length cap) L.length (rwList L)) :
    Calls Tryz.prog 60 #[.agg #[.slice ao L.length cap], .int .i64 nb] w fun e w' => ∃ v, e = .returned (.agg #[v]) ∧ w'.ownsRow w.heap.size 137 7 v L.length (rwList (lostL nb L)) ∧ Below w.heap.size w w' := by
  have bT := outBlk w #[.slice ao L.length cap] 120 #[.slice none 0 0] 120
  have hb0 := (((Grows.refl w).alloc (.cells #[.slice ao L.length cap] 120)).alloc (.cells #[.slice none 0 0] 120)).below
  have hsz : ((w.alloc (.cells #[.slice ao L.length cap] 120)).alloc (.cells #[.slice none 0 0] 120)).heap.size = w.heap.size + 2 := by simp
  have hcl := cloneRow_any base (.slice ao L.length cap) L ((w.alloc (.cells #[.slice ao L.length cap] 120)).alloc (.cells #[.slice none 0 0] 120)) hn (ownsRow_below hown hb0 (Nat.le_refl _))
  have HT := hide bT
  have HB0 := hide hb0
  have HSZ := hide hsz
  clear bT hb0 hown hsz
  go_enter Tryz.func60, Tryz.ntmps60
  go_wp2_with fail
  refine hcl.mono ?_
  rintro e w1 ⟨v', rfl, hown1, hb1⟩
  rw [unhide HSZ] at hown1 hb1
  obtain ⟨ao', cap', rfl⟩ := ownsRow_slice hown1
  have HB1 := hide hb1
  have hs1 : w.heap.size + 2 ≤ w1.heap.size := by have := hb1.size; rw [unhide HSZ] at this; exact this
  have bT1 := (unhide HT).below hb1 (by omega)
  clear hcl hb1
  go_wp2_with fail
  go_loopw [13] (fun i wr => ∃ k : Nat, k ≤ L.length ∧ i = .int .i64 k ∧ wr.ownsRow (w.heap.size + 2) 137 7 (.slice ao' L.length cap') L.length (rwList (mapUpto (fun r => if r.frm = nb then rwLost r else r) L k)) ∧ Below (w.heap.size + 2) w1 wr) (fun i _ => L.length - (intOf i).toNat)
  case atStart => exact ⟨0, by omega, rfl, by rw [mapUpto_zero]; exact hown1, Below.refl _ _⟩
  case round =>
    obtain ⟨k, hk, rfl, hown, hb⟩ := hrel
    clear hown1
    by_cases hlt : k < L.length
    · obtain ⟨g, rfl⟩ : ∃ g, ao' = some ⟨g, 0, none⟩ := by
        rcases hown.2 with ⟨_, h0⟩ | ⟨g, c, cur, hv, _⟩
        · omega
        · simp at hv; exact ⟨g, hv.1⟩
      have hlt' : k < (mapUpto (fun r => if r.frm = nb then rwLost r else r) L k).length := by rw [mapUpto_length]; exact hlt
      have hgb : w.heap.size + 2 ≤ g := by
        rcases hown.2 with ⟨hv, _⟩ | ⟨g', c, cur, hv, hbg, _⟩
        · simp at hv
        · simp at hv; omega
      obtain ⟨_, hce⟩ := ownsRow_cellsOf hown hlt'
      have hcek := hce k hlt'
      rw [mapUpto_at _ _ _ hlt hlt'] at hcek
      simp only [Nat.zero_add] at hcek
      obtain ⟨c0, c1, c2, c3, c4, c5, c6⟩ := hcek
      have HSET := hide (mapUpto_set (fun r => if r.frm = nb then rwLost r else r) L k hlt)
      have HSAME := hide (mapUpto_same (fun r => if r.frm = nb then rwLost r else r) L k hlt)
      have HOWN := hide hown
      have HB := hide hb
      have j0 : (0 : Int) ≤ (k : Int) := by omega
      have j1 : (k : Int) < (L.length : Int) := by omega
      clear hown hce
      generalize hE : L[k] = E at *
      clear hE
      by_cases hf : E.frm = nb
      · have he : (E.frm == nb) = true := by simp [hf]
        have hL := fun W => lost_any E W
        rw [if_pos hf] at HSET
        generalize rwLost E = r2 at hL HSET
        clear hf HSAME hb
        go_wp2_with (go_at_call 109; refine (hL _).mono ?_; rintro e w4 ⟨rfl, hg4⟩; have hg4' := ((Grows.refl wr).alloc _).trans hg4; have hown4 := ownsRow_block (unhide HOWN) (hg4'.below.block _ (ownsRow_lt (unhide HOWN))); obtain ⟨⟨cur, bG, hcur⟩, _⟩ := ownsRow_cellsOf hown4 hlt'; obtain ⟨u0, s0⟩ := cell_there bG hcur hlt 0 (by decide); obtain ⟨u1, s1⟩ := cell_there bG hcur hlt 1 (by decide); obtain ⟨u2, s2⟩ := cell_there bG hcur hlt 2 (by decide); obtain ⟨u3, s3⟩ := cell_there bG hcur hlt 3 (by decide); obtain ⟨u4, s4⟩ := cell_there bG hcur hlt 4 (by decide); obtain ⟨u5, s5⟩ := cell_there bG hcur hlt 5 (by decide); obtain ⟨u6, s6⟩ := cell_there bG hcur hlt 6 (by decide); rw [Nat.add_zero] at s0; have z0 := bG.frozen (k * 7); have z1 := bG.frozen (k * 7 + 1); have z2 := bG.frozen (k * 7 + 2); have z3 := bG.frozen (k * 7 + 3); have z4 := bG.frozen (k * 7 + 4); have z5 := bG.frozen (k * 7 + 5); have z6 := bG.frozen (k * 7 + 6); have HO4 := hide hown4; have HG4 := hide hg4'; clear hown4 hg4 hg4' hcur bG)
        go_roundw
        case rel =>
          refine ⟨k + 1, by omega, by go_num, by rw [← unhide HSET]; exact ownsRow_put (unhide HO4) hlt' r2, ?_⟩
          have h4 := (unhide HB).trans ((unhide HG4).below.mono (by have := (unhide HB).size; omega))
          exact ((((((h4.setCell (p := ⟨g, _, none⟩) hgb _).setCell (p := ⟨g, _, none⟩) hgb _).setCell (p := ⟨g, _, none⟩) hgb _).setCell (p := ⟨g, _, none⟩) hgb _).setCell (p := ⟨g, _, none⟩) hgb _).setCell (p := ⟨g, _, none⟩) hgb _).setCell (p := ⟨g, _, none⟩) hgb _
        case measure => simp [intOf]; omega
      · have he : (E.frm == nb) = false := by simp [hf]
        rw [if_neg hf] at HSAME
        clear hf HSET hb
        go_wp2
        go_roundw
        case rel =>
          refine ⟨k + 1, by omega, by go_num, ?_, (unhide HB).alloc (by have := (unhide HB).size; omega) _⟩
          rw [← unhide HSAME rfl]
          exact (unhide HOWN).alloc _
        case measure => simp [intOf]; omega
    · have hkn : k = L.length := by omega
      subst hkn
      have bT2 := bT1.below hb (by omega)
      have s0 := bT2.cell 0
      have z0 := bT2.frozen 0
      have HOWN := hide hown
      have HB := hide hb
      clear hown hb
      go_wp2
      have bT3 := bT2.set 0 (.slice ao' L.length cap')
      have t0 := bT3.cell 0
      simp at t0
      refine bodyPost_ret (v := .agg #[.slice ao' L.length cap']) (by simp [results, Tryz.results60, go_sem, t0]) rfl ⟨_, rfl, ?_, ?_⟩
      · have := unhide HOWN
        rw [mapUpto_all] at this
        exact ownsRow_mono (ownsRow_other this bT2 (by decide)) (by omega)
      · exact ((unhide HB0).trans (((unhide HB1).mono (by omega)).trans ((unhide HB).mono (by omega)))).setCell (p := ⟨w.heap.size + 1, 0, none⟩) (by simp) _

end Go.Proofs.YtdnpeefnobjfaaaGreatDoor

/- slices.IndexFunc and slices.DeleteFunc over rows: those that are forgotten go. -/
namespace Go.Proofs.YtdnpeefnobjfaaaGreatDoor
open Go.RowKit
attribute [local go_sem ↓] Go.wp_at_zero Go.wp_at_succ

set_option maxRecDepth 100000 in
set_option maxHeartbeats 2000000 in
theorem indexGone_any (ao : Option Addr) (n cap : Nat) (L : List Rw) (w : World) (hL : L.length = n) (hn : n ≤ 1000000) (hs : rwSlice w ao L) :
    Calls Tryz.prog 151 #[.slice ao n cap, .func (.func 100) #[] #[]] w fun e w' =>
      ((e = .returned (.int .i64 (-1)) ∧ ∀ x ∈ L, rwGone x = false) ∨ (∃ i : Nat, ∃ hi : i < L.length, e = .returned (.int .i64 i) ∧ rwGone L[i] = true ∧ ∀ j, (hj : j < L.length) → j < i → rwGone L[j] = false)) ∧ Grows w w' := by
  have HL := hide hL
  have HS := hide hs
  clear hL hs
  go_enter Tryz.func151, Tryz.ntmps151
  go_wp2
  go_loopw [8] (fun i wr => ∃ k : Nat, k ≤ n ∧ i = .int .i64 k ∧ Grows w wr ∧ ∀ j, (hj : j < L.length) → j < k → rwGone L[j] = false) (fun i _ => n - (intOf i).toNat)
  case atStart => exact ⟨0, by omega, rfl, Grows.refl _, fun j hj h => by omega⟩
  case round =>
    obtain ⟨k, hk, rfl, hg, hgood⟩ := hrel
    have HG := hide hgood
    have HGR := hide hg
    clear hgood
    by_cases hlt : k < n
    · have hlt' : k < L.length := by rw [unhide HL]; exact hlt
      rcases rwSlice_below (unhide HS) hg.below with h0 | ⟨b, off, rfl, hc⟩
      · rw [h0] at hlt'; simp at hlt'
      · obtain ⟨c0, c1, c2, c3, c4, c5, c6⟩ := hc k hlt'
        have j0 : (0 : Int) ≤ (k : Int) := by omega
        have j1 : (k : Int) < (n : Int) := by omega
        have hP := fun W => gone_any L[k] W
        generalize hE : L[k] = E at *
        have HE := hide hE
        clear hE hc hg
        cases hq : rwGone E with
        | true =>
          have HQ := hide hq
          simp only [hq] at hP
          clear hq
          go_wp2_with (go_at_call 100; refine (hP _).mono ?_; rintro e w1 ⟨rfl, hg1⟩)
          go_ret
          exact ⟨.inr ⟨k, hlt', rfl, by rw [unhide HE]; exact unhide HQ, unhide HG⟩, (unhide HGR).trans hg1⟩
        | false =>
          have HQ := hide hq
          simp only [hq] at hP
          clear hq
          go_wp2_with (go_at_call 100; refine (hP _).mono ?_; rintro e w1 ⟨rfl, hg1⟩)
          go_roundw
          case rel =>
            refine ⟨k + 1, by omega, by go_num, (unhide HGR).trans hg1, fun j hj hjk => ?_⟩
            by_cases hjk' : j = k
            · subst hjk'; rw [unhide HE]; exact unhide HQ
            · exact unhide HG j hj (by omega)
          case measure => simp [intOf]; omega
    · have hkn : k = n := by omega
      subst hkn
      go_wp2
      go_ret
      refine ⟨.inl ⟨rfl, fun x hx => ?_⟩, hg⟩
      obtain ⟨j, hj, rfl⟩ := List.getElem_of_mem hx
      exact unhide HG j hj (by rw [← unhide HL]; exact hj)

/-- What is left when those go that are forgotten. -/
def keptL (L : List Rw) : List Rw := L.filter fun r => !(rwGone r)
theorem kept_none {L : List Rw} (h : ∀ x ∈ L, rwGone x = false) : keptL L = L := List.filter_eq_self.2 fun x hx => by simp [h x hx]
theorem kept_snoc_gone {L : List Rw} {j : Nat} (hj : j < L.length) (h : rwGone L[j] = true) : keptL (L.take (j + 1)) = keptL (L.take j) := by
  unfold keptL
  rw [List.take_succ_eq_append_getElem hj, List.filter_append]
  simp only [List.filter_cons, List.filter_nil, h, Bool.not_true, Bool.false_eq_true, if_false, List.append_nil]
theorem kept_snoc {L : List Rw} {j : Nat} (hj : j < L.length) (h : rwGone L[j] = false) : keptL (L.take (j + 1)) = keptL (L.take j) ++ [L[j]] := by
  unfold keptL
  rw [List.take_succ_eq_append_getElem hj, List.filter_append]
  simp only [List.filter_cons, List.filter_nil, h, Bool.not_false, if_true]

theorem rwList_take (M : List Rw) (i : Nat) : (rwList M).take (i * 7) = rwList (M.take i) := by
  induction M generalizing i with
  | nil => simp [rwList]
  | cons x R ih =>
    cases i with
    | zero => simp [rwList]
    | succ i =>
      have := ih i
      simp only [rwList, List.flatMap_cons, List.take_succ_cons] at this ⊢
      rw [← this, List.take_append, show (rwVals x).length = 7 from rfl, show (i + 1) * 7 - 7 = i * 7 by omega, List.take_of_length_le (show (rwVals x).length ≤ (i + 1) * 7 by rw [show (rwVals x).length = 7 from rfl]; omega)]
/-- The head of a row that is owned. -/
theorem ownsRow_head {w : World} {base g n cap i : Nat} {M : List Rw} (h : w.ownsRow base 137 7 (.slice (some ⟨g, 0, none⟩) n cap) n (rwList M)) (hi : i ≤ n) : w.ownsRow base 137 7 (.slice (some ⟨g, 0, none⟩) i cap) i (rwList (M.take i)) := by
  obtain ⟨hl, ⟨hv, _⟩ | ⟨g', c', cur, hv, hbg, hg, hnc, hcm, hcs, ht⟩⟩ := h
  · simp at hv
  · simp at hv
    obtain ⟨rfl, rfl⟩ := hv
    rw [rwList_length] at hl
    refine ⟨by rw [rwList_length, List.length_take]; omega, .inr ⟨g, cap, cur, rfl, hbg, hg, by omega, hcm, hcs, ?_⟩⟩
    rw [← rwList_take, ← ht, List.take_take, Nat.min_eq_left (Nat.mul_le_mul_right 7 hi)]
/-- A store behind the head leaves the head. -/
theorem ownsRow_behind {w : World} {base g n cap o : Nat} {xs : List Value} (h : w.ownsRow base 137 7 (.slice (some ⟨g, 0, none⟩) n cap) n xs) (ho : n * 7 ≤ o) (v : Value) : (w.setCell ⟨g, o, none⟩ v).ownsRow base 137 7 (.slice (some ⟨g, 0, none⟩) n cap) n xs := by
  obtain ⟨hl, ⟨hv, _⟩ | ⟨g', c', cur, hv, hbg, hg, hnc, hcm, hcs, ht⟩⟩ := h
  · simp at hv
  · simp at hv
    obtain ⟨rfl, rfl⟩ := hv
    refine ⟨hl, .inr ⟨g, cap, cur.setIfInBounds o v, rfl, hbg, (show Blk w g cur 137 from hg).set o v, hnc, hcm, by simpa using hcs, ?_⟩⟩
    rw [Array.toList_setIfInBounds, List.take_set_of_le ho, ht]
theorem ownsRow_cells_behind {base g n cap : Nat} {xs : List Value} : ∀ (vs : List Value) (o : Nat) (w : World), w.ownsRow base 137 7 (.slice (some ⟨g, 0, none⟩) n cap) n xs → n * 7 ≤ o → (w.setCells g o vs).ownsRow base 137 7 (.slice (some ⟨g, 0, none⟩) n cap) n xs
  | [], _, _, h, _ => h
  | v :: r, o, w, h, ho => ownsRow_cells_behind r (o + 1) (w.setCell ⟨g, o, none⟩ v) (ownsRow_behind h ho v) (by omega)
theorem grown_setCells {g : Nat} : ∀ (vs : List Value) (o : Nat) (w : World), w.grownBy (w.setCells g o vs) (some g)
  | [], _, _ => ⟨rfl, rfl, rfl, Nat.le_refl _, fun _ _ _ => rfl⟩
  | v :: r, o, w => grown_trans (grown_set _ _ _ _) (grown_setCells r (o + 1) (w.setCell ⟨g, o, none⟩ v))

theorem zeroCells_row (n : Nat) : (Builtin.zeroCells #[.int .u32 0, .int .i64 0, .int .i64 0, .int .i64 0, .int .i64 0, .int .i64 0, .bool false] n).toList.length = n * 7 ∧ ∀ v ∈ (Builtin.zeroCells #[.int .u32 0, .int .i64 0, .int .i64 0, .int .i64 0, .int .i64 0, .int .i64 0, .bool false] n).toList, v.oneCell' = true := by
  constructor
  · simp [Builtin.zeroCells]
  · intro v hv
    simp only [Builtin.zeroCells, Array.toList_map, List.mem_map] at hv
    obtain ⟨i, _, rfl⟩ := hv
    have : i % 7 < 7 := Nat.mod_lt _ (by decide)
    show (#[Value.int .u32 0, .int .i64 0, .int .i64 0, .int .i64 0, .int .i64 0, .int .i64 0, .bool false][i % 7]!).oneCell' = true
    rcases (by omega : i % 7 = 0 ∨ i % 7 = 1 ∨ i % 7 = 2 ∨ i % 7 = 3 ∨ i % 7 = 4 ∨ i % 7 = 5 ∨ i % 7 = 6) with h | h | h | h | h | h | h <;> rw [h] <;> rfl
/-- clear of the end of a row that is owned. -/
theorem run_clear_rows (w : World) (ty : TypeId) (g o n c : Nat) (hn : 0 < n) (hc : ∀ j, j < n * 7 → (w.cell? ⟨g, o + j, none⟩).isSome = true) (hf : ∀ j, j < n * 7 → w.frozen? ⟨g, o + j, none⟩ = false) :
    (Builtin.clear_ #[118] ty #[.slice (some ⟨g, o, none⟩) n c]).run Tryz.prog w = .ok (.tuple #[]) (w.setCells g o (Builtin.zeroCells #[.int .u32 0, .int .i64 0, .int .i64 0, .int .i64 0, .int .i64 0, .int .i64 0, .bool false] n).toList) := by
  obtain ⟨hl, h1⟩ := zeroCells_row n
  have hst := run_storeCells_cells (P := Tryz.prog) g o _ 0 w (by rw [hl]; simpa using hc) (by rw [hl]; simpa using hf) h1
  simp only [Nat.add_zero] at hst
  have hv := Tryz.zeroValue137
  obtain ⟨m, rfl⟩ : ∃ m, n = m + 1 := ⟨n - 1, by omega⟩
  simp [Builtin.clear_, run_underlying Tryz.underlying118, hv, Value.cells, hst]

theorem take_set_snoc {α : Type} (M : List α) (i : Nat) (x : α) (hi : i < M.length) : (M.set i x).take (i + 1) = M.take i ++ [x] := by
  rw [List.take_succ_eq_append_getElem (by simpa using hi), List.getElem_set_self]
  congr 1
  rw [List.take_set_of_le (Nat.le_refl _)]

set_option maxRecDepth 100000 in
set_option maxHeartbeats 4000000 in
theorem deleteFunc_some (base g n cap : Nat) (L : List Rw) (w : World) (hL : L.length = n) (hn : n ≤ 1000000) (hown : w.ownsRow base 137 7 (.slice (some ⟨g, 0, none⟩) n cap) n (rwList L)) :
    Calls Tryz.prog 99 #[.slice (some ⟨g, 0, none⟩) n cap, .func (.func 100) #[] #[]] w fun e w' =>
      e = .returned (.slice (some ⟨g, 0, none⟩) (keptL L).length cap) ∧ w'.ownsRow base 137 7 (.slice (some ⟨g, 0, none⟩) (keptL L).length cap) (keptL L).length (rwList (keptL L)) ∧ w.grownBy w' (some g) := by
  have hI := indexGone_any (some ⟨g, 0, none⟩) n cap L w hL hn (rwSlice_own hown)
  have HL := hide hL
  have HO := hide hown
  have hcap : n ≤ cap ∧ cap ≤ maxLen := by
    obtain ⟨_, ⟨hv, _⟩ | ⟨g', c', cur, hv, _, _, h1, h2, _⟩⟩ := hown
    · simp at hv
    · simp at hv; omega
  clear hL hown
  go_enter Tryz.func99, Tryz.ntmps99
  go_wp2_with fail
  refine hI.mono ?_
  rintro e w1 ⟨⟨rfl, hno⟩ | ⟨i0, hi0, rfl, hgo, hbef⟩, hg1⟩
  · have HK := hide (kept_none hno)
    clear hno
    go_wp2
    go_ret
    rw [unhide HK, unhide HL]
    exact ⟨rfl, ownsRow_block (unhide HO) (hg1.below.block _ (ownsRow_lt (unhide HO))), grown_weak hg1.grownBy⟩
  · have hown1 := ownsRow_block (unhide HO) (hg1.below.block _ (ownsRow_lt (unhide HO)))
    have HG1 := hide hg1
    have hne1 : ((i0 : Int) == -1) = false := by simp
    have hi0n : i0 < n := by rw [← unhide HL]; exact hi0
    have HB := hide hbef
    have HGO := hide hgo
    clear hbef hgo hg1 hI
    go_wp2_with fail
    go_loopw [5, 6] (fun vi vj wr => ∃ (i j : Nat) (M : List Rw), i < j ∧ j ≤ n ∧ vi = .int .i64 i ∧ vj = .int .i64 j ∧ M.length = n ∧ M.take i = keptL (L.take j) ∧ M.drop j = L.drop j ∧ wr.ownsRow base 137 7 (.slice (some ⟨g, 0, none⟩) n cap) n (rwList M) ∧ w1.grownBy wr (some g)) (fun _ vj _ => n - (intOf vj).toNat)
    case atStart =>
      refine ⟨i0, i0 + 1, L, by omega, by omega, rfl, by go_num, unhide HL, ?_, rfl, hown1, World.grownBy.refl _ _⟩
      rw [kept_snoc_gone hi0 (unhide HGO)]
      refine (kept_none fun x hx => ?_).symm
      obtain ⟨j, hj, rfl⟩ := List.getElem_of_mem hx
      rw [List.getElem_take]
      have hj' : j < i0 ∧ j < L.length := by rw [List.length_take] at hj; omega
      exact unhide HB j hj'.2 hj'.1
    case round =>
      obtain ⟨i, j, M, hij, hjn, rfl, rfl, hM, htk, hdr, hown, hgr⟩ := hrel
      clear hown1
      by_cases hlt : j < n
      · have hjM : j < M.length := by omega
        have hjL : j < L.length := by rw [unhide HL]; exact hlt
        have hMj : M[j] = L[j] := by
          have h1 := List.drop_eq_getElem_cons hjM
          have h2 := List.drop_eq_getElem_cons hjL
          rw [hdr, h2] at h1
          exact (List.cons.inj h1).1.symm
        have hdr' : M.drop (j + 1) = L.drop (j + 1) := by
          have := congrArg (List.drop 1) hdr
          simpa [List.drop_drop] using this
        obtain ⟨_, hce⟩ := ownsRow_cellsOf hown hjM
        have hcek := hce j hjM
        simp only [Nat.zero_add] at hcek
        obtain ⟨c0, c1, c2, c3, c4, c5, c6⟩ := hcek
        have hP := fun W => gone_any M[j] W
        have HMJ := hide hMj
        have HTK := hide htk
        have HDR := hide hdr'
        have HOWN := hide hown
        have HGR := hide hgr
        have HKG := hide (fun h => kept_snoc_gone (L := L) (j := j) hjL h)
        have HKN := hide (fun h => kept_snoc (L := L) (j := j) hjL h)
        rw [hMj] at c0 c1 c2 c3 c4 c5 c6 hP
        have j0 : (0 : Int) ≤ (j : Int) := by omega
        have j1 : (j : Int) < (n : Int) := by omega
        clear hMj htk hdr hdr' hown hgr hce
        generalize L[j] = E at *
        cases hq : rwGone E with
        | true =>
          have HK := hide (unhide HKG hq)
          simp only [hq] at hP
          clear hq HKG HKN
          go_wp2_with (go_at_call 100; refine (hP _).mono ?_; rintro e w4 ⟨rfl, hg4⟩)
          have hg5 := ((Grows.refl wr).alloc (.cells #[.int .u32 E.addr, .int .i64 E.len, .int .i64 E.tag, .int .i64 E.met, .int .i64 E.frm, .int .i64 E.age, .bool E.chg] 137)).trans hg4
          go_roundw
          case rel => exact ⟨i, j + 1, M, by omega, by omega, rfl, by go_num, hM, by rw [unhide HK]; exact unhide HTK, unhide HDR, ownsRow_block (unhide HOWN) (hg5.below.block _ (ownsRow_lt (unhide HOWN))), grown_trans (unhide HGR) (grown_weak hg5.grownBy)⟩
          case measure => simp [intOf]; omega
        | false =>
          have HK := hide (unhide HKN hq)
          simp only [hq] at hP
          clear hq HKG HKN
          have hiM : i < M.length := by omega
          have hin : i < n := by omega
          have k0 : (0 : Int) ≤ (i : Int) := by omega
          have k1 : (i : Int) < (n : Int) := by omega
          have hwi : IntKind.i64.wrap ((i : Int) + 1) = (i : Int) + 1 := wrap_small _ (by omega) (by omega)
          have hwj : IntKind.i64.wrap ((j : Int) + 1) = (j : Int) + 1 := wrap_small _ (by omega) (by omega)
          go_wp2_with (go_at_call 100; refine (hP _).mono ?_; rintro e w4 ⟨rfl, hg4⟩; have bX := (Blk.new wr #[.int .u32 E.addr, .int .i64 E.len, .int .i64 E.tag, .int .i64 E.met, .int .i64 E.frm, .int .i64 E.age, .bool E.chg] 137).grows hg4; have x0 := bX.cell 0; have x1 := bX.cell 1; have x2 := bX.cell 2; have x3 := bX.cell 3; have x4 := bX.cell 4; have x5 := bX.cell 5; have x6 := bX.cell 6; have hg4' := ((Grows.refl wr).alloc _).trans hg4; have hown4 := ownsRow_block (unhide HOWN) (hg4'.below.block _ (ownsRow_lt (unhide HOWN))); obtain ⟨⟨cur, bG, hcur⟩, _⟩ := ownsRow_cellsOf hown4 hiM; obtain ⟨u0, s0⟩ := cell_there bG hcur hin 0 (by decide); obtain ⟨u1, s1⟩ := cell_there bG hcur hin 1 (by decide); obtain ⟨u2, s2⟩ := cell_there bG hcur hin 2 (by decide); obtain ⟨u3, s3⟩ := cell_there bG hcur hin 3 (by decide); obtain ⟨u4, s4⟩ := cell_there bG hcur hin 4 (by decide); obtain ⟨u5, s5⟩ := cell_there bG hcur hin 5 (by decide); obtain ⟨u6, s6⟩ := cell_there bG hcur hin 6 (by decide); rw [Nat.add_zero] at s0; have z0 := bG.frozen (i * 7); have z1 := bG.frozen (i * 7 + 1); have z2 := bG.frozen (i * 7 + 2); have z3 := bG.frozen (i * 7 + 3); have z4 := bG.frozen (i * 7 + 4); have z5 := bG.frozen (i * 7 + 5); have z6 := bG.frozen (i * 7 + 6); have HO4 := hide hown4; have HG4 := hide hg4'; clear hown4 hg4 hg4' hcur bG bX)
          go_roundw
          case rel =>
            refine ⟨i + 1, j + 1, M.set i E, by omega, by omega, by go_num, by go_num, by rw [List.length_set]; exact hM, ?_, ?_, ownsRow_put (unhide HO4) hiM E, ?_⟩
            · rw [take_set_snoc M i E hiM, unhide HTK, unhide HK]
            · rw [List.drop_set_of_lt (by omega)]; exact unhide HDR
            · exact grown_trans (unhide HGR) (grown_trans (grown_weak (unhide HG4).grownBy) (grown_trans (grown_trans (grown_trans (grown_trans (grown_trans (grown_trans (grown_set _ _ _ _) (grown_set _ _ _ _)) (grown_set _ _ _ _)) (grown_set _ _ _ _)) (grown_set _ _ _ _)) (grown_set _ _ _ _)) (grown_set _ _ _ _)))
          case measure => simp [intOf]; omega
      · have hjn' : j = n := by omega
        subst hjn'
        have hkL : keptL L = M.take i := by rw [htk, ← unhide HL, List.take_length]
        have hli : (keptL L).length = i := by rw [hkL, List.length_take]; omega
        obtain ⟨⟨cur, bG, hcur⟩, _⟩ := ownsRow_cellsOf hown (show i < M.length by omega)
        have hclr := fun ty => run_clear_rows wr ty g (i * 7) (j - i) (cap - i) (by omega) (fun q hq => by rw [bG.cell, Array.getElem?_eq_getElem (by omega)]; rfl) (fun q _ => bG.frozen _)
        have hhead := ownsRow_head hown (show i ≤ j by omega)
        rw [← hkL] at hhead
        have HH := hide hhead
        have HGR := hide hgr
        have HLI := hide hli
        have k0 : (0 : Int) ≤ (i : Int) := by omega
        have k1 : (i : Int) ≤ (j : Int) := by omega
        have k2 : (i : Int) ≤ (cap : Int) := by omega
        have k3 : (j : Int) ≤ (cap : Int) := by omega
        have hne : ¬ cap = i := by omega
        have hjj : decide ((j : Int) < (j : Int)) = false := by simp
        clear hkL hli hhead hown hgr hcur bG htk hdr
        go_wp2
        go_ret
        rw [unhide HLI]
        exact ⟨rfl, ownsRow_cells_behind _ _ _ (unhide HH) (Nat.le_refl _), grown_trans (grown_weak (unhide HG1).grownBy) (grown_trans (unhide HGR) (grown_setCells _ _ _))⟩

set_option maxRecDepth 100000 in
set_option maxHeartbeats 1000000 in
theorem deleteFunc_none (ao : Option Addr) (cap : Nat) (w : World) :
    Calls Tryz.prog 99 #[.slice ao 0 cap, .func (.func 100) #[] #[]] w fun e w' => e = .returned (.slice ao 0 cap) ∧ Grows w w' := by
  have hI := indexGone_any ao 0 cap [] w rfl (by omega) (.inl rfl)
  go_enter Tryz.func99, Tryz.ntmps99
  go_wp2_with fail
  refine hI.mono ?_
  rintro e w1 ⟨⟨rfl, hno⟩ | ⟨i0, hi0, _⟩, hg1⟩
  · clear hno
    go_wp2
    go_ret
    exact ⟨rfl, hg1⟩
  · simp at hi0

/-- The block of a row that is owned, or the nil one. -/
theorem deleteFunc_any (base : Nat) (v : Value) (L : List Rw) (w : World) (hn : L.length ≤ 1000000) (hown : w.ownsRow base 137 7 v L.length (rwList L)) :
    Calls Tryz.prog 99 #[v, .func (.func 100) #[] #[]] w fun e w' =>
      ∃ v', e = .returned v' ∧ w'.ownsRow base 137 7 v' (keptL L).length (rwList (keptL L)) ∧ w.grownBy w' v.ownBlock := by
  have hown0 := hown
  obtain ⟨_, ⟨rfl, h0⟩ | ⟨g, cap, cur, rfl, _⟩⟩ := hown0
  · have : L = [] := List.eq_nil_of_length_eq_zero h0
    subst this
    refine (deleteFunc_none none 0 w).mono ?_
    rintro e w' ⟨rfl, hg⟩
    exact ⟨_, rfl, World.ownsRow_nil _ _ _ _, hg.grownBy⟩
  · refine (deleteFunc_some base g L.length cap L w rfl hn hown).mono ?_
    rintro e w' ⟨rfl, h1, h2⟩
    exact ⟨_, rfl, h1, h2⟩

end Go.Proofs.YtdnpeefnobjfaaaGreatDoor
