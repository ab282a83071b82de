/- The Book's back: a list that was lent and is as it was is marked, and kept. -/
import Derived.Test.YtdnpeefnobjfaaaGreatDoorBookM
import Derived.Deep.RegionLaw
import Derived.Deep.DeepCutAuto
namespace Go.Proofs.YtdnpeefnobjfaaaGreatDoor
open Go.RowKit
attribute [local go_sem ↓] Go.wp_at_zero Go.wp_at_succ

def markE (m : Int) : Ent := ⟨0, 0, m, 0⟩
/-- The first q entries are marked, the others as they were. -/
def mid (w : World) (g : Nat) (L : List Ent) (q : Nat) (m : Int) : Prop :=
  ∃ cur, w.heap[g]? = some (.cells cur 42 (0, 0)) ∧ ∀ k, (h : k < L.length) → cellsAt cur (k * 4) (if k < q then markE m else L[k])
theorem mid_start {w : World} {g : Nat} {L : List Ent} {m : Int} (h : dataRow w g L) : mid w g L 0 m := by
  obtain ⟨cur, hg, ht⟩ := h
  refine ⟨cur, hg, fun k hk => ?_⟩
  rw [if_neg (by omega)]
  obtain ⟨c0, c1, c2, c3⟩ := entList_at L k hk
  have hc : ∀ j, j < L.length * 4 → cur[j]? = (entList L)[j]? := fun j hj => by
    rw [← ht, List.getElem?_take, if_pos hj]; simp
  exact ⟨(hc _ (by omega)).trans c0, (hc _ (by omega)).trans c1, (hc _ (by omega)).trans c2, (hc _ (by omega)).trans c3⟩
theorem mid_keep {w w1 : World} {g : Nat} {L : List Ent} {q : Nat} {m : Int} (h : mid w g L q m) (hk : w1.heap[g]? = w.heap[g]?) : mid w1 g L q m := by
  obtain ⟨cur, hg, ht⟩ := h; exact ⟨cur, hk.trans hg, ht⟩
theorem mid_cells {w : World} {g : Nat} {L : List Ent} {q : Nat} {m : Int} (h : mid w g L q m) (hq : q < L.length) :
    w.cell? ⟨g, q * 4, none⟩ = some (.int .u32 L[q].addr) ∧ w.cell? ⟨g, q * 4 + 1, none⟩ = some (.int .i64 L[q].len) ∧ w.cell? ⟨g, q * 4 + 2, none⟩ = some (.int .i64 L[q].tag) ∧ w.cell? ⟨g, q * 4 + 3, none⟩ = some (.int .i64 L[q].met) ∧
    w.frozen? ⟨g, q * 4, none⟩ = false ∧ w.frozen? ⟨g, q * 4 + 1, none⟩ = false ∧ w.frozen? ⟨g, q * 4 + 2, none⟩ = false ∧ w.frozen? ⟨g, q * 4 + 3, none⟩ = false := by
  obtain ⟨cur, hg, ht⟩ := h
  have := ht q hq
  rw [if_neg (by omega)] at this
  obtain ⟨c0, c1, c2, c3⟩ := this
  exact ⟨(cell_of_row w g _ cur _ _ hg).trans c0, (cell_of_row w g _ cur _ _ hg).trans c1, (cell_of_row w g _ cur _ _ hg).trans c2, (cell_of_row w g _ cur _ _ hg).trans c3, frozen_blk hg, frozen_blk hg, frozen_blk hg, frozen_blk hg⟩
/-- An entry is marked. -/
def setE (w : World) (g o : Nat) (m : Int) : World := (((w.setCell ⟨g, o, none⟩ (.int .u32 0)).setCell ⟨g, o + 1, none⟩ (.int .i64 0)).setCell ⟨g, o + 2, none⟩ (.int .i64 m)).setCell ⟨g, o + 3, none⟩ (.int .i64 0)
theorem mid_step {w : World} {g : Nat} {L : List Ent} {q : Nat} {m : Int} (h : mid w g L q m) (hq : q < L.length) : mid (setE w g (q * 4) m) g L (q + 1) m := by
  obtain ⟨cur, hg, ht⟩ := h
  refine ⟨_, blk_setCell (blk_setCell (blk_setCell (blk_setCell hg))), fun k hk => ?_⟩
  have hthis := ht k hk
  have hsz : q * 4 + 3 < cur.size := by
    have := (ht q hq).2.2.2
    exact (Array.getElem?_eq_some_iff.1 this).1
  by_cases hkq : k = q
  · subst hkq
    rw [if_pos (by omega)]
    simp only [cellsAt, markE, Array.getElem?_setIfInBounds]
    refine ⟨?_, ?_, ?_, ?_⟩ <;> simp <;> omega
  · have hfar : ∀ j, j < 4 → ((((cur.setIfInBounds (q * 4) (.int .u32 0)).setIfInBounds (q * 4 + 1) (.int .i64 0)).setIfInBounds (q * 4 + 2) (.int .i64 m)).setIfInBounds (q * 4 + 3) (.int .i64 0))[k * 4 + j]? = cur[k * 4 + j]? := fun j hj => by
      simp only [Array.getElem?_setIfInBounds]
      rw [if_neg (by omega), if_neg (by omega), if_neg (by omega), if_neg (by omega)]
    have e : (if k < q + 1 then markE m else L[k]) = (if k < q then markE m else L[k]) := by
      by_cases hlt : k < q
      · rw [if_pos hlt, if_pos (by omega)]
      · rw [if_neg hlt, if_neg (by omega)]
    rw [e]
    have h0 := hfar 0 (by omega)
    simp only [Nat.add_zero] at h0
    exact ⟨h0.trans hthis.1, (hfar 1 (by omega)).trans hthis.2.1, (hfar 2 (by omega)).trans hthis.2.2.1, (hfar 3 (by omega)).trans hthis.2.2.2⟩
theorem grown_setE (w : World) (g o : Nat) (m : Int) : w.grownBy (setE w g o m) (some g) := grown_trans (grown_trans (grown_trans (grown_set _ _ _ _) (grown_set _ _ _ _)) (grown_set _ _ _ _)) (grown_set _ _ _ _)
theorem mid_end {w : World} {g c : Nat} {L : List Ent} {N : Nat} {m : Int} (h : mid w g L N m) (hN : L.length = N) : Itm.okE ⟨some ⟨g, 0, none⟩, N, c, m⟩ w := by
  obtain ⟨cur, hg, ht⟩ := h
  refine .inr ⟨g, 0, cur, rfl, hg, fun k hk => ?_⟩
  have hk' : k < N := hk
  have := ht k (by omega)
  rw [if_pos hk'] at this
  simpa [cellsAt, markE, Nat.add_assoc] using this
theorem grown_drewN {w w1 : World} {r : Option Nat} (h : w.grownBy w1 r) (n : Nat) : w.grownBy (w1.drewN n) r := ⟨h.os, h.tape, h.output, h.size, h.block⟩
theorem grown_drew {w w1 : World} {r : Option Nat} (h : w.grownBy w1 r) : w.grownBy w1.drew r := ⟨h.os, h.tape, h.output, h.size, h.block⟩

theorem ownBlock_ne {w : World} {B e size n k : Nat} {v : Value} {xs : List Value} {cur : Array Value} {t : TypeId} {fr : Nat × Nat} (h : w.ownsRow B e size v n xs) (hk : w.heap[k]? = some (.cells cur t fr)) (hne : t ≠ e) : v.ownBlock ≠ some k := by
  intro hv
  rcases h.2 with ⟨rfl, _⟩ | ⟨g', cap', cur', rfl, _, hg, _⟩
  · simp [Value.ownBlock] at hv
  · simp [Value.ownBlock] at hv
    subst hv
    rw [hg] at hk
    simp at hk
    exact hne hk.2.1.symm
theorem okE_keep {t : Itm} {w w1 : World} {x : Nat} (h : t.okE w) (hg : w.grownBy w1 (some x)) (hx : 0 < t.n → ∀ a, t.a = some a → a.block ≠ x) : t.okE w1 := by
  rcases h with h | ⟨g, off, cur, ha, hh, hc⟩
  · exact .inl h
  · by_cases h0 : t.n = 0
    · exact .inl h0
    · exact .inr ⟨g, off, cur, ha, (hg.block g (lt_of_block hh) (by have := hx (by omega) _ ha; simpa using this)).trans hh, hc⟩
theorem marksE_grown {w w1 : World} {B x : Nat} {v vm : Value} {l : List Itm} (h : marksE w B v vm l) (hg : w.grownBy w1 (some x)) (h1 : v.ownBlock ≠ some x) (h2 : vm.ownBlock ≠ some x) (h3 : ∀ t ∈ l, t.okE w1) : marksE w1 B v vm l :=
  ⟨h.rows.kept hg (.inr h1), h.marks.kept hg (.inr h2), h3, h.small⟩
/-- The Book's own block turns: the lists that are kept do not. -/
theorem marksE_book {w w1 : World} {B Bk : Nat} {v vm : Value} {l : List Itm} {cur : Array Value} (h : marksE w B v vm l) (hb : w.heap[Bk]? = some (.cells cur 84 (0, 0))) (hg : w.grownBy w1 (some Bk)) : marksE w1 B v vm l := by
  refine marksE_grown h hg (ownBlock_ne h.rows hb (by decide)) (ownBlock_ne h.marks hb (by decide)) fun t ht => ?_
  rcases h.each t ht with h0 | ⟨g, off, cur', ha, hh, hc⟩
  · exact .inl h0
  · refine .inr ⟨g, off, cur', ha, (hg.block g (lt_of_block hh) (fun e => ?_)).trans hh, hc⟩
    simp at e
    subst e
    rw [hh] at hb
    simp at hb
/-- A list that is not among them turns. -/
theorem marksE_data {w w1 : World} {B g : Nat} {v vm : Value} {l : List Itm} {cur : Array Value} (h : marksE w B v vm l) (hb : w.heap[g]? = some (.cells cur 42 (0, 0))) (hg : w.grownBy w1 (some g)) (hfar : ∀ t ∈ l, 0 < t.n → ∀ a, t.a = some a → a.block ≠ g) : marksE w1 B v vm l :=
  marksE_grown h hg (ownBlock_ne h.rows hb (by decide)) (ownBlock_ne h.marks hb (by decide)) fun t ht => okE_keep (h.each t ht) hg (hfar t ht)

theorem own_type {w : World} {B e size n k : Nat} {v : Value} {xs : List Value} (h : w.ownsRow B e size v n xs) (hk : v.ownBlock = some k) : ∃ cur, w.heap[k]? = some (.cells cur e (0, 0)) := by
  rcases h.2 with ⟨rfl, _⟩ | ⟨g', cap', cur', rfl, _, hg, _⟩
  · simp [Value.ownBlock] at hk
  · simp [Value.ownBlock] at hk
    subst hk
    exact ⟨_, hg⟩
/-- What turns is of another type: the lists of entries do not. -/
theorem each_keep {w w1 : World} {l : List Itm} {r : Option Nat} (h : ∀ t ∈ l, t.okE w) (hg : w.grownBy w1 r) (hr : ∀ k, r = some k → ∃ cur t fr, w.heap[k]? = some (.cells cur t fr) ∧ t ≠ 42) : ∀ t ∈ l, t.okE w1 := by
  intro t ht
  rcases h t ht with h0 | ⟨g, off, cur, ha, hh, hc⟩
  · exact .inl h0
  · refine .inr ⟨g, off, cur, ha, (hg.block g (lt_of_block hh) (fun e => ?_)).trans hh, hc⟩
    obtain ⟨cur', t', fr', hh', hne⟩ := hr g e.symm
    rw [hh] at hh'
    simp at hh'
    exact hne hh'.2.1.symm
theorem own_keep {w w1 : World} {B e size n : Nat} {v : Value} {xs : List Value} {r : Option Nat} (h : w.ownsRow B e size v n xs) (hg : w.grownBy w1 r) (hr : ∀ k, r = some k → ∃ cur t fr, w.heap[k]? = some (.cells cur t fr) ∧ t ≠ e) : w1.ownsRow B e size v n xs := by
  refine h.kept hg ?_
  cases hv : v.ownBlock with
  | none => exact .inl rfl
  | some k =>
    right
    intro e'
    obtain ⟨cur, hk⟩ := own_type h hv
    obtain ⟨cur', t', fr', hh', hne⟩ := hr k e'.symm
    rw [hk] at hh'
    simp at hh'
    exact hne hh'.2.1.symm
theorem grown_boxed {w w1 : World} {o : Obj} {r : Option Nat} (h : (w.alloc o).drew.grownBy w1 r) : w.grownBy w1 r := grown_trans (grown_drew (World.grownBy_alloc w o r)) h
theorem below_own {w w1 : World} {B e size n : Nat} {v : Value} {xs : List Value} (h : w.ownsRow B e size v n xs) (hg : w.grownBy w1 v.ownBlock) (hB : B ≤ w.heap.size) : Below B w w1 := (Below.refl _ _).grown hg hB (fun k hk => (h.lt k hk).1)

/-- Behind the first append: the list is kept, its mark is not yet. -/
def half (w0 : World) (Bk B n : Nat) (s : Bks) (items : List Itm) (nw : Itm) (w : World) : Prop :=
  ∃ vE, ({ s with m := s.m + 1, e := vE } : Bks).lies w Bk ∧ w.ownsRow B 43 1 vE (n + 1) ((items ++ [nw]).map Itm.val) ∧ w.ownsRow B 3 1 s.em n (items.map fun t => .int .i64 t.m) ∧ (∀ t ∈ items ++ [nw], t.okE w) ∧ Below B w0 w
theorem back_row {w0 wr w5 : World} {Bk B n g5 c5 : Nat} {s : Bks} {items : List Itm} {nw : Itm} {o : Obj} (hs : ({ s with m := s.m + 1 } : Bks).lies wr Bk) (hm : marksE wr B s.e s.em items) (hil : items.length = n) (hnew : nw.okE wr) (hbw : Below B w0 wr) (hB : B ≤ Bk)
    (hown : w5.ownsRow B 43 1 (.slice (some ⟨g5, 0, none⟩) (n + 1) c5) (n + 1) (items.map Itm.val ++ [nw.val])) (hg : (wr.alloc o).drew.grownBy w5 s.e.ownBlock) :
    half w0 Bk B n s items nw (w5.setCell ⟨Bk, 1, none⟩ (.slice (some ⟨g5, 0, none⟩) (n + 1) c5)) := by
  have hg' := grown_boxed hg
  have hr : ∀ k, s.e.ownBlock = some k → ∃ cur t fr, wr.heap[k]? = some (.cells cur t fr) ∧ t = 43 := fun k hk => by
    obtain ⟨cur, h⟩ := own_type hm.rows hk; exact ⟨cur, _, _, h, rfl⟩
  have hs5 : ({ s with m := s.m + 1 } : Bks).lies w5 Bk := Bks.keep hs (hg'.block Bk (Bks.lt hs) (Ne.symm (ownBlock_ne hm.rows hs (by decide))))
  have hm5 := own_keep hm.marks hg' (fun k hk => by obtain ⟨cur, t, fr, h, e⟩ := hr k hk; exact ⟨cur, t, fr, h, by rw [e]; decide⟩)
  rw [hil] at hm5
  have he5 : ∀ t ∈ items ++ [nw], t.okE w5 := each_keep (fun t ht => by
    rcases List.mem_append.1 ht with h | h
    · exact hm.each t h
    · simp at h; rw [h]; exact hnew) hg' (fun k hk => by obtain ⟨cur, t, fr, h, e⟩ := hr k hk; exact ⟨cur, t, fr, h, by rw [e]; decide⟩)
  have hset := grown_set w5 Bk 1 (.slice (some ⟨g5, 0, none⟩) (n + 1) c5)
  have hBs : B ≤ wr.heap.size := by have := Bks.lt hs; omega
  refine ⟨_, lies_e hs5, ?_, ?_, ?_, ?_⟩
  · rw [List.map_append]; exact own_keep hown hset (fun k hk => by simp at hk; subst hk; exact ⟨_, _, _, hs5, by decide⟩)
  · exact own_keep hm5 hset (fun k hk => by simp at hk; subst hk; exact ⟨_, _, _, hs5, by decide⟩)
  · exact each_keep he5 hset (fun k hk => by simp at hk; subst hk; exact ⟨_, _, _, hs5, by decide⟩)
  · exact (hbw.trans (below_own hm.rows hg' hBs)).trans (below_grown hset (by have := Bks.lt hs5; omega) hB)
theorem back_mark {w0 wr w5 : World} {Bk B n g5 c5 : Nat} {s : Bks} {items : List Itm} {nw : Itm} {o : Obj} {vE : Value} (hs : ({ s with m := s.m + 1, e := vE } : Bks).lies wr Bk) (hr : wr.ownsRow B 43 1 vE (n + 1) ((items ++ [nw]).map Itm.val)) (hm : wr.ownsRow B 3 1 s.em n (items.map fun t => .int .i64 t.m)) (he : ∀ t ∈ items ++ [nw], t.okE wr) (hbw : Below B w0 wr) (hB : B ≤ Bk) (hil : items.length = n) (hsm : ∀ t ∈ items ++ [nw], t.n ≤ 9223372036854775807)
    (hown : w5.ownsRow B 3 1 (.slice (some ⟨g5, 0, none⟩) (n + 1) c5) (n + 1) ((items.map fun t => .int .i64 t.m) ++ [.int .i64 nw.m])) (hg : (wr.alloc o).drew.grownBy w5 s.em.ownBlock) :
    ({ s with m := s.m + 1, e := vE, em := .slice (some ⟨g5, 0, none⟩) (n + 1) c5 } : Bks).lies (w5.setCell ⟨Bk, 2, none⟩ (.slice (some ⟨g5, 0, none⟩) (n + 1) c5)) Bk ∧ marksE (w5.setCell ⟨Bk, 2, none⟩ (.slice (some ⟨g5, 0, none⟩) (n + 1) c5)) B vE (.slice (some ⟨g5, 0, none⟩) (n + 1) c5) (items ++ [nw]) ∧ Below B w0 (w5.setCell ⟨Bk, 2, none⟩ (.slice (some ⟨g5, 0, none⟩) (n + 1) c5)) := by
  have hg' := grown_boxed hg
  have ht : ∀ k, s.em.ownBlock = some k → ∃ cur t fr, wr.heap[k]? = some (.cells cur t fr) ∧ t = 3 := fun k hk => by
    obtain ⟨cur, h⟩ := own_type hm hk; exact ⟨cur, _, _, h, rfl⟩
  have hs5 : ({ s with m := s.m + 1, e := vE } : Bks).lies w5 Bk := Bks.keep hs (hg'.block Bk (Bks.lt hs) (Ne.symm (ownBlock_ne hm hs (by decide))))
  have hr5 := own_keep hr hg' (fun k hk => by obtain ⟨cur, t, fr, h, e⟩ := ht k hk; exact ⟨cur, t, fr, h, by rw [e]; decide⟩)
  have he5 := each_keep he hg' (fun k hk => by obtain ⟨cur, t, fr, h, e⟩ := ht k hk; exact ⟨cur, t, fr, h, by rw [e]; decide⟩)
  have hset := grown_set w5 Bk 2 (.slice (some ⟨g5, 0, none⟩) (n + 1) c5)
  have hBs : B ≤ wr.heap.size := by have := Bks.lt hs; omega
  have hl : (items ++ [nw]).length = n + 1 := by simp [hil]
  refine ⟨lies_em hs5, ⟨?_, ?_, ?_, hsm⟩, ?_⟩
  · rw [hl]; exact own_keep hr5 hset (fun k hk => by simp at hk; subst hk; exact ⟨_, _, _, hs5, by decide⟩)
  · rw [hl, List.map_append]; exact own_keep hown hset (fun k hk => by simp at hk; subst hk; exact ⟨_, _, _, hs5, by decide⟩)
  · exact each_keep he5 hset (fun k hk => by simp at hk; subst hk; exact ⟨_, _, _, hs5, by decide⟩)
  · exact (hbw.trans (below_own hm hg' hBs)).trans (below_grown hset (by have := Bks.lt hs5; omega) hB)

set_option maxRecDepth 100000 in
set_option maxHeartbeats 2000000 in
theorem back_some (Bk B g c g2 c2 gL cL gW cW N : Nat) (L : List Ent) (s : Bks) (items : List Itm) (w : World) (hs : s.lies w Bk) (hl : s.l = .slice (some ⟨gL, 0, none⟩) 1 cL) (hw : s.wa = .slice (some ⟨gW, 0, none⟩) 1 cW)
    (hL : w.cell? ⟨gL, 0, none⟩ = some (.slice (some ⟨g, 0, none⟩) N c)) (hW : w.cell? ⟨gW, 0, none⟩ = some (.slice (some ⟨g2, 0, none⟩) N c2)) (hd : dataRow w g L) (hd2 : dataRow w g2 L) (hN : L.length = N)
    (hord : g < g2 ∧ g2 < gL ∧ gL < gW) (hBg : Bk < g) (hNb : N ≤ 4611686018427387904) (hm : marksE w B s.e s.em items) (hB : B ≤ Bk) (hfar : ∀ t ∈ items, 0 < t.n → ∀ a, t.a = some a → a.block ≠ g) (hm0 : 0 ≤ s.m) (hm1 : s.m ≤ 1000000) (hit : items.length ≤ 1000000) :
    Calls Tryz.prog 70 #[.pointer (some ⟨Bk, 0, none⟩)] w fun e w' => e = .returned (.bool true) ∧ ∃ vE vM, ({ s with m := s.m + 1, e := vE, em := vM, l := nl, wa := nl } : Bks).lies w' Bk ∧ marksE w' B vE vM (items ++ [⟨some ⟨g, 0, none⟩, N, c, -(s.m + 1)⟩]) ∧ Below B w w' := by
  have c0 : w.cell? ⟨Bk, 0, none⟩ = some (.int .i64 s.m) := Bks.cell hs 0
  have c7 : w.cell? ⟨Bk, 7, none⟩ = some (.slice (some ⟨gL, 0, none⟩) 1 cL) := (Bks.cell hs 7).trans (congrArg some hl)
  have c8 : w.cell? ⟨Bk, 8, none⟩ = some (.slice (some ⟨gW, 0, none⟩) 1 cW) := (Bks.cell hs 8).trans (congrArg some hw)
  have f0 : w.frozen? ⟨Bk, 0, none⟩ = false := frozen_blk hs
  have n1 : gL ≠ Bk := by omega
  have n2 : gW ≠ Bk := by omega
  have HS := hide hs
  have HL := hide hl
  have HW := hide hw
  have HD := hide hd
  have HD2 := hide hd2
  have HN := hide hN
  have HM := hide hm
  have HF := hide hfar
  clear hs hl hw hd hd2 hN hm hfar
  go_enter Tryz.func70, Tryz.ntmps70
  go_wp2
  refine wp_loop_rounds 2 ?_
  rw [rounds_succ]
  go_wp2_with fail
  obtain ⟨W, hWd⟩ : ∃ W, W = w.setCell ⟨Bk, 0, none⟩ (.int .i64 (s.m + 1)) := ⟨_, rfl⟩
  rw [← hWd]
  have gW0 : w.grownBy W (some Bk) := by rw [hWd]; exact grown_set _ _ _ _
  have hs1 : ({ s with m := s.m + 1 } : Bks).lies W Bk := by rw [hWd]; exact lies_m (unhide HS)
  have a0 : W.cell? ⟨Bk, 0, none⟩ = some (.int .i64 (s.m + 1)) := Bks.cell hs1 0
  have a7 : W.cell? ⟨Bk, 7, none⟩ = some (.slice (some ⟨gL, 0, none⟩) 1 cL) := (Bks.cell hs1 7).trans (congrArg some (unhide HL))
  have a8 : W.cell? ⟨Bk, 8, none⟩ = some (.slice (some ⟨gW, 0, none⟩) 1 cW) := (Bks.cell hs1 8).trans (congrArg some (unhide HW))
  have bL : W.cell? ⟨gL, 0, none⟩ = some (.slice (some ⟨g, 0, none⟩) N c) := gW0.cell hL (by simpa using n1)
  have bW : W.cell? ⟨gW, 0, none⟩ = some (.slice (some ⟨g2, 0, none⟩) N c2) := gW0.cell hW (by simpa using n2)
  have D1 : dataRow W g L := dataRow_keep (unhide HD) (gW0.block g (dataRow_lt (unhide HD)) (by simp; omega))
  have D2 : dataRow W g2 L := dataRow_keep (unhide HD2) (gW0.block g2 (dataRow_lt (unhide HD2)) (by simp; omega))
  have M1 : marksE W B s.e s.em items := marksE_book (unhide HM) (unhide HS) gW0
  have hBw : Bk < w.heap.size := Bks.lt (unhide HS)
  have HG0 := hide gW0
  have HS1 := hide hs1
  have HD1 := hide D1
  have HD2' := hide D2
  have HM1 := hide M1
  have e2 := dataRow_cells D2
  have HE2 := hide e2
  clear hWd gW0 hs1 D1 D2 M1 c0 c7 c8 f0 hL hW HS HD HD2 HM e2
  go_loopw [4] (fun j wr => ∃ q : Nat, q ≤ N ∧ j = .int .i64 q ∧ W.grownBy wr (some g) ∧ mid wr g L q (-(s.m + 1))) (fun j _ => N - (intOf j).toNat)
  case atStart => exact ⟨0, by omega, rfl, World.grownBy.refl _ _, mid_start (unhide HD1)⟩
  case round =>
    obtain ⟨q, hq, rfl, hg, hmid⟩ := hrel
    have r0 : wr.cell? ⟨Bk, 0, none⟩ = some (.int .i64 (s.m + 1)) := hg.cell a0 (by simp; omega)
    have r7 : wr.cell? ⟨Bk, 7, none⟩ = some (.slice (some ⟨gL, 0, none⟩) 1 cL) := hg.cell a7 (by simp; omega)
    have r8 : wr.cell? ⟨Bk, 8, none⟩ = some (.slice (some ⟨gW, 0, none⟩) 1 cW) := hg.cell a8 (by simp; omega)
    have rL : wr.cell? ⟨gL, 0, none⟩ = some (.slice (some ⟨g, 0, none⟩) N c) := hg.cell bL (by simp; omega)
    have rW : wr.cell? ⟨gW, 0, none⟩ = some (.slice (some ⟨g2, 0, none⟩) N c2) := hg.cell bW (by simp; omega)
    have HG := hide hg
    have HMID := hide hmid
    clear hg hmid a0 a7 a8 bL bW
    by_cases hlt : q < N
    · have hqL : q < L.length := by rw [unhide HN]; exact hlt
      obtain ⟨d0, d1, d2, d3, x0, x1, x2, x3⟩ := mid_cells (unhide HMID) hqL
      obtain ⟨y0, y1, y2, y3⟩ := unhide HE2 q hqL
      simp only [Nat.zero_add] at y0 y1 y2 y3
      have y0 := (unhide HG).cell y0 (by simp; omega)
      have y1 := (unhide HG).cell y1 (by simp; omega)
      have y2 := (unhide HG).cell y2 (by simp; omega)
      have y3 := (unhide HG).cell y3 (by simp; omega)
      generalize L[q] = E at *
      have j0 : (0 : Int) ≤ (q : Int) := by omega
      have j1 : (q : Int) < (N : Int) := by omega
      go_wp2_with fail
      go_quiet (fail)
      go_wp2_with fail
      clear y0 y1 y2 y3 r8 rW
      have z1 : Bk ≠ g := by omega
      have z2 : gL ≠ g := by omega
      have kw : IntKind.i64.wrap (-(s.m + 1)) = -(s.m + 1) := by rw [IntKind.wrap_i64]; omega
      go_region_held3 (fun w' => w'.cell? ⟨Bk, 0, none⟩ = some (.int .i64 (s.m + 1)) ∧ w'.cell? ⟨Bk, 7, none⟩ = some (.slice (some ⟨gL, 0, none⟩) 1 cL) ∧ w'.cell? ⟨gL, 0, none⟩ = some (.slice (some ⟨g, 0, none⟩) N c)) (first | go_keep | exact ⟨(cell_set4 _ z1 _ _ _ _ _ _ _ _ _).trans r0, (cell_set4 _ z1 _ _ _ _ _ _ _ _ _).trans r7, (cell_set4 _ z2 _ _ _ _ _ _ _ _ _).trans rL⟩) (fail)
      go_wp2
      go_roundw
      case rel => exact ⟨q + 1, by omega, by go_num, grown_trans (grown_drewN (unhide HG) _) (grown_setE _ g (q * 4) _), mid_step (mid_keep (w1 := wr.drewN _) (unhide HMID) rfl) hqL⟩
      case measure => simp [intOf]; omega
    · have hqN : q = N := by omega
      subst hqN
      have hnew : Itm.okE ⟨some ⟨g, 0, none⟩, q, c, -(s.m + 1)⟩ wr := mid_end (unhide HMID) (unhide HN)
      have hm : marksE wr B s.e s.em items := by
        obtain ⟨cur, hc, _⟩ := unhide HD1
        exact marksE_data (unhide HM1) hc (unhide HG) (unhide HF)
      have hs : ({ s with m := s.m + 1 } : Bks).lies wr Bk := Bks.keep (unhide HS1) ((unhide HG).block Bk (Bks.lt (unhide HS1)) (by simp; omega))
      have hbw : Below B w wr := (below_grown (unhide HG0) (by omega) hB).trans (below_grown (unhide HG) (by have := Bks.lt (unhide HS1); omega) (by omega))
      clear HG HMID HM1 HD1 HD2' HE2 HS1 r8 rW
      obtain ⟨ae, ce, ge, hve, _, hrow⟩ := row_form hm.rows
      have k1 : wr.cell? ⟨Bk, 1, none⟩ = some (.slice ae items.length ce) := (Bks.cell hs 1).trans (congrArg some hve)
      have fk1 : wr.frozen? ⟨Bk, 1, none⟩ = false := frozen_blk hs
      have HOWN := hide (hve ▸ hm.rows)
      have HVE := hide hve
      have HMK := hide hm
      have HSS := hide hs
      have HNEW := hide hnew
      have HBW := hide hbw
      obtain ⟨iS, hiS, hS0, hS1, hS2⟩ := info_parts Tryz.info43
      generalize hIL : items.length = n at *
      have HIL := hide hIL
      clear hve hm hs hnew hbw hrow hq hIL hlt
      go_wp2_with fail
      have nB1 : (Value.slice ae n ce).ownBlock ≠ some Bk := by rw [← unhide HVE]; exact ownBlock_ne (unhide HMK).rows (unhide HSS) (by decide)
      have hsz : Bk < wr.heap.size := Bks.lt (unhide HSS)
      have k1' : ∀ o, (wr.alloc o).cell? ⟨Bk, 1, none⟩ = some (.slice ae n ce) := fun o => ((below_new wr o).cell (p := ⟨Bk, 1, none⟩) hsz).trans k1
      have fk1' : ∀ o, (wr.alloc o).frozen? ⟨Bk, 1, none⟩ = false := fun o => ((below_new wr o).frozen (p := ⟨Bk, 1, none⟩) hsz).trans fk1
      have K1 := hide k1'
      have FK1 := hide fk1'
      have NB1 := hide nB1
      clear k1' fk1' nB1
      go_cut [] (fun wc => half w Bk B n s items ⟨some ⟨g, 0, none⟩, q, c, -(s.m + 1)⟩ wc)
      case first =>
        go_region_law ((refine step_append_lies _ (by rfl) (.tmp 73) (.tmp 81) 78 (by rfl) B 43 iS (.slice none 0 0) 1 24 Tryz.underlying78 hiS hS0 hS1 hS2 rfl (by decide) (.slice ae n ce) n (items.map Itm.val) (by rfl) (by exact (unhide HOWN).alloc _) ⟨wr.heap.size, 0, none⟩ 1 1 [.slice (some ⟨g, 0, none⟩) q c] (by rfl) rfl (by exact World.news_of_block (heap_alloc_new wr _)) (by intro u hu; simp at hu; subst hu; rfl) (by decide) (by unfold maxLen; omega) (by omega) (by simp; omega) (wr.heap.size + 1) (by simp) ?_; intro g5 c5 w5 hown5 hg5 hat5 hlt5; have p1 : w5.cell? ⟨Bk, 1, none⟩ = some (.slice ae n ce) := (hg5.cell (by exact unhide K1 _) (Ne.symm (unhide NB1))); have p2 : w5.frozen? ⟨Bk, 1, none⟩ = false := (by rw [hg5.frozen_far _ (by simp; omega) (Ne.symm (unhide NB1))]; exact unhide FK1 _); have R1 := hide (back_row (w0 := w) (nw := ⟨some ⟨g, 0, none⟩, q, c, -(s.m + 1)⟩) (unhide HSS) (unhide HMK) (unhide HIL) (unhide HNEW) (unhide HBW) hB hown5 (by rw [unhide HVE]; exact hg5)); clear hown5 hg5 hat5))
        all_goals
          go_wp2_with fail
          go_meet
          case rel => exact unhide R1
      case rest =>
        obtain ⟨vE, hs2, hr2, hm2, he2, hb2⟩ := hcut
        obtain ⟨am, cm, gm, hvm, _, _⟩ := row_form hm2
        have k0 : wc.cell? ⟨Bk, 0, none⟩ = some (.int .i64 (s.m + 1)) := Bks.cell hs2 0
        have k2 : wc.cell? ⟨Bk, 2, none⟩ = some (.slice am n cm) := (Bks.cell hs2 2).trans (congrArg some hvm)
        have k7 : wc.cell? ⟨Bk, 7, none⟩ = some (.slice (some ⟨gL, 0, none⟩) 1 cL) := (Bks.cell hs2 7).trans (congrArg some (unhide HL))
        have hsz2 : Bk < wc.heap.size := Bks.lt hs2
        have fk2 : wc.frozen? ⟨Bk, 2, none⟩ = false := frozen_blk hs2
        have K2 := hide (fun o => ((below_new wc o).cell (p := ⟨Bk, 2, none⟩) hsz2).trans k2)
        have FK2 := hide (fun o => ((below_new wc o).frozen (p := ⟨Bk, 2, none⟩) hsz2).trans fk2)
        have NB2 : Hid ((Value.slice am n cm).ownBlock ≠ some Bk) := by rw [Hid, ← hvm]; exact ownBlock_ne hm2 hs2 (by decide)
        have HOWN2 := hide (hvm ▸ hm2)
        have HVM := hide hvm
        have HS2 := hide hs2
        have HR2 := hide hr2
        have HM2 := hide hm2
        have HE2 := hide he2
        have HB2 := hide hb2
        have kw : IntKind.i64.wrap (-(s.m + 1)) = -(s.m + 1) := by rw [IntKind.wrap_i64]; omega
        obtain ⟨iI, hiI, hI0, hI1, hI2⟩ := info_parts Tryz.info3
        clear hvm hs2 hr2 hm2 he2 hb2 r0 r7 rL k1 fk1 hsz
        have hsm : ∀ t ∈ items ++ [(⟨some ⟨g, 0, none⟩, q, c, -(s.m + 1)⟩ : Itm)], t.n ≤ 9223372036854775807 := fun t ht => by
          rcases List.mem_append.1 ht with h | h
          · exact (unhide HMK).small t h
          · simp at h; rw [h]; show q ≤ _; omega
        have HSM := hide hsm
        clear hsm
        go_wp2_with fail
        go_region_law ((refine step_append_lies _ (by rfl) (.tmp 89) (.tmp 95) 22 (by rfl) B 3 iI (.int .i64 0) 1 8 Tryz.underlying22 hiI hI0 hI1 hI2 rfl (by decide) (.slice am n cm) n (items.map fun t => .int .i64 t.m) (by rfl) (by exact (unhide HOWN2).alloc _) ⟨wc.heap.size, 0, none⟩ 1 1 [.int .i64 (-(s.m + 1))] (by rfl) rfl (by exact World.news_of_block (heap_alloc_new wc _)) (by intro u hu; simp at hu; subst hu; rfl) (by decide) (by unfold maxLen; omega) (by omega) (by simp; omega) (wc.heap.size + 1) (by simp) ?_; intro g5 c5 w5 hown5 hg5 hat5 hlt5; have p1 : w5.cell? ⟨Bk, 2, none⟩ = some (.slice am n cm) := (hg5.cell (by exact unhide K2 _) (Ne.symm (unhide NB2))); have p2 : w5.frozen? ⟨Bk, 2, none⟩ = false := (by rw [hg5.frozen_far _ (by simp; omega) (Ne.symm (unhide NB2))]; exact unhide FK2 _); have R2 := hide (back_mark (w0 := w) (nw := ⟨some ⟨g, 0, none⟩, q, c, -(s.m + 1)⟩) (unhide HS2) (unhide HR2) (unhide HM2) (unhide HE2) (unhide HB2) hB (unhide HIL) (unhide HSM) hown5 (by rw [unhide HVM]; exact hg5)); clear hown5 hg5 hat5))
        all_goals
          clear HS2 HR2 HM2 HE2 HB2 K2 FK2 NB2 HOWN2 HVM p1 p2 k0 k2 k7 fk2 hsz2 HMK HSS HNEW HBW HOWN HVE K1 FK1 NB1 HSM
          obtain ⟨hs3, hm3, hb3⟩ := unhide R2
          clear R2
          generalize w5.setCell ⟨Bk, 2, none⟩ (.slice (some ⟨g5, 0, none⟩) (n + 1) c5) = wd at *
          have k7 := (Bks.cell hs3 7).trans (congrArg some (unhide HL))
          have k8 := (Bks.cell hs3 8).trans (congrArg some (unhide HW))
          have f7 := frozen_blk (o := 7) hs3
          have f8 := frozen_blk (o := 8) hs3
          have HS3 := hide hs3
          have HM3 := hide hm3
          have HB3 := hide hb3
          clear hs3 hm3 hb3
          go_wp2_with fail
          rw [rounds_succ]
          go_wp2
          go_ret
          have hgr := grown_trans (grown_set wd Bk 7 nl) (grown_set _ Bk 8 nl)
          exact ⟨rfl, _, _, lies_wa (lies_l (unhide HS3)), marksE_book (unhide HM3) (unhide HS3) hgr, (unhide HB3).trans (below_grown hgr (by have := Bks.lt (unhide HS3); omega) hB)⟩

end Go.Proofs.YtdnpeefnobjfaaaGreatDoor
