/- A router's first table: table.Start. -/
import Derived.Test.YtdnpeefnobjfaaaGreatDoorRSortM
import Derived.OwnWalk
namespace Go.Proofs.YtdnpeefnobjfaaaGreatDoor
open Go.RowKit Go.Shelf Go.Sort
attribute [local go_sem ↓] Go.wp_at_zero Go.wp_at_succ

def rwList (L : List Rw) : List Value := L.flatMap rwVals
theorem rwList_length (L : List Rw) : (rwList L).length = L.length * 7 := by
  induction L with
  | nil => rfl
  | cons p r ih => simp only [rwList, List.flatMap_cons, List.length_append, rwVals, List.length_cons, List.length_nil] at ih ⊢; omega
theorem rwList_snoc (L : List Rw) (r : Rw) : rwList (L ++ [r]) = rwList L ++ rwVals r := by simp [rwList]
theorem Tryz.info137 : (Tryz.prog.info? 137).map (fun i => (i.zero, i.size, i.bytes)) = some (some (.agg #[.int .u32 0, .int .i64 0, .int .i64 0, .int .i64 0, .int .i64 0, .int .i64 0, .bool false]), 7, 56) := by kernel_rfl
theorem rwVals_one (r : Rw) : ∀ u ∈ rwVals r, u.oneCell' = true := by
  intro u hu
  simp [rwVals] at hu
  rcases hu with rfl | rfl | rfl | rfl | rfl | rfl | rfl <;> rfl

/-- A route that has just been told, or the router's own: its age is 0, it has changed. -/
def freshRw (a l t m f : Int) : Rw := ⟨a, l, t, m, f, 0, true⟩
def ownRw (p : Pf) : Rw := freshRw p.addr p.len 0 1 (-1)

set_option maxHeartbeats 400000 in
theorem fresh_any (a l t m f : Int) (w : World) :
    Calls Tryz.prog 135 #[.agg #[.int .u32 a, .int .i64 l, .int .i64 t, .int .i64 m, .int .i64 f]] w fun e w' => e = .returned (.agg #[.int .u32 a, .int .i64 l, .int .i64 t, .int .i64 m, .int .i64 f, .int .i64 0, .bool true]) ∧ Grows w w' := by
  go_enter Tryz.func135, Tryz.ntmps135
  go_wp2
  exact bodyPost_ret (v := .agg #[.int .u32 a, .int .i64 l, .int .i64 t, .int .i64 m, .int .i64 f, .int .i64 0, .bool true]) (by simp [results, Tryz.results135, go_sem]) rfl ⟨rfl, ((Grows.refl w).alloc _).alloc _⟩

set_option maxHeartbeats 400000 in
theorem ownRow_any (p : Pf) (w : World) :
    Calls Tryz.prog 83 #[.agg #[.int .u32 p.addr, .int .i64 p.len]] w fun e w' => e = .returned (.agg #[.int .u32 p.addr, .int .i64 p.len, .int .i64 0, .int .i64 1, .int .i64 (-1), .int .i64 0, .bool true]) ∧ Grows w w' := by
  have bR := Blk.new (w.alloc (.cells #[.int .u32 p.addr, .int .i64 p.len] 32)) #[.int .u32 0, .int .i64 0, .int .i64 0, .int .i64 0, .int .i64 0, .int .i64 0, .bool false] 137
  simp only [World.size_alloc] at bR
  have HR := hide bR
  clear bR
  go_enter Tryz.func83, Tryz.ntmps83
  go_wp2_with (go_at_call 135; refine (fresh_any p.addr p.len 0 1 (-1) _).mono ?_; rintro e w1 ⟨rfl, hg⟩; have bR2 := (unhide HR).grows hg; have s0 := bR2.cell 0; have s1 := bR2.cell 1; have s2 := bR2.cell 2; have s3 := bR2.cell 3; have s4 := bR2.cell 4; have s5 := bR2.cell 5; have s6 := bR2.cell 6; have z0 := bR2.frozen 0; have z1 := bR2.frozen 1; have z2 := bR2.frozen 2; have z3 := bR2.frozen 3; have z4 := bR2.frozen 4; have z5 := bR2.frozen 5; have z6 := bR2.frozen 6)
  have bR3 := ((((((bR2.set 0 (.int .u32 p.addr)).set 1 (.int .i64 p.len)).set 2 (.int .i64 0)).set 3 (.int .i64 1)).set 4 (.int .i64 (-1))).set 5 (.int .i64 0)).set 6 (.bool true)
  have t0 := bR3.cell 0
  have t1 := bR3.cell 1
  have t2 := bR3.cell 2
  have t3 := bR3.cell 3
  have t4 := bR3.cell 4
  have t5 := bR3.cell 5
  have t6 := bR3.cell 6
  simp at t0 t1 t2 t3 t4 t5 t6
  refine bodyPost_ret (v := .agg #[.int .u32 p.addr, .int .i64 p.len, .int .i64 0, .int .i64 1, .int .i64 (-1), .int .i64 0, .bool true]) (by simp [results, Tryz.results83, go_sem, t0, t1, t2, t3, t4, t5, t6]) rfl ⟨rfl, ?_⟩
  exact ((((((((((Grows.refl w).alloc _).alloc _).trans hg).setCell (by simp) _).setCell (by simp) _).setCell (by simp) _).setCell (by simp) _).setCell (by simp) _).setCell (by simp) _).setCell (by simp) _

theorem ownsRow_block {w w' : World} {base e sz g n cap : Nat} {xs : List Value} (h : w.ownsRow base e sz (.slice (some ⟨g, 0, none⟩) n cap) n xs) (hk : w'.heap[g]? = w.heap[g]?) : w'.ownsRow base e sz (.slice (some ⟨g, 0, none⟩) n cap) n xs := by
  obtain ⟨hl, ⟨hv, _⟩ | ⟨g', c', cur, hv, hbg, hg, hr⟩⟩ := h
  · simp at hv
  · simp at hv
    obtain ⟨rfl, rfl⟩ := hv
    exact ⟨hl, .inr ⟨g, cap, cur, rfl, hbg, hk.trans hg, hr⟩⟩
theorem ownsRow_lt {w : World} {base e sz g n cap : Nat} {xs : List Value} (h : w.ownsRow base e sz (.slice (some ⟨g, 0, none⟩) n cap) n xs) : g < w.heap.size := by
  obtain ⟨hl, ⟨hv, _⟩ | ⟨g', c', cur, hv, hbg, hg, hr⟩⟩ := h
  · simp at hv
  · simp at hv
    obtain ⟨rfl, rfl⟩ := hv
    exact (Array.getElem?_eq_some_iff.1 hg).1
theorem pfCells_block {w w' : World} {g : Nat} {L : List Pf} (h : pfCells w g 0 L) (hk : w'.heap[g]? = w.heap[g]?) : pfCells w' g 0 L := fun k hkl => by
  obtain ⟨h0, h1⟩ := h k hkl
  exact ⟨(World.cell?_of_block (w := w) (a := ⟨g, _, none⟩) hk).trans h0, (World.cell?_of_block (w := w) (a := ⟨g, _, none⟩) hk).trans h1⟩

set_option maxRecDepth 100000 in
set_option maxHeartbeats 2000000 in
theorem start_any (ao : Option Addr) (cap : Nat) (L : List Pf) (w : World) (hlen : L.length ≤ 20) (hs : pfSlice w ao L) :
    Calls Tryz.prog 38 #[.slice ao L.length cap] w fun e w' => ∃ v Ls, e = .returned (.agg #[v]) ∧ w'.ownsRow w.heap.size 137 7 v L.length (rwList (Ls.map ownRw)) ∧ Ls.Perm L ∧ pfSorted Ls ∧ Below w.heap.size w w' := by
  obtain ⟨iR, hiR, hR0, hR1, hR2⟩ := info_parts Tryz.info137
  have HS := hide hs
  clear hs
  have bT := hide (Blk.new w #[.slice none 0 0] 120)
  go_enter Tryz.func38, Tryz.ntmps38
  go_wp2_with (first | (at_make; go_loud (refine wpList_make_own _ rfl _ _ 118 rfl w.heap.size 137 iR (.agg #[.int .u32 0, .int .i64 0, .int .i64 0, .int .i64 0, .int .i64 0, .int .i64 0, .bool false]) 7 Tryz.underlying118 hiR hR0 hR1 _ _ _ L.length rfl rfl (by omega) (by rw [hR2]; omega) (by unfold maxLen; omega) (by simp) ?_); intro w2 hown2 hg2) | (go_at_call 81; refine (values_any _ _ _ _).mono ?_; rintro e w3 ⟨rfl, rfl⟩))
  simp only [World.size_alloc] at hown2
  have hz2 : w.heap.size + 2 ≤ w2.heap.size := ownsRow_lt hown2
  have hb2 : Below w.heap.size w w2 := (below_new w _).trans ((Below.refl _ _).grown hg2 (by simp) (by simp))
  have hSF := sortedFunc_any w2.heap.size cap ao L (by omega) (w2.alloc (.cells #[.slice ao L.length cap] 23)) (by simp) (cell_top _ _ _ rfl rfl) (pfSlice_below (unhide HS) (hb2.alloc hb2.size _))
  refine hSF.mono ?_
  rintro e w3 ⟨ao', cap', Ls, rfl, hperm, hsort, hcs, hb3⟩
  clear hSF
  have HP := hide hperm
  have HSO := hide hsort
  have hLs : Ls.length = L.length := hperm.length_eq
  have HCS := hide hcs
  have hb3' : Below (w.heap.size + 2) w2 w3 := ((Below.refl _ w2).alloc (by omega) _).trans (hb3.mono (by simp; omega))
  have hown3 : w3.ownsRow w.heap.size 137 7 (.slice (some ⟨w.heap.size + 1, 0, none⟩) 0 L.length) 0 [] := ownsRow_block hown2 (hb3'.block _ (by omega))
  have bT3 : Blk w3 w.heap.size #[.slice none 0 0] 120 := ((hb3'.block _ (by omega)).trans (hg2.block _ (by simp) (by simp))).trans (unhide bT)
  have HB3 := hide (hb2.trans (hb3'.mono (by omega)))
  have hsz3 : w.heap.size + 3 ≤ w3.heap.size := by have := hb3.size; simp at this; omega
  have HLs := hide hLs
  clear hperm hsort hcs hLs hb3 hb3' hown2 hg2 hb2
  go_wp2_with fail
  go_loopw [3, 13] (fun d i wr => ∃ k : Nat, k ≤ L.length ∧ i = .int .i64 k ∧ d = .slice (some ⟨w.heap.size + 1, 0, none⟩) k L.length ∧ wr.ownsRow w.heap.size 137 7 (.slice (some ⟨w.heap.size + 1, 0, none⟩) k L.length) k (rwList ((Ls.take k).map ownRw)) ∧ w3.grownBy wr (some (w.heap.size + 1))) (fun _ i _ => L.length - (intOf i).toNat)
  case atStart => exact ⟨0, by omega, rfl, rfl, by simpa [rwList] using hown3, World.grownBy.refl _ _⟩
  case round =>
    obtain ⟨k, hk, rfl, rfl, hown, hgr⟩ := hrel
    by_cases hlt : k < L.length
    · have hlt' : k < Ls.length := by rw [unhide HLs]; exact hlt
      rcases unhide HCS with h0 | ⟨g, rfl, hge, hce⟩
      · rw [h0] at hlt'; simp at hlt'
      · have hgne : g ≠ w.heap.size + 1 := by simp at hge; omega
        have hglt : g < w3.heap.size := pfCells_lt hce (by omega)
        obtain ⟨c0, c1⟩ := pfCells_block hce (hgr.block g hglt (by simp; omega)) k hlt'
        simp only [Nat.zero_add] at c0 c1
        have hsn : rwList ((Ls.take (k + 1)).map ownRw) = rwList ((Ls.take k).map ownRw) ++ rwVals (ownRw Ls[k]) := by
          rw [List.take_succ_eq_append_getElem hlt', List.map_append, List.map_singleton, rwList_snoc]
        have HSN := hide hsn
        have HGR := hide hgr
        clear hsn hgr
        generalize Ls[k] = E at *
        have j0 : (0 : Int) ≤ (k : Int) := by omega
        have j1 : (k : Int) < (L.length : Int) := by omega
        go_wp2_with (first | (go_at_call 83; refine (ownRow_any E _).mono ?_; rintro e w4 ⟨rfl, hg4⟩; have hg4' := ((Grows.refl wr).alloc _).trans hg4; have hown4 := ownsRow_block hown (hg4'.below.block _ (ownsRow_lt hown)); have HG4 := hide hg4'; clear hg4 hg4') | (at_builtin; go_loud (refine wpList_append_fits _ rfl (.tmp 17) (.tmp 20) 118 rfl w.heap.size 137 iR 7 Tryz.underlying118 hiR hR1 (w.heap.size + 1) k L.length _ rfl (hown4.alloc _) ⟨w4.heap.size, 0, none⟩ 1 1 (rwVals (ownRw E)) rfl rfl (by exact World.news_of_block (heap_alloc_new w4 _)) (rwVals_one _) (by omega) ?_; intro w5 hown5 hg5)))
        go_roundw
        case rel =>
          refine ⟨k + 1, by omega, by go_num, rfl, by rw [unhide HSN]; exact hown5, ?_⟩
          exact grown_trans (unhide HGR) (grown_trans (grown_weak (unhide HG4).grownBy) (grown_trans (grown_weak (World.grownBy_alloc w4 _ none)) hg5))
        case measure => simp [intOf]; omega
    · have hkn : k = L.length := by omega
      subst hkn
      have bT4 : Blk wr w.heap.size #[.slice none 0 0] 120 := (hgr.block _ (by omega) (by simp)).trans bT3
      have s0 := bT4.cell 0
      have z0 := bT4.frozen 0
      have HOWN := hide hown
      have HGR := hide hgr
      clear hown hgr
      go_wp2
      have bT5 := bT4.set 0 (.slice (some ⟨w.heap.size + 1, 0, none⟩) L.length L.length)
      have t0 := bT5.cell 0
      simp at t0
      refine bodyPost_ret (v := .agg #[.slice (some ⟨w.heap.size + 1, 0, none⟩) L.length L.length]) (by simp [results, Tryz.results38, go_sem, t0]) rfl ⟨_, Ls, rfl, ?_, unhide HP, unhide HSO, ?_⟩
      · have := unhide HOWN
        rw [← unhide HLs, List.take_length] at this
        rw [← unhide HLs]
        exact ownsRow_block this (Below.heap_setCell _ _ _ _ (by simp))
      · exact ((unhide HB3).trans ((Below.refl _ _).grown (unhide HGR) (by omega) (by simp))).setCell (p := ⟨w.heap.size, 0, none⟩) (Nat.le_refl _) _

end Go.Proofs.YtdnpeefnobjfaaaGreatDoor

/- What becomes of a row: lost, older, heard. -/
namespace Go.Proofs.YtdnpeefnobjfaaaGreatDoor
open Go.RowKit Go.Shelf Go.Sort
attribute [local go_sem ↓] Go.wp_at_zero Go.wp_at_succ

def rwLost (r : Rw) : Rw := if r.met = 16 then r else { r with met := 16, age := 0, chg := true }
def rwOlder (r : Rw) : Rw := if r.frm = -1 then r else if r.age + 1 = 180 then rwLost { r with age := r.age + 1 } else { r with age := r.age + 1 }
def rwGone (r : Rw) : Bool := decide (r.met = 16) && decide (r.age = 120)
/-- The same route? -/
def sameRoute (r n : Rw) : Bool := decide (r.addr = n.addr) && decide (r.len = n.len) && decide (r.tag = n.tag) && decide (r.met = n.met) && decide (r.frm = n.frm)
def rwRetold (r n : Rw) : Rw := if n.met = 16 then rwLost r else { n with age := 0, chg := r.chg || !(sameRoute r n) }
def rwWorse (r n : Rw) : Bool := if n.met = r.met then !(decide (r.met = 16)) && decide (90 ≤ r.age) else decide (n.met < r.met)
def rwFresh (n : Rw) : Rw := { n with age := 0, chg := true }
def rwHeard (r n : Rw) : Rw := if r.frm = -1 then r else if r.frm = n.frm then rwRetold r n else if rwWorse r n then rwFresh n else r

set_option maxHeartbeats 400000 in
theorem isOwn_any (r : Rw) (w : World) :
    Calls Tryz.prog 150 #[.agg #[.int .u32 r.addr, .int .i64 r.len, .int .i64 r.tag, .int .i64 r.met, .int .i64 r.frm, .int .i64 r.age, .bool r.chg]] w fun e w' => e = .returned (.bool (decide (r.frm = -1))) ∧ Grows w w' := by
  go_enter Tryz.func150, Tryz.ntmps150
  go_wp2
  go_ret
  refine ⟨ret_bool ?_, (Grows.refl w).alloc _⟩
  rw [Bool.eq_iff_iff]; simp

set_option maxHeartbeats 400000 in
theorem gone_any (r : Rw) (w : World) :
    Calls Tryz.prog 100 #[.agg #[.int .u32 r.addr, .int .i64 r.len, .int .i64 r.tag, .int .i64 r.met, .int .i64 r.frm, .int .i64 r.age, .bool r.chg]] w fun e w' => e = .returned (.bool (rwGone r)) ∧ Grows w w' := by
  have bR := hide (Blk.new w #[.int .u32 r.addr, .int .i64 r.len, .int .i64 r.tag, .int .i64 r.met, .int .i64 r.frm, .int .i64 r.age, .bool r.chg] 137)
  by_cases hm : r.met = 16
  · have hv : Hid (rwGone r = decide (r.age = 120)) := by show rwGone r = _; simp [rwGone, hm]
    have hD := fun W => isDying_any r W
    have hd : decide (r.met = 16) = true := by simp [hm]
    clear hm
    simp only [hd] at hD
    go_enter Tryz.func100, Tryz.ntmps100
    go_wp2_with (go_at_call 103; refine (hD _).mono ?_; rintro e w1 ⟨rfl, hg⟩; have s5 := ((unhide bR).grows hg).cell 5)
    go_ret
    refine ⟨ret_bool ?_, ((Grows.refl w).alloc _).trans hg⟩
    rw [hv.out, Bool.eq_iff_iff]; simp
  · have hv : Hid (rwGone r = false) := by show rwGone r = _; simp [rwGone, hm]
    have hD := fun W => isDying_any r W
    have hd : decide (r.met = 16) = false := by simp [hm]
    clear hm
    simp only [hd] at hD
    go_enter Tryz.func100, Tryz.ntmps100
    go_wp2_with (go_at_call 103; refine (hD _).mono ?_; rintro e w1 ⟨rfl, hg⟩)
    go_ret
    exact ⟨ret_bool hv.out.symm, ((Grows.refl w).alloc _).trans hg⟩

set_option maxHeartbeats 1000000 in
theorem lost_any (r : Rw) (w : World) :
    Calls Tryz.prog 109 #[.agg #[.int .u32 r.addr, .int .i64 r.len, .int .i64 r.tag, .int .i64 r.met, .int .i64 r.frm, .int .i64 r.age, .bool r.chg]] w fun e w' => e = .returned (.agg #[.int .u32 (rwLost r).addr, .int .i64 (rwLost r).len, .int .i64 (rwLost r).tag, .int .i64 (rwLost r).met, .int .i64 (rwLost r).frm, .int .i64 (rwLost r).age, .bool (rwLost r).chg]) ∧ Grows w w' := by
  have bR := hide ((Blk.new w #[.int .u32 r.addr, .int .i64 r.len, .int .i64 r.tag, .int .i64 r.met, .int .i64 r.frm, .int .i64 r.age, .bool r.chg] 137).alloc (.cells #[.int .u32 0, .int .i64 0, .int .i64 0, .int .i64 0, .int .i64 0, .int .i64 0, .bool false] 137))
  have bO := Blk.new (w.alloc (.cells #[.int .u32 r.addr, .int .i64 r.len, .int .i64 r.tag, .int .i64 r.met, .int .i64 r.frm, .int .i64 r.age, .bool r.chg] 137)) #[.int .u32 0, .int .i64 0, .int .i64 0, .int .i64 0, .int .i64 0, .int .i64 0, .bool false] 137
  simp only [World.size_alloc] at bO
  have HO := hide bO
  clear bO
  have hD := fun W => isDying_any r W
  by_cases hm : r.met = 16
  · have hv : rwLost r = r := by simp [rwLost, hm]
    rw [hv]
    have hd : decide (r.met = 16) = true := by simp [hm]
    clear hm hv
    simp only [hd] at hD
    go_enter Tryz.func109, Tryz.ntmps109
    go_wp2_with (go_at_call 103; refine (hD _).mono ?_; rintro e w1 ⟨rfl, hg⟩; have bR1 := (unhide bR).grows hg; have bO1 := (unhide HO).grows hg; have a0 := bR1.cell 0; have a1 := bR1.cell 1; have a2 := bR1.cell 2; have a3 := bR1.cell 3; have a4 := bR1.cell 4; have a5 := bR1.cell 5; have a6 := bR1.cell 6; have s0 := bO1.cell 0; have z0 := bO1.frozen 0; have s1 := bO1.cell 1; have z1 := bO1.frozen 1; have s2 := bO1.cell 2; have z2 := bO1.frozen 2; have s3 := bO1.cell 3; have z3 := bO1.frozen 3; have s4 := bO1.cell 4; have z4 := bO1.frozen 4; have s5 := bO1.cell 5; have z5 := bO1.frozen 5; have s6 := bO1.cell 6; have z6 := bO1.frozen 6)
    have bF := (((((((bO1.set 0 (.int .u32 r.addr)).set 1 (.int .i64 r.len)).set 2 (.int .i64 r.tag)).set 3 (.int .i64 r.met)).set 4 (.int .i64 r.frm)).set 5 (.int .i64 r.age)).set 6 (.bool r.chg))
    have t0 := bF.cell 0
    have t1 := bF.cell 1
    have t2 := bF.cell 2
    have t3 := bF.cell 3
    have t4 := bF.cell 4
    have t5 := bF.cell 5
    have t6 := bF.cell 6
    simp at t0 t1 t2 t3 t4 t5 t6
    refine bodyPost_ret (v := .agg #[.int .u32 r.addr, .int .i64 r.len, .int .i64 r.tag, .int .i64 r.met, .int .i64 r.frm, .int .i64 r.age, .bool r.chg]) (by simp [results, Tryz.results109, go_sem, t0, t1, t2, t3, t4, t5, t6]) rfl ⟨?_, (((((((((((Grows.refl w).alloc _).alloc _).trans hg).setCell (by simp) _).setCell (by simp) _).setCell (by simp) _).setCell (by simp) _).setCell (by simp) _).setCell (by simp) _).setCell (by simp) _)⟩
    rfl
  · have hv : Hid (rwLost r = { r with met := 16, age := 0, chg := true }) := by show rwLost r = _; simp [rwLost, hm]
    have hd : decide (r.met = 16) = false := by simp [hm]
    clear hm
    simp only [hd] at hD
    rw [hv.out]
    go_enter Tryz.func109, Tryz.ntmps109
    go_wp2_with (go_at_call 103; refine (hD _).mono ?_; rintro e w1 ⟨rfl, hg⟩; have bR1 := (unhide bR).grows hg; have bO1 := (unhide HO).grows hg; have a0 := bR1.cell 0; have a1 := bR1.cell 1; have a2 := bR1.cell 2; have a3 := bR1.cell 3; have a4 := bR1.cell 4; have a5 := bR1.cell 5; have a6 := bR1.cell 6; have b3 := bR1.frozen 3; have b5 := bR1.frozen 5; have b6 := bR1.frozen 6; have s0 := bO1.cell 0; have z0 := bO1.frozen 0; have s1 := bO1.cell 1; have z1 := bO1.frozen 1; have s2 := bO1.cell 2; have z2 := bO1.frozen 2; have s3 := bO1.cell 3; have z3 := bO1.frozen 3; have s4 := bO1.cell 4; have z4 := bO1.frozen 4; have s5 := bO1.cell 5; have z5 := bO1.frozen 5; have s6 := bO1.cell 6; have z6 := bO1.frozen 6)
    have bF := ((((((((((bO1.other (p := ⟨w.heap.size, 3, none⟩) (by simp) (.int .i64 16)).other (p := ⟨w.heap.size, 5, none⟩) (by simp) (.int .i64 0)).other (p := ⟨w.heap.size, 6, none⟩) (by simp) (.bool true)).set 0 (.int .u32 r.addr)).set 1 (.int .i64 r.len)).set 2 (.int .i64 r.tag)).set 3 (.int .i64 16)).set 4 (.int .i64 r.frm)).set 5 (.int .i64 0)).set 6 (.bool true))
    have t0 := bF.cell 0
    have t1 := bF.cell 1
    have t2 := bF.cell 2
    have t3 := bF.cell 3
    have t4 := bF.cell 4
    have t5 := bF.cell 5
    have t6 := bF.cell 6
    simp at t0 t1 t2 t3 t4 t5 t6
    refine bodyPost_ret (v := .agg #[.int .u32 r.addr, .int .i64 r.len, .int .i64 r.tag, .int .i64 16, .int .i64 r.frm, .int .i64 0, .bool true]) (by simp [results, Tryz.results109, go_sem, t0, t1, t2, t3, t4, t5, t6]) rfl ⟨?_, ((((((((((((((Grows.refl w).alloc _).alloc _).trans hg).setCell (by simp) _).setCell (by simp) _).setCell (by simp) _).setCell (by simp) _).setCell (by simp) _).setCell (by simp) _).setCell (by simp) _).setCell (by simp) _).setCell (by simp) _).setCell (by simp) _)⟩
    rfl

/-- Where the block of a row lies that a function answers with. -/
theorem outBlk (w : World) (cs : Array Value) (t : TypeId) (zs : Array Value) (u : TypeId) : Blk ((w.alloc (.cells cs t)).alloc (.cells zs u)) (w.heap.size + 1) zs u := by
  have := Blk.new (w.alloc (.cells cs t)) zs u
  simpa only [World.size_alloc] using this

set_option maxHeartbeats 1000000 in
theorem older_any (r : Rw) (w : World) (h0 : 0 ≤ r.age) (h1 : r.age < 1000000) :
    Calls Tryz.prog 98 #[.agg #[.int .u32 r.addr, .int .i64 r.len, .int .i64 r.tag, .int .i64 r.met, .int .i64 r.frm, .int .i64 r.age, .bool r.chg]] w fun e w' => e = .returned (.agg #[.int .u32 (rwOlder r).addr, .int .i64 (rwOlder r).len, .int .i64 (rwOlder r).tag, .int .i64 (rwOlder r).met, .int .i64 (rwOlder r).frm, .int .i64 (rwOlder r).age, .bool (rwOlder r).chg]) ∧ Grows w w' := by
  have bR := hide ((Blk.new w #[.int .u32 r.addr, .int .i64 r.len, .int .i64 r.tag, .int .i64 r.met, .int .i64 r.frm, .int .i64 r.age, .bool r.chg] 137).alloc (.cells #[.int .u32 0, .int .i64 0, .int .i64 0, .int .i64 0, .int .i64 0, .int .i64 0, .bool false] 137))
  have HO := hide (outBlk w #[.int .u32 r.addr, .int .i64 r.len, .int .i64 r.tag, .int .i64 r.met, .int .i64 r.frm, .int .i64 r.age, .bool r.chg] 137 #[.int .u32 0, .int .i64 0, .int .i64 0, .int .i64 0, .int .i64 0, .int .i64 0, .bool false] 137)
  have hD := fun W => isOwn_any r W
  have hwr : IntKind.i64.wrap (r.age + 1) = r.age + 1 := wrap_small _ (by omega) (by omega)
  by_cases hm : r.frm = -1
  · have hv : rwOlder r = r := by simp [rwOlder, hm]
    rw [hv]
    have hd : decide (r.frm = -1) = true := by simp [hm]
    clear hm hv
    simp only [hd] at hD
    go_enter Tryz.func98, Tryz.ntmps98
    go_wp2_with (go_at_call 150; refine (hD _).mono ?_; rintro e w1 ⟨rfl, hg⟩; have bR1 := (unhide bR).grows hg; have bO1 := (unhide HO).grows hg; have a0 := bR1.cell 0; have a1 := bR1.cell 1; have a2 := bR1.cell 2; have a3 := bR1.cell 3; have a4 := bR1.cell 4; have a5 := bR1.cell 5; have a6 := bR1.cell 6; have s0 := bO1.cell 0; have s1 := bO1.cell 1; have s2 := bO1.cell 2; have s3 := bO1.cell 3; have s4 := bO1.cell 4; have s5 := bO1.cell 5; have s6 := bO1.cell 6; have z0 := bO1.frozen 0; have z1 := bO1.frozen 1; have z2 := bO1.frozen 2; have z3 := bO1.frozen 3; have z4 := bO1.frozen 4; have z5 := bO1.frozen 5; have z6 := bO1.frozen 6)
    have bF := (((((((bO1.set 0 (.int .u32 r.addr)).set 1 (.int .i64 r.len)).set 2 (.int .i64 r.tag)).set 3 (.int .i64 r.met)).set 4 (.int .i64 r.frm)).set 5 (.int .i64 r.age)).set 6 (.bool r.chg))
    have t0 := bF.cell 0
    have t1 := bF.cell 1
    have t2 := bF.cell 2
    have t3 := bF.cell 3
    have t4 := bF.cell 4
    have t5 := bF.cell 5
    have t6 := bF.cell 6
    simp at t0 t1 t2 t3 t4 t5 t6
    refine bodyPost_ret (v := .agg #[.int .u32 r.addr, .int .i64 r.len, .int .i64 r.tag, .int .i64 r.met, .int .i64 r.frm, .int .i64 r.age, .bool r.chg]) (by simp [results, Tryz.results98, go_sem, t0, t1, t2, t3, t4, t5, t6]) rfl ⟨?_, (((((((((((Grows.refl w).alloc _).alloc _).trans hg).setCell (by simp) _).setCell (by simp) _).setCell (by simp) _).setCell (by simp) _).setCell (by simp) _).setCell (by simp) _).setCell (by simp) _)⟩
    rfl
  · have hd : decide (r.frm = -1) = false := by simp [hm]
    simp only [hd] at hD
    by_cases ha : r.age + 1 = 180
    · have hv : rwOlder r = rwLost { r with age := r.age + 1 } := by simp [rwOlder, hm, ha]
      rw [hv]
      have hL := fun W => lost_any { r with age := r.age + 1 } W
      generalize rwLost { r with age := r.age + 1 } = r2 at hL ⊢
      simp only at hL
      have hb : (r.age + 1 == 180) = true := by simp [ha]
      clear hm hv ha hd
      go_enter Tryz.func98, Tryz.ntmps98
      go_wp2_with (first | (go_at_call 150; refine (hD _).mono ?_; rintro e w1 ⟨rfl, hg⟩; have bR1 := (unhide bR).grows hg; have bO1 := (unhide HO).grows hg; have a0 := bR1.cell 0; have a1 := bR1.cell 1; have a2 := bR1.cell 2; have a3 := bR1.cell 3; have a4 := bR1.cell 4; have a5 := bR1.cell 5; have a6 := bR1.cell 6; have b5 := bR1.frozen 5) | (go_at_call 109; refine (hL _).mono ?_; rintro e w2 ⟨rfl, hg2⟩; have bO2 := (bO1.other (p := ⟨w.heap.size, 5, none⟩) (by simp) (.int .i64 (r.age + 1))).grows hg2; have s0 := bO2.cell 0; have s1 := bO2.cell 1; have s2 := bO2.cell 2; have s3 := bO2.cell 3; have s4 := bO2.cell 4; have s5 := bO2.cell 5; have s6 := bO2.cell 6; have z0 := bO2.frozen 0; have z1 := bO2.frozen 1; have z2 := bO2.frozen 2; have z3 := bO2.frozen 3; have z4 := bO2.frozen 4; have z5 := bO2.frozen 5; have z6 := bO2.frozen 6))
      have bF := (((((((bO2.set 0 (.int .u32 r2.addr)).set 1 (.int .i64 r2.len)).set 2 (.int .i64 r2.tag)).set 3 (.int .i64 r2.met)).set 4 (.int .i64 r2.frm)).set 5 (.int .i64 r2.age)).set 6 (.bool r2.chg))
      have t0 := bF.cell 0
      have t1 := bF.cell 1
      have t2 := bF.cell 2
      have t3 := bF.cell 3
      have t4 := bF.cell 4
      have t5 := bF.cell 5
      have t6 := bF.cell 6
      simp at t0 t1 t2 t3 t4 t5 t6
      refine bodyPost_ret (v := .agg #[.int .u32 r2.addr, .int .i64 r2.len, .int .i64 r2.tag, .int .i64 r2.met, .int .i64 r2.frm, .int .i64 r2.age, .bool r2.chg]) (by simp [results, Tryz.results98, go_sem, t0, t1, t2, t3, t4, t5, t6]) rfl ⟨?_, (((((((((((((Grows.refl w).alloc _).alloc _).trans hg).setCell (by simp) _).trans hg2).setCell (by simp) _).setCell (by simp) _).setCell (by simp) _).setCell (by simp) _).setCell (by simp) _).setCell (by simp) _).setCell (by simp) _)⟩
      rfl
    · have hv : rwOlder r = { r with age := r.age + 1 } := by simp [rwOlder, hm, ha]
      rw [hv]
      have hb : (r.age + 1 == 180) = false := by simp [ha]
      clear hm hv ha hd
      go_enter Tryz.func98, Tryz.ntmps98
      go_wp2_with (go_at_call 150; refine (hD _).mono ?_; rintro e w1 ⟨rfl, hg⟩; have bR1 := (unhide bR).grows hg; have bO1 := (unhide HO).grows hg; have a0 := bR1.cell 0; have a1 := bR1.cell 1; have a2 := bR1.cell 2; have a3 := bR1.cell 3; have a4 := bR1.cell 4; have a5 := bR1.cell 5; have a6 := bR1.cell 6; have b5 := bR1.frozen 5; have s0 := bO1.cell 0; have s1 := bO1.cell 1; have s2 := bO1.cell 2; have s3 := bO1.cell 3; have s4 := bO1.cell 4; have s5 := bO1.cell 5; have s6 := bO1.cell 6; have z0 := bO1.frozen 0; have z1 := bO1.frozen 1; have z2 := bO1.frozen 2; have z3 := bO1.frozen 3; have z4 := bO1.frozen 4; have z5 := bO1.frozen 5; have z6 := bO1.frozen 6)
      have bF := ((((((((bO1.other (p := ⟨w.heap.size, 5, none⟩) (by simp) (.int .i64 (r.age + 1))).set 0 (.int .u32 r.addr)).set 1 (.int .i64 r.len)).set 2 (.int .i64 r.tag)).set 3 (.int .i64 r.met)).set 4 (.int .i64 r.frm)).set 5 (.int .i64 (r.age + 1))).set 6 (.bool r.chg))
      have t0 := bF.cell 0
      have t1 := bF.cell 1
      have t2 := bF.cell 2
      have t3 := bF.cell 3
      have t4 := bF.cell 4
      have t5 := bF.cell 5
      have t6 := bF.cell 6
      simp at t0 t1 t2 t3 t4 t5 t6
      refine bodyPost_ret (v := .agg #[.int .u32 r.addr, .int .i64 r.len, .int .i64 r.tag, .int .i64 r.met, .int .i64 r.frm, .int .i64 (r.age + 1), .bool r.chg]) (by simp [results, Tryz.results98, go_sem, t0, t1, t2, t3, t4, t5, t6]) rfl ⟨?_, ((((((((((((Grows.refl w).alloc _).alloc _).trans hg).setCell (by simp) _).setCell (by simp) _).setCell (by simp) _).setCell (by simp) _).setCell (by simp) _).setCell (by simp) _).setCell (by simp) _).setCell (by simp) _)⟩
      rfl

set_option maxHeartbeats 1000000 in
theorem asIs_any (r : Rw) (w : World) :
    Calls Tryz.prog 52 #[.agg #[.int .u32 r.addr, .int .i64 r.len, .int .i64 r.tag, .int .i64 r.met, .int .i64 r.frm, .int .i64 r.age, .bool r.chg]] w fun e w' => e = .returned (.agg #[.int .u32 r.addr, .int .i64 r.len, .int .i64 r.tag, .int .i64 r.met, .int .i64 r.frm]) ∧ Grows w w' := by
  go_enter Tryz.func52, Tryz.ntmps52
  go_wp2
  exact bodyPost_ret (v := .agg #[.int .u32 r.addr, .int .i64 r.len, .int .i64 r.tag, .int .i64 r.met, .int .i64 r.frm]) (by simp [results, Tryz.results52, go_sem]) rfl ⟨rfl, ((Grows.refl w).alloc _).alloc _⟩

set_option maxHeartbeats 1000000 in
theorem rowCompare_any (r : Rw) (p : Pf) (w : World) :
    Calls Tryz.prog 147 #[.agg #[.int .u32 r.addr, .int .i64 r.len, .int .i64 r.tag, .int .i64 r.met, .int .i64 r.frm, .int .i64 r.age, .bool r.chg], .agg #[.int .u32 p.addr, .int .i64 p.len]] w fun e w' => e = .returned (.int .i64 (cmpP ⟨r.addr, r.len⟩ p)) ∧ Grows w w' := by
  have hC := fun W => compare_any ⟨r.addr, r.len⟩ p W
  simp only at hC
  go_enter Tryz.func147, Tryz.ntmps147
  go_wp2_with (go_at_call 82; refine (hC _).mono ?_; rintro e w1 ⟨rfl, hg⟩)
  go_ret
  exact ⟨rfl, (((Grows.refl w).alloc _).alloc _).trans hg⟩

/-- What an entry tells by a neighbour of a cost. -/
def newsRw (e : Ent) (frm cost : Int) : Rw := ⟨e.addr, e.len, e.tag, min (e.met + cost) 16, frm, 0, false⟩

set_option maxHeartbeats 1000000 in
theorem newsOf_any (e : Ent) (frm cost : Int) (w : World) (h0 : 0 ≤ e.met) (h1 : e.met ≤ 16) (h2 : 0 ≤ cost) (h3 : cost ≤ 15) :
    Calls Tryz.prog 97 #[.agg #[.int .u32 e.addr, .int .i64 e.len, .int .i64 e.tag, .int .i64 e.met], .int .i64 frm, .int .i64 cost] w fun v w' => v = .returned (.agg #[.int .u32 (newsRw e frm cost).addr, .int .i64 (newsRw e frm cost).len, .int .i64 (newsRw e frm cost).tag, .int .i64 (newsRw e frm cost).met, .int .i64 (newsRw e frm cost).frm]) ∧ Grows w w' := by
  have hwr : IntKind.i64.wrap (e.met + cost) = e.met + cost := wrap_small _ (by omega) (by omega)
  go_enter Tryz.func97, Tryz.ntmps97
  go_wp2
  exact bodyPost_ret (v := .agg #[.int .u32 e.addr, .int .i64 e.len, .int .i64 e.tag, .int .i64 (min (e.met + cost) 16), .int .i64 frm]) (by simp [results, Tryz.results97, go_sem]) rfl ⟨rfl, ((Grows.refl w).alloc _).alloc _⟩

end Go.Proofs.YtdnpeefnobjfaaaGreatDoor
