/- milepost.New. -/
import Derived.Test.YtdnpeefnobjfaaaGreatDoorRNew
namespace Go.Proofs.YtdnpeefnobjfaaaGreatDoor
open Go.RowKit Go.Shelf Go.Sort
attribute [local go_sem ↓] Go.wp_at_zero Go.wp_at_succ

/-- A router in memory: its costs, its view. (The lock is free.) -/
structure RouterAt (w : World) (base R : Nat) (costs : List Int) (L : List Rw) (V : Nat) (cv rv : Value) : Prop where
  blk : Blk w R #[cv, .int .i32 0, .int .u32 0, .pointer (some ⟨V, 0, none⟩)] 116
  view : Blk w V #[rv] 122
  costs : w.ownsRow base 3 1 cv costs.length (numList costs)
  rows : w.ownsRow base 137 7 rv L.length (rwList L)
  new : base ≤ R ∧ base ≤ V

theorem ownsRow_below {w w' : World} {base e sz n B : Nat} {v : Value} {xs : List Value} (h : w.ownsRow base e sz v n xs) (hb : Below B w w') (hB : w.heap.size ≤ B) : w'.ownsRow base e sz v n xs := by
  obtain ⟨hl, ⟨hv, h0⟩ | ⟨g', c', cur, hv, hbg, hg, hr⟩⟩ := h
  · exact ⟨hl, .inl ⟨hv, h0⟩⟩
  · exact ⟨hl, .inr ⟨g', c', cur, hv, hbg, (hb.block g' (Nat.lt_of_lt_of_le (Array.getElem?_eq_some_iff.1 hg).1 hB)).trans hg, hr⟩⟩
theorem ownsRow_mono {w : World} {base base' e sz n : Nat} {v : Value} {xs : List Value} (h : w.ownsRow base e sz v n xs) (hb : base' ≤ base) : w.ownsRow base' e sz v n xs := by
  obtain ⟨hl, ⟨hv, h0⟩ | ⟨g', c', cur, hv, hbg, hr⟩⟩ := h
  · exact ⟨hl, .inl ⟨hv, h0⟩⟩
  · exact ⟨hl, .inr ⟨g', c', cur, hv, Nat.le_trans hb hbg, hr⟩⟩

theorem ownsRow_slice {w : World} {base e sz n : Nat} {v : Value} {xs : List Value} (h : w.ownsRow base e sz v n xs) : ∃ ao cap, v = .slice ao n cap := by
  obtain ⟨_, ⟨hv, h0⟩ | ⟨g', c', cur, hv, _⟩⟩ := h
  · exact ⟨_, _, by rw [hv, h0]⟩
  · exact ⟨_, _, hv⟩

theorem ownsRow_other {w : World} {base e sz n B i : Nat} {v u : Value} {xs : List Value} {cs : Array Value} {t : TypeId} (h : w.ownsRow base e sz v n xs) (hB : Blk w B cs t) (hte : t ≠ e) : (w.setCell ⟨B, i, none⟩ u).ownsRow base e sz v n xs := by
  obtain ⟨hl, ⟨hv, h0⟩ | ⟨g', c', cur, hv, hbg, hg, hr⟩⟩ := h
  · exact ⟨hl, .inl ⟨hv, h0⟩⟩
  · refine ⟨hl, .inr ⟨g', c', cur, hv, hbg, (Below.heap_setCell _ _ _ _ ?_).trans hg, hr⟩⟩
    intro e
    subst e
    unfold Blk at hB
    rw [hB] at hg
    simp at hg
    exact hte hg.2

set_option maxRecDepth 100000 in
set_option maxHeartbeats 2000000 in
theorem new_bad (ac ao : Option Addr) (cc co : Nat) (lc : List Int) (lo : List Pf) (w : World) (hb : (costsB lc && ownB lo) = false) (hok : pfsOk lo) (hco : lo.length ≤ co) (hsc : numSlice w ac lc) (hso : pfSlice w ao lo) :
    Calls Tryz.prog 11 #[.agg #[.slice ac lc.length cc, .slice ao lo.length co]] w fun e w' => e = .returned (.tuple #[.pointer none, .iface 102 (.int .i64 1)]) ∧ Below w.heap.size w w' := by
  have hC := areCosts_any ac lc.length cc lc (w.alloc (.cells #[.slice ac lc.length cc, .slice ao lo.length co] 25)) rfl (numSlice_below hsc (below_new _ _))
  have hO := areOwn_any ao lo.length co lo (w.alloc (.cells #[.slice ac lc.length cc, .slice ao lo.length co] 25)) hok rfl hco (pfSlice_below hso (below_new _ _))
  clear hsc hso hok
  cases hq : costsB lc with
  | false =>
    rw [hq] at hC
    clear hb hq hO
    go_enter Tryz.func11, Tryz.ntmps11
    go_wp2_with (go_at_call 34; refine hC.mono ?_; rintro e w1 ⟨rfl, rfl⟩)
    go_ret2
    exact ⟨rfl, below_new _ _⟩
  | true =>
    rw [hq, Bool.true_and] at hb
    rw [hq] at hC
    rw [hb] at hO
    clear hb hq
    go_enter Tryz.func11, Tryz.ntmps11
    go_wp2_with (first | (go_at_call 34; refine hC.mono ?_; rintro e w1 ⟨rfl, rfl⟩) | (go_at_call 35; refine hO.mono ?_; rintro e w1 ⟨rfl, hb1⟩))
    go_ret2
    exact ⟨rfl, (below_new _ _).trans (hb1.mono (by simp))⟩

set_option maxRecDepth 100000 in
set_option maxHeartbeats 4000000 in
theorem new_good (ac ao : Option Addr) (cc co : Nat) (lc : List Int) (lo : List Pf) (w : World) (hb : (costsB lc && ownB lo) = true) (hok : pfsOk lo) (hco : lo.length ≤ co) (hnil : ac = none → lc.length = 0 ∧ cc = 0) (hsc : numSlice w ac lc) (hso : pfSlice w ao lo) :
    Calls Tryz.prog 11 #[.agg #[.slice ac lc.length cc, .slice ao lo.length co]] w fun e w' => ∃ R V cv rv Ls, e = .returned (.tuple #[.pointer (some ⟨R, 0, none⟩), .nilIface]) ∧ RouterAt w' w.heap.size R lc (Ls.map ownRw) V cv rv ∧ Ls.Perm lo ∧ pfSorted Ls ∧ Below w.heap.size w w' := by
  obtain ⟨hb1, hb2⟩ : costsB lc = true ∧ ownB lo = true := by simpa using hb
  have h8 : lc.length ≤ 8 := by simp [costsB] at hb1; exact hb1.1
  have h20 : lo.length ≤ 20 := by simp [ownB] at hb2; exact hb2.1
  have hC := areCosts_any ac lc.length cc lc (w.alloc (.cells #[.slice ac lc.length cc, .slice ao lo.length co] 25)) rfl (numSlice_below hsc (below_new _ _))
  have hO := areOwn_any ao lo.length co lo (w.alloc (.cells #[.slice ac lc.length cc, .slice ao lo.length co] 25)) hok rfl hco (pfSlice_below hso (below_new _ _))
  rw [hb1] at hC
  rw [hb2] at hO
  have bC := hide (Blk.new w #[.slice ac lc.length cc, .slice ao lo.length co] 25)
  have HSC := hide hsc
  have HSO := hide hso
  have HNIL := hide hnil
  clear hb hb1 hb2 hok hsc hso hnil
  go_enter Tryz.func11, Tryz.ntmps11
  go_wp2_with (first | (go_at_call 34; refine hC.mono ?_; rintro e w1 ⟨rfl, rfl⟩) | (go_at_call 35; refine hO.mono ?_; rintro e w1 ⟨rfl, hb1⟩; have bC1 := (unhide bC).below hb1 (by simp); have c0 := (bC1.cell 0).trans (show _ = some (.slice ac lc.length cc) from rfl); have HB1 := hide ((below_new w (.cells #[.slice ac lc.length cc, .slice ao lo.length co] 25)).trans (hb1.mono (by simp))); clear hb1) | (go_at_call 36; refine (cloneNum_any ac lc.length cc lc w1 rfl h8 (unhide HNIL) (numSlice_below (unhide HSC) (unhide HB1))).mono ?_; rintro e w2 ⟨cv, rfl, hcv, hb2⟩; obtain ⟨ac', cc', rfl⟩ := ownsRow_slice hcv; have bC2 := bC1.below hb2 bC1.lt; have HB2 := hide hb2; have HCV := hide hcv; clear hb2 hcv))
  have bRt := Blk.new w2 #[.slice ac' lc.length cc', .int .i32 0, .int .u32 0, .pointer none] 116
  have bC3 := bC2.alloc (.cells #[.slice ac' lc.length cc', .int .i32 0, .int .u32 0, .pointer none] 116)
  have HBW := hide ((unhide HB1).trans (((unhide HB2).trans ((Below.refl _ w2).alloc (by have := (unhide HB2).size; omega) (.cells #[.slice ac' lc.length cc', .int .i32 0, .int .u32 0, .pointer none] 116))).mono (unhide HB1).size))
  have HCW := hide (ownsRow_mono (ownsRow_below (unhide HCV) ((Below.refl _ w2).alloc (Nat.le_refl _) (.cells #[.slice ac' lc.length cc', .int .i32 0, .int .u32 0, .pointer none] 116)) (Nat.le_refl _)) (unhide HB1).size)
  have hRW : w2.heap.size < (w2.alloc (.cells #[.slice ac' lc.length cc', .int .i32 0, .int .u32 0, .pointer none] 116)).heap.size := by simp
  have hwR : w.heap.size < w2.heap.size := bC2.lt
  generalize w2.heap.size = R at *
  generalize w2.alloc (.cells #[.slice ac' lc.length cc', .int .i32 0, .int .u32 0, .pointer none] 116) = W at *
  clear bC1 bC2 c0 hC hO HB1 HB2 HCV
  have hRne : R ≠ w.heap.size := by omega
  have q1 := (bC3.cell 1).trans (show _ = some (.slice ao lo.length co) from rfl)
  have r0 := (bRt.cell 0).trans (show _ = some (.slice ac' lc.length cc') from rfl)
  have r3 := (bRt.cell 3).trans (show _ = some (.pointer none) from rfl)
  go_region_held3 (fun w' => w'.cell? ⟨w.heap.size, 1, none⟩ = some (.slice ao lo.length co)) (first | go_keep | exact ((World.cell?_setCell_far _ ⟨R, 3, none⟩ ⟨w.heap.size, 1, none⟩ _ hRne).trans (World.cell?_alloc_some _ _ _ (by rw [q1']; rfl))).trans q1')
    (first | (go_at_call 38; refine (start_any ao co lo _ h20 (pfSlice_below (unhide HSO) ((unhide HBW).trans ((Below.refl _ W).drew)))).mono ?_; rintro e w3 ⟨rv, Ls, rfl, hrv, hperm, hsort, hb3⟩; obtain ⟨ar', cr', rfl⟩ := ownsRow_slice hrv; have bRt3 := bRt.below (show Below W.heap.size W w3 from Below.trans ((Below.refl _ W).drew) hb3) hRW; have q1' := (hb3.cell (p := ⟨w.heap.size, 1, none⟩) bC3.lt).trans q1; have r0' := (bRt3.cell 0).trans (show _ = some (.slice ac' lc.length cc') from rfl); have r3' := (bRt3.cell 3).trans (show _ = some (.pointer none) from rfl); have HRV := hide hrv; have HPE := hide hperm; have HSRT := hide hsort; have HB3 := hide (show Below W.heap.size W w3 from Below.trans ((Below.refl _ W).drew) hb3); clear hrv hperm hsort hb3) | (go_at_call 37; refine (store_any R 3 w3.heap.size (.slice ar' lo.length cr') (.pointer none) _ (by rw [(bRt3.alloc _).cell]; rfl) ((bRt3.alloc _).frozen 3) (Blk.new w3 _ _)).mono ?_; rintro e w4 ⟨rfl, rfl⟩))
  all_goals go_wp2
  all_goals go_ret2
  all_goals
    have hLs := (unhide HPE).length_eq
    have hbW : W.heap.size ≤ w3.heap.size := (unhide HB3).size
    have hwW : w.heap.size ≤ W.heap.size := (unhide HBW).size
    refine ⟨R, w3.heap.size, .slice ac' lc.length cc', .slice ar' lo.length cr', Ls, rfl, ⟨?_, ?_, ?_, ?_, ⟨by omega, by omega⟩⟩, unhide HPE, unhide HSRT, ?_⟩
    · exact (bRt3.alloc _).set 3 _
    · exact (Blk.new w3 _ _).other (by show R ≠ _; omega) _
    · exact ownsRow_other (ownsRow_below (ownsRow_below (unhide HCW) (unhide HB3) (Nat.le_refl _)) ((Below.refl _ w3).alloc (Nat.le_refl _) _) (Nat.le_refl _)) (bRt3.alloc _) (by decide)
    · have h1 := ownsRow_mono (unhide HRV) hwW
      rw [List.length_map, hLs]
      exact ownsRow_other (ownsRow_below h1 ((Below.refl _ w3).alloc (Nat.le_refl _) _) (Nat.le_refl _)) (bRt3.alloc _) (by decide)
    · exact (((unhide HBW).trans ((unhide HB3).mono hwW)).alloc (by omega) _).setCell (p := ⟨R, 3, none⟩) (by show _ ≤ R; omega) _

end Go.Proofs.YtdnpeefnobjfaaaGreatDoor
