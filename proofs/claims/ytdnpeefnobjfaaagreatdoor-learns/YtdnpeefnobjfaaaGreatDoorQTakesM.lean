/- The reference's takes: an entry that is heard. (Each way of its own, by wip/mk_qtakes.py; the head is the same text in each.) -/
import Derived.Test.YtdnpeefnobjfaaaGreatDoorQRefM
namespace Go.Proofs.YtdnpeefnobjfaaaGreatDoor
open Go.RowKit Go.Shelf Go.Lib
attribute [local go_sem ↓] Go.wp_at_zero Go.wp_at_succ

theorem RefAt.other {w : World} {base Q B i : Nat} {u : Value} {costs : List Int} {L : List Rw} {cv lv : Value} (h : RefAt w base Q costs L cv lv) (hB : B ≠ Q) (h1 : lv.ownBlock ≠ some B) (h2 : cv.ownBlock ≠ some B) : RefAt (w.setCell ⟨B, i, none⟩ u) base Q costs L cv lv :=
  ⟨h.blk.other hB u, h.costs.kept (grown_set w B i u) (.inr h2), h.rows.kept (grown_set w B i u) (.inr h1), h.new⟩
theorem own_lt {w : World} {base e sz n B : Nat} {v : Value} {xs : List Value} (h : w.ownsRow base e sz v n xs) (hB : w.heap.size ≤ B) : v.ownBlock ≠ some B := fun hv => by
  have := (ownsRow_from h B hv).2
  omega
/-- A row is written: the router, and what has turned. -/
theorem takes_fin {w w4 : World} {base Q g cap i : Nat} {costs : List Int} {L : List Rw} {cv : Value} (hQ4 : RefAt w4 base Q costs L cv (.slice (some ⟨g, 0, none⟩) L.length cap)) (hb : Below w.heap.size w w4) (hi : i < L.length) (r : Rw) (hgQ : g ≠ Q) :
    RefAt (((((((w4.setCell ⟨g, i * 7, none⟩ (.int .u32 r.addr)).setCell ⟨g, i * 7 + 1, none⟩ (.int .i64 r.len)).setCell ⟨g, i * 7 + 2, none⟩ (.int .i64 r.tag)).setCell ⟨g, i * 7 + 3, none⟩ (.int .i64 r.met)).setCell ⟨g, i * 7 + 4, none⟩ (.int .i64 r.frm)).setCell ⟨g, i * 7 + 5, none⟩ (.int .i64 r.age)).setCell ⟨g, i * 7 + 6, none⟩ (.bool r.chg)) base Q costs (L.set i r) cv (.slice (some ⟨g, 0, none⟩) L.length cap) ∧
    RefTurn w (((((((w4.setCell ⟨g, i * 7, none⟩ (.int .u32 r.addr)).setCell ⟨g, i * 7 + 1, none⟩ (.int .i64 r.len)).setCell ⟨g, i * 7 + 2, none⟩ (.int .i64 r.tag)).setCell ⟨g, i * 7 + 3, none⟩ (.int .i64 r.met)).setCell ⟨g, i * 7 + 4, none⟩ (.int .i64 r.frm)).setCell ⟨g, i * 7 + 5, none⟩ (.int .i64 r.age)).setCell ⟨g, i * 7 + 6, none⟩ (.bool r.chg)) Q (.slice (some ⟨g, 0, none⟩) L.length cap) (.slice (some ⟨g, 0, none⟩) L.length cap) := by
  obtain ⟨cur, hB, _⟩ := ownsRow_blkT hQ4.rows
  have hg : w4.grownBy (((((((w4.setCell ⟨g, i * 7, none⟩ (.int .u32 r.addr)).setCell ⟨g, i * 7 + 1, none⟩ (.int .i64 r.len)).setCell ⟨g, i * 7 + 2, none⟩ (.int .i64 r.tag)).setCell ⟨g, i * 7 + 3, none⟩ (.int .i64 r.met)).setCell ⟨g, i * 7 + 4, none⟩ (.int .i64 r.frm)).setCell ⟨g, i * 7 + 5, none⟩ (.int .i64 r.age)).setCell ⟨g, i * 7 + 6, none⟩ (.bool r.chg)) (some g) :=
    grown_trans (grown_trans (grown_trans (grown_trans (grown_trans (grown_trans (grown_set _ _ _ _) (grown_set _ _ _ _)) (grown_set _ _ _ _)) (grown_set _ _ _ _)) (grown_set _ _ _ _)) (grown_set _ _ _ _)) (grown_set _ _ _ _)
  have hcg : cv.ownBlock ≠ some g := fun hv => by
    obtain ⟨hl, ⟨rfl, _⟩ | ⟨g', c', cur', rfl, _, hg', _⟩⟩ := hQ4.costs
    · simp [Value.ownBlock] at hv
    · simp [Value.ownBlock] at hv
      subst hv
      unfold Blk at hB
      rw [hg'] at hB
      simp at hB
  refine ⟨⟨?_, hQ4.costs.kept hg (.inr hcg), by rw [List.length_set]; exact ownsRow_putT hQ4.rows hi r, hQ4.new⟩, (RefTurn.of_below Q _ hb).trans (RefTurn.of_rows hg)⟩
  exact (((((((hQ4.blk.other hgQ _).other hgQ _).other hgQ _).other hgQ _).other hgQ _).other hgQ _).other hgQ _)

end Go.Proofs.YtdnpeefnobjfaaaGreatDoor

/- The reference's takes: more of its ways. -/
namespace Go.Proofs.YtdnpeefnobjfaaaGreatDoor
open Go.RowKit Go.Shelf Go.Lib
attribute [local go_sem ↓] Go.wp_at_zero Go.wp_at_succ

set_option maxRecDepth 100000 in
set_option maxHeartbeats 4000000 in
theorem takes_near (base Q frm : Nat) (costs : List Int) (L : List Rw) (e : Ent) (cv lv : Value) (w : World) (hQ : RefAt w base Q costs L cv lv) (hf : frm < costs.length) (hcost : ∀ c ∈ costs, 1 ≤ c ∧ c ≤ 15) (h0 : 0 ≤ e.met) (h1 : e.met ≤ 16) (hL : L.length ≤ 1000000)
    (i : Nat) (hi : i < L.length) (hat : ∀ z, isAt L ⟨e.addr, e.len⟩ z → z = i) (hno : L[i].frm ≠ -1) (hoth : L[i].frm ≠ frm) (hlt : min (e.met + costs[frm]) 16 < L[i].met) :
    Calls Tryz.prog 213 #[.pointer (some ⟨Q, 0, none⟩), .int .i64 frm, .agg #[.int .u32 e.addr, .int .i64 e.len, .int .i64 e.tag, .int .i64 e.met]] w fun v w' => v = .returned (.tuple #[]) ∧ ∃ lv', RefAt w' base Q costs (L.set i ⟨e.addr, e.len, e.tag, min (e.met + costs[frm]) 16, frm, 0, true⟩) cv lv' ∧ RefTurn w w' Q lv lv' := by
  have hQl := hQ.blk.lt
  obtain ⟨ao, cap, rfl⟩ := ownsRow_slice hQ.rows
  obtain ⟨ac, cc, rfl⟩ := ownsRow_slice hQ.costs
  obtain ⟨gc, rfl, c5, hgc⟩ := owned_num hQ.costs hf
  obtain ⟨k0, k1⟩ := hcost costs[frm] (List.getElem_mem _)
  have bE := Blk.new w #[.int .u32 e.addr, .int .i64 e.len, .int .i64 e.tag, .int .i64 e.met] 42
  have hb0 := below_new w (.cells #[.int .u32 e.addr, .int .i64 e.len, .int .i64 e.tag, .int .i64 e.met] 42)
  have hQ0 := hQ.below hb0
  have q0 := (hQ0.blk.cell 0).trans (show _ = some (.slice (some ⟨gc, 0, none⟩) costs.length cc) from rfl)
  have n0 := (hb0.cell (p := ⟨gc, frm, none⟩) hgc).trans c5
  have e0 := (bE.cell 0).trans (show _ = some (.int .u32 e.addr) from rfl)
  have e1 := (bE.cell 1).trans (show _ = some (.int .i64 e.len) from rfl)
  have e2 := (bE.cell 2).trans (show _ = some (.int .i64 e.tag) from rfl)
  have e3 := (bE.cell 3).trans (show _ = some (.int .i64 e.met) from rfl)
  have j0 : (0 : Int) ≤ (frm : Int) := by omega
  have j1 : (frm : Int) < (costs.length : Int) := by omega
  have hsum : IntKind.i64.wrap (e.met + costs[frm]) = e.met + costs[frm] := wrap_small _ (by omega) (by omega)
  have HQ0 := hide hQ0
  have HB0 := hide hb0
  have HE := hide bE
  have hPs : w.heap.size < (w.alloc (.cells #[.int .u32 e.addr, .int .i64 e.len, .int .i64 e.tag, .int .i64 e.met] 42)).heap.size := by simp
  generalize costs[frm] = cost at *
  clear hQ hQ0 hb0 bE c5 hcost
  go_enter Tryz.func213, Tryz.ntmps213
  go_wp2_with fail
  go_quiet (fail)
  generalize w.alloc (.cells #[.int .u32 e.addr, .int .i64 e.len, .int .i64 e.tag, .int .i64 e.met] 42) = W at *
  generalize hPd : w.heap.size = P at *
  have HPD := hide hPd
  clear hPd
  have HGV := hide (show Grows W (W.drewN nq) from (Grows.refl W).drewN nq)
  have v0 : (W.drewN nq).cell? ⟨P, 0, none⟩ = some (.int .u32 e.addr) := e0
  have v1 : (W.drewN nq).cell? ⟨P, 1, none⟩ = some (.int .i64 e.len) := e1
  have v2 : (W.drewN nq).cell? ⟨P, 2, none⟩ = some (.int .i64 e.tag) := e2
  have v3 : (W.drewN nq).cell? ⟨P, 3, none⟩ = some (.int .i64 e.met) := e3
  have hPV : P < (W.drewN nq).heap.size := hPs
  generalize W.drewN nq = V at *
  clear e0 e1 e2 e3 q0 n0 hPs
  by_cases hbig : 16 < e.met + cost
  · go_wp2_with fail
    have hgX := hide ((unhide HGV).alloc (.cells #[.int .u32 e.addr, .int .i64 e.len, .int .i64 e.tag, .int .i64 (16), .int .i64 frm, .int .i64 0, .bool true] 162))
    have hQX := (unhide HQ0).below (unhide hgX).below
    have hWh := (where_any Q ⟨e.addr, e.len⟩ ao cap L _ _ hL hQX.blk (rwSlice_ownT hQX.rows))
    simp only at hWh
    refine hWh.mono ?_
    rintro ev w3 ⟨z, rfl, hz, hg3⟩
    obtain rfl := hat z hz
    have hQ3 := hQX.below hg3.below
    have bX3 := (Blk.new V #[.int .u32 e.addr, .int .i64 e.len, .int .i64 e.tag, .int .i64 (16), .int .i64 frm, .int .i64 0, .bool true] 162).grows hg3
    have HB3 := hide ((unhide HB0).trans (((unhide hgX).below.trans (hg3.below.mono (unhide hgX).below.size)).mono (by have h1 := unhide HPD; have := (unhide HB0).size; omega)))
    have hbE3 := ((unhide HGV).alloc (.cells #[.int .u32 e.addr, .int .i64 e.len, .int .i64 e.tag, .int .i64 (16), .int .i64 frm, .int .i64 0, .bool true] 162)).trans hg3
    have bE3 := (unhide HE).grows hbE3
    have q1 := (hQ3.blk.cell 1).trans (show _ = some (.slice ao L.length cap) from rfl)
    rcases rwSlice_ownT hQ3.rows with h00 | ⟨g, off, rfl, hce⟩
    · exfalso; rw [h00] at hi; simp at hi
    have hg0 : off = 0 ∧ g ≠ Q := by
      rcases hQ3.rows.2 with ⟨hv, _⟩ | ⟨g', c', cur, hv, _, hgg, _⟩
      · simp at hv
      · simp at hv
        obtain ⟨⟨rfl, rfl⟩, rfl⟩ := hv
        refine ⟨rfl, fun e => ?_⟩
        subst e
        have h1 := hQ3.blk
        unfold Blk at h1
        rw [hgg] at h1
        simp at h1
    obtain ⟨rfl, hgQ⟩ := hg0
    obtain ⟨cur, hBg, hcs⟩ := ownsRow_blkT hQ3.rows
    have hgV : g < V.heap.size := Nat.lt_of_lt_of_le (ownsRow_lt (unhide HQ0).rows) (unhide HGV).below.size
    obtain ⟨r0, r1, r2, r3, r4, r5, r6⟩ := hce i hi
    simp only [Nat.zero_add] at r0 r1 r2 r3 r4 r5 r6
    have i0 : (0 : Int) ≤ (i : Int) := by omega
    have i1 : (i : Int) < (L.length : Int) := by omega
    have i2 : ¬ (i : Int) < 0 := by omega
    have HQ3 := hide hQ3
    have HX3 := hide bX3
    have HBG := hide hBg
    have x0 := (bX3.cell 0).trans (show _ = some (.int .u32 e.addr) from rfl)
    have x1 := (bX3.cell 1).trans (show _ = some (.int .i64 e.len) from rfl)
    have x2 := (bX3.cell 2).trans (show _ = some (.int .i64 e.tag) from rfl)
    have x3 := (bX3.cell 3).trans (show _ = some (.int .i64 (16)) from rfl)
    have x4 := (bX3.cell 4).trans (show _ = some (.int .i64 frm) from rfl)
    have x5 := (bX3.cell 5).trans (show _ = some (.int .i64 0) from rfl)
    have x6 := (bX3.cell 6).trans (show _ = some (.bool true) from rfl)
    have xf := bX3.frozen 6
    have t2 := (bE3.cell 2).trans (show _ = some (.int .i64 e.tag) from rfl)
    have hV3 : V.heap.size < w3.heap.size := bX3.lt
    have hP3 : P < w3.heap.size := bE3.lt
    have hPneV : P ≠ V.heap.size := by omega
    have hg3l : g < w3.heap.size := hBg.lt
    have hwV : w.heap.size ≤ V.heap.size := by have := unhide HPD; omega
    clear hce hWh hQX hg3 hbE3 hz hBg bX3 hQ3
    obtain ⟨y, hy⟩ : ∃ y, L[i] = y := ⟨_, rfl⟩
    rw [hy] at r0 r1 r2 r3 r4 r5 r6 hno hoth
    have HY := hide hy
    clear hat hy
    have HMIN := hide (show min (e.met + cost) 16 = 16 by omega)
    have hl1 : (16 : Int) < y.met := by rw [← unhide HY]; omega
    go_wp2_with fail
    have bX4 : Blk (w3.alloc (.cells #[.int .u32 y.addr, .int .i64 y.len, .int .i64 y.tag, .int .i64 y.met, .int .i64 y.frm, .int .i64 y.age, .bool y.chg] 162)) V.heap.size #[.int .u32 e.addr, .int .i64 e.len, .int .i64 e.tag, .int .i64 (16), .int .i64 frm, .int .i64 0, .bool true] 162 := ((unhide HX3)).alloc (.cells #[.int .u32 y.addr, .int .i64 y.len, .int .i64 y.tag, .int .i64 y.met, .int .i64 y.frm, .int .i64 y.age, .bool y.chg] 162)
    have hbl : Below P w (w3.alloc (.cells #[.int .u32 y.addr, .int .i64 y.len, .int .i64 y.tag, .int .i64 y.met, .int .i64 y.frm, .int .i64 y.age, .bool y.chg] 162)) := ((unhide HB3)).alloc (by have := unhide HPD; have := (unhide HB3).size; simp; omega) _
    have hlv := own_lt (unhide HQ0).rows (B := V.heap.size) (unhide HGV).below.size
    have hcv := own_lt (unhide HQ0).costs (B := V.heap.size) (unhide HGV).below.size
    have hQV : V.heap.size ≠ Q := by have := (unhide HQ0).blk.lt; have := (unhide HGV).below.size; omega
    have hQ4 : RefAt (w3.alloc (.cells #[.int .u32 y.addr, .int .i64 y.len, .int .i64 y.tag, .int .i64 y.met, .int .i64 y.frm, .int .i64 y.age, .bool y.chg] 162)) base Q costs L _ _ := (unhide HQ3).below (below_new w3 _)
    obtain ⟨cur4, hB4, hcs4⟩ := ownsRow_blkT hQ4.rows
    have hrow4 := rwSlice_ownT hQ4.rows
    rcases hrow4 with h00 | ⟨b4, o4, hbo, hce4⟩
    · exfalso; rw [h00] at hi; simp at hi
    simp at hbo
    obtain ⟨rfl, rfl⟩ := hbo
    obtain ⟨s0, s1, s2, s3, s4, s5, s6⟩ := hce4 i hi
    simp only [Nat.zero_add] at s0 s1 s2 s3 s4 s5 s6
    have z0 := hB4.frozen (i * 7)
    have z1 := hB4.frozen (i * 7 + 1)
    have z2 := hB4.frozen (i * 7 + 2)
    have z3 := hB4.frozen (i * 7 + 3)
    have z4 := hB4.frozen (i * 7 + 4)
    have z5 := hB4.frozen (i * 7 + 5)
    have z6 := hB4.frozen (i * 7 + 6)
    have y0 := (bX4.cell 0).trans (show _ = some (.int .u32 e.addr) from rfl)
    have y1 := (bX4.cell 1).trans (show _ = some (.int .i64 e.len) from rfl)
    have y2 := (bX4.cell 2).trans (show _ = some (.int .i64 e.tag) from rfl)
    have y3 := (bX4.cell 3).trans (show _ = some (.int .i64 (16)) from rfl)
    have y4 := (bX4.cell 4).trans (show _ = some (.int .i64 frm) from rfl)
    have y5 := (bX4.cell 5).trans (show _ = some (.int .i64 0) from rfl)
    have y6 := (bX4.cell 6).trans (show _ = some (.bool true) from rfl)
    have q4 := (hQ4.blk.cell 1).trans (show _ = some (.slice (some ⟨g, 0, none⟩) L.length cap) from rfl)
    have hfin0 := takes_fin (w := w) hQ4 (by rw [unhide HPD]; exact hbl) hi ⟨e.addr, e.len, e.tag, 16, frm, 0, true⟩ hgQ
    have hfin := And.intro (hfin0.1.below (Below.refl _ _).drew) (hfin0.2.trans (RefTurn.of_below Q _ (Below.refl _ _).drew))
    clear hfin0
    obtain ⟨W4, hW4⟩ : ∃ W4, (w3.alloc (.cells #[.int .u32 y.addr, .int .i64 y.len, .int .i64 y.tag, .int .i64 y.met, .int .i64 y.frm, .int .i64 y.age, .bool y.chg] 162)) = W4 := ⟨_, rfl⟩
    rw [hW4] at s0 s1 s2 s3 s4 s5 s6 z0 z1 z2 z3 z4 z5 z6 y0 y1 y2 y3 y4 y5 y6 q4 hfin ⊢
    have HFIN := hide hfin
    clear hW4 bX4 hbl hQ4 hB4 hcs4 hce4 hfin r0 r1 r2 r3 r4 r5 r6 x0 x1 x2 x3 x4 x5 x6 xf t2 q1
    go_region
    all_goals go_wp2
    all_goals (first | (refine bodyPost_ret (results_none rfl _ _ _) rfl ?_; rw [unhide HMIN]; exact ⟨rfl, _, unhide HFIN⟩) | (go_end0; rw [unhide HMIN]; exact ⟨rfl, _, unhide HFIN⟩))
  · go_wp2_with fail
    have hgX := hide ((unhide HGV).alloc (.cells #[.int .u32 e.addr, .int .i64 e.len, .int .i64 e.tag, .int .i64 (e.met + cost), .int .i64 frm, .int .i64 0, .bool true] 162))
    have hQX := (unhide HQ0).below (unhide hgX).below
    have hWh := (where_any Q ⟨e.addr, e.len⟩ ao cap L _ _ hL hQX.blk (rwSlice_ownT hQX.rows))
    simp only at hWh
    refine hWh.mono ?_
    rintro ev w3 ⟨z, rfl, hz, hg3⟩
    obtain rfl := hat z hz
    have hQ3 := hQX.below hg3.below
    have bX3 := (Blk.new V #[.int .u32 e.addr, .int .i64 e.len, .int .i64 e.tag, .int .i64 (e.met + cost), .int .i64 frm, .int .i64 0, .bool true] 162).grows hg3
    have HB3 := hide ((unhide HB0).trans (((unhide hgX).below.trans (hg3.below.mono (unhide hgX).below.size)).mono (by have h1 := unhide HPD; have := (unhide HB0).size; omega)))
    have hbE3 := ((unhide HGV).alloc (.cells #[.int .u32 e.addr, .int .i64 e.len, .int .i64 e.tag, .int .i64 (e.met + cost), .int .i64 frm, .int .i64 0, .bool true] 162)).trans hg3
    have bE3 := (unhide HE).grows hbE3
    have q1 := (hQ3.blk.cell 1).trans (show _ = some (.slice ao L.length cap) from rfl)
    rcases rwSlice_ownT hQ3.rows with h00 | ⟨g, off, rfl, hce⟩
    · exfalso; rw [h00] at hi; simp at hi
    have hg0 : off = 0 ∧ g ≠ Q := by
      rcases hQ3.rows.2 with ⟨hv, _⟩ | ⟨g', c', cur, hv, _, hgg, _⟩
      · simp at hv
      · simp at hv
        obtain ⟨⟨rfl, rfl⟩, rfl⟩ := hv
        refine ⟨rfl, fun e => ?_⟩
        subst e
        have h1 := hQ3.blk
        unfold Blk at h1
        rw [hgg] at h1
        simp at h1
    obtain ⟨rfl, hgQ⟩ := hg0
    obtain ⟨cur, hBg, hcs⟩ := ownsRow_blkT hQ3.rows
    have hgV : g < V.heap.size := Nat.lt_of_lt_of_le (ownsRow_lt (unhide HQ0).rows) (unhide HGV).below.size
    obtain ⟨r0, r1, r2, r3, r4, r5, r6⟩ := hce i hi
    simp only [Nat.zero_add] at r0 r1 r2 r3 r4 r5 r6
    have i0 : (0 : Int) ≤ (i : Int) := by omega
    have i1 : (i : Int) < (L.length : Int) := by omega
    have i2 : ¬ (i : Int) < 0 := by omega
    have HQ3 := hide hQ3
    have HX3 := hide bX3
    have HBG := hide hBg
    have x0 := (bX3.cell 0).trans (show _ = some (.int .u32 e.addr) from rfl)
    have x1 := (bX3.cell 1).trans (show _ = some (.int .i64 e.len) from rfl)
    have x2 := (bX3.cell 2).trans (show _ = some (.int .i64 e.tag) from rfl)
    have x3 := (bX3.cell 3).trans (show _ = some (.int .i64 (e.met + cost)) from rfl)
    have x4 := (bX3.cell 4).trans (show _ = some (.int .i64 frm) from rfl)
    have x5 := (bX3.cell 5).trans (show _ = some (.int .i64 0) from rfl)
    have x6 := (bX3.cell 6).trans (show _ = some (.bool true) from rfl)
    have xf := bX3.frozen 6
    have t2 := (bE3.cell 2).trans (show _ = some (.int .i64 e.tag) from rfl)
    have hV3 : V.heap.size < w3.heap.size := bX3.lt
    have hP3 : P < w3.heap.size := bE3.lt
    have hPneV : P ≠ V.heap.size := by omega
    have hg3l : g < w3.heap.size := hBg.lt
    have hwV : w.heap.size ≤ V.heap.size := by have := unhide HPD; omega
    clear hce hWh hQX hg3 hbE3 hz hBg bX3 hQ3
    obtain ⟨y, hy⟩ : ∃ y, L[i] = y := ⟨_, rfl⟩
    rw [hy] at r0 r1 r2 r3 r4 r5 r6 hno hoth
    have HY := hide hy
    clear hat hy
    have HMIN := hide (show min (e.met + cost) 16 = e.met + cost by omega)
    have hl1 : e.met + cost < y.met := by rw [← unhide HY]; omega
    go_wp2_with fail
    have bX4 : Blk (w3.alloc (.cells #[.int .u32 y.addr, .int .i64 y.len, .int .i64 y.tag, .int .i64 y.met, .int .i64 y.frm, .int .i64 y.age, .bool y.chg] 162)) V.heap.size #[.int .u32 e.addr, .int .i64 e.len, .int .i64 e.tag, .int .i64 (e.met + cost), .int .i64 frm, .int .i64 0, .bool true] 162 := ((unhide HX3)).alloc (.cells #[.int .u32 y.addr, .int .i64 y.len, .int .i64 y.tag, .int .i64 y.met, .int .i64 y.frm, .int .i64 y.age, .bool y.chg] 162)
    have hbl : Below P w (w3.alloc (.cells #[.int .u32 y.addr, .int .i64 y.len, .int .i64 y.tag, .int .i64 y.met, .int .i64 y.frm, .int .i64 y.age, .bool y.chg] 162)) := ((unhide HB3)).alloc (by have := unhide HPD; have := (unhide HB3).size; simp; omega) _
    have hlv := own_lt (unhide HQ0).rows (B := V.heap.size) (unhide HGV).below.size
    have hcv := own_lt (unhide HQ0).costs (B := V.heap.size) (unhide HGV).below.size
    have hQV : V.heap.size ≠ Q := by have := (unhide HQ0).blk.lt; have := (unhide HGV).below.size; omega
    have hQ4 : RefAt (w3.alloc (.cells #[.int .u32 y.addr, .int .i64 y.len, .int .i64 y.tag, .int .i64 y.met, .int .i64 y.frm, .int .i64 y.age, .bool y.chg] 162)) base Q costs L _ _ := (unhide HQ3).below (below_new w3 _)
    obtain ⟨cur4, hB4, hcs4⟩ := ownsRow_blkT hQ4.rows
    have hrow4 := rwSlice_ownT hQ4.rows
    rcases hrow4 with h00 | ⟨b4, o4, hbo, hce4⟩
    · exfalso; rw [h00] at hi; simp at hi
    simp at hbo
    obtain ⟨rfl, rfl⟩ := hbo
    obtain ⟨s0, s1, s2, s3, s4, s5, s6⟩ := hce4 i hi
    simp only [Nat.zero_add] at s0 s1 s2 s3 s4 s5 s6
    have z0 := hB4.frozen (i * 7)
    have z1 := hB4.frozen (i * 7 + 1)
    have z2 := hB4.frozen (i * 7 + 2)
    have z3 := hB4.frozen (i * 7 + 3)
    have z4 := hB4.frozen (i * 7 + 4)
    have z5 := hB4.frozen (i * 7 + 5)
    have z6 := hB4.frozen (i * 7 + 6)
    have y0 := (bX4.cell 0).trans (show _ = some (.int .u32 e.addr) from rfl)
    have y1 := (bX4.cell 1).trans (show _ = some (.int .i64 e.len) from rfl)
    have y2 := (bX4.cell 2).trans (show _ = some (.int .i64 e.tag) from rfl)
    have y3 := (bX4.cell 3).trans (show _ = some (.int .i64 (e.met + cost)) from rfl)
    have y4 := (bX4.cell 4).trans (show _ = some (.int .i64 frm) from rfl)
    have y5 := (bX4.cell 5).trans (show _ = some (.int .i64 0) from rfl)
    have y6 := (bX4.cell 6).trans (show _ = some (.bool true) from rfl)
    have q4 := (hQ4.blk.cell 1).trans (show _ = some (.slice (some ⟨g, 0, none⟩) L.length cap) from rfl)
    have hfin0 := takes_fin (w := w) hQ4 (by rw [unhide HPD]; exact hbl) hi ⟨e.addr, e.len, e.tag, e.met + cost, frm, 0, true⟩ hgQ
    have hfin := And.intro (hfin0.1.below (Below.refl _ _).drew) (hfin0.2.trans (RefTurn.of_below Q _ (Below.refl _ _).drew))
    clear hfin0
    obtain ⟨W4, hW4⟩ : ∃ W4, (w3.alloc (.cells #[.int .u32 y.addr, .int .i64 y.len, .int .i64 y.tag, .int .i64 y.met, .int .i64 y.frm, .int .i64 y.age, .bool y.chg] 162)) = W4 := ⟨_, rfl⟩
    rw [hW4] at s0 s1 s2 s3 s4 s5 s6 z0 z1 z2 z3 z4 z5 z6 y0 y1 y2 y3 y4 y5 y6 q4 hfin ⊢
    have HFIN := hide hfin
    clear hW4 bX4 hbl hQ4 hB4 hcs4 hce4 hfin r0 r1 r2 r3 r4 r5 r6 x0 x1 x2 x3 x4 x5 x6 xf t2 q1
    go_region
    all_goals go_wp2
    all_goals (first | (refine bodyPost_ret (results_none rfl _ _ _) rfl ?_; rw [unhide HMIN]; exact ⟨rfl, _, unhide HFIN⟩) | (go_end0; rw [unhide HMIN]; exact ⟨rfl, _, unhide HFIN⟩))

end Go.Proofs.YtdnpeefnobjfaaaGreatDoor

/- The reference's takes: more of its ways. -/
namespace Go.Proofs.YtdnpeefnobjfaaaGreatDoor
open Go.RowKit Go.Shelf Go.Lib
attribute [local go_sem ↓] Go.wp_at_zero Go.wp_at_succ

set_option maxRecDepth 100000 in
set_option maxHeartbeats 4000000 in
theorem takes_stale (base Q frm : Nat) (costs : List Int) (L : List Rw) (e : Ent) (cv lv : Value) (w : World) (hQ : RefAt w base Q costs L cv lv) (hf : frm < costs.length) (hcost : ∀ c ∈ costs, 1 ≤ c ∧ c ≤ 15) (h0 : 0 ≤ e.met) (h1 : e.met ≤ 16) (hL : L.length ≤ 1000000)
    (i : Nat) (hi : i < L.length) (hat : ∀ z, isAt L ⟨e.addr, e.len⟩ z → z = i) (hno : L[i].frm ≠ -1) (hoth : L[i].frm ≠ frm) (heq : L[i].met = e.met + costs[frm]) (h16 : e.met + costs[frm] < 16) (hage : 90 ≤ L[i].age) :
    Calls Tryz.prog 213 #[.pointer (some ⟨Q, 0, none⟩), .int .i64 frm, .agg #[.int .u32 e.addr, .int .i64 e.len, .int .i64 e.tag, .int .i64 e.met]] w fun v w' => v = .returned (.tuple #[]) ∧ ∃ lv', RefAt w' base Q costs (L.set i ⟨e.addr, e.len, e.tag, min (e.met + costs[frm]) 16, frm, 0, true⟩) cv lv' ∧ RefTurn w w' Q lv lv' := by
  have hQl := hQ.blk.lt
  obtain ⟨ao, cap, rfl⟩ := ownsRow_slice hQ.rows
  obtain ⟨ac, cc, rfl⟩ := ownsRow_slice hQ.costs
  obtain ⟨gc, rfl, c5, hgc⟩ := owned_num hQ.costs hf
  obtain ⟨k0, k1⟩ := hcost costs[frm] (List.getElem_mem _)
  have bE := Blk.new w #[.int .u32 e.addr, .int .i64 e.len, .int .i64 e.tag, .int .i64 e.met] 42
  have hb0 := below_new w (.cells #[.int .u32 e.addr, .int .i64 e.len, .int .i64 e.tag, .int .i64 e.met] 42)
  have hQ0 := hQ.below hb0
  have q0 := (hQ0.blk.cell 0).trans (show _ = some (.slice (some ⟨gc, 0, none⟩) costs.length cc) from rfl)
  have n0 := (hb0.cell (p := ⟨gc, frm, none⟩) hgc).trans c5
  have e0 := (bE.cell 0).trans (show _ = some (.int .u32 e.addr) from rfl)
  have e1 := (bE.cell 1).trans (show _ = some (.int .i64 e.len) from rfl)
  have e2 := (bE.cell 2).trans (show _ = some (.int .i64 e.tag) from rfl)
  have e3 := (bE.cell 3).trans (show _ = some (.int .i64 e.met) from rfl)
  have j0 : (0 : Int) ≤ (frm : Int) := by omega
  have j1 : (frm : Int) < (costs.length : Int) := by omega
  have hsum : IntKind.i64.wrap (e.met + costs[frm]) = e.met + costs[frm] := wrap_small _ (by omega) (by omega)
  have HQ0 := hide hQ0
  have HB0 := hide hb0
  have HE := hide bE
  have hPs : w.heap.size < (w.alloc (.cells #[.int .u32 e.addr, .int .i64 e.len, .int .i64 e.tag, .int .i64 e.met] 42)).heap.size := by simp
  generalize costs[frm] = cost at *
  clear hQ hQ0 hb0 bE c5 hcost
  go_enter Tryz.func213, Tryz.ntmps213
  go_wp2_with fail
  go_quiet (fail)
  generalize w.alloc (.cells #[.int .u32 e.addr, .int .i64 e.len, .int .i64 e.tag, .int .i64 e.met] 42) = W at *
  generalize hPd : w.heap.size = P at *
  have HPD := hide hPd
  clear hPd
  have HGV := hide (show Grows W (W.drewN nq) from (Grows.refl W).drewN nq)
  have v0 : (W.drewN nq).cell? ⟨P, 0, none⟩ = some (.int .u32 e.addr) := e0
  have v1 : (W.drewN nq).cell? ⟨P, 1, none⟩ = some (.int .i64 e.len) := e1
  have v2 : (W.drewN nq).cell? ⟨P, 2, none⟩ = some (.int .i64 e.tag) := e2
  have v3 : (W.drewN nq).cell? ⟨P, 3, none⟩ = some (.int .i64 e.met) := e3
  have hPV : P < (W.drewN nq).heap.size := hPs
  generalize W.drewN nq = V at *
  clear e0 e1 e2 e3 q0 n0 hPs
  by_cases hbig : 16 < e.met + cost
  · exfalso; omega
  · go_wp2_with fail
    have hgX := hide ((unhide HGV).alloc (.cells #[.int .u32 e.addr, .int .i64 e.len, .int .i64 e.tag, .int .i64 (e.met + cost), .int .i64 frm, .int .i64 0, .bool true] 162))
    have hQX := (unhide HQ0).below (unhide hgX).below
    have hWh := (where_any Q ⟨e.addr, e.len⟩ ao cap L _ _ hL hQX.blk (rwSlice_ownT hQX.rows))
    simp only at hWh
    refine hWh.mono ?_
    rintro ev w3 ⟨z, rfl, hz, hg3⟩
    obtain rfl := hat z hz
    have hQ3 := hQX.below hg3.below
    have bX3 := (Blk.new V #[.int .u32 e.addr, .int .i64 e.len, .int .i64 e.tag, .int .i64 (e.met + cost), .int .i64 frm, .int .i64 0, .bool true] 162).grows hg3
    have HB3 := hide ((unhide HB0).trans (((unhide hgX).below.trans (hg3.below.mono (unhide hgX).below.size)).mono (by have h1 := unhide HPD; have := (unhide HB0).size; omega)))
    have hbE3 := ((unhide HGV).alloc (.cells #[.int .u32 e.addr, .int .i64 e.len, .int .i64 e.tag, .int .i64 (e.met + cost), .int .i64 frm, .int .i64 0, .bool true] 162)).trans hg3
    have bE3 := (unhide HE).grows hbE3
    have q1 := (hQ3.blk.cell 1).trans (show _ = some (.slice ao L.length cap) from rfl)
    rcases rwSlice_ownT hQ3.rows with h00 | ⟨g, off, rfl, hce⟩
    · exfalso; rw [h00] at hi; simp at hi
    have hg0 : off = 0 ∧ g ≠ Q := by
      rcases hQ3.rows.2 with ⟨hv, _⟩ | ⟨g', c', cur, hv, _, hgg, _⟩
      · simp at hv
      · simp at hv
        obtain ⟨⟨rfl, rfl⟩, rfl⟩ := hv
        refine ⟨rfl, fun e => ?_⟩
        subst e
        have h1 := hQ3.blk
        unfold Blk at h1
        rw [hgg] at h1
        simp at h1
    obtain ⟨rfl, hgQ⟩ := hg0
    obtain ⟨cur, hBg, hcs⟩ := ownsRow_blkT hQ3.rows
    have hgV : g < V.heap.size := Nat.lt_of_lt_of_le (ownsRow_lt (unhide HQ0).rows) (unhide HGV).below.size
    obtain ⟨r0, r1, r2, r3, r4, r5, r6⟩ := hce i hi
    simp only [Nat.zero_add] at r0 r1 r2 r3 r4 r5 r6
    have i0 : (0 : Int) ≤ (i : Int) := by omega
    have i1 : (i : Int) < (L.length : Int) := by omega
    have i2 : ¬ (i : Int) < 0 := by omega
    have HQ3 := hide hQ3
    have HX3 := hide bX3
    have HBG := hide hBg
    have x0 := (bX3.cell 0).trans (show _ = some (.int .u32 e.addr) from rfl)
    have x1 := (bX3.cell 1).trans (show _ = some (.int .i64 e.len) from rfl)
    have x2 := (bX3.cell 2).trans (show _ = some (.int .i64 e.tag) from rfl)
    have x3 := (bX3.cell 3).trans (show _ = some (.int .i64 (e.met + cost)) from rfl)
    have x4 := (bX3.cell 4).trans (show _ = some (.int .i64 frm) from rfl)
    have x5 := (bX3.cell 5).trans (show _ = some (.int .i64 0) from rfl)
    have x6 := (bX3.cell 6).trans (show _ = some (.bool true) from rfl)
    have xf := bX3.frozen 6
    have t2 := (bE3.cell 2).trans (show _ = some (.int .i64 e.tag) from rfl)
    have hV3 : V.heap.size < w3.heap.size := bX3.lt
    have hP3 : P < w3.heap.size := bE3.lt
    have hPneV : P ≠ V.heap.size := by omega
    have hg3l : g < w3.heap.size := hBg.lt
    have hwV : w.heap.size ≤ V.heap.size := by have := unhide HPD; omega
    clear hce hWh hQX hg3 hbE3 hz hBg bX3 hQ3
    obtain ⟨y, hy⟩ : ∃ y, L[i] = y := ⟨_, rfl⟩
    rw [hy] at r0 r1 r2 r3 r4 r5 r6 hno hoth
    have HY := hide hy
    clear hat hy
    have HMIN := hide (show min (e.met + cost) 16 = e.met + cost by omega)
    have hl1 : y.met = e.met + cost := by rw [← unhide HY]; exact heq
    rw [hl1] at r3
    have hl2 : ¬ e.met + cost < y.met := by omega
    have hl3 : (90 : Int) ≤ y.age := by rw [← unhide HY]; exact hage
    have hl4 : e.met + cost < 16 := h16
    go_wp2_with fail
    have bX4 : Blk (w3.alloc (.cells #[.int .u32 y.addr, .int .i64 y.len, .int .i64 y.tag, .int .i64 (e.met + cost), .int .i64 y.frm, .int .i64 y.age, .bool y.chg] 162)) V.heap.size #[.int .u32 e.addr, .int .i64 e.len, .int .i64 e.tag, .int .i64 (e.met + cost), .int .i64 frm, .int .i64 0, .bool true] 162 := ((unhide HX3)).alloc (.cells #[.int .u32 y.addr, .int .i64 y.len, .int .i64 y.tag, .int .i64 (e.met + cost), .int .i64 y.frm, .int .i64 y.age, .bool y.chg] 162)
    have hbl : Below P w (w3.alloc (.cells #[.int .u32 y.addr, .int .i64 y.len, .int .i64 y.tag, .int .i64 (e.met + cost), .int .i64 y.frm, .int .i64 y.age, .bool y.chg] 162)) := ((unhide HB3)).alloc (by have := unhide HPD; have := (unhide HB3).size; simp; omega) _
    have hlv := own_lt (unhide HQ0).rows (B := V.heap.size) (unhide HGV).below.size
    have hcv := own_lt (unhide HQ0).costs (B := V.heap.size) (unhide HGV).below.size
    have hQV : V.heap.size ≠ Q := by have := (unhide HQ0).blk.lt; have := (unhide HGV).below.size; omega
    have hQ4 : RefAt (w3.alloc (.cells #[.int .u32 y.addr, .int .i64 y.len, .int .i64 y.tag, .int .i64 (e.met + cost), .int .i64 y.frm, .int .i64 y.age, .bool y.chg] 162)) base Q costs L _ _ := (unhide HQ3).below (below_new w3 _)
    obtain ⟨cur4, hB4, hcs4⟩ := ownsRow_blkT hQ4.rows
    have hrow4 := rwSlice_ownT hQ4.rows
    rcases hrow4 with h00 | ⟨b4, o4, hbo, hce4⟩
    · exfalso; rw [h00] at hi; simp at hi
    simp at hbo
    obtain ⟨rfl, rfl⟩ := hbo
    obtain ⟨s0, s1, s2, s3, s4, s5, s6⟩ := hce4 i hi
    simp only [Nat.zero_add] at s0 s1 s2 s3 s4 s5 s6
    have z0 := hB4.frozen (i * 7)
    have z1 := hB4.frozen (i * 7 + 1)
    have z2 := hB4.frozen (i * 7 + 2)
    have z3 := hB4.frozen (i * 7 + 3)
    have z4 := hB4.frozen (i * 7 + 4)
    have z5 := hB4.frozen (i * 7 + 5)
    have z6 := hB4.frozen (i * 7 + 6)
    have y0 := (bX4.cell 0).trans (show _ = some (.int .u32 e.addr) from rfl)
    have y1 := (bX4.cell 1).trans (show _ = some (.int .i64 e.len) from rfl)
    have y2 := (bX4.cell 2).trans (show _ = some (.int .i64 e.tag) from rfl)
    have y3 := (bX4.cell 3).trans (show _ = some (.int .i64 (e.met + cost)) from rfl)
    have y4 := (bX4.cell 4).trans (show _ = some (.int .i64 frm) from rfl)
    have y5 := (bX4.cell 5).trans (show _ = some (.int .i64 0) from rfl)
    have y6 := (bX4.cell 6).trans (show _ = some (.bool true) from rfl)
    have q4 := (hQ4.blk.cell 1).trans (show _ = some (.slice (some ⟨g, 0, none⟩) L.length cap) from rfl)
    have hfin0 := takes_fin (w := w) hQ4 (by rw [unhide HPD]; exact hbl) hi ⟨e.addr, e.len, e.tag, e.met + cost, frm, 0, true⟩ hgQ
    have hfin := And.intro (hfin0.1.below (Below.refl _ _).drew) (hfin0.2.trans (RefTurn.of_below Q _ (Below.refl _ _).drew))
    clear hfin0
    obtain ⟨W4, hW4⟩ : ∃ W4, (w3.alloc (.cells #[.int .u32 y.addr, .int .i64 y.len, .int .i64 y.tag, .int .i64 (e.met + cost), .int .i64 y.frm, .int .i64 y.age, .bool y.chg] 162)) = W4 := ⟨_, rfl⟩
    rw [hW4] at s0 s1 s2 s3 s4 s5 s6 z0 z1 z2 z3 z4 z5 z6 y0 y1 y2 y3 y4 y5 y6 q4 hfin ⊢
    have HFIN := hide hfin
    clear hW4 bX4 hbl hQ4 hB4 hcs4 hce4 hfin r0 r1 r2 r3 r4 r5 r6 x0 x1 x2 x3 x4 x5 x6 xf t2 q1
    go_region
    all_goals go_wp2
    all_goals (first | (refine bodyPost_ret (results_none rfl _ _ _) rfl ?_; rw [unhide HMIN]; exact ⟨rfl, _, unhide HFIN⟩) | (go_end0; rw [unhide HMIN]; exact ⟨rfl, _, unhide HFIN⟩))

end Go.Proofs.YtdnpeefnobjfaaaGreatDoor
