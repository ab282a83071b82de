/- The reference's takes: more of its ways. -/
import Derived.Test.YtdnpeefnobjfaaaGreatDoorQTakesM
namespace Go.Proofs.YtdnpeefnobjfaaaGreatDoor
open Go.RowKit Go.Shelf Go.Lib
attribute [local go_sem ↓] Go.wp_at_zero Go.wp_at_succ

set_option maxRecDepth 100000 in
set_option maxHeartbeats 4000000 in
theorem takes_own (base Q frm : Nat) (costs : List Int) (L : List Rw) (e : Ent) (cv lv : Value) (w : World) (hQ : RefAt w base Q costs L cv lv) (hf : frm < costs.length) (hcost : ∀ c ∈ costs, 1 ≤ c ∧ c ≤ 15) (h0 : 0 ≤ e.met) (h1 : e.met ≤ 16) (hL : L.length ≤ 1000000)
    (i : Nat) (hi : i < L.length) (hat : ∀ z, isAt L ⟨e.addr, e.len⟩ z → z = i) (hown : L[i].frm = -1) :
    Calls Tryz.prog 213 #[.pointer (some ⟨Q, 0, none⟩), .int .i64 frm, .agg #[.int .u32 e.addr, .int .i64 e.len, .int .i64 e.tag, .int .i64 e.met]] w fun v w' => v = .returned (.tuple #[]) ∧ Below w.heap.size w w' := by
  have hQl := hQ.blk.lt
  obtain ⟨ao, cap, rfl⟩ := ownsRow_slice hQ.rows
  obtain ⟨ac, cc, rfl⟩ := ownsRow_slice hQ.costs
  obtain ⟨gc, rfl, c5, hgc⟩ := owned_num hQ.costs hf
  obtain ⟨k0, k1⟩ := hcost costs[frm] (List.getElem_mem _)
  have bE := Blk.new w #[.int .u32 e.addr, .int .i64 e.len, .int .i64 e.tag, .int .i64 e.met] 42
  have hb0 := below_new w (.cells #[.int .u32 e.addr, .int .i64 e.len, .int .i64 e.tag, .int .i64 e.met] 42)
  have hQ0 := hQ.below hb0
  have q0 := (hQ0.blk.cell 0).trans (show _ = some (.slice (some ⟨gc, 0, none⟩) costs.length cc) from rfl)
  have n0 := (hb0.cell (p := ⟨gc, frm, none⟩) hgc).trans c5
  have e0 := (bE.cell 0).trans (show _ = some (.int .u32 e.addr) from rfl)
  have e1 := (bE.cell 1).trans (show _ = some (.int .i64 e.len) from rfl)
  have e2 := (bE.cell 2).trans (show _ = some (.int .i64 e.tag) from rfl)
  have e3 := (bE.cell 3).trans (show _ = some (.int .i64 e.met) from rfl)
  have j0 : (0 : Int) ≤ (frm : Int) := by omega
  have j1 : (frm : Int) < (costs.length : Int) := by omega
  have hsum : IntKind.i64.wrap (e.met + costs[frm]) = e.met + costs[frm] := wrap_small _ (by omega) (by omega)
  have HQ0 := hide hQ0
  have HB0 := hide hb0
  have HE := hide bE
  have hPs : w.heap.size < (w.alloc (.cells #[.int .u32 e.addr, .int .i64 e.len, .int .i64 e.tag, .int .i64 e.met] 42)).heap.size := by simp
  generalize costs[frm] = cost at *
  clear hQ hQ0 hb0 bE c5 hcost
  go_enter Tryz.func213, Tryz.ntmps213
  go_wp2_with fail
  go_quiet (fail)
  generalize w.alloc (.cells #[.int .u32 e.addr, .int .i64 e.len, .int .i64 e.tag, .int .i64 e.met] 42) = W at *
  generalize hPd : w.heap.size = P at *
  have HPD := hide hPd
  clear hPd
  have HGV := hide (show Grows W (W.drewN nq) from (Grows.refl W).drewN nq)
  have v0 : (W.drewN nq).cell? ⟨P, 0, none⟩ = some (.int .u32 e.addr) := e0
  have v1 : (W.drewN nq).cell? ⟨P, 1, none⟩ = some (.int .i64 e.len) := e1
  have v2 : (W.drewN nq).cell? ⟨P, 2, none⟩ = some (.int .i64 e.tag) := e2
  have v3 : (W.drewN nq).cell? ⟨P, 3, none⟩ = some (.int .i64 e.met) := e3
  have hPV : P < (W.drewN nq).heap.size := hPs
  generalize W.drewN nq = V at *
  clear e0 e1 e2 e3 q0 n0 hPs
  by_cases hbig : 16 < e.met + cost
  · go_wp2_with fail
    have hgX := hide ((unhide HGV).alloc (.cells #[.int .u32 e.addr, .int .i64 e.len, .int .i64 e.tag, .int .i64 (16), .int .i64 frm, .int .i64 0, .bool true] 162))
    have hQX := (unhide HQ0).below (unhide hgX).below
    have hWh := (where_any Q ⟨e.addr, e.len⟩ ao cap L _ _ hL hQX.blk (rwSlice_ownT hQX.rows))
    simp only at hWh
    refine hWh.mono ?_
    rintro ev w3 ⟨z, rfl, hz, hg3⟩
    obtain rfl := hat z hz
    have hQ3 := hQX.below hg3.below
    have bX3 := (Blk.new V #[.int .u32 e.addr, .int .i64 e.len, .int .i64 e.tag, .int .i64 (16), .int .i64 frm, .int .i64 0, .bool true] 162).grows hg3
    have HB3 := hide ((unhide HB0).trans (((unhide hgX).below.trans (hg3.below.mono (unhide hgX).below.size)).mono (by have h1 := unhide HPD; have := (unhide HB0).size; omega)))
    have hbE3 := ((unhide HGV).alloc (.cells #[.int .u32 e.addr, .int .i64 e.len, .int .i64 e.tag, .int .i64 (16), .int .i64 frm, .int .i64 0, .bool true] 162)).trans hg3
    have bE3 := (unhide HE).grows hbE3
    have q1 := (hQ3.blk.cell 1).trans (show _ = some (.slice ao L.length cap) from rfl)
    rcases rwSlice_ownT hQ3.rows with h00 | ⟨g, off, rfl, hce⟩
    · exfalso; rw [h00] at hi; simp at hi
    have hg0 : off = 0 ∧ g ≠ Q := by
      rcases hQ3.rows.2 with ⟨hv, _⟩ | ⟨g', c', cur, hv, _, hgg, _⟩
      · simp at hv
      · simp at hv
        obtain ⟨⟨rfl, rfl⟩, rfl⟩ := hv
        refine ⟨rfl, fun e => ?_⟩
        subst e
        have h1 := hQ3.blk
        unfold Blk at h1
        rw [hgg] at h1
        simp at h1
    obtain ⟨rfl, hgQ⟩ := hg0
    obtain ⟨cur, hBg, hcs⟩ := ownsRow_blkT hQ3.rows
    have hgV : g < V.heap.size := Nat.lt_of_lt_of_le (ownsRow_lt (unhide HQ0).rows) (unhide HGV).below.size
    obtain ⟨r0, r1, r2, r3, r4, r5, r6⟩ := hce i hi
    simp only [Nat.zero_add] at r0 r1 r2 r3 r4 r5 r6
    have i0 : (0 : Int) ≤ (i : Int) := by omega
    have i1 : (i : Int) < (L.length : Int) := by omega
    have i2 : ¬ (i : Int) < 0 := by omega
    have HQ3 := hide hQ3
    have HX3 := hide bX3
    have HBG := hide hBg
    have x0 := (bX3.cell 0).trans (show _ = some (.int .u32 e.addr) from rfl)
    have x1 := (bX3.cell 1).trans (show _ = some (.int .i64 e.len) from rfl)
    have x2 := (bX3.cell 2).trans (show _ = some (.int .i64 e.tag) from rfl)
    have x3 := (bX3.cell 3).trans (show _ = some (.int .i64 (16)) from rfl)
    have x4 := (bX3.cell 4).trans (show _ = some (.int .i64 frm) from rfl)
    have x5 := (bX3.cell 5).trans (show _ = some (.int .i64 0) from rfl)
    have x6 := (bX3.cell 6).trans (show _ = some (.bool true) from rfl)
    have xf := bX3.frozen 6
    have t2 := (bE3.cell 2).trans (show _ = some (.int .i64 e.tag) from rfl)
    have hV3 : V.heap.size < w3.heap.size := bX3.lt
    have hP3 : P < w3.heap.size := bE3.lt
    have hPneV : P ≠ V.heap.size := by omega
    have hg3l : g < w3.heap.size := hBg.lt
    have hwV : w.heap.size ≤ V.heap.size := by have := unhide HPD; omega
    clear hce hWh hQX hg3 hbE3 hz hBg bX3 hQ3
    obtain ⟨y, hy⟩ : ∃ y, L[i] = y := ⟨_, rfl⟩
    rw [hy] at r0 r1 r2 r3 r4 r5 r6 hown
    have HY := hide hy
    clear hat hy
    go_wp2
    refine bodyPost_ret (results_none rfl _ _ _) rfl ?_
    exact ⟨rfl, by rw [unhide HPD]; exact (unhide HB3).alloc (by have := unhide HPD; have := (unhide HB3).size; omega) _⟩
  · go_wp2_with fail
    have hgX := hide ((unhide HGV).alloc (.cells #[.int .u32 e.addr, .int .i64 e.len, .int .i64 e.tag, .int .i64 (e.met + cost), .int .i64 frm, .int .i64 0, .bool true] 162))
    have hQX := (unhide HQ0).below (unhide hgX).below
    have hWh := (where_any Q ⟨e.addr, e.len⟩ ao cap L _ _ hL hQX.blk (rwSlice_ownT hQX.rows))
    simp only at hWh
    refine hWh.mono ?_
    rintro ev w3 ⟨z, rfl, hz, hg3⟩
    obtain rfl := hat z hz
    have hQ3 := hQX.below hg3.below
    have bX3 := (Blk.new V #[.int .u32 e.addr, .int .i64 e.len, .int .i64 e.tag, .int .i64 (e.met + cost), .int .i64 frm, .int .i64 0, .bool true] 162).grows hg3
    have HB3 := hide ((unhide HB0).trans (((unhide hgX).below.trans (hg3.below.mono (unhide hgX).below.size)).mono (by have h1 := unhide HPD; have := (unhide HB0).size; omega)))
    have hbE3 := ((unhide HGV).alloc (.cells #[.int .u32 e.addr, .int .i64 e.len, .int .i64 e.tag, .int .i64 (e.met + cost), .int .i64 frm, .int .i64 0, .bool true] 162)).trans hg3
    have bE3 := (unhide HE).grows hbE3
    have q1 := (hQ3.blk.cell 1).trans (show _ = some (.slice ao L.length cap) from rfl)
    rcases rwSlice_ownT hQ3.rows with h00 | ⟨g, off, rfl, hce⟩
    · exfalso; rw [h00] at hi; simp at hi
    have hg0 : off = 0 ∧ g ≠ Q := by
      rcases hQ3.rows.2 with ⟨hv, _⟩ | ⟨g', c', cur, hv, _, hgg, _⟩
      · simp at hv
      · simp at hv
        obtain ⟨⟨rfl, rfl⟩, rfl⟩ := hv
        refine ⟨rfl, fun e => ?_⟩
        subst e
        have h1 := hQ3.blk
        unfold Blk at h1
        rw [hgg] at h1
        simp at h1
    obtain ⟨rfl, hgQ⟩ := hg0
    obtain ⟨cur, hBg, hcs⟩ := ownsRow_blkT hQ3.rows
    have hgV : g < V.heap.size := Nat.lt_of_lt_of_le (ownsRow_lt (unhide HQ0).rows) (unhide HGV).below.size
    obtain ⟨r0, r1, r2, r3, r4, r5, r6⟩ := hce i hi
    simp only [Nat.zero_add] at r0 r1 r2 r3 r4 r5 r6
    have i0 : (0 : Int) ≤ (i : Int) := by omega
    have i1 : (i : Int) < (L.length : Int) := by omega
    have i2 : ¬ (i : Int) < 0 := by omega
    have HQ3 := hide hQ3
    have HX3 := hide bX3
    have HBG := hide hBg
    have x0 := (bX3.cell 0).trans (show _ = some (.int .u32 e.addr) from rfl)
    have x1 := (bX3.cell 1).trans (show _ = some (.int .i64 e.len) from rfl)
    have x2 := (bX3.cell 2).trans (show _ = some (.int .i64 e.tag) from rfl)
    have x3 := (bX3.cell 3).trans (show _ = some (.int .i64 (e.met + cost)) from rfl)
    have x4 := (bX3.cell 4).trans (show _ = some (.int .i64 frm) from rfl)
    have x5 := (bX3.cell 5).trans (show _ = some (.int .i64 0) from rfl)
    have x6 := (bX3.cell 6).trans (show _ = some (.bool true) from rfl)
    have xf := bX3.frozen 6
    have t2 := (bE3.cell 2).trans (show _ = some (.int .i64 e.tag) from rfl)
    have hV3 : V.heap.size < w3.heap.size := bX3.lt
    have hP3 : P < w3.heap.size := bE3.lt
    have hPneV : P ≠ V.heap.size := by omega
    have hg3l : g < w3.heap.size := hBg.lt
    have hwV : w.heap.size ≤ V.heap.size := by have := unhide HPD; omega
    clear hce hWh hQX hg3 hbE3 hz hBg bX3 hQ3
    obtain ⟨y, hy⟩ : ∃ y, L[i] = y := ⟨_, rfl⟩
    rw [hy] at r0 r1 r2 r3 r4 r5 r6 hown
    have HY := hide hy
    clear hat hy
    go_wp2
    refine bodyPost_ret (results_none rfl _ _ _) rfl ?_
    exact ⟨rfl, by rw [unhide HPD]; exact (unhide HB3).alloc (by have := unhide HPD; have := (unhide HB3).size; omega) _⟩

set_option maxRecDepth 100000 in
set_option maxHeartbeats 4000000 in
theorem takes_dead (base Q frm : Nat) (costs : List Int) (L : List Rw) (e : Ent) (cv lv : Value) (w : World) (hQ : RefAt w base Q costs L cv lv) (hf : frm < costs.length) (hcost : ∀ c ∈ costs, 1 ≤ c ∧ c ≤ 15) (h0 : 0 ≤ e.met) (h1 : e.met ≤ 16) (hL : L.length ≤ 1000000)
    (i : Nat) (hi : i < L.length) (hat : ∀ z, isAt L ⟨e.addr, e.len⟩ z → z = i) (hsame : L[i].frm = frm) (hdead : 16 ≤ L[i].met) (h16 : 16 ≤ e.met + costs[frm]) :
    Calls Tryz.prog 213 #[.pointer (some ⟨Q, 0, none⟩), .int .i64 frm, .agg #[.int .u32 e.addr, .int .i64 e.len, .int .i64 e.tag, .int .i64 e.met]] w fun v w' => v = .returned (.tuple #[]) ∧ Below w.heap.size w w' := by
  have hQl := hQ.blk.lt
  obtain ⟨ao, cap, rfl⟩ := ownsRow_slice hQ.rows
  obtain ⟨ac, cc, rfl⟩ := ownsRow_slice hQ.costs
  obtain ⟨gc, rfl, c5, hgc⟩ := owned_num hQ.costs hf
  obtain ⟨k0, k1⟩ := hcost costs[frm] (List.getElem_mem _)
  have bE := Blk.new w #[.int .u32 e.addr, .int .i64 e.len, .int .i64 e.tag, .int .i64 e.met] 42
  have hb0 := below_new w (.cells #[.int .u32 e.addr, .int .i64 e.len, .int .i64 e.tag, .int .i64 e.met] 42)
  have hQ0 := hQ.below hb0
  have q0 := (hQ0.blk.cell 0).trans (show _ = some (.slice (some ⟨gc, 0, none⟩) costs.length cc) from rfl)
  have n0 := (hb0.cell (p := ⟨gc, frm, none⟩) hgc).trans c5
  have e0 := (bE.cell 0).trans (show _ = some (.int .u32 e.addr) from rfl)
  have e1 := (bE.cell 1).trans (show _ = some (.int .i64 e.len) from rfl)
  have e2 := (bE.cell 2).trans (show _ = some (.int .i64 e.tag) from rfl)
  have e3 := (bE.cell 3).trans (show _ = some (.int .i64 e.met) from rfl)
  have j0 : (0 : Int) ≤ (frm : Int) := by omega
  have j1 : (frm : Int) < (costs.length : Int) := by omega
  have hsum : IntKind.i64.wrap (e.met + costs[frm]) = e.met + costs[frm] := wrap_small _ (by omega) (by omega)
  have HQ0 := hide hQ0
  have HB0 := hide hb0
  have HE := hide bE
  have hPs : w.heap.size < (w.alloc (.cells #[.int .u32 e.addr, .int .i64 e.len, .int .i64 e.tag, .int .i64 e.met] 42)).heap.size := by simp
  generalize costs[frm] = cost at *
  clear hQ hQ0 hb0 bE c5 hcost
  go_enter Tryz.func213, Tryz.ntmps213
  go_wp2_with fail
  go_quiet (fail)
  generalize w.alloc (.cells #[.int .u32 e.addr, .int .i64 e.len, .int .i64 e.tag, .int .i64 e.met] 42) = W at *
  generalize hPd : w.heap.size = P at *
  have HPD := hide hPd
  clear hPd
  have HGV := hide (show Grows W (W.drewN nq) from (Grows.refl W).drewN nq)
  have v0 : (W.drewN nq).cell? ⟨P, 0, none⟩ = some (.int .u32 e.addr) := e0
  have v1 : (W.drewN nq).cell? ⟨P, 1, none⟩ = some (.int .i64 e.len) := e1
  have v2 : (W.drewN nq).cell? ⟨P, 2, none⟩ = some (.int .i64 e.tag) := e2
  have v3 : (W.drewN nq).cell? ⟨P, 3, none⟩ = some (.int .i64 e.met) := e3
  have hPV : P < (W.drewN nq).heap.size := hPs
  generalize W.drewN nq = V at *
  clear e0 e1 e2 e3 q0 n0 hPs
  by_cases hbig : 16 < e.met + cost
  · go_wp2_with fail
    have hgX := hide ((unhide HGV).alloc (.cells #[.int .u32 e.addr, .int .i64 e.len, .int .i64 e.tag, .int .i64 (16), .int .i64 frm, .int .i64 0, .bool true] 162))
    have hQX := (unhide HQ0).below (unhide hgX).below
    have hWh := (where_any Q ⟨e.addr, e.len⟩ ao cap L _ _ hL hQX.blk (rwSlice_ownT hQX.rows))
    simp only at hWh
    refine hWh.mono ?_
    rintro ev w3 ⟨z, rfl, hz, hg3⟩
    obtain rfl := hat z hz
    have hQ3 := hQX.below hg3.below
    have bX3 := (Blk.new V #[.int .u32 e.addr, .int .i64 e.len, .int .i64 e.tag, .int .i64 (16), .int .i64 frm, .int .i64 0, .bool true] 162).grows hg3
    have HB3 := hide ((unhide HB0).trans (((unhide hgX).below.trans (hg3.below.mono (unhide hgX).below.size)).mono (by have h1 := unhide HPD; have := (unhide HB0).size; omega)))
    have hbE3 := ((unhide HGV).alloc (.cells #[.int .u32 e.addr, .int .i64 e.len, .int .i64 e.tag, .int .i64 (16), .int .i64 frm, .int .i64 0, .bool true] 162)).trans hg3
    have bE3 := (unhide HE).grows hbE3
    have q1 := (hQ3.blk.cell 1).trans (show _ = some (.slice ao L.length cap) from rfl)
    rcases rwSlice_ownT hQ3.rows with h00 | ⟨g, off, rfl, hce⟩
    · exfalso; rw [h00] at hi; simp at hi
    have hg0 : off = 0 ∧ g ≠ Q := by
      rcases hQ3.rows.2 with ⟨hv, _⟩ | ⟨g', c', cur, hv, _, hgg, _⟩
      · simp at hv
      · simp at hv
        obtain ⟨⟨rfl, rfl⟩, rfl⟩ := hv
        refine ⟨rfl, fun e => ?_⟩
        subst e
        have h1 := hQ3.blk
        unfold Blk at h1
        rw [hgg] at h1
        simp at h1
    obtain ⟨rfl, hgQ⟩ := hg0
    obtain ⟨cur, hBg, hcs⟩ := ownsRow_blkT hQ3.rows
    have hgV : g < V.heap.size := Nat.lt_of_lt_of_le (ownsRow_lt (unhide HQ0).rows) (unhide HGV).below.size
    obtain ⟨r0, r1, r2, r3, r4, r5, r6⟩ := hce i hi
    simp only [Nat.zero_add] at r0 r1 r2 r3 r4 r5 r6
    have i0 : (0 : Int) ≤ (i : Int) := by omega
    have i1 : (i : Int) < (L.length : Int) := by omega
    have i2 : ¬ (i : Int) < 0 := by omega
    have HQ3 := hide hQ3
    have HX3 := hide bX3
    have HBG := hide hBg
    have x0 := (bX3.cell 0).trans (show _ = some (.int .u32 e.addr) from rfl)
    have x1 := (bX3.cell 1).trans (show _ = some (.int .i64 e.len) from rfl)
    have x2 := (bX3.cell 2).trans (show _ = some (.int .i64 e.tag) from rfl)
    have x3 := (bX3.cell 3).trans (show _ = some (.int .i64 (16)) from rfl)
    have x4 := (bX3.cell 4).trans (show _ = some (.int .i64 frm) from rfl)
    have x5 := (bX3.cell 5).trans (show _ = some (.int .i64 0) from rfl)
    have x6 := (bX3.cell 6).trans (show _ = some (.bool true) from rfl)
    have xf := bX3.frozen 6
    have t2 := (bE3.cell 2).trans (show _ = some (.int .i64 e.tag) from rfl)
    have hV3 : V.heap.size < w3.heap.size := bX3.lt
    have hP3 : P < w3.heap.size := bE3.lt
    have hPneV : P ≠ V.heap.size := by omega
    have hg3l : g < w3.heap.size := hBg.lt
    have hwV : w.heap.size ≤ V.heap.size := by have := unhide HPD; omega
    clear hce hWh hQX hg3 hbE3 hz hBg bX3 hQ3
    obtain ⟨y, hy⟩ : ∃ y, L[i] = y := ⟨_, rfl⟩
    rw [hy] at r0 r1 r2 r3 r4 r5 r6 hsame hdead
    have HY := hide hy
    clear hat hy
    have n1 : ¬ y.frm = -1 := by omega
    have n2 : ¬ y.met < 16 := by omega
    go_wp2
    refine bodyPost_ret (results_none rfl _ _ _) rfl ?_
    exact ⟨rfl, by rw [unhide HPD]; exact (unhide HB3).alloc (by have := unhide HPD; have := (unhide HB3).size; omega) _⟩
  · go_wp2_with fail
    have hgX := hide ((unhide HGV).alloc (.cells #[.int .u32 e.addr, .int .i64 e.len, .int .i64 e.tag, .int .i64 (e.met + cost), .int .i64 frm, .int .i64 0, .bool true] 162))
    have hQX := (unhide HQ0).below (unhide hgX).below
    have hWh := (where_any Q ⟨e.addr, e.len⟩ ao cap L _ _ hL hQX.blk (rwSlice_ownT hQX.rows))
    simp only at hWh
    refine hWh.mono ?_
    rintro ev w3 ⟨z, rfl, hz, hg3⟩
    obtain rfl := hat z hz
    have hQ3 := hQX.below hg3.below
    have bX3 := (Blk.new V #[.int .u32 e.addr, .int .i64 e.len, .int .i64 e.tag, .int .i64 (e.met + cost), .int .i64 frm, .int .i64 0, .bool true] 162).grows hg3
    have HB3 := hide ((unhide HB0).trans (((unhide hgX).below.trans (hg3.below.mono (unhide hgX).below.size)).mono (by have h1 := unhide HPD; have := (unhide HB0).size; omega)))
    have hbE3 := ((unhide HGV).alloc (.cells #[.int .u32 e.addr, .int .i64 e.len, .int .i64 e.tag, .int .i64 (e.met + cost), .int .i64 frm, .int .i64 0, .bool true] 162)).trans hg3
    have bE3 := (unhide HE).grows hbE3
    have q1 := (hQ3.blk.cell 1).trans (show _ = some (.slice ao L.length cap) from rfl)
    rcases rwSlice_ownT hQ3.rows with h00 | ⟨g, off, rfl, hce⟩
    · exfalso; rw [h00] at hi; simp at hi
    have hg0 : off = 0 ∧ g ≠ Q := by
      rcases hQ3.rows.2 with ⟨hv, _⟩ | ⟨g', c', cur, hv, _, hgg, _⟩
      · simp at hv
      · simp at hv
        obtain ⟨⟨rfl, rfl⟩, rfl⟩ := hv
        refine ⟨rfl, fun e => ?_⟩
        subst e
        have h1 := hQ3.blk
        unfold Blk at h1
        rw [hgg] at h1
        simp at h1
    obtain ⟨rfl, hgQ⟩ := hg0
    obtain ⟨cur, hBg, hcs⟩ := ownsRow_blkT hQ3.rows
    have hgV : g < V.heap.size := Nat.lt_of_lt_of_le (ownsRow_lt (unhide HQ0).rows) (unhide HGV).below.size
    obtain ⟨r0, r1, r2, r3, r4, r5, r6⟩ := hce i hi
    simp only [Nat.zero_add] at r0 r1 r2 r3 r4 r5 r6
    have i0 : (0 : Int) ≤ (i : Int) := by omega
    have i1 : (i : Int) < (L.length : Int) := by omega
    have i2 : ¬ (i : Int) < 0 := by omega
    have HQ3 := hide hQ3
    have HX3 := hide bX3
    have HBG := hide hBg
    have x0 := (bX3.cell 0).trans (show _ = some (.int .u32 e.addr) from rfl)
    have x1 := (bX3.cell 1).trans (show _ = some (.int .i64 e.len) from rfl)
    have x2 := (bX3.cell 2).trans (show _ = some (.int .i64 e.tag) from rfl)
    have x3 := (bX3.cell 3).trans (show _ = some (.int .i64 (e.met + cost)) from rfl)
    have x4 := (bX3.cell 4).trans (show _ = some (.int .i64 frm) from rfl)
    have x5 := (bX3.cell 5).trans (show _ = some (.int .i64 0) from rfl)
    have x6 := (bX3.cell 6).trans (show _ = some (.bool true) from rfl)
    have xf := bX3.frozen 6
    have t2 := (bE3.cell 2).trans (show _ = some (.int .i64 e.tag) from rfl)
    have hV3 : V.heap.size < w3.heap.size := bX3.lt
    have hP3 : P < w3.heap.size := bE3.lt
    have hPneV : P ≠ V.heap.size := by omega
    have hg3l : g < w3.heap.size := hBg.lt
    have hwV : w.heap.size ≤ V.heap.size := by have := unhide HPD; omega
    clear hce hWh hQX hg3 hbE3 hz hBg bX3 hQ3
    obtain ⟨y, hy⟩ : ∃ y, L[i] = y := ⟨_, rfl⟩
    rw [hy] at r0 r1 r2 r3 r4 r5 r6 hsame hdead
    have HY := hide hy
    clear hat hy
    have n1 : ¬ y.frm = -1 := by omega
    have n2 : ¬ y.met < 16 := by omega
    have n3 : e.met + cost = 16 := by omega
    rw [n3]
    go_wp2
    refine bodyPost_ret (results_none rfl _ _ _) rfl ?_
    exact ⟨rfl, by rw [unhide HPD]; exact (unhide HB3).alloc (by have := unhide HPD; have := (unhide HB3).size; omega) _⟩

set_option maxRecDepth 100000 in
set_option maxHeartbeats 4000000 in
theorem takes_dies (base Q frm : Nat) (costs : List Int) (L : List Rw) (e : Ent) (cv lv : Value) (w : World) (hQ : RefAt w base Q costs L cv lv) (hf : frm < costs.length) (hcost : ∀ c ∈ costs, 1 ≤ c ∧ c ≤ 15) (h0 : 0 ≤ e.met) (h1 : e.met ≤ 16) (hL : L.length ≤ 1000000)
    (i : Nat) (hi : i < L.length) (hat : ∀ z, isAt L ⟨e.addr, e.len⟩ z → z = i) (hsame : L[i].frm = frm) (hlive : L[i].met < 16) (h16 : 16 ≤ e.met + costs[frm]) :
    Calls Tryz.prog 213 #[.pointer (some ⟨Q, 0, none⟩), .int .i64 frm, .agg #[.int .u32 e.addr, .int .i64 e.len, .int .i64 e.tag, .int .i64 e.met]] w fun v w' => v = .returned (.tuple #[]) ∧ ∃ lv', RefAt w' base Q costs (L.set i { L[i] with met := 16, age := 0, chg := true }) cv lv' ∧ RefTurn w w' Q lv lv' := by
  have hQl := hQ.blk.lt
  obtain ⟨ao, cap, rfl⟩ := ownsRow_slice hQ.rows
  obtain ⟨ac, cc, rfl⟩ := ownsRow_slice hQ.costs
  obtain ⟨gc, rfl, c5, hgc⟩ := owned_num hQ.costs hf
  obtain ⟨k0, k1⟩ := hcost costs[frm] (List.getElem_mem _)
  have bE := Blk.new w #[.int .u32 e.addr, .int .i64 e.len, .int .i64 e.tag, .int .i64 e.met] 42
  have hb0 := below_new w (.cells #[.int .u32 e.addr, .int .i64 e.len, .int .i64 e.tag, .int .i64 e.met] 42)
  have hQ0 := hQ.below hb0
  have q0 := (hQ0.blk.cell 0).trans (show _ = some (.slice (some ⟨gc, 0, none⟩) costs.length cc) from rfl)
  have n0 := (hb0.cell (p := ⟨gc, frm, none⟩) hgc).trans c5
  have e0 := (bE.cell 0).trans (show _ = some (.int .u32 e.addr) from rfl)
  have e1 := (bE.cell 1).trans (show _ = some (.int .i64 e.len) from rfl)
  have e2 := (bE.cell 2).trans (show _ = some (.int .i64 e.tag) from rfl)
  have e3 := (bE.cell 3).trans (show _ = some (.int .i64 e.met) from rfl)
  have j0 : (0 : Int) ≤ (frm : Int) := by omega
  have j1 : (frm : Int) < (costs.length : Int) := by omega
  have hsum : IntKind.i64.wrap (e.met + costs[frm]) = e.met + costs[frm] := wrap_small _ (by omega) (by omega)
  have HQ0 := hide hQ0
  have HB0 := hide hb0
  have HE := hide bE
  have hPs : w.heap.size < (w.alloc (.cells #[.int .u32 e.addr, .int .i64 e.len, .int .i64 e.tag, .int .i64 e.met] 42)).heap.size := by simp
  generalize costs[frm] = cost at *
  clear hQ hQ0 hb0 bE c5 hcost
  go_enter Tryz.func213, Tryz.ntmps213
  go_wp2_with fail
  go_quiet (fail)
  generalize w.alloc (.cells #[.int .u32 e.addr, .int .i64 e.len, .int .i64 e.tag, .int .i64 e.met] 42) = W at *
  generalize hPd : w.heap.size = P at *
  have HPD := hide hPd
  clear hPd
  have HGV := hide (show Grows W (W.drewN nq) from (Grows.refl W).drewN nq)
  have v0 : (W.drewN nq).cell? ⟨P, 0, none⟩ = some (.int .u32 e.addr) := e0
  have v1 : (W.drewN nq).cell? ⟨P, 1, none⟩ = some (.int .i64 e.len) := e1
  have v2 : (W.drewN nq).cell? ⟨P, 2, none⟩ = some (.int .i64 e.tag) := e2
  have v3 : (W.drewN nq).cell? ⟨P, 3, none⟩ = some (.int .i64 e.met) := e3
  have hPV : P < (W.drewN nq).heap.size := hPs
  generalize W.drewN nq = V at *
  clear e0 e1 e2 e3 q0 n0 hPs
  by_cases hbig : 16 < e.met + cost
  · go_wp2_with fail
    have hgX := hide ((unhide HGV).alloc (.cells #[.int .u32 e.addr, .int .i64 e.len, .int .i64 e.tag, .int .i64 (16), .int .i64 frm, .int .i64 0, .bool true] 162))
    have hQX := (unhide HQ0).below (unhide hgX).below
    have hWh := (where_any Q ⟨e.addr, e.len⟩ ao cap L _ _ hL hQX.blk (rwSlice_ownT hQX.rows))
    simp only at hWh
    refine hWh.mono ?_
    rintro ev w3 ⟨z, rfl, hz, hg3⟩
    obtain rfl := hat z hz
    have hQ3 := hQX.below hg3.below
    have bX3 := (Blk.new V #[.int .u32 e.addr, .int .i64 e.len, .int .i64 e.tag, .int .i64 (16), .int .i64 frm, .int .i64 0, .bool true] 162).grows hg3
    have HB3 := hide ((unhide HB0).trans (((unhide hgX).below.trans (hg3.below.mono (unhide hgX).below.size)).mono (by have h1 := unhide HPD; have := (unhide HB0).size; omega)))
    have hbE3 := ((unhide HGV).alloc (.cells #[.int .u32 e.addr, .int .i64 e.len, .int .i64 e.tag, .int .i64 (16), .int .i64 frm, .int .i64 0, .bool true] 162)).trans hg3
    have bE3 := (unhide HE).grows hbE3
    have q1 := (hQ3.blk.cell 1).trans (show _ = some (.slice ao L.length cap) from rfl)
    rcases rwSlice_ownT hQ3.rows with h00 | ⟨g, off, rfl, hce⟩
    · exfalso; rw [h00] at hi; simp at hi
    have hg0 : off = 0 ∧ g ≠ Q := by
      rcases hQ3.rows.2 with ⟨hv, _⟩ | ⟨g', c', cur, hv, _, hgg, _⟩
      · simp at hv
      · simp at hv
        obtain ⟨⟨rfl, rfl⟩, rfl⟩ := hv
        refine ⟨rfl, fun e => ?_⟩
        subst e
        have h1 := hQ3.blk
        unfold Blk at h1
        rw [hgg] at h1
        simp at h1
    obtain ⟨rfl, hgQ⟩ := hg0
    obtain ⟨cur, hBg, hcs⟩ := ownsRow_blkT hQ3.rows
    have hgV : g < V.heap.size := Nat.lt_of_lt_of_le (ownsRow_lt (unhide HQ0).rows) (unhide HGV).below.size
    obtain ⟨r0, r1, r2, r3, r4, r5, r6⟩ := hce i hi
    simp only [Nat.zero_add] at r0 r1 r2 r3 r4 r5 r6
    have i0 : (0 : Int) ≤ (i : Int) := by omega
    have i1 : (i : Int) < (L.length : Int) := by omega
    have i2 : ¬ (i : Int) < 0 := by omega
    have HQ3 := hide hQ3
    have HX3 := hide bX3
    have HBG := hide hBg
    have x0 := (bX3.cell 0).trans (show _ = some (.int .u32 e.addr) from rfl)
    have x1 := (bX3.cell 1).trans (show _ = some (.int .i64 e.len) from rfl)
    have x2 := (bX3.cell 2).trans (show _ = some (.int .i64 e.tag) from rfl)
    have x3 := (bX3.cell 3).trans (show _ = some (.int .i64 (16)) from rfl)
    have x4 := (bX3.cell 4).trans (show _ = some (.int .i64 frm) from rfl)
    have x5 := (bX3.cell 5).trans (show _ = some (.int .i64 0) from rfl)
    have x6 := (bX3.cell 6).trans (show _ = some (.bool true) from rfl)
    have xf := bX3.frozen 6
    have t2 := (bE3.cell 2).trans (show _ = some (.int .i64 e.tag) from rfl)
    have hV3 : V.heap.size < w3.heap.size := bX3.lt
    have hP3 : P < w3.heap.size := bE3.lt
    have hPneV : P ≠ V.heap.size := by omega
    have hg3l : g < w3.heap.size := hBg.lt
    have hwV : w.heap.size ≤ V.heap.size := by have := unhide HPD; omega
    clear hce hWh hQX hg3 hbE3 hz hBg bX3 hQ3
    obtain ⟨y, hy⟩ : ∃ y, L[i] = y := ⟨_, rfl⟩
    rw [hy] at r0 r1 r2 r3 r4 r5 r6 hsame hlive
    have HY := hide hy
    clear hat hy
    have n1 : ¬ y.frm = -1 := by omega
    have hD := dies_ref base Q i costs L _ _ (w3.alloc (.cells #[.int .u32 y.addr, .int .i64 y.len, .int .i64 y.tag, .int .i64 y.met, .int .i64 frm, .int .i64 y.age, .bool y.chg] 162)) ((unhide HQ3).below (below_new w3 _)) hi
    have HB4 := hide ((unhide HB3).alloc (by have := unhide HPD; have := (unhide HB3).size; omega) (.cells #[.int .u32 y.addr, .int .i64 y.len, .int .i64 y.tag, .int .i64 y.met, .int .i64 frm, .int .i64 y.age, .bool y.chg] 162))
    rw [unhide HY] at hD
    go_wp2_with (go_at_call 164; go_loud (refine hD.mono ?_); rintro ev w5 ⟨rfl, hQ5, ht5⟩)
    refine bodyPost_ret (results_none rfl _ _ _) rfl ?_
    rw [unhide HY]
    exact ⟨rfl, _, hQ5, (RefTurn.of_below Q _ (by rw [unhide HPD]; exact unhide HB4)).trans ht5⟩
  · go_wp2_with fail
    have hgX := hide ((unhide HGV).alloc (.cells #[.int .u32 e.addr, .int .i64 e.len, .int .i64 e.tag, .int .i64 (e.met + cost), .int .i64 frm, .int .i64 0, .bool true] 162))
    have hQX := (unhide HQ0).below (unhide hgX).below
    have hWh := (where_any Q ⟨e.addr, e.len⟩ ao cap L _ _ hL hQX.blk (rwSlice_ownT hQX.rows))
    simp only at hWh
    refine hWh.mono ?_
    rintro ev w3 ⟨z, rfl, hz, hg3⟩
    obtain rfl := hat z hz
    have hQ3 := hQX.below hg3.below
    have bX3 := (Blk.new V #[.int .u32 e.addr, .int .i64 e.len, .int .i64 e.tag, .int .i64 (e.met + cost), .int .i64 frm, .int .i64 0, .bool true] 162).grows hg3
    have HB3 := hide ((unhide HB0).trans (((unhide hgX).below.trans (hg3.below.mono (unhide hgX).below.size)).mono (by have h1 := unhide HPD; have := (unhide HB0).size; omega)))
    have hbE3 := ((unhide HGV).alloc (.cells #[.int .u32 e.addr, .int .i64 e.len, .int .i64 e.tag, .int .i64 (e.met + cost), .int .i64 frm, .int .i64 0, .bool true] 162)).trans hg3
    have bE3 := (unhide HE).grows hbE3
    have q1 := (hQ3.blk.cell 1).trans (show _ = some (.slice ao L.length cap) from rfl)
    rcases rwSlice_ownT hQ3.rows with h00 | ⟨g, off, rfl, hce⟩
    · exfalso; rw [h00] at hi; simp at hi
    have hg0 : off = 0 ∧ g ≠ Q := by
      rcases hQ3.rows.2 with ⟨hv, _⟩ | ⟨g', c', cur, hv, _, hgg, _⟩
      · simp at hv
      · simp at hv
        obtain ⟨⟨rfl, rfl⟩, rfl⟩ := hv
        refine ⟨rfl, fun e => ?_⟩
        subst e
        have h1 := hQ3.blk
        unfold Blk at h1
        rw [hgg] at h1
        simp at h1
    obtain ⟨rfl, hgQ⟩ := hg0
    obtain ⟨cur, hBg, hcs⟩ := ownsRow_blkT hQ3.rows
    have hgV : g < V.heap.size := Nat.lt_of_lt_of_le (ownsRow_lt (unhide HQ0).rows) (unhide HGV).below.size
    obtain ⟨r0, r1, r2, r3, r4, r5, r6⟩ := hce i hi
    simp only [Nat.zero_add] at r0 r1 r2 r3 r4 r5 r6
    have i0 : (0 : Int) ≤ (i : Int) := by omega
    have i1 : (i : Int) < (L.length : Int) := by omega
    have i2 : ¬ (i : Int) < 0 := by omega
    have HQ3 := hide hQ3
    have HX3 := hide bX3
    have HBG := hide hBg
    have x0 := (bX3.cell 0).trans (show _ = some (.int .u32 e.addr) from rfl)
    have x1 := (bX3.cell 1).trans (show _ = some (.int .i64 e.len) from rfl)
    have x2 := (bX3.cell 2).trans (show _ = some (.int .i64 e.tag) from rfl)
    have x3 := (bX3.cell 3).trans (show _ = some (.int .i64 (e.met + cost)) from rfl)
    have x4 := (bX3.cell 4).trans (show _ = some (.int .i64 frm) from rfl)
    have x5 := (bX3.cell 5).trans (show _ = some (.int .i64 0) from rfl)
    have x6 := (bX3.cell 6).trans (show _ = some (.bool true) from rfl)
    have xf := bX3.frozen 6
    have t2 := (bE3.cell 2).trans (show _ = some (.int .i64 e.tag) from rfl)
    have hV3 : V.heap.size < w3.heap.size := bX3.lt
    have hP3 : P < w3.heap.size := bE3.lt
    have hPneV : P ≠ V.heap.size := by omega
    have hg3l : g < w3.heap.size := hBg.lt
    have hwV : w.heap.size ≤ V.heap.size := by have := unhide HPD; omega
    clear hce hWh hQX hg3 hbE3 hz hBg bX3 hQ3
    obtain ⟨y, hy⟩ : ∃ y, L[i] = y := ⟨_, rfl⟩
    rw [hy] at r0 r1 r2 r3 r4 r5 r6 hsame hlive
    have HY := hide hy
    clear hat hy
    have n1 : ¬ y.frm = -1 := by omega
    have hD := dies_ref base Q i costs L _ _ (w3.alloc (.cells #[.int .u32 y.addr, .int .i64 y.len, .int .i64 y.tag, .int .i64 y.met, .int .i64 frm, .int .i64 y.age, .bool y.chg] 162)) ((unhide HQ3).below (below_new w3 _)) hi
    have HB4 := hide ((unhide HB3).alloc (by have := unhide HPD; have := (unhide HB3).size; omega) (.cells #[.int .u32 y.addr, .int .i64 y.len, .int .i64 y.tag, .int .i64 y.met, .int .i64 frm, .int .i64 y.age, .bool y.chg] 162))
    rw [unhide HY] at hD
    have n3 : e.met + cost = 16 := by omega
    rw [n3]
    go_wp2_with (go_at_call 164; go_loud (refine hD.mono ?_); rintro ev w5 ⟨rfl, hQ5, ht5⟩)
    refine bodyPost_ret (results_none rfl _ _ _) rfl ?_
    rw [unhide HY]
    exact ⟨rfl, _, hQ5, (RefTurn.of_below Q _ (by rw [unhide HPD]; exact unhide HB4)).trans ht5⟩

end Go.Proofs.YtdnpeefnobjfaaaGreatDoor
