/- The reference's takes: more of its ways. -/
import Derived.Test.YtdnpeefnobjfaaaGreatDoorQTakesM
import Derived.Test.YtdnpeefnobjfaaaGreatDoorQTakesA
import Derived.Test.YtdnpeefnobjfaaaGreatDoorQTakesBM
import Derived.Test.YtdnpeefnobjfaaaGreatDoorQTakesD
namespace Go.Proofs.YtdnpeefnobjfaaaGreatDoor
open Go.RowKit Go.Shelf Go.Lib
attribute [local go_sem ↓] Go.wp_at_zero Go.wp_at_succ

set_option maxRecDepth 100000 in
set_option maxHeartbeats 4000000 in
theorem takes_skip1 (base Q frm : Nat) (costs : List Int) (L : List Rw) (e : Ent) (cv lv : Value) (w : World) (hQ : RefAt w base Q costs L cv lv) (hf : frm < costs.length) (hcost : ∀ c ∈ costs, 1 ≤ c ∧ c ≤ 15) (h0 : 0 ≤ e.met) (h1 : e.met ≤ 16) (hL : L.length ≤ 1000000)
    (hat : ∀ z, isAt L ⟨e.addr, e.len⟩ z → z = -1) (h16 : 16 ≤ e.met + costs[frm]) :
    Calls Tryz.prog 213 #[.pointer (some ⟨Q, 0, none⟩), .int .i64 frm, .agg #[.int .u32 e.addr, .int .i64 e.len, .int .i64 e.tag, .int .i64 e.met]] w fun v w' => v = .returned (.tuple #[]) ∧ Below w.heap.size w w' := by
  have hQl := hQ.blk.lt
  obtain ⟨ao, cap, rfl⟩ := ownsRow_slice hQ.rows
  obtain ⟨ac, cc, rfl⟩ := ownsRow_slice hQ.costs
  obtain ⟨gc, rfl, c5, hgc⟩ := owned_num hQ.costs hf
  obtain ⟨k0, k1⟩ := hcost costs[frm] (List.getElem_mem _)
  have bE := Blk.new w #[.int .u32 e.addr, .int .i64 e.len, .int .i64 e.tag, .int .i64 e.met] 42
  have hb0 := below_new w (.cells #[.int .u32 e.addr, .int .i64 e.len, .int .i64 e.tag, .int .i64 e.met] 42)
  have hQ0 := hQ.below hb0
  have q0 := (hQ0.blk.cell 0).trans (show _ = some (.slice (some ⟨gc, 0, none⟩) costs.length cc) from rfl)
  have n0 := (hb0.cell (p := ⟨gc, frm, none⟩) hgc).trans c5
  have e0 := (bE.cell 0).trans (show _ = some (.int .u32 e.addr) from rfl)
  have e1 := (bE.cell 1).trans (show _ = some (.int .i64 e.len) from rfl)
  have e2 := (bE.cell 2).trans (show _ = some (.int .i64 e.tag) from rfl)
  have e3 := (bE.cell 3).trans (show _ = some (.int .i64 e.met) from rfl)
  have j0 : (0 : Int) ≤ (frm : Int) := by omega
  have j1 : (frm : Int) < (costs.length : Int) := by omega
  have hsum : IntKind.i64.wrap (e.met + costs[frm]) = e.met + costs[frm] := wrap_small _ (by omega) (by omega)
  have HQ0 := hide hQ0
  have HB0 := hide hb0
  have HE := hide bE
  have hPs : w.heap.size < (w.alloc (.cells #[.int .u32 e.addr, .int .i64 e.len, .int .i64 e.tag, .int .i64 e.met] 42)).heap.size := by simp
  generalize costs[frm] = cost at *
  clear hQ hQ0 hb0 bE c5 hcost
  go_enter Tryz.func213, Tryz.ntmps213
  go_wp2_with fail
  go_quiet (fail)
  generalize w.alloc (.cells #[.int .u32 e.addr, .int .i64 e.len, .int .i64 e.tag, .int .i64 e.met] 42) = W at *
  generalize hPd : w.heap.size = P at *
  have HPD := hide hPd
  clear hPd
  have HGV := hide (show Grows W (W.drewN nq) from (Grows.refl W).drewN nq)
  have v0 : (W.drewN nq).cell? ⟨P, 0, none⟩ = some (.int .u32 e.addr) := e0
  have v1 : (W.drewN nq).cell? ⟨P, 1, none⟩ = some (.int .i64 e.len) := e1
  have v2 : (W.drewN nq).cell? ⟨P, 2, none⟩ = some (.int .i64 e.tag) := e2
  have v3 : (W.drewN nq).cell? ⟨P, 3, none⟩ = some (.int .i64 e.met) := e3
  have hPV : P < (W.drewN nq).heap.size := hPs
  generalize W.drewN nq = V at *
  clear e0 e1 e2 e3 q0 n0 hPs
  by_cases hbig : 16 < e.met + cost
  · go_wp2_with fail
    have hgX := hide ((unhide HGV).alloc (.cells #[.int .u32 e.addr, .int .i64 e.len, .int .i64 e.tag, .int .i64 (16), .int .i64 frm, .int .i64 0, .bool true] 162))
    have hQX := (unhide HQ0).below (unhide hgX).below
    have hWh := (where_any Q ⟨e.addr, e.len⟩ ao cap L _ _ hL hQX.blk (rwSlice_ownT hQX.rows))
    simp only at hWh
    refine hWh.mono ?_
    rintro ev w3 ⟨z, rfl, hz, hg3⟩
    obtain rfl := hat z hz
    have hQ3 := hQX.below hg3.below
    have bX3 := (Blk.new V #[.int .u32 e.addr, .int .i64 e.len, .int .i64 e.tag, .int .i64 (16), .int .i64 frm, .int .i64 0, .bool true] 162).grows hg3
    have HB3 := hide ((unhide HB0).trans (((unhide hgX).below.trans (hg3.below.mono (unhide hgX).below.size)).mono (by have h1 := unhide HPD; have := (unhide HB0).size; omega)))
    have hbE3 := ((unhide HGV).alloc (.cells #[.int .u32 e.addr, .int .i64 e.len, .int .i64 e.tag, .int .i64 (16), .int .i64 frm, .int .i64 0, .bool true] 162)).trans hg3
    have bE3 := (unhide HE).grows hbE3
    have q1 := (hQ3.blk.cell 1).trans (show _ = some (.slice ao L.length cap) from rfl)
    have q1' := q1
    clear hWh hQX hg3 hbE3 hz hat
    go_wp2
    refine bodyPost_ret (results_none rfl _ _ _) rfl ?_
    exact ⟨rfl, by rw [unhide HPD]; exact unhide HB3⟩
  · go_wp2_with fail
    have hgX := hide ((unhide HGV).alloc (.cells #[.int .u32 e.addr, .int .i64 e.len, .int .i64 e.tag, .int .i64 (e.met + cost), .int .i64 frm, .int .i64 0, .bool true] 162))
    have hQX := (unhide HQ0).below (unhide hgX).below
    have hWh := (where_any Q ⟨e.addr, e.len⟩ ao cap L _ _ hL hQX.blk (rwSlice_ownT hQX.rows))
    simp only at hWh
    refine hWh.mono ?_
    rintro ev w3 ⟨z, rfl, hz, hg3⟩
    obtain rfl := hat z hz
    have hQ3 := hQX.below hg3.below
    have bX3 := (Blk.new V #[.int .u32 e.addr, .int .i64 e.len, .int .i64 e.tag, .int .i64 (e.met + cost), .int .i64 frm, .int .i64 0, .bool true] 162).grows hg3
    have HB3 := hide ((unhide HB0).trans (((unhide hgX).below.trans (hg3.below.mono (unhide hgX).below.size)).mono (by have h1 := unhide HPD; have := (unhide HB0).size; omega)))
    have hbE3 := ((unhide HGV).alloc (.cells #[.int .u32 e.addr, .int .i64 e.len, .int .i64 e.tag, .int .i64 (e.met + cost), .int .i64 frm, .int .i64 0, .bool true] 162)).trans hg3
    have bE3 := (unhide HE).grows hbE3
    have q1 := (hQ3.blk.cell 1).trans (show _ = some (.slice ao L.length cap) from rfl)
    have q1' := q1
    clear hWh hQX hg3 hbE3 hz hat
    have n3 : ¬ e.met + cost < 16 := by omega
    go_wp2
    refine bodyPost_ret (results_none rfl _ _ _) rfl ?_
    exact ⟨rfl, by rw [unhide HPD]; exact unhide HB3⟩

set_option maxRecDepth 100000 in
set_option maxHeartbeats 4000000 in
theorem takes_skip2 (base Q frm : Nat) (costs : List Int) (L : List Rw) (e : Ent) (cv lv : Value) (w : World) (hQ : RefAt w base Q costs L cv lv) (hf : frm < costs.length) (hcost : ∀ c ∈ costs, 1 ≤ c ∧ c ≤ 15) (h0 : 0 ≤ e.met) (h1 : e.met ≤ 16) (hL : L.length ≤ 1000000)
    (hat : ∀ z, isAt L ⟨e.addr, e.len⟩ z → z = -1) (h16 : e.met + costs[frm] < 16) (h60 : 60 ≤ L.length) :
    Calls Tryz.prog 213 #[.pointer (some ⟨Q, 0, none⟩), .int .i64 frm, .agg #[.int .u32 e.addr, .int .i64 e.len, .int .i64 e.tag, .int .i64 e.met]] w fun v w' => v = .returned (.tuple #[]) ∧ Below w.heap.size w w' := by
  have hQl := hQ.blk.lt
  obtain ⟨ao, cap, rfl⟩ := ownsRow_slice hQ.rows
  obtain ⟨ac, cc, rfl⟩ := ownsRow_slice hQ.costs
  obtain ⟨gc, rfl, c5, hgc⟩ := owned_num hQ.costs hf
  obtain ⟨k0, k1⟩ := hcost costs[frm] (List.getElem_mem _)
  have bE := Blk.new w #[.int .u32 e.addr, .int .i64 e.len, .int .i64 e.tag, .int .i64 e.met] 42
  have hb0 := below_new w (.cells #[.int .u32 e.addr, .int .i64 e.len, .int .i64 e.tag, .int .i64 e.met] 42)
  have hQ0 := hQ.below hb0
  have q0 := (hQ0.blk.cell 0).trans (show _ = some (.slice (some ⟨gc, 0, none⟩) costs.length cc) from rfl)
  have n0 := (hb0.cell (p := ⟨gc, frm, none⟩) hgc).trans c5
  have e0 := (bE.cell 0).trans (show _ = some (.int .u32 e.addr) from rfl)
  have e1 := (bE.cell 1).trans (show _ = some (.int .i64 e.len) from rfl)
  have e2 := (bE.cell 2).trans (show _ = some (.int .i64 e.tag) from rfl)
  have e3 := (bE.cell 3).trans (show _ = some (.int .i64 e.met) from rfl)
  have j0 : (0 : Int) ≤ (frm : Int) := by omega
  have j1 : (frm : Int) < (costs.length : Int) := by omega
  have hsum : IntKind.i64.wrap (e.met + costs[frm]) = e.met + costs[frm] := wrap_small _ (by omega) (by omega)
  have HQ0 := hide hQ0
  have HB0 := hide hb0
  have HE := hide bE
  have hPs : w.heap.size < (w.alloc (.cells #[.int .u32 e.addr, .int .i64 e.len, .int .i64 e.tag, .int .i64 e.met] 42)).heap.size := by simp
  generalize costs[frm] = cost at *
  clear hQ hQ0 hb0 bE c5 hcost
  go_enter Tryz.func213, Tryz.ntmps213
  go_wp2_with fail
  go_quiet (fail)
  generalize w.alloc (.cells #[.int .u32 e.addr, .int .i64 e.len, .int .i64 e.tag, .int .i64 e.met] 42) = W at *
  generalize hPd : w.heap.size = P at *
  have HPD := hide hPd
  clear hPd
  have HGV := hide (show Grows W (W.drewN nq) from (Grows.refl W).drewN nq)
  have v0 : (W.drewN nq).cell? ⟨P, 0, none⟩ = some (.int .u32 e.addr) := e0
  have v1 : (W.drewN nq).cell? ⟨P, 1, none⟩ = some (.int .i64 e.len) := e1
  have v2 : (W.drewN nq).cell? ⟨P, 2, none⟩ = some (.int .i64 e.tag) := e2
  have v3 : (W.drewN nq).cell? ⟨P, 3, none⟩ = some (.int .i64 e.met) := e3
  have hPV : P < (W.drewN nq).heap.size := hPs
  generalize W.drewN nq = V at *
  clear e0 e1 e2 e3 q0 n0 hPs
  by_cases hbig : 16 < e.met + cost
  · exfalso; omega
  · go_wp2_with fail
    have hgX := hide ((unhide HGV).alloc (.cells #[.int .u32 e.addr, .int .i64 e.len, .int .i64 e.tag, .int .i64 (e.met + cost), .int .i64 frm, .int .i64 0, .bool true] 162))
    have hQX := (unhide HQ0).below (unhide hgX).below
    have hWh := (where_any Q ⟨e.addr, e.len⟩ ao cap L _ _ hL hQX.blk (rwSlice_ownT hQX.rows))
    simp only at hWh
    refine hWh.mono ?_
    rintro ev w3 ⟨z, rfl, hz, hg3⟩
    obtain rfl := hat z hz
    have hQ3 := hQX.below hg3.below
    have bX3 := (Blk.new V #[.int .u32 e.addr, .int .i64 e.len, .int .i64 e.tag, .int .i64 (e.met + cost), .int .i64 frm, .int .i64 0, .bool true] 162).grows hg3
    have HB3 := hide ((unhide HB0).trans (((unhide hgX).below.trans (hg3.below.mono (unhide hgX).below.size)).mono (by have h1 := unhide HPD; have := (unhide HB0).size; omega)))
    have hbE3 := ((unhide HGV).alloc (.cells #[.int .u32 e.addr, .int .i64 e.len, .int .i64 e.tag, .int .i64 (e.met + cost), .int .i64 frm, .int .i64 0, .bool true] 162)).trans hg3
    have bE3 := (unhide HE).grows hbE3
    have q1 := (hQ3.blk.cell 1).trans (show _ = some (.slice ao L.length cap) from rfl)
    have q1' := q1
    clear hWh hQX hg3 hbE3 hz hat
    have n3 : e.met + cost < 16 := by omega
    have n4 : ¬ (L.length : Int) < 60 := by omega
    go_wp2
    refine bodyPost_ret (results_none rfl _ _ _) rfl ?_
    exact ⟨rfl, by rw [unhide HPD]; exact unhide HB3⟩

set_option maxRecDepth 100000 in
set_option maxHeartbeats 4000000 in
theorem takes_new (base Q frm : Nat) (costs : List Int) (L : List Rw) (e : Ent) (cv lv : Value) (w : World) (hQ : RefAt w base Q costs L cv lv) (hf : frm < costs.length) (hcost : ∀ c ∈ costs, 1 ≤ c ∧ c ≤ 15) (h0 : 0 ≤ e.met) (h1 : e.met ≤ 16) (hL : L.length ≤ 1000000)
    (hat : ∀ z, isAt L ⟨e.addr, e.len⟩ z → z = -1) (h16 : e.met + costs[frm] < 16) (h60 : L.length < 60) :
    Calls Tryz.prog 213 #[.pointer (some ⟨Q, 0, none⟩), .int .i64 frm, .agg #[.int .u32 e.addr, .int .i64 e.len, .int .i64 e.tag, .int .i64 e.met]] w fun v w' => v = .returned (.tuple #[]) ∧ ∃ lv', RefAt w' base Q costs (insL L ⟨e.addr, e.len, e.tag, min (e.met + costs[frm]) 16, frm, 0, true⟩) cv lv' ∧ RefTurn w w' Q lv lv' := by
  have hQl := hQ.blk.lt
  obtain ⟨ao, cap, rfl⟩ := ownsRow_slice hQ.rows
  obtain ⟨ac, cc, rfl⟩ := ownsRow_slice hQ.costs
  obtain ⟨gc, rfl, c5, hgc⟩ := owned_num hQ.costs hf
  obtain ⟨k0, k1⟩ := hcost costs[frm] (List.getElem_mem _)
  have bE := Blk.new w #[.int .u32 e.addr, .int .i64 e.len, .int .i64 e.tag, .int .i64 e.met] 42
  have hb0 := below_new w (.cells #[.int .u32 e.addr, .int .i64 e.len, .int .i64 e.tag, .int .i64 e.met] 42)
  have hQ0 := hQ.below hb0
  have q0 := (hQ0.blk.cell 0).trans (show _ = some (.slice (some ⟨gc, 0, none⟩) costs.length cc) from rfl)
  have n0 := (hb0.cell (p := ⟨gc, frm, none⟩) hgc).trans c5
  have e0 := (bE.cell 0).trans (show _ = some (.int .u32 e.addr) from rfl)
  have e1 := (bE.cell 1).trans (show _ = some (.int .i64 e.len) from rfl)
  have e2 := (bE.cell 2).trans (show _ = some (.int .i64 e.tag) from rfl)
  have e3 := (bE.cell 3).trans (show _ = some (.int .i64 e.met) from rfl)
  have j0 : (0 : Int) ≤ (frm : Int) := by omega
  have j1 : (frm : Int) < (costs.length : Int) := by omega
  have hsum : IntKind.i64.wrap (e.met + costs[frm]) = e.met + costs[frm] := wrap_small _ (by omega) (by omega)
  have HQ0 := hide hQ0
  have HB0 := hide hb0
  have HE := hide bE
  have hPs : w.heap.size < (w.alloc (.cells #[.int .u32 e.addr, .int .i64 e.len, .int .i64 e.tag, .int .i64 e.met] 42)).heap.size := by simp
  generalize costs[frm] = cost at *
  clear hQ hQ0 hb0 bE c5 hcost
  go_enter Tryz.func213, Tryz.ntmps213
  go_wp2_with fail
  go_quiet (fail)
  generalize w.alloc (.cells #[.int .u32 e.addr, .int .i64 e.len, .int .i64 e.tag, .int .i64 e.met] 42) = W at *
  generalize hPd : w.heap.size = P at *
  have HPD := hide hPd
  clear hPd
  have HGV := hide (show Grows W (W.drewN nq) from (Grows.refl W).drewN nq)
  have v0 : (W.drewN nq).cell? ⟨P, 0, none⟩ = some (.int .u32 e.addr) := e0
  have v1 : (W.drewN nq).cell? ⟨P, 1, none⟩ = some (.int .i64 e.len) := e1
  have v2 : (W.drewN nq).cell? ⟨P, 2, none⟩ = some (.int .i64 e.tag) := e2
  have v3 : (W.drewN nq).cell? ⟨P, 3, none⟩ = some (.int .i64 e.met) := e3
  have hPV : P < (W.drewN nq).heap.size := hPs
  generalize W.drewN nq = V at *
  clear e0 e1 e2 e3 q0 n0 hPs
  by_cases hbig : 16 < e.met + cost
  · exfalso; omega
  · go_wp2_with fail
    have hgX := hide ((unhide HGV).alloc (.cells #[.int .u32 e.addr, .int .i64 e.len, .int .i64 e.tag, .int .i64 (e.met + cost), .int .i64 frm, .int .i64 0, .bool true] 162))
    have hQX := (unhide HQ0).below (unhide hgX).below
    have hWh := (where_any Q ⟨e.addr, e.len⟩ ao cap L _ _ hL hQX.blk (rwSlice_ownT hQX.rows))
    simp only at hWh
    refine hWh.mono ?_
    rintro ev w3 ⟨z, rfl, hz, hg3⟩
    obtain rfl := hat z hz
    have hQ3 := hQX.below hg3.below
    have bX3 := (Blk.new V #[.int .u32 e.addr, .int .i64 e.len, .int .i64 e.tag, .int .i64 (e.met + cost), .int .i64 frm, .int .i64 0, .bool true] 162).grows hg3
    have HB3 := hide ((unhide HB0).trans (((unhide hgX).below.trans (hg3.below.mono (unhide hgX).below.size)).mono (by have h1 := unhide HPD; have := (unhide HB0).size; omega)))
    have hbE3 := ((unhide HGV).alloc (.cells #[.int .u32 e.addr, .int .i64 e.len, .int .i64 e.tag, .int .i64 (e.met + cost), .int .i64 frm, .int .i64 0, .bool true] 162)).trans hg3
    have bE3 := (unhide HE).grows hbE3
    have q1 := (hQ3.blk.cell 1).trans (show _ = some (.slice ao L.length cap) from rfl)
    have x0 := (bX3.cell 0).trans (show _ = some (.int .u32 e.addr) from rfl)
    have x1 := (bX3.cell 1).trans (show _ = some (.int .i64 e.len) from rfl)
    have x2 := (bX3.cell 2).trans (show _ = some (.int .i64 e.tag) from rfl)
    have x3 := (bX3.cell 3).trans (show _ = some (.int .i64 (e.met + cost)) from rfl)
    have x4 := (bX3.cell 4).trans (show _ = some (.int .i64 frm) from rfl)
    have x5 := (bX3.cell 5).trans (show _ = some (.int .i64 0) from rfl)
    have x6 := (bX3.cell 6).trans (show _ = some (.bool true) from rfl)
    have n3 : e.met + cost < 16 := by omega
    have n4 : (L.length : Int) < 60 := by omega
    have HMIN := hide (show min (e.met + cost) 16 = e.met + cost by omega)
    have hI := insert_ref base Q costs L ⟨e.addr, e.len, e.tag, e.met + cost, frm, 0, true⟩ _ _ w3 hQ3 hL
    simp only at hI
    clear hWh hQX hg3 hbE3 hz hat hQ3 bX3 bE3
    go_wp2_with (go_at_call 112; refine hI.mono ?_; rintro ev w5 ⟨rfl, lv', hQ5, hg5, ho5⟩)
    refine bodyPost_ret (results_none rfl _ _ _) rfl ?_
    rw [unhide HMIN]
    refine ⟨rfl, lv', hQ5, (RefTurn.of_below Q _ (by rw [unhide HPD]; exact unhide HB3)).trans (RefTurn.of_new hg5 (fun k hk => (ownsRow_from ho5 k hk).1))⟩

end Go.Proofs.YtdnpeefnobjfaaaGreatDoor

/- The reference's takes, whole: its rows behind it are the table's. -/
namespace Go.Proofs.YtdnpeefnobjfaaaGreatDoor
open Go.RowKit Go.Shelf

theorem insAt_ix {L : List Rw} {p : Pf} (h : ∀ r ∈ L, rwPf r ≠ p) : insAt L p = ixOf L p := by
  unfold insAt ixOf
  induction L with
  | nil => rfl
  | cons r R ih =>
    have hr := h r (by simp)
    have e : (!(aheadB p r)) = decide (r.addr < p.addr ∨ r.addr = p.addr ∧ r.len < p.len) := by
      have hne : ¬ (r.addr = p.addr ∧ r.len = p.len) := fun hh => hr ((Pf.beq_iff _ _).2 hh)
      rw [Bool.eq_iff_iff]
      simp [aheadB]
      omega
    simp only [List.takeWhile_cons, e]
    split
    · simp only [List.length_cons]
      rw [ih (fun x hx => h x (by simp [hx]))]
    · rfl
theorem isAt_one {L : List Rw} (hso : rwSorted L) {p : Pf} {i : Nat} (hi : i < L.length) (h : rwPf L[i] = p) : ∀ z, isAt L p z → z = i := by
  rintro z (⟨_, hno⟩ | ⟨j, hj, rfl, hp⟩)
  · exact absurd h (hno _ (List.getElem_mem _))
  · rcases Nat.lt_trichotomy i j with hlt | rfl | hlt
    · have := rwSorted_lt hso hi hj hlt
      rw [h, hp] at this
      exact absurd this (pfLt_irrefl _)
    · rfl
    · have := rwSorted_lt hso hj hi hlt
      rw [h, hp] at this
      exact absurd this (pfLt_irrefl _)
theorem isAt_none {L : List Rw} {p : Pf} (h : ∀ r ∈ L, rwPf r ≠ p) : ∀ z, isAt L p z → z = -1 := by
  rintro z (⟨hz, _⟩ | ⟨j, hj, rfl, hp⟩)
  · exact hz
  · exact absurd hp (h _ (List.getElem_mem _))
theorem place_at {L : List Rw} (hso : rwSorted L) {p : Pf} {i : Nat} (hi : i < L.length) (h : rwPf L[i] = p) : placeOf L p i := by
  refine ⟨by omega, fun j hj hji => ?_, fun j hj hij => ?_⟩
  · rw [← h]; exact rwSorted_lt hso hj hi hji
  · rw [← h]
    by_cases e : i = j
    · subst e; exact pfLt_irrefl _
    · exact fun hlt => pfLt_irrefl _ (pfLt_trans hlt (rwSorted_lt hso hi hj (by omega)))

theorem takes_any (base Q frm : Nat) (costs : List Int) (L : List Rw) (e : Ent) (cv lv : Value) (w : World) (hQ : RefAt w base Q costs L cv lv) (hf : frm < costs.length) (hcost : ∀ c ∈ costs, 1 ≤ c ∧ c ≤ 15) (h0 : 0 ≤ e.met) (h1 : e.met ≤ 16) (hL : L.length ≤ 1000000) (hso : rwSorted L) (h16 : ∀ r ∈ L, r.met ≤ 16) :
    Calls Tryz.prog 213 #[.pointer (some ⟨Q, 0, none⟩), .int .i64 frm, .agg #[.int .u32 e.addr, .int .i64 e.len, .int .i64 e.tag, .int .i64 e.met]] w fun v w' => v = .returned (.tuple #[]) ∧ ∃ lv', RefAt w' base Q costs (takeL L (newsRw e frm costs[frm])) cv lv' ∧ RefTurn w w' Q lv lv' := by
  have still : ∀ {v : Ending} {w' : World}, v = .returned (.tuple #[]) ∧ Below w.heap.size w w' → takeL L (newsRw e frm costs[frm]) = L → v = .returned (.tuple #[]) ∧ ∃ lv', RefAt w' base Q costs (takeL L (newsRw e frm costs[frm])) cv lv' ∧ RefTurn w w' Q lv lv' := fun h he => ⟨h.1, lv, by rw [he]; exact hQ.below h.2, RefTurn.of_below Q lv h.2⟩
  have hk := hcost costs[frm] (List.getElem_mem _)
  by_cases hex : ∃ i, ∃ h : i < L.length, rwPf L[i] = ⟨e.addr, e.len⟩
  · obtain ⟨i, hi, hp⟩ := hex
    have hat := isAt_one hso hi hp
    have hpn : rwPf L[i] = rwPf (newsRw e frm costs[frm]) := hp
    have hT := takeL_found hi (place_ix (hpn ▸ place_at hso hi rfl)) hpn
    have hm := h16 L[i] (List.getElem_mem _)
    have hnm : (newsRw e frm costs[frm]).met = min (e.met + costs[frm]) 16 := rfl
    have hpa : L[i].addr = e.addr ∧ L[i].len = e.len := (Pf.beq_iff _ _).1 hp
    by_cases hown : L[i].frm = -1
    · refine (takes_own base Q frm costs L e cv lv w hQ hf hcost h0 h1 hL i hi hat hown).mono fun v w' h => still h ?_
      rw [hT, rwHeard, if_pos hown, List.set_getElem_self]
    · by_cases hsame : L[i].frm = frm
      · have hsame' : L[i].frm = (newsRw e frm costs[frm]).frm := hsame
        by_cases hbig : 16 ≤ e.met + costs[frm]
        · have hn : (newsRw e frm costs[frm]).met = 16 := by show min _ _ = _; omega
          by_cases hd : L[i].met = 16
          · refine (takes_dead base Q frm costs L e cv lv w hQ hf hcost h0 h1 hL i hi hat hsame (by omega) hbig).mono fun v w' h => still h ?_
            rw [hT, rwHeard, if_neg hown, if_pos hsame', rwRetold, if_pos hn, rwLost, if_pos hd, List.set_getElem_self]
          · refine (takes_dies base Q frm costs L e cv lv w hQ hf hcost h0 h1 hL i hi hat hsame (by omega) hbig).mono fun v w' h => ?_
            rw [hT, rwHeard, if_neg hown, if_pos hsame', rwRetold, if_pos hn, rwLost, if_neg hd]
            exact h
        · have hn : ¬ (newsRw e frm costs[frm]).met = 16 := by show ¬ min _ _ = _; omega
          have hs : sameRoute L[i] (newsRw e frm costs[frm]) = (decide (L[i].tag = e.tag) && decide (L[i].met = e.met + costs[frm])) := by
            have hmin : min (e.met + costs[frm]) 16 = e.met + costs[frm] := by omega
            simp [sameRoute, newsRw, hpa.1, hpa.2, hsame, hmin]
          have hmin : min (e.met + costs[frm]) 16 = e.met + costs[frm] := by omega
          rw [hT, rwHeard, if_neg hown, if_pos hsame', rwRetold, if_neg hn, hs]
          by_cases hc : L[i].chg = true
          · refine (takes_again1 base Q frm costs L e cv lv w hQ hf hcost h0 h1 hL i hi hat hsame hc (by omega)).mono fun v w' h => ?_
            simpa [newsRw, hc] using h
          · have hc' : L[i].chg = false := by simpa using hc
            by_cases hmm : L[i].met = e.met + costs[frm]
            · by_cases ht : L[i].tag = e.tag
              · refine (takes_again4 base Q frm costs L e cv lv w hQ hf hcost h0 h1 hL i hi hat hsame hc' hmm ht (by omega)).mono fun v w' h => ?_
                simpa [newsRw, hc', hmm, ht] using h
              · refine (takes_again3 base Q frm costs L e cv lv w hQ hf hcost h0 h1 hL i hi hat hsame hc' hmm ht (by omega)).mono fun v w' h => ?_
                simpa [newsRw, hc', hmm, ht] using h
            · refine (takes_again2 base Q frm costs L e cv lv w hQ hf hcost h0 h1 hL i hi hat hsame hc' hmm (by omega)).mono fun v w' h => ?_
              simpa [newsRw, hc', hmm] using h
      · have hfr : ¬ L[i].frm = (newsRw e frm costs[frm]).frm := hsame
        rcases Int.lt_trichotomy (min (e.met + costs[frm]) 16) L[i].met with hlt | heq | hgt
        · refine (takes_near base Q frm costs L e cv lv w hQ hf hcost h0 h1 hL i hi hat hown hsame hlt).mono fun v w' h => ?_
          have hw : rwWorse L[i] (newsRw e frm costs[frm]) = true := by
            unfold rwWorse
            rw [hnm, if_neg (by omega)]
            exact decide_eq_true hlt
          rw [hT, rwHeard, if_neg hown, if_neg hfr, hw]
          simpa [rwFresh, newsRw] using h
        · by_cases hb : 16 ≤ e.met + costs[frm]
          · refine (takes_none base Q frm costs L e cv lv w hQ hf hcost h0 h1 hL i hi hat hown hsame (by omega) hb).mono fun v w' h => still h ?_
            have hw : rwWorse L[i] (newsRw e frm costs[frm]) = false := by
              unfold rwWorse
              rw [hnm, if_pos (by omega)]
              have : L[i].met = 16 := by omega
              simp [this]
            rw [hT, rwHeard, if_neg hown, if_neg hfr, hw]
            simp
          · have hme : L[i].met = e.met + costs[frm] := by omega
            by_cases ha : 90 ≤ L[i].age
            · refine (takes_stale base Q frm costs L e cv lv w hQ hf hcost h0 h1 hL i hi hat hown hsame hme (by omega) ha).mono fun v w' h => ?_
              have hw : rwWorse L[i] (newsRw e frm costs[frm]) = true := by
                unfold rwWorse
                rw [hnm, if_pos (by omega)]
                have : ¬ L[i].met = 16 := by omega
                simp [this, ha]
              rw [hT, rwHeard, if_neg hown, if_neg hfr, hw]
              simpa [rwFresh, newsRw] using h
            · refine (takes_young base Q frm costs L e cv lv w hQ hf hcost h0 h1 hL i hi hat hown hsame hme (by omega) (by omega)).mono fun v w' h => still h ?_
              have hw : rwWorse L[i] (newsRw e frm costs[frm]) = false := by
                unfold rwWorse
                rw [hnm, if_pos (by omega)]
                have : ¬ 90 ≤ L[i].age := ha
                simp [this]
              rw [hT, rwHeard, if_neg hown, if_neg hfr, hw]
              simp
        · refine (takes_far base Q frm costs L e cv lv w hQ hf hcost h0 h1 hL i hi hat hown hsame hgt).mono fun v w' h => still h ?_
          have hw : rwWorse L[i] (newsRw e frm costs[frm]) = false := by
            unfold rwWorse
            rw [hnm, if_neg (by omega)]
            have : ¬ min (e.met + costs[frm]) 16 < L[i].met := by omega
            exact decide_eq_false this
          rw [hT, rwHeard, if_neg hown, if_neg hfr, hw]
          simp
  · have hno : ∀ r ∈ L, rwPf r ≠ ⟨e.addr, e.len⟩ := fun r hr hp => by
      obtain ⟨j, hj, rfl⟩ := List.mem_iff_getElem.1 hr
      exact hex ⟨j, hj, hp⟩
    have hat := isAt_none hno
    have hoth : ((L[ixOf L (rwPf (newsRw e frm costs[frm]))]?.map rwPf) == some (rwPf (newsRw e frm costs[frm]))) = false := by
      cases hq : L[ixOf L (rwPf (newsRw e frm costs[frm]))]? with
      | none => rfl
      | some r =>
        have hr := List.mem_of_getElem? hq
        have := hno r hr
        simp only [Option.map_some]
        rw [Bool.eq_false_iff]
        intro hh
        exact this (by simpa [rwPf, newsRw] using hh)
    have hT := takeL_other rfl hoth
    by_cases hb : 16 ≤ e.met + costs[frm]
    · refine (takes_skip1 base Q frm costs L e cv lv w hQ hf hcost h0 h1 hL hat hb).mono fun v w' h => still h ?_
      rw [hT, if_neg (by show ¬ (min _ _ < 16 ∧ _); omega)]
    · by_cases h60 : L.length < 60
      · refine (takes_new base Q frm costs L e cv lv w hQ hf hcost h0 h1 hL hat (by omega) h60).mono fun v w' h => ?_
        rw [hT, if_pos ⟨by show min _ _ < 16; omega, h60⟩]
        have hix : insAt L ⟨e.addr, e.len⟩ = ixOf L (rwPf (newsRw e frm costs[frm])) := insAt_ix hno
        have e2 : insL L ⟨e.addr, e.len, e.tag, min (e.met + costs[frm]) 16, frm, 0, true⟩ = L.take (ixOf L (rwPf (newsRw e frm costs[frm]))) ++ rwFresh (newsRw e frm costs[frm]) :: L.drop (ixOf L (rwPf (newsRw e frm costs[frm]))) := by
          unfold insL
          simp only [rwPf]
          simp only [rwPf] at hix
          rw [hix]
          rfl
        rw [← e2]
        exact h
      · refine (takes_skip2 base Q frm costs L e cv lv w hQ hf hcost h0 h1 hL hat (by omega) (by omega)).mono fun v w' h => still h ?_
        rw [hT, if_neg (by omega)]

end Go.Proofs.YtdnpeefnobjfaaaGreatDoor
