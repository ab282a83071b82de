/- (*Router).Receive of a Response. -/
import Derived.Test.YtdnpeefnobjfaaaGreatDoorTTick
namespace Go.Proofs.YtdnpeefnobjfaaaGreatDoor
open Go.RowKit Go.Shelf Go.Lib
attribute [local go_sem ↓] Go.wp_at_zero Go.wp_at_succ

theorem owned_num {w : World} {base nc cc : Nat} {ac : Option Addr} {costs : List Int} (h : w.ownsRow base 3 1 (.slice ac nc cc) nc (numList costs)) {k : Nat} (hk : k < costs.length) : ∃ g, ac = some ⟨g, 0, none⟩ ∧ w.cell? ⟨g, k, none⟩ = some (.int .i64 costs[k]) ∧ g < w.heap.size := by
  have hl := h.1
  have hlen : (numList costs).length = costs.length := by simp [numList]
  obtain ⟨g, rfl⟩ : ∃ g, ac = some ⟨g, 0, none⟩ := by
    rcases h.2 with ⟨_, h0⟩ | ⟨g, c, cur, hv, _⟩
    · omega
    · simp at hv; exact ⟨g, hv.1⟩
  have := owned_cells h k (.int .i64 costs[k]) (by simp [numList, hk])
  rw [Addr.add_lit, Nat.zero_add] at this
  exact ⟨g, rfl, this, ownsRow_lt h⟩

theorem cell_far {w : World} {B b o : Nat} {v u : Value} (h : w.cell? ⟨b, o, none⟩ = some u) (hne : B ≠ b) : (w.setCell ⟨B, 0, none⟩ v).cell? ⟨b, o, none⟩ = some u := (World.cell?_setCell_far w ⟨B, 0, none⟩ ⟨b, o, none⟩ v hne).trans h

set_option maxRecDepth 100000 in
set_option maxHeartbeats 4000000 in
theorem recvStep_any (bf br bp base R frm ne ce : Nat) (ae : Option Addr) (costs : List Int) (cv rv : Value) (L : List Rw) (es : List Ent) (W : World) (hf : frm < costs.length) (hcost : ∀ c ∈ costs, 1 ≤ c ∧ c ≤ 15) (h60 : L.length ≤ 60) (hso : rwSorted L) (hne : es.length = ne) (hbig : ne ≤ 1000000) (hmet : ∀ e ∈ es, 0 ≤ e.met ∧ e.met ≤ 16)
    (c1 : W.cell? ⟨bf, 0, none⟩ = some (.int .i64 frm)) (c2 : W.cell? ⟨br, 0, none⟩ = some (.pointer (some ⟨R, 0, none⟩))) (c3 : W.cell? ⟨R, 0, none⟩ = some cv) (c4 : W.cell? ⟨bp, 1, none⟩ = some (.slice ae ne ce)) (hes : entSlice W ae es) (hcv : W.ownsRow base 3 1 cv costs.length (numList costs)) (hown : W.ownsRow base 137 7 rv L.length (rwList L)) :
    Calls Tryz.prog 45 #[.agg #[rv], .pointer (some ⟨bf, 0, none⟩), .pointer (some ⟨br, 0, none⟩), .pointer (some ⟨bp, 0, none⟩)] W fun e W' => ∃ v', e = .returned (.agg #[v']) ∧ W'.ownsRow W.heap.size 137 7 v' (heardL L frm costs[frm] es).length (rwList (heardL L frm costs[frm] es)) ∧ Below W.heap.size W W' := by
  obtain ⟨ao, cap, rfl⟩ := ownsRow_slice hown
  obtain ⟨ac, cc, rfl⟩ := ownsRow_slice hcv
  obtain ⟨gc, rfl, c5, hgc⟩ := owned_num hcv hf
  obtain ⟨k0, k1⟩ := hcost costs[frm] (List.getElem_mem _)
  have bT := outBlk W #[.slice ao L.length cap] 120 #[.slice none 0 0] 120
  have bI := (Blk.new W #[.slice ao L.length cap] 120).alloc (.cells #[.slice none 0 0] 120)
  have hb0 := (((Grows.refl W).alloc (.cells #[.slice ao L.length cap] 120)).alloc (.cells #[.slice none 0 0] 120)).below
  have hsz : ((W.alloc (.cells #[.slice ao L.length cap] 120)).alloc (.cells #[.slice none 0 0] 120)).heap.size = W.heap.size + 2 := by simp
  have hL := tableHeard_any base ao ae cap ne ce L es frm costs[frm] ((W.alloc (.cells #[.slice ao L.length cap] 120)).alloc (.cells #[.slice none 0 0] 120)).drew h60 hso hne hbig hmet (by omega) (by omega) (entSlice_below hes hb0.drew) (ownsRow_below hown hb0.drew (Nat.le_refl _))
  have l1 : bf < W.heap.size := World.block_lt_of_cell? W _ c1
  have l2 : br < W.heap.size := World.block_lt_of_cell? W _ c2
  have l3 : R < W.heap.size := World.block_lt_of_cell? W _ c3
  have l4 : bp < W.heap.size := World.block_lt_of_cell? W _ c4
  have d0 := (bI.cell 0).trans (show _ = some (.slice ao L.length cap) from rfl)
  have d1 := (hb0.cell (p := ⟨bf, 0, none⟩) l1).trans c1
  have d2 := (hb0.cell (p := ⟨br, 0, none⟩) l2).trans c2
  have d3 := (hb0.cell (p := ⟨R, 0, none⟩) l3).trans c3
  have d4 := (hb0.cell (p := ⟨bp, 1, none⟩) l4).trans c4
  have d5 := (hb0.cell (p := ⟨gc, frm, none⟩) hgc).trans c5
  have HT := hide bT
  have HB0 := hide hb0
  have HSZ := hide hsz
  have HL := hide hL
  have j0 : (0 : Int) ≤ (frm : Int) := by omega
  have j1 : (frm : Int) < (costs.length : Int) := by omega
  have n0 : W.heap.size + 1 ≠ W.heap.size := by omega
  have n1 : W.heap.size + 1 ≠ bf := by omega
  have n2 : W.heap.size + 1 ≠ br := by omega
  have n3 : W.heap.size + 1 ≠ R := by omega
  have n4 : W.heap.size + 1 ≠ bp := by omega
  have n5 : W.heap.size + 1 ≠ gc := by omega
  clear hL bT bI hb0 hown hes hcv hso hmet hcost c1 c2 c3 c4 c5
  generalize costs[frm] = cost at *
  go_enter Tryz.func45, Tryz.ntmps45
  go_wp2_with fail
  generalize hW2 : (W.alloc (.cells #[.slice ao L.length cap] 120)).alloc (.cells #[.slice none 0 0] 120) = W2 at *
  clear hW2
  go_region_held3 (fun w' => w'.cell? ⟨W.heap.size, 0, none⟩ = some (.slice ao L.length cap) ∧ w'.cell? ⟨bf, 0, none⟩ = some (.int .i64 frm) ∧ w'.cell? ⟨br, 0, none⟩ = some (.pointer (some ⟨R, 0, none⟩)) ∧ w'.cell? ⟨R, 0, none⟩ = some (.slice (some ⟨gc, 0, none⟩) costs.length cc) ∧ w'.cell? ⟨bp, 1, none⟩ = some (.slice ae ne ce) ∧ w'.cell? ⟨gc, frm, none⟩ = some (.int .i64 cost))
    (first | go_keep | exact ⟨cell_far e0 n0, cell_far e1 n1, cell_far e2 n2, cell_far e3 n3, cell_far e4 n4, cell_far e5 n5⟩)
    (first | (go_at_call 46; refine (unhide HL).mono ?_; rintro e w3 ⟨v', rfl, hown3, hb3⟩; obtain ⟨a3, c3, rfl⟩ := ownsRow_slice hown3; have hsz2 : W2.drew.heap.size = W.heap.size + 2 := unhide HSZ; have e0 := (hb3.cell (p := ⟨W.heap.size, 0, none⟩) (by rw [hsz2]; show W.heap.size < W.heap.size + 2; omega)).trans d0; have e1 := (hb3.cell (p := ⟨bf, 0, none⟩) (by rw [hsz2]; show bf < W.heap.size + 2; omega)).trans d1; have e2 := (hb3.cell (p := ⟨br, 0, none⟩) (by rw [hsz2]; show br < W.heap.size + 2; omega)).trans d2; have e3 := (hb3.cell (p := ⟨R, 0, none⟩) (by rw [hsz2]; show R < W.heap.size + 2; omega)).trans d3; have e4 := (hb3.cell (p := ⟨bp, 1, none⟩) (by rw [hsz2]; show bp < W.heap.size + 2; omega)).trans d4; have e5 := (hb3.cell (p := ⟨gc, frm, none⟩) (by rw [hsz2]; show gc < W.heap.size + 2; omega)).trans d5; have bT3 := (unhide HT).below (show Below (W.heap.size + 2) W2 w3 from Below.trans ((Below.refl _ W2).drew) (hb3.mono (by rw [hsz2]; omega))) (by omega); have s0 := bT3.cell 0; have z0 := bT3.frozen 0; have HO3 := hide hown3; have HB3 := hide (show Below (W.heap.size + 2) W2 w3 from Below.trans ((Below.refl _ W2).drew) (hb3.mono (by rw [hsz2]; omega))); clear hown3 hb3 hsz2))
  go_wp2
  have bT4 := bT3.set 0 (.slice a3 (heardL L frm cost es).length c3)
  have t0 := bT4.cell 0
  simp at t0
  refine bodyPost_ret (v := .agg #[.slice a3 (heardL L frm cost es).length c3]) (by simp [results, Tryz.results45, go_sem, t0]) rfl ⟨_, rfl, ?_, ?_⟩
  · have hs : W2.drew.heap.size = W.heap.size + 2 := unhide HSZ
    exact ownsRow_mono (ownsRow_other (unhide HO3) bT3 (by decide)) (by omega)
  · exact ((unhide HB0).trans ((unhide HB3).mono (by omega))).setCell (p := ⟨W.heap.size + 1, 0, none⟩) (by simp) _

set_option maxHeartbeats 1000000 in
theorem isNeighbour_any (R : Nat) (n : Int) (ac : Option Addr) (nc cc : Nat) (w : World) (c0 : w.cell? ⟨R, 0, none⟩ = some (.slice ac nc cc)) :
    Calls Tryz.prog 40 #[.pointer (some ⟨R, 0, none⟩), .int .i64 n] w fun e w' => e = .returned (.bool (decide (0 ≤ n) && decide (n < nc))) ∧ w' = w := by
  by_cases h0 : 0 ≤ n
  · by_cases h1 : n < nc
    · go_enter Tryz.func40, Tryz.ntmps40
      go_wp2
      go_ret
      simp [h0, h1]
    · go_enter Tryz.func40, Tryz.ntmps40
      go_wp2
      go_ret
      simp [h1]
  · go_enter Tryz.func40, Tryz.ntmps40
    go_wp2
    go_ret
    have h0' : ¬ (0 : Int) ≤ n := by omega
    simp [h0']

end Go.Proofs.YtdnpeefnobjfaaaGreatDoor
