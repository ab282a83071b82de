/- (*Router).Receive of a Response that can be read. -/
import Derived.Test.YtdnpeefnobjfaaaGreatDoorLockM
import Derived.Test.YtdnpeefnobjfaaaGreatDoorDecM
namespace Go.Proofs.YtdnpeefnobjfaaaGreatDoor
open Go.RowKit Go.Shelf Go.Lib
attribute [local go_sem ↓] Go.wp_at_zero Go.wp_at_succ

set_option maxRecDepth 100000 in
set_option maxHeartbeats 4000000 in
theorem receive_resp (R V base frm : Nat) (s : ByteArray) (costs : List Int) (L : List Rw) (cv rv : Value) (w : World) (hR : RouterAt w base R costs L V cv rv) (hf : frm < costs.length) (hcost : ∀ c ∈ costs, 1 ≤ c ∧ c ≤ 15) (h60 : L.length ≤ 60) (hso : rwSorted L)
    (hm : s.size ≤ 9223372036854775807) (hx : decErr s.data.toList = none) (hcmd : decCmd s.data.toList = 2) (hbig : (decEnts s.data.toList).length ≤ 1000000) (hmet : ∀ e ∈ decEnts s.data.toList, 0 ≤ e.met ∧ e.met ≤ 16) :
    Calls Tryz.prog 14 #[.pointer (some ⟨R, 0, none⟩), .int .i64 frm, .string s] w fun e w' => e = .returned (.tuple #[.slice none 0 0, .nilIface]) ∧ ∃ V' rv', RouterAt w' base R costs (heardL L frm costs[frm] (decEnts s.data.toList)) V' cv rv' ∧ w.grownBy w' (some R) ∧ w.heap.size ≤ V' ∧ w'.ownsRow w.heap.size 137 7 rv' (heardL L frm costs[frm] (decEnts s.data.toList)).length (rwList (heardL L frm costs[frm] (decEnts s.data.toList))) := by
  obtain ⟨ac, cc, rfl⟩ := ownsRow_slice hR.costs
  have hb0 := (((Grows.refl w).alloc (.cells #[.pointer (some ⟨R, 0, none⟩)] 33)).alloc (.cells #[.int .i64 frm] 3)).below
  have hsz : ((w.alloc (.cells #[.pointer (some ⟨R, 0, none⟩)] 33)).alloc (.cells #[.int .i64 frm] 3)).heap.size = w.heap.size + 2 := by simp
  have bA := (Blk.new w #[.pointer (some ⟨R, 0, none⟩)] 33).alloc (.cells #[.int .i64 frm] 3)
  have bB := outBlk w #[.pointer (some ⟨R, 0, none⟩)] 33 #[.int .i64 frm] 3
  have hRl : R < w.heap.size := hR.blk.lt
  have hR0 := hR.below hb0
  have hI := isNeighbour_any R frm ac costs.length cc ((w.alloc (.cells #[.pointer (some ⟨R, 0, none⟩)] 33)).alloc (.cells #[.int .i64 frm] 3)) ((hR0.blk.cell 0).trans rfl)
  have hD := Decode_any s ((w.alloc (.cells #[.pointer (some ⟨R, 0, none⟩)] 33)).alloc (.cells #[.int .i64 frm] 3)) hm
  have hin : (decide ((0 : Int) ≤ (frm : Int)) && decide ((frm : Int) < (costs.length : Nat))) = true := by simp; omega
  rw [hin] at hI
  have HA := hide bA
  have HBB := hide bB
  have HB0 := hide hb0
  have HSZ := hide hsz
  have HR0 := hide hR0
  have HCO := hide hcost
  have HSO := hide hso
  have HMT := hide hmet
  clear hR hR0 bA bB hb0 hsz hcost hso hmet hin
  go_enter Tryz.func14, Tryz.ntmps14
  go_wp2_with (go_at_call 40; refine hI.mono ?_; rintro e w1 ⟨rfl, rfl⟩)
  refine hD.mono ?_
  rintro e w2 ⟨V2, ve, rfl, ⟨ae, ne, ce, rfl, hne, hown2, herr⟩, hb2⟩
  rw [hx] at herr
  obtain rfl : ve = .nilIface := herr
  rw [hcmd]
  have hs2 : w.heap.size + 2 ≤ w2.heap.size := by have := hb2.size; rw [unhide HSZ] at this; exact this
  have hR3 := ((unhide HR0).below hb2).below (below_new w2 (.cells #[.int .i64 2, .slice ae ne ce] 45))
  have bA3 := ((unhide HA).below hb2 (by rw [unhide HSZ]; omega)).alloc (.cells #[.int .i64 2, .slice ae ne ce] 45)
  have bB3 := ((unhide HBB).below hb2 (by rw [unhide HSZ]; omega)).alloc (.cells #[.int .i64 2, .slice ae ne ce] 45)
  have bP3 := Blk.new w2 #[.int .i64 2, .slice ae ne ce] 45
  have ho3 := ownsRow_below hown2 (below_new w2 (.cells #[.int .i64 2, .slice ae ne ce] 45)) (Nat.le_refl _)
  have g3 : w.grownBy (w2.alloc (.cells #[.int .i64 2, .slice ae ne ce] 45)) (some R) := by
    have h1 := unhide HB0
    exact grown_trans (grown_weak ⟨h1.os, h1.tape, h1.output, h1.size, fun k hk _ => h1.block k hk⟩) (grown_trans (grown_weak ⟨hb2.os, hb2.tape, hb2.output, hb2.size, fun k hk _ => hb2.block k hk⟩) (World.grownBy_alloc w2 _ _))
  have hch := change_recv (w.heap.size + 1) w.heap.size w2.heap.size R V base costs L (heardL L frm costs[frm] (decEnts s.data.toList)) _ rv _ hR3 hR3.base_le (fun W hb => recvStep_any (w.heap.size + 1) w.heap.size w2.heap.size base R frm ne ce ae costs _ rv L (decEnts s.data.toList) W hf (unhide HCO) h60 (unhide HSO) hne (by rw [← hne]; exact hbig) (unhide HMT)
    ((hb.cell (p := ⟨w.heap.size + 1, 0, none⟩) bB3.lt).trans (((bB3.other (p := ⟨R, 1, none⟩) (by show R ≠ _; omega) _).cell 0).trans rfl))
    ((hb.cell (p := ⟨w.heap.size, 0, none⟩) bA3.lt).trans (((bA3.other (p := ⟨R, 1, none⟩) (by show R ≠ _; omega) _).cell 0).trans rfl))
    ((hb.cell (p := ⟨R, 0, none⟩) hR3.blk.lt).trans (((hR3.blk.set 1 (.int .i32 1)).cell 0).trans rfl))
    ((hb.cell (p := ⟨w2.heap.size, 1, none⟩) bP3.lt).trans (((bP3.other (p := ⟨R, 1, none⟩) (by show R ≠ _; omega) _).cell 1).trans rfl))
    (own_slice (ownsRow_below (ownsRow_other ho3 hR3.blk (by decide)) hb (by simp))).1 (hR3.lockedCosts hb) (hR3.locked hb))
  have a0 := (bA3.cell 0).trans (show _ = some (.pointer (some ⟨R, 0, none⟩)) from rfl)
  have HG3 := hide g3
  clear hR3 bA3 bB3 bP3 ho3 g3 hown2 hb2 hD hI hne
  go_wp2_with (go_at_call 44; refine hch.mono ?_; rintro e w4 ⟨rfl, V', rv', hR', hg', hv', ho'⟩)
  go_ret2
  simp only [World.size_alloc] at hv' ho'
  exact ⟨rfl, V', rv', hR', grown_trans (unhide HG3) hg', by omega, ownsRow_mono ho' (by omega)⟩

end Go.Proofs.YtdnpeefnobjfaaaGreatDoor

/- (*Router).Down; Tick and Down of what may not be. -/
namespace Go.Proofs.YtdnpeefnobjfaaaGreatDoor
open Go.RowKit Go.Shelf Go.Lib
attribute [local go_sem ↓] Go.wp_at_zero Go.wp_at_succ

theorem lostL_length (nb : Int) (L : List Rw) : (lostL nb L).length = L.length := by simp [lostL]

set_option maxRecDepth 100000 in
set_option maxHeartbeats 1000000 in
theorem downStep_any (bn base : Nat) (nb : Int) (rv : Value) (L : List Rw) (W : World) (hc : W.cell? ⟨bn, 0, none⟩ = some (.int .i64 nb)) (hn : L.length ≤ 1000000) (hown : W.ownsRow base 137 7 rv L.length (rwList L)) :
    Calls Tryz.prog 59 #[.agg #[rv], .pointer (some ⟨bn, 0, none⟩)] W fun e W' => ∃ v', e = .returned (.agg #[v']) ∧ W'.ownsRow W.heap.size 137 7 v' (lostL nb L).length (rwList (lostL nb L)) ∧ Below W.heap.size W W' := by
  obtain ⟨ao, cap, rfl⟩ := ownsRow_slice hown
  have bT := outBlk W #[.slice ao L.length cap] 120 #[.slice none 0 0] 120
  have hb0 := (((Grows.refl W).alloc (.cells #[.slice ao L.length cap] 120)).alloc (.cells #[.slice none 0 0] 120)).below
  have hsz : ((W.alloc (.cells #[.slice ao L.length cap] 120)).alloc (.cells #[.slice none 0 0] 120)).heap.size = W.heap.size + 2 := by simp
  have hL := lostTable_any base ao cap L nb ((W.alloc (.cells #[.slice ao L.length cap] 120)).alloc (.cells #[.slice none 0 0] 120)) hn (ownsRow_below hown hb0 (Nat.le_refl _))
  have hc2 := (hb0.cell (p := ⟨bn, 0, none⟩) (World.block_lt_of_cell? W _ hc)).trans hc
  have HT := hide bT
  have HB0 := hide hb0
  have HSZ := hide hsz
  rw [lostL_length]
  clear bT hb0 hsz hown
  go_enter Tryz.func59, Tryz.ntmps59
  go_wp2_with (go_at_call 60; refine hL.mono ?_; rintro e w1 ⟨v', rfl, hown1, hb1⟩; obtain ⟨a1, c1, rfl⟩ := ownsRow_slice hown1; have bT1 := (unhide HT).below hb1 (by rw [unhide HSZ]; omega); have s0 := bT1.cell 0; have z0 := bT1.frozen 0; have HO1 := hide hown1; have HB1 := hide hb1; clear hown1 hb1)
  have bT3 := bT1.set 0 (.slice a1 L.length c1)
  have t0 := bT3.cell 0
  simp at t0
  have hs := unhide HSZ
  refine bodyPost_ret (v := .agg #[.slice a1 L.length c1]) (by simp [results, Tryz.results59, go_sem, t0]) rfl ⟨_, rfl, ?_, ?_⟩
  · exact ownsRow_mono (ownsRow_other (unhide HO1) bT1 (by decide)) (by omega)
  · exact ((unhide HB0).trans ((unhide HB1).mono (by omega))).setCell (p := ⟨W.heap.size + 1, 0, none⟩) (by simp) _

set_option maxRecDepth 100000 in
set_option maxHeartbeats 1000000 in
theorem down_any (R V base nb : Nat) (costs : List Int) (L : List Rw) (cv rv : Value) (w : World) (hR : RouterAt w base R costs L V cv rv) (hn : L.length ≤ 1000000) (hnb : nb < costs.length) :
    Calls Tryz.prog 26 #[.pointer (some ⟨R, 0, none⟩), .int .i64 nb] w fun e w' => e = .returned .nilIface ∧ ∃ V' rv', RouterAt w' base R costs (lostL nb L) V' cv rv' ∧ w.grownBy w' (some R) ∧ w.heap.size ≤ V' ∧ w'.ownsRow w.heap.size 137 7 rv' (lostL nb L).length (rwList (lostL nb L)) := by
  obtain ⟨ac, cc, rfl⟩ := ownsRow_slice hR.costs
  have hR1 := hR.below (below_new w (.cells #[.int .i64 nb] 3))
  have hRl := hR.blk.lt
  have hI := isNeighbour_any R nb ac costs.length cc (w.alloc (.cells #[.int .i64 nb] 3)) ((hR1.blk.cell 0).trans rfl)
  have hin : (decide ((0 : Int) ≤ (nb : Int)) && decide ((nb : Int) < (costs.length : Nat))) = true := by simp; omega
  rw [hin] at hI
  have hch := change_down w.heap.size R V base costs L (lostL nb L) _ rv (w.alloc (.cells #[.int .i64 nb] 3)) hR1 hR1.base_le (fun W hb => downStep_any w.heap.size base nb rv L W
    ((hb.cell (p := ⟨w.heap.size, 0, none⟩) (by simp)).trans ((((Blk.new w #[.int .i64 nb] 3).other (p := ⟨R, 1, none⟩) (Nat.ne_of_lt hRl) _).cell 0).trans rfl)) hn (hR1.locked hb))
  have g0 : w.grownBy (w.alloc (.cells #[.int .i64 nb] 3)) (some R) := World.grownBy_alloc w _ _
  clear hR hR1 hin
  go_enter Tryz.func26, Tryz.ntmps26
  go_wp2_with (first | (go_at_call 40; refine hI.mono ?_; rintro e w1 ⟨rfl, rfl⟩) | (go_at_call 44; refine hch.mono ?_; rintro e w1 ⟨rfl, V', rv', hR', hg', hv', ho'⟩))
  go_ret
  simp only [World.size_alloc] at hv' ho'
  exact ⟨rfl, V', rv', hR', grown_trans g0 hg', by omega, ownsRow_mono ho' (by omega)⟩

set_option maxHeartbeats 1000000 in
theorem down_bad (R : Nat) (n : Int) (ac : Option Addr) (nc cc : Nat) (w : World) (c0 : w.cell? ⟨R, 0, none⟩ = some (.slice ac nc cc)) (h : n < 0 ∨ (nc : Int) ≤ n) :
    Calls Tryz.prog 26 #[.pointer (some ⟨R, 0, none⟩), .int .i64 n] w fun e w' => e = .returned (.iface 102 (.int .i64 2)) ∧ Below w.heap.size w w' := by
  have hI := isNeighbour_any R n ac nc cc (w.alloc (.cells #[.int .i64 n] 3)) (((below_new w _).cell (p := ⟨R, 0, none⟩) (World.block_lt_of_cell? w _ c0)).trans c0)
  have hin : (decide ((0 : Int) ≤ n) && decide (n < (nc : Nat))) = false := by
    rcases h with h | h
    · have : ¬ (0 : Int) ≤ n := by omega
      simp [this]
    · have : ¬ n < (nc : Int) := by omega
      simp [this]
  rw [hin] at hI
  clear hin h c0
  go_enter Tryz.func26, Tryz.ntmps26
  go_wp2_with (go_at_call 40; refine hI.mono ?_; rintro e w1 ⟨rfl, rfl⟩)
  go_ret
  exact ⟨rfl, below_new _ _⟩

set_option maxHeartbeats 1000000 in
theorem tick_bad (R : Nat) (n : Int) (w : World) (h : n < 0 ∨ 1000 < n) :
    Calls Tryz.prog 16 #[.pointer (some ⟨R, 0, none⟩), .int .i64 n] w fun e w' => e = .returned (.iface 102 (.int .i64 9)) ∧ Below w.heap.size w w' := by
  rcases h with h | h
  · go_enter Tryz.func16, Tryz.ntmps16
    go_wp2
    go_ret
    exact ⟨rfl, below_new _ _⟩
  · have h' : ¬ n < 0 := by omega
    go_enter Tryz.func16, Tryz.ntmps16
    go_wp2
    go_ret
    exact ⟨rfl, below_new _ _⟩

end Go.Proofs.YtdnpeefnobjfaaaGreatDoor
