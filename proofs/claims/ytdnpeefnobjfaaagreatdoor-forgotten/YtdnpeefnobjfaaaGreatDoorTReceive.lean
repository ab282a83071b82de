/- (*Router).Receive of a Response that can be read. -/
import Derived.Test.YtdnpeefnobjfaaaGreatDoorTRecv
import Derived.Test.YtdnpeefnobjfaaaGreatDoorSame
namespace Go.Proofs.YtdnpeefnobjfaaaGreatDoor
open Go.RowKit Go.Shelf Go.Lib
attribute [local go_sem ↓] Go.wp_at_zero Go.wp_at_succ

set_option maxRecDepth 100000 in
set_option maxHeartbeats 4000000 in
theorem receive_resp (R V base frm : Nat) (s : ByteArray) (costs : List Int) (L : List Rw) (cv rv : Value) (w : World) (hR : RouterAt w base R costs L V cv rv) (hf : frm < costs.length) (hcost : ∀ c ∈ costs, 1 ≤ c ∧ c ≤ 15) (h60 : L.length ≤ 60) (hso : rwSorted L)
    (hm : s.size ≤ 9223372036854775807) (hx : decErr s.data.toList = none) (hcmd : decCmd s.data.toList = 2) (hbig : (decEnts s.data.toList).length ≤ 1000000) (hmet : ∀ e ∈ decEnts s.data.toList, 0 ≤ e.met ∧ e.met ≤ 16) :
    Calls Tryz.prog 14 #[.pointer (some ⟨R, 0, none⟩), .int .i64 frm, .string s] w fun e w' => e = .returned (.tuple #[.slice none 0 0, .nilIface]) ∧ ∃ V' rv', RouterAt w' base R costs (heardL L frm costs[frm] (decEnts s.data.toList)) V' cv rv' ∧ w.grownBy w' (some R) := by
  obtain ⟨ac, cc, rfl⟩ := ownsRow_slice hR.costs
  have hb0 := (((Grows.refl w).alloc (.cells #[.pointer (some ⟨R, 0, none⟩)] 33)).alloc (.cells #[.int .i64 frm] 3)).below
  have hsz : ((w.alloc (.cells #[.pointer (some ⟨R, 0, none⟩)] 33)).alloc (.cells #[.int .i64 frm] 3)).heap.size = w.heap.size + 2 := by simp
  have bA := (Blk.new w #[.pointer (some ⟨R, 0, none⟩)] 33).alloc (.cells #[.int .i64 frm] 3)
  have bB := outBlk w #[.pointer (some ⟨R, 0, none⟩)] 33 #[.int .i64 frm] 3
  have hRl : R < w.heap.size := hR.blk.lt
  have hR0 := hR.below hb0
  have hI := isNeighbour_any R frm ac costs.length cc ((w.alloc (.cells #[.pointer (some ⟨R, 0, none⟩)] 33)).alloc (.cells #[.int .i64 frm] 3)) ((hR0.blk.cell 0).trans rfl)
  have hD := Decode_any s ((w.alloc (.cells #[.pointer (some ⟨R, 0, none⟩)] 33)).alloc (.cells #[.int .i64 frm] 3)) hm
  have hin : (decide ((0 : Int) ≤ (frm : Int)) && decide ((frm : Int) < (costs.length : Nat))) = true := by simp; omega
  rw [hin] at hI
  have HA := hide bA
  have HBB := hide bB
  have HB0 := hide hb0
  have HSZ := hide hsz
  have HR0 := hide hR0
  have HCO := hide hcost
  have HSO := hide hso
  have HMT := hide hmet
  clear hR hR0 bA bB hb0 hsz hcost hso hmet hin
  go_enter Tryz.func14, Tryz.ntmps14
  go_wp2_with (go_at_call 40; refine hI.mono ?_; rintro e w1 ⟨rfl, rfl⟩)
  refine hD.mono ?_
  rintro e w2 ⟨V2, ve, rfl, ⟨ae, ne, ce, rfl, hne, hown2, herr⟩, hb2⟩
  rw [hx] at herr
  obtain rfl : ve = .nilIface := herr
  rw [hcmd]
  have hs2 : w.heap.size + 2 ≤ w2.heap.size := by have := hb2.size; rw [unhide HSZ] at this; exact this
  have hR3 := ((unhide HR0).below hb2).below (below_new w2 (.cells #[.int .i64 2, .slice ae ne ce] 45))
  have bA3 := ((unhide HA).below hb2 (by rw [unhide HSZ]; omega)).alloc (.cells #[.int .i64 2, .slice ae ne ce] 45)
  have bB3 := ((unhide HBB).below hb2 (by rw [unhide HSZ]; omega)).alloc (.cells #[.int .i64 2, .slice ae ne ce] 45)
  have bP3 := Blk.new w2 #[.int .i64 2, .slice ae ne ce] 45
  have ho3 := ownsRow_below hown2 (below_new w2 (.cells #[.int .i64 2, .slice ae ne ce] 45)) (Nat.le_refl _)
  have g3 : w.grownBy (w2.alloc (.cells #[.int .i64 2, .slice ae ne ce] 45)) (some R) := by
    have h1 := unhide HB0
    exact grown_trans (grown_weak ⟨h1.os, h1.tape, h1.output, h1.size, fun k hk _ => h1.block k hk⟩) (grown_trans (grown_weak ⟨hb2.os, hb2.tape, hb2.output, hb2.size, fun k hk _ => hb2.block k hk⟩) (World.grownBy_alloc w2 _ _))
  have hch := change_recv (w.heap.size + 1) w.heap.size w2.heap.size R V base costs L (heardL L frm costs[frm] (decEnts s.data.toList)) _ rv _ hR3 hR3.base_le (fun W hb => recvStep_any (w.heap.size + 1) w.heap.size w2.heap.size base R frm ne ce ae costs _ rv L (decEnts s.data.toList) W hf (unhide HCO) h60 (unhide HSO) hne (by rw [← hne]; exact hbig) (unhide HMT)
    ((hb.cell (p := ⟨w.heap.size + 1, 0, none⟩) bB3.lt).trans (((bB3.other (p := ⟨R, 1, none⟩) (by show R ≠ _; omega) _).cell 0).trans rfl))
    ((hb.cell (p := ⟨w.heap.size, 0, none⟩) bA3.lt).trans (((bA3.other (p := ⟨R, 1, none⟩) (by show R ≠ _; omega) _).cell 0).trans rfl))
    ((hb.cell (p := ⟨R, 0, none⟩) hR3.blk.lt).trans (((hR3.blk.set 1 (.int .i32 1)).cell 0).trans rfl))
    ((hb.cell (p := ⟨w2.heap.size, 1, none⟩) bP3.lt).trans (((bP3.other (p := ⟨R, 1, none⟩) (by show R ≠ _; omega) _).cell 1).trans rfl))
    (own_slice (ownsRow_below (ownsRow_other ho3 hR3.blk (by decide)) hb (by simp))).1 (hR3.lockedCosts hb) (hR3.locked hb))
  have a0 := (bA3.cell 0).trans (show _ = some (.pointer (some ⟨R, 0, none⟩)) from rfl)
  have HG3 := hide g3
  clear hR3 bA3 bB3 bP3 ho3 g3 hown2 hb2 hD hI hne
  go_wp2_with (go_at_call 44; refine hch.mono ?_; rintro e w4 ⟨rfl, V', rv', hR', hg'⟩)
  go_ret2
  exact ⟨rfl, V', rv', hR', grown_trans (unhide HG3) hg'⟩

end Go.Proofs.YtdnpeefnobjfaaaGreatDoor
