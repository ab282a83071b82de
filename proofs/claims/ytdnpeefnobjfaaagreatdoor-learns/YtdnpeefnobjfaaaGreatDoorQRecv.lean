/- The reference's Receive: of no neighbour, of what can't be read, of a Request. -/
import Derived.Test.YtdnpeefnobjfaaaGreatDoorQTold
import Derived.Test.YtdnpeefnobjfaaaGreatDoorDRefM
namespace Go.Proofs.YtdnpeefnobjfaaaGreatDoor
open Go.RowKit Go.Shelf
attribute [local go_sem ↓] Go.wp_at_zero Go.wp_at_succ

set_option maxRecDepth 100000 in
set_option maxHeartbeats 2000000 in
theorem recvRef_noone (Q : Nat) (n : Int) (s : ByteArray) (ac : Option Addr) (nc cc : Nat) (w : World) (c0 : w.cell? ⟨Q, 0, none⟩ = some (.slice ac nc cc)) (h : n < 0 ∨ (nc : Int) ≤ n) :
    Calls Tryz.prog 163 #[.pointer (some ⟨Q, 0, none⟩), .int .i64 n, .string s] w fun e w' => e = .returned (.tuple #[.slice none 0 0, .agg #[.int .i64 2, .int .i64 0, .bool false]]) ∧ Below w.heap.size w w' := by
  have c1 := ((below_new w (.cells #[.int .i64 0, .int .i64 0, .bool false] 150)).cell (p := ⟨Q, 0, none⟩) (World.block_lt_of_cell? w _ c0)).trans c0
  clear c0
  rcases h with h | h
  · have hd : decide (n < 0) = true := by simpa using h
    go_enter Tryz.func163, Tryz.ntmps163
    go_wp2
    refine bodyPost_ret (v := .tuple #[.slice none 0 0, .agg #[.int .i64 2, .int .i64 0, .bool false]]) (by simp [results, Tryz.results163, go_sem]) rfl ⟨rfl, below_new _ _⟩
  · have hd : decide (n < 0) = false := by simp; omega
    have hd2 : decide ((nc : Int) ≤ n) = true := by simpa using h
    go_enter Tryz.func163, Tryz.ntmps163
    go_wp2
    refine bodyPost_ret (v := .tuple #[.slice none 0 0, .agg #[.int .i64 2, .int .i64 0, .bool false]]) (by simp [results, Tryz.results163, go_sem]) rfl ⟨rfl, below_new _ _⟩

/-- The world behind the decoder: the result's box, the packet's, the fault's. -/
theorem recv_world {w w2 : World} {x0 x1 x2 y0 y1 : Value} (hb2 : Below (w.alloc (.cells #[.int .i64 0, .int .i64 0, .bool false] 150)).heap.size (w.alloc (.cells #[.int .i64 0, .int .i64 0, .bool false] 150)) w2) :
    Blk ((w2.alloc (.cells #[y0, y1] 45)).alloc (.cells #[x0, x1, x2] 150)) w.heap.size #[.int .i64 0, .int .i64 0, .bool false] 150 ∧ Blk ((w2.alloc (.cells #[y0, y1] 45)).alloc (.cells #[x0, x1, x2] 150)) w2.heap.size #[y0, y1] 45 ∧ Blk ((w2.alloc (.cells #[y0, y1] 45)).alloc (.cells #[x0, x1, x2] 150)) (w2.heap.size + 1) #[x0, x1, x2] 150 ∧ Below w.heap.size w ((w2.alloc (.cells #[y0, y1] 45)).alloc (.cells #[x0, x1, x2] 150)) := by
  have hs2 := hb2.size
  simp only [World.size_alloc] at hb2 hs2
  refine ⟨?_, (Blk.new w2 #[y0, y1] 45).alloc _, ?_, ?_⟩
  · exact ((((Blk.new w #[.int .i64 0, .int .i64 0, .bool false] 150).below hb2 (by omega)).alloc _).alloc _)
  · have := Blk.new (w2.alloc (.cells #[y0, y1] 45)) #[x0, x1, x2] 150
    simpa only [World.size_alloc] using this
  · exact (((below_new w _).trans (hb2.mono (by omega))).alloc (by omega) _).alloc (by rw [World.size_alloc]; omega) _

set_option maxRecDepth 100000 in
set_option maxHeartbeats 2000000 in
theorem recvRef_err (Q frm nc cc : Nat) (s : ByteArray) (ac : Option Addr) (x : Int × Int) (w : World) (c0 : w.cell? ⟨Q, 0, none⟩ = some (.slice ac nc cc)) (hf : frm < nc) (hm : s.size ≤ 9223372036854775807) (hx : decErr s.data.toList = some x) (hx0 : x.1 ≠ 0) :
    Calls Tryz.prog 163 #[.pointer (some ⟨Q, 0, none⟩), .int .i64 frm, .string s] w fun e w' => e = .returned (.tuple #[.slice none 0 0, refF (some x)]) ∧ Below w.heap.size w w' := by
  obtain ⟨xe, xn⟩ := x
  have c1 := ((below_new w (.cells #[.int .i64 0, .int .i64 0, .bool false] 150)).cell (p := ⟨Q, 0, none⟩) (World.block_lt_of_cell? w _ c0)).trans c0
  have hd1 : decide ((frm : Int) < 0) = false := by simp
  have hd2 : decide ((nc : Int) ≤ (frm : Int)) = false := by simp; omega
  have hd3 : decide (nc ≤ frm) = false := by simp; omega
  have hD := rDecode_any s (w.alloc (.cells #[.int .i64 0, .int .i64 0, .bool false] 150)) hm
  rw [hx] at hD
  simp only [refF] at hD ⊢
  have hxb : (xe != 0) = true := by simpa using hx0
  clear c0 hf hx hx0
  go_enter Tryz.func163, Tryz.ntmps163
  go_wp2_with fail
  refine hD.mono ?_
  rintro e w2 ⟨V, rfl, ⟨ae, ne, ce, rfl, hown2⟩, hb2⟩
  obtain ⟨bF, _, bE, hbw⟩ := recv_world (x0 := .int .i64 xe) (x1 := .int .i64 xn) (x2 := .bool true) (y0 := .int .i64 (decCmd s.data.toList)) (y1 := .slice ae ne ce) hb2
  clear hown2 hb2 hD c1
  generalize decCmd s.data.toList = cmd at *
  go_wp2_with fail
  generalize (w2.alloc (.cells #[.int .i64 cmd, .slice ae ne ce] 45)).alloc (.cells #[.int .i64 xe, .int .i64 xn, .bool true] 150) = W at *
  have a0 := bF.cell 0
  have a1 := bF.cell 1
  have a2 := bF.cell 2
  have f0 := bF.frozen 0
  have f1 := bF.frozen 1
  have f2 := bF.frozen 2
  have e0 := (bE.cell 0).trans (show _ = some (.int .i64 xe) from rfl)
  have e1 := (bE.cell 1).trans (show _ = some (.int .i64 xn) from rfl)
  have e2 := (bE.cell 2).trans (show _ = some (.bool true) from rfl)
  have bF3 := ((bF.set 0 (.int .i64 xe)).set 1 (.int .i64 xn)).set 2 (.bool true)
  have t0 := (bF3.cell 0).trans (show _ = some (.int .i64 xe) from rfl)
  have t1 := (bF3.cell 1).trans (show _ = some (.int .i64 xn) from rfl)
  have t2 := (bF3.cell 2).trans (show _ = some (.bool true) from rfl)
  have HB := hide (((hbw.setCell (p := ⟨w.heap.size, 0, none⟩) (by simp) (.int .i64 xe)).setCell (p := ⟨w.heap.size, 1, none⟩) (by simp) (.int .i64 xn)).setCell (p := ⟨w.heap.size, 2, none⟩) (by simp) (.bool true))
  clear bF bE bF3 hbw
  go_region
  all_goals go_wp2
  all_goals refine bodyPost_ret (v := .tuple #[.slice none 0 0, .agg #[.int .i64 xe, .int .i64 xn, .bool true]]) (by simp [results, Tryz.results163, go_sem, t0, t1, t2]) rfl ⟨rfl, (unhide HB).drew⟩

set_option maxRecDepth 100000 in
set_option maxHeartbeats 2000000 in
theorem recvRef_req (base Q frm : Nat) (s : ByteArray) (costs : List Int) (L : List Rw) (cv lv : Value) (w : World) (hQ : RefAt w base Q costs L cv lv) (hf : frm < costs.length) (hn : L.length ≤ 1000) (hfine : rowsFine L) (hm : s.size ≤ 9223372036854775807) (hx : decErr s.data.toList = none) (hcmd : decCmd s.data.toList = 1) :
    Calls Tryz.prog 163 #[.pointer (some ⟨Q, 0, none⟩), .int .i64 frm, .string s] w fun e w' => ∃ v, e = .returned (.tuple #[v, refF none]) ∧ w'.ownsRow w.heap.size 64 2 v (nParts L.length) (outsTo frm (hearL frm L) (nParts L.length)) ∧ Below w.heap.size w w' := by
  obtain ⟨ac, cc, rfl⟩ := ownsRow_slice hQ.costs
  obtain ⟨ao, cap, rfl⟩ := ownsRow_slice hQ.rows
  have c1 := ((hQ.below (below_new w (.cells #[.int .i64 0, .int .i64 0, .bool false] 150))).blk.cell 0).trans (show _ = some (.slice ac costs.length cc) from rfl)
  have hd1 : decide ((frm : Int) < 0) = false := by simp
  have hd2 : decide ((costs.length : Int) ≤ (frm : Int)) = false := by simp; omega
  have hd3 : decide (costs.length ≤ frm) = false := by simp; omega
  have hD := rDecode_any s (w.alloc (.cells #[.int .i64 0, .int .i64 0, .bool false] 150)) hm
  rw [hx] at hD
  simp only [refF] at hD ⊢
  have HQ := hide hQ
  have HC := hide hcmd
  have HF := hide hfine
  clear hf hx hQ hcmd hfine
  go_enter Tryz.func163, Tryz.ntmps163
  go_wp2_with fail
  refine hD.mono ?_
  rintro e w2 ⟨V, rfl, ⟨ae, ne, ce, rfl, hown2⟩, hb2⟩
  rw [unhide HC]
  obtain ⟨bF, bP, bE, hbw⟩ := recv_world (x0 := .int .i64 0) (x1 := .int .i64 0) (x2 := .bool false) (y0 := .int .i64 1) (y1 := .slice ae ne ce) hb2
  clear hown2 hb2 hD c1 HC
  have hQW := (unhide HQ).below hbw
  have q1 := (hQW.blk.cell 1).trans (show _ = some (.slice ao L.length cap) from rfl)
  have hT := told_any Q frm ao cap L _ hn (unhide HF) (rwSlice_ownT hQW.rows)
  have HT := hide hT
  clear hQW hT
  go_wp2_with (go_at_call 165; refine (unhide HT).mono ?_; rintro e w3 ⟨v3, rfl, hown3, hb3⟩)
  generalize (w2.alloc (.cells #[.int .i64 1, .slice ae ne ce] 45)).alloc (.cells #[.int .i64 0, .int .i64 0, .bool false] 150) = W at *
  have bF := bF.below hb3 bF.lt
  have bE := bE.below hb3 bE.lt
  have hbw3 := hbw.trans (hb3.mono hbw.size)
  obtain ⟨av, cpv, rfl⟩ := ownsRow_slice hown3
  have a0 := bF.cell 0
  have a1 := bF.cell 1
  have a2 := bF.cell 2
  have f0 := bF.frozen 0
  have f1 := bF.frozen 1
  have f2 := bF.frozen 2
  have e0 := (bE.cell 0).trans (show _ = some (.int .i64 0) from rfl)
  have e1 := (bE.cell 1).trans (show _ = some (.int .i64 0) from rfl)
  have e2 := (bE.cell 2).trans (show _ = some (.bool false) from rfl)
  have bF3 := ((bF.set 0 (.int .i64 0)).set 1 (.int .i64 0)).set 2 (.bool false)
  have t0 := (bF3.cell 0).trans (show _ = some (.int .i64 0) from rfl)
  have t1 := (bF3.cell 1).trans (show _ = some (.int .i64 0) from rfl)
  have t2 := (bF3.cell 2).trans (show _ = some (.bool false) from rfl)
  have HB := hide (((hbw3.setCell (p := ⟨w.heap.size, 0, none⟩) (by simp) (.int .i64 0)).setCell (p := ⟨w.heap.size, 1, none⟩) (by simp) (.int .i64 0)).setCell (p := ⟨w.heap.size, 2, none⟩) (by simp) (.bool false))
  have HO := hide (ownsRow_mono (ownsRow_other (i := 2) (u := .bool false) (ownsRow_other (i := 1) (u := .int .i64 0) (ownsRow_other (i := 0) (u := .int .i64 0) hown3 bF (by decide)) (bF.set _ _) (by decide)) ((bF.set _ _).set _ _) (by decide)) hbw.size)
  clear bF bE bF3 hbw hbw3 hb3 hown3 bP
  go_region
  all_goals go_wp2
  all_goals refine bodyPost_ret (v := .tuple #[.slice av (nParts L.length) cpv, .agg #[.int .i64 0, .int .i64 0, .bool false]]) (by simp [results, Tryz.results163, go_sem, t0, t1, t2]) rfl ⟨_, rfl, ownsRow_below (unhide HO) (Below.refl _ _).drew (Nat.le_refl _), (unhide HB).drew⟩

end Go.Proofs.YtdnpeefnobjfaaaGreatDoor
