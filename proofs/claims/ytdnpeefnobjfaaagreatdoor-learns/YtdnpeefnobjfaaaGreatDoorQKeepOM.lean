/- The Book's keepOuts: the list is marked, and kept four times, each time one element longer. -/
import Derived.Test.YtdnpeefnobjfaaaGreatDoorQWideM
namespace Go.Proofs.YtdnpeefnobjfaaaGreatDoor
open Go.RowKit Go.Shelf
attribute [local go_sem ↓] Go.wp_at_zero Go.wp_at_succ

theorem lenO : ∀ m, (kdO.mark m).length = kdO.sz := fun _ => rfl
theorem oneO (M : Int) : ∀ u ∈ kdO.mark M, u.oneCell' = true := by
  intro u hu
  simp only [kdO, List.mem_cons, List.not_mem_nil, or_false] at hu
  rcases hu with rfl | rfl <;> rfl
/-- What is left behind. -/
structure KeptO (N : Nat) (col0 : Col) (w0 : World) (Bk : Nat) (s : Bks) (le lr lo li lp : List Itm) (w : World) : Prop where
  is : ∃ vR vM nw col, BookC (keptBut (N + 1)) col w Bk { s with m := s.m + 1, o := vR, om := vM } le lr (lo ++ nw) li lp ∧ nw.length = 4 ∧ Turns (fun x => x = 1 ∨ x = 24 ∨ x = 25 ∨ x = N) col0 col w0 w

set_option maxRecDepth 100000 in
set_option maxHeartbeats 4000000 in
theorem keepOuts_any {Bk n cap N : Nat} {ao : Option Addr} {s : Bks} {le lr lo li lp : List Itm} {col : Col} {w : World} {xs : List Value} (hb : BookC (keptBut N) col w Bk s le lr lo li lp) (ho : OwnC col N w 64 2 (.slice ao n cap) n xs) (hN : 100 ≤ N) (hn : n ≤ 1000) (hm0 : 0 ≤ s.m) (hm1 : s.m ≤ 1000000000000000000) (hit : ((lo.length + 4) + (lo.length + 4) / 4 + 192) * 24 ≤ 281474976710656) :
    Calls Tryz.prog 120 #[.pointer (some ⟨Bk, 0, none⟩), .slice ao n cap] w fun e w' => e = .returned (.tuple #[]) ∧ KeptO N col w Bk s le lr lo li lp w' := by
  have c0 : w.cell? ⟨Bk, 0, none⟩ = some (.int .i64 s.m) := Bks.cell hb.lies 0
  have f0 : w.frozen? ⟨Bk, 0, none⟩ = false := frozen_blk hb.lies
  have HB := hide hb
  have HH := hide (⟨by decide, by decide, by decide, hN⟩ : Hues 24 25 N)
  have hka0 : KA2 kdO N w col Bk n cap ao ({ s with m := s.m + 1 } : Bks).arr (-(s.m + 1)) 0 (w.setCell ⟨Bk, 0, none⟩ (.int .i64 (s.m + 1))) := KA2.start (κ := kdO) (M := -(s.m + 1)) (u := .int .i64 (s.m + 1)) (A := s.arr) hb.lies hb.hue (by omega) ho
  have HKA := hide hka0
  have kw : IntKind.i64.wrap (-(s.m + 1)) = -(s.m + 1) := by rw [IntKind.wrap_i64]; omega
  obtain ⟨iE, hiE, hE0, hE1, hE2⟩ := info_parts Tryz.info64
  obtain ⟨iS, hiS, hS0, hS1, hS2⟩ := info_parts Tryz.info46
  obtain ⟨iI, hiI, hI0, hI1, hI2⟩ := info_parts Tryz.info3
  have HN := hide hN
  have HIT := hide hit
  clear hb ho hka0 hN hit
  go_enter Tryz.func120, Tryz.ntmps120
  go_wp2_with fail
  obtain ⟨W, hWd⟩ : ∃ W, W = w.setCell ⟨Bk, 0, none⟩ (.int .i64 (s.m + 1)) := ⟨_, rfl⟩
  rw [← hWd]
  rw [← hWd] at HKA
  clear hWd c0 f0
  go_loopw [4] (fun j wr => ∃ k : Nat, k ≤ n ∧ j = .int .i64 k ∧ KA2 kdO N w col Bk n cap ao ({ s with m := s.m + 1 } : Bks).arr (-(s.m + 1)) k wr) (fun j _ => n - (intOf j).toNat)
  case atStart => exact ⟨0, by omega, rfl, unhide HKA⟩
  case round =>
    obtain ⟨k, hk, rfl, hka⟩ := hrel
    clear HKA
    have r0 : wr.cell? ⟨Bk, 0, none⟩ = some (.int .i64 (s.m + 1)) := (cell_of_row wr Bk 0 _ _ _ hka.lies).trans rfl
    by_cases hlt : k < n
    · rcases id hka.row with ⟨_, h0, _⟩ | ⟨g, rfl, hp, hnc, hcm, hBg, hgl⟩
      · omega
      · obtain ⟨⟨v0, c0⟩, f0⟩ := partK_cells hp (k * 2) (by show _ < cap * 2; omega)
        obtain ⟨⟨v1, c1⟩, f1⟩ := partK_cells hp (k * 2 + 1) (by show _ < cap * 2; omega)
        have j0 : (0 : Int) ≤ (k : Int) := by omega
        have j1 : (k : Int) < (n : Int) := by omega
        have HK := hide hka
        clear hka hp hBg hgl
        go_wp2
        go_roundw
        case rel => exact ⟨k + 1, by omega, by go_num, KA2.step lenO (unhide HK) (by have := unhide HN; omega) hlt⟩
        case measure => simp [intOf]; omega
    · obtain rfl : k = n := by omega
      have hks0 : KPS kdO 5 24 25 N w col Bk k ({ s with m := s.m + 1 } : Bks).arr lo [] lo lo (-(s.m + 1)) 0 ao cap s.o s.om col wr := KPS.start lenO (by decide) hka (unhide HH) (unhide HB).out rfl
      have HKS := hide hks0
      clear hka r0 hlt hk hks0
      go_wp2_with fail
      go_loopw [1, 5] (fun l j wr => ∃ (i : Nat) (a : Option Addr) (c : Nat) (vR vM : Value) (nw : List Itm) (col' : Col), i ≤ 4 ∧ j = .int .i64 i ∧ l = .slice a (k + i) c ∧ nw.length = i ∧ KPS kdO 5 24 25 N w col Bk k ({ s with m := s.m + 1 } : Bks).arr lo nw (lo ++ nw) (lo ++ nw) (-(s.m + 1)) i a c vR vM col' wr) (fun _ j _ => 4 - (intOf j).toNat)
      case atStart => exact ⟨0, _, _, _, _, [], _, by omega, rfl, rfl, rfl, by rw [List.append_nil]; exact unhide HKS⟩
      case round =>
        obtain ⟨i, a, c, vR, vM, nw, col', hi, rfl, rfl, hnw, hks⟩ := hrel
        clear HKS
        by_cases hlt : i < 4
        · obtain ⟨ae, ce, ge, hve, _, _⟩ := row_form hks.rows.1
          obtain ⟨Q, hQ⟩ : ∃ Q, (lo ++ nw).length = Q := ⟨_, rfl⟩
          obtain ⟨hQb, hQ8, hQm⟩ := wide_room (Q := Q) (unhide HIT) hlt (show lo.length + i = Q by rw [← hQ, List.length_append, hnw])
          have HQB := hide hQb
          have HQM := hide hQm
          have HQ8 := hide hQ8
          clear hQb hQ8 hQm
          rw [hQ] at hve
          have k1 : wr.cell? ⟨Bk, 5, none⟩ = some (.slice ae Q ce) := ((cell_of_row wr Bk 5 _ _ _ hks.lies).trans rfl).trans (congrArg some hve)
          have fk1 : wr.frozen? ⟨Bk, 5, none⟩ = false := frozen_blk hks.lies
          have hsz : Bk < wr.heap.size := lt_of_block hks.lies
          have HOWN := hide (show wr.ownsRow 0 46 1 (.slice ae Q ce) Q ((lo ++ nw).map Itm.val) by rw [← hve, ← hQ]; exact hks.rows.1)
          have NB1 : Hid ((Value.slice ae Q ce).ownBlock ≠ some Bk) := by
            rw [Hid, ← hve]
            exact fun h => absurd ((hks.rows.2 Bk h).symm.trans hks.hue) (by decide)
          have HRW := hide (fun (w5 : World) (o : Obj) (g5 c5 : Nat) (h1 : w5.ownsRow 0 46 1 (.slice (some ⟨g5, 0, none⟩) (Q + 1) c5) (Q + 1) ((lo ++ nw).map Itm.val ++ [.slice a (k + i) c])) (h2 : (wr.alloc o).grownBy w5 (Value.slice ae Q ce).ownBlock) (h3 : (Value.slice ae Q ce).ownBlock = some g5 ∨ g5 = wr.heap.size + 1) => (show KPS kdO 5 24 25 N w col Bk k ({ s with m := s.m + 1 } : Bks).arr lo nw ((lo ++ nw) ++ [⟨a, k + i, c, -(s.m + 1)⟩]) (lo ++ nw) (-(s.m + 1)) i a c (.slice (some ⟨g5, 0, none⟩) (Q + 1) c5) vM (paint col' wr.heap.size 24) (w5.setCell ⟨Bk, 5, none⟩ (.slice (some ⟨g5, 0, none⟩) (Q + 1) c5)) by
            subst hQ
            rw [← hve] at h2 h3
            exact hks.rowed (unhide HH) h1 (grown_of_alloc2 h2) (h3.imp id (fun e => by omega))))
          have HQ := hide hQ
          have HNW := hide hnw
          clear hve hks hQ hnw
          have hkb : 0 ≤ k + i := by omega
          go_wp2_with (first | (at_builtin; refine wpList_append_far _ rfl (.tmp 37) (.tmp 39) 80 rfl 0 46 iS (.slice none 0 0) 1 24 Tryz.underlying80 hiS hS0 hS1 hS2 rfl (by decide) (.slice ae Q ce) Q ((lo ++ nw).map Itm.val) rfl (by exact (unhide HOWN).alloc _) ⟨wr.heap.size, 0, none⟩ 1 1 [.slice a (k + i) c] rfl rfl (by exact World.news_of_block (heap_alloc_new wr _)) (by intro u hu; simp at hu; subst hu; rfl) (by decide) (unhide HQM) (unhide HQB) (by simp) (wr.heap.size + 1) (by simp) ?_; intro g5 c5 w5 hown5 hg5 hat5 hlt5; have p1 : w5.cell? ⟨Bk, 5, none⟩ = some (.slice ae Q ce) := (hg5.cell (by exact ((below_new wr _).cell (p := ⟨Bk, 5, none⟩) hsz).trans k1) (Ne.symm (unhide NB1))); have p2 : w5.frozen? ⟨Bk, 5, none⟩ = false := (by rw [hg5.frozen_far _ (by simp; omega) (Ne.symm (unhide NB1))]; exact ((below_new wr _).frozen (p := ⟨Bk, 5, none⟩) hsz).trans fk1); have R1 := hide (unhide HRW w5 _ g5 c5 hown5 hg5 hat5); clear hown5 hg5 hat5))
          have hkh := unhide R1
          clear R1 HOWN NB1 HRW k1 fk1 hsz p1 p2 hlt5
          generalize w5.setCell ⟨Bk, 5, none⟩ (.slice (some ⟨g5, 0, none⟩) (Q + 1) c5) = wc at *
          obtain ⟨am, cm, gm, hvm, _, _⟩ := row_form hkh.marks.1
          rw [unhide HQ] at hvm
          have k0 : wc.cell? ⟨Bk, 0, none⟩ = some (.int .i64 (s.m + 1)) := (cell_of_row wc Bk 0 _ _ _ hkh.lies).trans rfl
          have k2 : wc.cell? ⟨Bk, 6, none⟩ = some (.slice am Q cm) := ((cell_of_row wc Bk 6 _ _ _ hkh.lies).trans rfl).trans (congrArg some hvm)
          have hsz2 : Bk < wc.heap.size := lt_of_block hkh.lies
          have fk2 : wc.frozen? ⟨Bk, 6, none⟩ = false := frozen_blk hkh.lies
          have K2 := hide (fun o => ((below_new wc o).cell (p := ⟨Bk, 6, none⟩) hsz2).trans k2)
          have FK2 := hide (fun o => ((below_new wc o).frozen (p := ⟨Bk, 6, none⟩) hsz2).trans fk2)
          have NB2 : Hid ((Value.slice am Q cm).ownBlock ≠ some Bk) := by
            rw [Hid, ← hvm]
            exact fun h => absurd ((hkh.marks.2 Bk h).symm.trans hkh.hue) (by decide)
          have HOWN2 := hide (show wc.ownsRow 0 3 1 (.slice am Q cm) Q ((lo ++ nw).map fun t => .int .i64 t.m) by rw [← hvm, ← unhide HQ]; exact hkh.marks.1)
          have HKM := hide (fun (w5 : World) (o : Obj) (g5' c5' : Nat) (h1 : w5.ownsRow 0 3 1 (.slice (some ⟨g5', 0, none⟩) (Q + 1) c5') (Q + 1) (((lo ++ nw).map fun t => .int .i64 t.m) ++ [.int .i64 (-(s.m + 1))])) (h2 : (wc.alloc o).drew.grownBy w5 (Value.slice am Q cm).ownBlock) (h3 : (Value.slice am Q cm).ownBlock = some g5' ∨ g5' = wc.heap.size + 1) => (show KPS kdO 5 24 25 N w col Bk k ({ s with m := s.m + 1 } : Bks).arr lo nw ((lo ++ nw) ++ [⟨a, k + i, c, -(s.m + 1)⟩]) ((lo ++ nw) ++ [⟨a, k + i, c, -(s.m + 1)⟩]) (-(s.m + 1)) i a c (.slice (some ⟨g5, 0, none⟩) (Q + 1) c5) (.slice (some ⟨g5', 0, none⟩) (Q + 1) c5') (paint (paint col' wr.heap.size 24) wc.heap.size 25) (w5.setCell ⟨Bk, 6, none⟩ (.slice (some ⟨g5', 0, none⟩) (Q + 1) c5')) by
            have hQ := unhide HQ
            subst hQ
            rw [← hvm] at h2 h3
            exact hkh.marked (unhide HH) h1 (grown_boxed2 h2) (h3.imp id (fun e => by omega))))
          clear hvm hkh
          go_region_law ((refine step_append_lies _ (by rfl) (.tmp 47) (.tmp 53) 22 (by rfl) 0 3 iI (.int .i64 0) 1 8 Tryz.underlying22 hiI hI0 hI1 hI2 rfl (by decide) (.slice am Q cm) Q ((lo ++ nw).map fun t => .int .i64 t.m) (by rfl) (by exact (unhide HOWN2).alloc _) ⟨wc.heap.size, 0, none⟩ 1 1 [.int .i64 (-(s.m + 1))] (by rfl) rfl (by exact World.news_of_block (heap_alloc_new wc _)) (by intro u hu; simp at hu; subst hu; rfl) (by decide) (unhide HQM) (unhide HQ8) (by simp) (wc.heap.size + 1) (by simp) ?_; intro g6 c6 w6 hown6 hg6 hat6 hlt6; have p1 : w6.cell? ⟨Bk, 6, none⟩ = some (.slice am Q cm) := (hg6.cell (by exact unhide K2 _) (Ne.symm (unhide NB2))); have p2 : w6.frozen? ⟨Bk, 6, none⟩ = false := (by rw [hg6.frozen_far _ (by simp; omega) (Ne.symm (unhide NB2))]; exact unhide FK2 _); have R2 := hide (unhide HKM w6 _ g6 c6 hown6 hg6 hat6); clear hown6 hg6 hat6))
          all_goals
            have hkm := unhide R2
            clear R2 HKM K2 FK2 NB2 HOWN2 k0 k2 fk2 hsz2 p1 p2 hlt6
            generalize w6.setCell ⟨Bk, 6, none⟩ (.slice (some ⟨g6, 0, none⟩) (Q + 1) c6) = wd at *
            have k0 : wd.cell? ⟨Bk, 0, none⟩ = some (.int .i64 (s.m + 1)) := (cell_of_row wd Bk 0 _ _ _ hkm.lies).trans rfl
            have HROW := hide (show wd.ownsRow 0 64 2 (.slice a (k + i) c) (k + i) (kdO.full (k + i) (-(s.m + 1))) from hkm.row.1)
            have HNX := hide (fun (w6 : World) (o : Obj) (g6 c6 : Nat) h1 h2 => KPS.next lenO (w6 := w6) (o := o) (g6 := g6) (c6 := c6) hkm (unhide HH) h1 h2)
            clear hkm
            go_wp2_with (first | (at_builtin; refine wpList_append_either2 _ rfl (.tmp 57) (.tmp 64) 46 rfl 0 64 iE (.agg #[.int .i64 0, .string ⟨#[]⟩]) 2 24 Tryz.underlying46 hiE hE0 hE1 hE2 rfl (by decide) a (k + i) c (kdO.full (k + i) (-(s.m + 1))) rfl (by exact (unhide HROW).alloc _) ⟨wd.heap.size, 0, none⟩ 1 1 (kdO.mark (-(s.m + 1))) rfl rfl (by exact World.news_of_block (heap_alloc_new wd _)) (oneO _) (by decide) (by unfold maxLen; omega) (by omega) (by simp) ?_; intro g7 c7 w7 hown7 hg7; have R3 := hide (unhide HNX w7 _ g7 c7 hown7 hg7); clear hown7 hg7))
            go_roundw
            case rel => exact ⟨i + 1, _, _, _, _, nw ++ [⟨a, k + i, c, -(s.m + 1)⟩], _, by omega, by go_num, rfl, by rw [List.length_append, unhide HNW]; rfl, by rw [← List.append_assoc]; exact unhide R3⟩
            case measure => simp [intOf]; omega
        · obtain rfl : i = 4 := by omega
          have HK := hide hks
          have HNW := hide hnw
          clear hks hnw
          go_wp2
          have hks := unhide HK
          have hb := unhide HB
          have hN := unhide HN
          refine bodyPost_end (v := .tuple #[]) (by simp [results, Tryz.results120, go_sem]) rfl ⟨rfl, ⟨vR, vM, nw, col', ⟨hks.lies, hks.hue, hb.lent, hb.was, (hb.ent.turn hks.turn (by omega) (by omega) (fun x hx => by have := hx.1; have := hx.2; omega)).mono (fun k _ hk => ⟨hk.1, by have := hk.2; omega⟩), (hb.rou.turn hks.turn (by omega) (by omega) (fun x hx => by have := hx.1; have := hx.2; omega)).mono (fun k _ hk => ⟨hk.1, by have := hk.2; omega⟩), hks.done (unhide HH) rfl rfl hb.out.small (by omega), (hb.int.turn hks.turn (by omega) (by omega) (fun x hx => by have := hx.1; have := hx.2; omega)).mono (fun k _ hk => ⟨hk.1, by have := hk.2; omega⟩), (hb.pfx.turn hks.turn (by omega) (by omega) (fun x hx => by have := hx.1; have := hx.2; omega)).mono (fun k _ hk => ⟨hk.1, by have := hk.2; omega⟩)⟩, unhide HNW, hks.turn⟩⟩

end Go.Proofs.YtdnpeefnobjfaaaGreatDoor

/- The Book's keepRoutes: the list is marked, and kept four times, each time one element longer. -/
namespace Go.Proofs.YtdnpeefnobjfaaaGreatDoor
open Go.RowKit Go.Shelf
attribute [local go_sem ↓] Go.wp_at_zero Go.wp_at_succ

theorem lenR : ∀ m, (kdR.mark m).length = kdR.sz := fun _ => rfl
theorem oneR (M : Int) : ∀ u ∈ kdR.mark M, u.oneCell' = true := by
  intro u hu
  simp only [kdR, List.mem_cons, List.not_mem_nil, or_false] at hu
  rcases hu with rfl | rfl | rfl | rfl | rfl <;> rfl
/-- What is left behind. -/
structure KeptR (N : Nat) (col0 : Col) (w0 : World) (Bk : Nat) (s : Bks) (le lr lo li lp : List Itm) (w : World) : Prop where
  is : ∃ vR vM nw col, BookC (keptBut (N + 1)) col w Bk { s with m := s.m + 1, r := vR, rm := vM } le (lr ++ nw) lo li lp ∧ nw.length = 4 ∧ Turns (fun x => x = 1 ∨ x = 22 ∨ x = 23 ∨ x = N) col0 col w0 w

set_option maxRecDepth 100000 in
set_option maxHeartbeats 4000000 in
theorem keepRoutes_any {Bk n cap N : Nat} {ao : Option Addr} {s : Bks} {le lr lo li lp : List Itm} {col : Col} {w : World} {xs : List Value} (hb : BookC (keptBut N) col w Bk s le lr lo li lp) (ho : OwnC col N w 52 5 (.slice ao n cap) n xs) (hN : 100 ≤ N) (hn : n ≤ 1000) (hm0 : 0 ≤ s.m) (hm1 : s.m ≤ 1000000000000000000) (hit : ((lr.length + 4) + (lr.length + 4) / 4 + 192) * 24 ≤ 281474976710656) :
    Calls Tryz.prog 73 #[.pointer (some ⟨Bk, 0, none⟩), .slice ao n cap] w fun e w' => e = .returned (.tuple #[]) ∧ KeptR N col w Bk s le lr lo li lp w' := by
  have c0 : w.cell? ⟨Bk, 0, none⟩ = some (.int .i64 s.m) := Bks.cell hb.lies 0
  have f0 : w.frozen? ⟨Bk, 0, none⟩ = false := frozen_blk hb.lies
  have HB := hide hb
  have HH := hide (⟨by decide, by decide, by decide, hN⟩ : Hues 22 23 N)
  have hka0 : KA2 kdR N w col Bk n cap ao ({ s with m := s.m + 1 } : Bks).arr (-(s.m + 1)) 0 (w.setCell ⟨Bk, 0, none⟩ (.int .i64 (s.m + 1))) := KA2.start (κ := kdR) (M := -(s.m + 1)) (u := .int .i64 (s.m + 1)) (A := s.arr) hb.lies hb.hue (by omega) ho
  have HKA := hide hka0
  have kw : IntKind.i64.wrap (-(s.m + 1)) = -(s.m + 1) := by rw [IntKind.wrap_i64]; omega
  obtain ⟨iE, hiE, hE0, hE1, hE2⟩ := info_parts Tryz.info52
  obtain ⟨iS, hiS, hS0, hS1, hS2⟩ := info_parts Tryz.info57
  obtain ⟨iI, hiI, hI0, hI1, hI2⟩ := info_parts Tryz.info3
  have HN := hide hN
  have HIT := hide hit
  clear hb ho hka0 hN hit
  go_enter Tryz.func73, Tryz.ntmps73
  go_wp2_with fail
  obtain ⟨W, hWd⟩ : ∃ W, W = w.setCell ⟨Bk, 0, none⟩ (.int .i64 (s.m + 1)) := ⟨_, rfl⟩
  rw [← hWd]
  rw [← hWd] at HKA
  clear hWd c0 f0
  go_loopw [4] (fun j wr => ∃ k : Nat, k ≤ n ∧ j = .int .i64 k ∧ KA2 kdR N w col Bk n cap ao ({ s with m := s.m + 1 } : Bks).arr (-(s.m + 1)) k wr) (fun j _ => n - (intOf j).toNat)
  case atStart => exact ⟨0, by omega, rfl, unhide HKA⟩
  case round =>
    obtain ⟨k, hk, rfl, hka⟩ := hrel
    clear HKA
    have r0 : wr.cell? ⟨Bk, 0, none⟩ = some (.int .i64 (s.m + 1)) := (cell_of_row wr Bk 0 _ _ _ hka.lies).trans rfl
    by_cases hlt : k < n
    · rcases id hka.row with ⟨_, h0, _⟩ | ⟨g, rfl, hp, hnc, hcm, hBg, hgl⟩
      · omega
      · obtain ⟨⟨v0, c0⟩, f0⟩ := partK_cells hp (k * 5) (by show _ < cap * 5; omega)
        obtain ⟨⟨v1, c1⟩, f1⟩ := partK_cells hp (k * 5 + 1) (by show _ < cap * 5; omega)
        obtain ⟨⟨v2, c2⟩, f2⟩ := partK_cells hp (k * 5 + 2) (by show _ < cap * 5; omega)
        obtain ⟨⟨v3, c3⟩, f3⟩ := partK_cells hp (k * 5 + 3) (by show _ < cap * 5; omega)
        obtain ⟨⟨v4, c4⟩, f4⟩ := partK_cells hp (k * 5 + 4) (by show _ < cap * 5; omega)
        have j0 : (0 : Int) ≤ (k : Int) := by omega
        have j1 : (k : Int) < (n : Int) := by omega
        have HK := hide hka
        clear hka hp hBg hgl
        go_wp2
        go_roundw
        case rel => exact ⟨k + 1, by omega, by go_num, KA2.step lenR (unhide HK) (by have := unhide HN; omega) hlt⟩
        case measure => simp [intOf]; omega
    · obtain rfl : k = n := by omega
      have hks0 : KPS kdR 3 22 23 N w col Bk k ({ s with m := s.m + 1 } : Bks).arr lr [] lr lr (-(s.m + 1)) 0 ao cap s.r s.rm col wr := KPS.start lenR (by decide) hka (unhide HH) (unhide HB).rou rfl
      have HKS := hide hks0
      clear hka r0 hlt hk hks0
      go_wp2_with fail
      go_loopw [1, 5] (fun l j wr => ∃ (i : Nat) (a : Option Addr) (c : Nat) (vR vM : Value) (nw : List Itm) (col' : Col), i ≤ 4 ∧ j = .int .i64 i ∧ l = .slice a (k + i) c ∧ nw.length = i ∧ KPS kdR 3 22 23 N w col Bk k ({ s with m := s.m + 1 } : Bks).arr lr nw (lr ++ nw) (lr ++ nw) (-(s.m + 1)) i a c vR vM col' wr) (fun _ j _ => 4 - (intOf j).toNat)
      case atStart => exact ⟨0, _, _, _, _, [], _, by omega, rfl, rfl, rfl, by rw [List.append_nil]; exact unhide HKS⟩
      case round =>
        obtain ⟨i, a, c, vR, vM, nw, col', hi, rfl, rfl, hnw, hks⟩ := hrel
        clear HKS
        by_cases hlt : i < 4
        · obtain ⟨ae, ce, ge, hve, _, _⟩ := row_form hks.rows.1
          obtain ⟨Q, hQ⟩ : ∃ Q, (lr ++ nw).length = Q := ⟨_, rfl⟩
          obtain ⟨hQb, hQ8, hQm⟩ := wide_room (Q := Q) (unhide HIT) hlt (show lr.length + i = Q by rw [← hQ, List.length_append, hnw])
          have HQB := hide hQb
          have HQM := hide hQm
          have HQ8 := hide hQ8
          clear hQb hQ8 hQm
          rw [hQ] at hve
          have k1 : wr.cell? ⟨Bk, 3, none⟩ = some (.slice ae Q ce) := ((cell_of_row wr Bk 3 _ _ _ hks.lies).trans rfl).trans (congrArg some hve)
          have fk1 : wr.frozen? ⟨Bk, 3, none⟩ = false := frozen_blk hks.lies
          have hsz : Bk < wr.heap.size := lt_of_block hks.lies
          have HOWN := hide (show wr.ownsRow 0 57 1 (.slice ae Q ce) Q ((lr ++ nw).map Itm.val) by rw [← hve, ← hQ]; exact hks.rows.1)
          have NB1 : Hid ((Value.slice ae Q ce).ownBlock ≠ some Bk) := by
            rw [Hid, ← hve]
            exact fun h => absurd ((hks.rows.2 Bk h).symm.trans hks.hue) (by decide)
          have HRW := hide (fun (w5 : World) (o : Obj) (g5 c5 : Nat) (h1 : w5.ownsRow 0 57 1 (.slice (some ⟨g5, 0, none⟩) (Q + 1) c5) (Q + 1) ((lr ++ nw).map Itm.val ++ [.slice a (k + i) c])) (h2 : (wr.alloc o).grownBy w5 (Value.slice ae Q ce).ownBlock) (h3 : (Value.slice ae Q ce).ownBlock = some g5 ∨ g5 = wr.heap.size + 1) => (show KPS kdR 3 22 23 N w col Bk k ({ s with m := s.m + 1 } : Bks).arr lr nw ((lr ++ nw) ++ [⟨a, k + i, c, -(s.m + 1)⟩]) (lr ++ nw) (-(s.m + 1)) i a c (.slice (some ⟨g5, 0, none⟩) (Q + 1) c5) vM (paint col' wr.heap.size 22) (w5.setCell ⟨Bk, 3, none⟩ (.slice (some ⟨g5, 0, none⟩) (Q + 1) c5)) by
            subst hQ
            rw [← hve] at h2 h3
            exact hks.rowed (unhide HH) h1 (grown_of_alloc2 h2) (h3.imp id (fun e => by omega))))
          have HQ := hide hQ
          have HNW := hide hnw
          clear hve hks hQ hnw
          have hkb : 0 ≤ k + i := by omega
          go_wp2_with (first | (at_builtin; refine wpList_append_far _ rfl (.tmp 37) (.tmp 39) 79 rfl 0 57 iS (.slice none 0 0) 1 24 Tryz.underlying79 hiS hS0 hS1 hS2 rfl (by decide) (.slice ae Q ce) Q ((lr ++ nw).map Itm.val) rfl (by exact (unhide HOWN).alloc _) ⟨wr.heap.size, 0, none⟩ 1 1 [.slice a (k + i) c] rfl rfl (by exact World.news_of_block (heap_alloc_new wr _)) (by intro u hu; simp at hu; subst hu; rfl) (by decide) (unhide HQM) (unhide HQB) (by simp) (wr.heap.size + 1) (by simp) ?_; intro g5 c5 w5 hown5 hg5 hat5 hlt5; have p1 : w5.cell? ⟨Bk, 3, none⟩ = some (.slice ae Q ce) := (hg5.cell (by exact ((below_new wr _).cell (p := ⟨Bk, 3, none⟩) hsz).trans k1) (Ne.symm (unhide NB1))); have p2 : w5.frozen? ⟨Bk, 3, none⟩ = false := (by rw [hg5.frozen_far _ (by simp; omega) (Ne.symm (unhide NB1))]; exact ((below_new wr _).frozen (p := ⟨Bk, 3, none⟩) hsz).trans fk1); have R1 := hide (unhide HRW w5 _ g5 c5 hown5 hg5 hat5); clear hown5 hg5 hat5))
          have hkh := unhide R1
          clear R1 HOWN NB1 HRW k1 fk1 hsz p1 p2 hlt5
          generalize w5.setCell ⟨Bk, 3, none⟩ (.slice (some ⟨g5, 0, none⟩) (Q + 1) c5) = wc at *
          obtain ⟨am, cm, gm, hvm, _, _⟩ := row_form hkh.marks.1
          rw [unhide HQ] at hvm
          have k0 : wc.cell? ⟨Bk, 0, none⟩ = some (.int .i64 (s.m + 1)) := (cell_of_row wc Bk 0 _ _ _ hkh.lies).trans rfl
          have k2 : wc.cell? ⟨Bk, 4, none⟩ = some (.slice am Q cm) := ((cell_of_row wc Bk 4 _ _ _ hkh.lies).trans rfl).trans (congrArg some hvm)
          have hsz2 : Bk < wc.heap.size := lt_of_block hkh.lies
          have fk2 : wc.frozen? ⟨Bk, 4, none⟩ = false := frozen_blk hkh.lies
          have K2 := hide (fun o => ((below_new wc o).cell (p := ⟨Bk, 4, none⟩) hsz2).trans k2)
          have FK2 := hide (fun o => ((below_new wc o).frozen (p := ⟨Bk, 4, none⟩) hsz2).trans fk2)
          have NB2 : Hid ((Value.slice am Q cm).ownBlock ≠ some Bk) := by
            rw [Hid, ← hvm]
            exact fun h => absurd ((hkh.marks.2 Bk h).symm.trans hkh.hue) (by decide)
          have HOWN2 := hide (show wc.ownsRow 0 3 1 (.slice am Q cm) Q ((lr ++ nw).map fun t => .int .i64 t.m) by rw [← hvm, ← unhide HQ]; exact hkh.marks.1)
          have HKM := hide (fun (w5 : World) (o : Obj) (g5' c5' : Nat) (h1 : w5.ownsRow 0 3 1 (.slice (some ⟨g5', 0, none⟩) (Q + 1) c5') (Q + 1) (((lr ++ nw).map fun t => .int .i64 t.m) ++ [.int .i64 (-(s.m + 1))])) (h2 : (wc.alloc o).drew.grownBy w5 (Value.slice am Q cm).ownBlock) (h3 : (Value.slice am Q cm).ownBlock = some g5' ∨ g5' = wc.heap.size + 1) => (show KPS kdR 3 22 23 N w col Bk k ({ s with m := s.m + 1 } : Bks).arr lr nw ((lr ++ nw) ++ [⟨a, k + i, c, -(s.m + 1)⟩]) ((lr ++ nw) ++ [⟨a, k + i, c, -(s.m + 1)⟩]) (-(s.m + 1)) i a c (.slice (some ⟨g5, 0, none⟩) (Q + 1) c5) (.slice (some ⟨g5', 0, none⟩) (Q + 1) c5') (paint (paint col' wr.heap.size 22) wc.heap.size 23) (w5.setCell ⟨Bk, 4, none⟩ (.slice (some ⟨g5', 0, none⟩) (Q + 1) c5')) by
            have hQ := unhide HQ
            subst hQ
            rw [← hvm] at h2 h3
            exact hkh.marked (unhide HH) h1 (grown_boxed2 h2) (h3.imp id (fun e => by omega))))
          clear hvm hkh
          go_region_law ((refine step_append_lies _ (by rfl) (.tmp 47) (.tmp 53) 22 (by rfl) 0 3 iI (.int .i64 0) 1 8 Tryz.underlying22 hiI hI0 hI1 hI2 rfl (by decide) (.slice am Q cm) Q ((lr ++ nw).map fun t => .int .i64 t.m) (by rfl) (by exact (unhide HOWN2).alloc _) ⟨wc.heap.size, 0, none⟩ 1 1 [.int .i64 (-(s.m + 1))] (by rfl) rfl (by exact World.news_of_block (heap_alloc_new wc _)) (by intro u hu; simp at hu; subst hu; rfl) (by decide) (unhide HQM) (unhide HQ8) (by simp) (wc.heap.size + 1) (by simp) ?_; intro g6 c6 w6 hown6 hg6 hat6 hlt6; have p1 : w6.cell? ⟨Bk, 4, none⟩ = some (.slice am Q cm) := (hg6.cell (by exact unhide K2 _) (Ne.symm (unhide NB2))); have p2 : w6.frozen? ⟨Bk, 4, none⟩ = false := (by rw [hg6.frozen_far _ (by simp; omega) (Ne.symm (unhide NB2))]; exact unhide FK2 _); have R2 := hide (unhide HKM w6 _ g6 c6 hown6 hg6 hat6); clear hown6 hg6 hat6))
          all_goals
            have hkm := unhide R2
            clear R2 HKM K2 FK2 NB2 HOWN2 k0 k2 fk2 hsz2 p1 p2 hlt6
            generalize w6.setCell ⟨Bk, 4, none⟩ (.slice (some ⟨g6, 0, none⟩) (Q + 1) c6) = wd at *
            have k0 : wd.cell? ⟨Bk, 0, none⟩ = some (.int .i64 (s.m + 1)) := (cell_of_row wd Bk 0 _ _ _ hkm.lies).trans rfl
            have HROW := hide (show wd.ownsRow 0 52 5 (.slice a (k + i) c) (k + i) (kdR.full (k + i) (-(s.m + 1))) from hkm.row.1)
            have HNX := hide (fun (w6 : World) (o : Obj) (g6 c6 : Nat) h1 h2 => KPS.next lenR (w6 := w6) (o := o) (g6 := g6) (c6 := c6) hkm (unhide HH) h1 h2)
            clear hkm
            go_wp2_with (first | (at_builtin; refine wpList_append_either2 _ rfl (.tmp 57) (.tmp 64) 57 rfl 0 52 iE (.agg #[.int .u32 0, .int .i64 0, .int .i64 0, .int .i64 0, .int .i64 0]) 5 40 Tryz.underlying57 hiE hE0 hE1 hE2 rfl (by decide) a (k + i) c (kdR.full (k + i) (-(s.m + 1))) rfl (by exact (unhide HROW).alloc _) ⟨wd.heap.size, 0, none⟩ 1 1 (kdR.mark (-(s.m + 1))) rfl rfl (by exact World.news_of_block (heap_alloc_new wd _)) (oneR _) (by decide) (by unfold maxLen; omega) (by omega) (by simp) ?_; intro g7 c7 w7 hown7 hg7; have R3 := hide (unhide HNX w7 _ g7 c7 hown7 hg7); clear hown7 hg7))
            go_roundw
            case rel => exact ⟨i + 1, _, _, _, _, nw ++ [⟨a, k + i, c, -(s.m + 1)⟩], _, by omega, by go_num, rfl, by rw [List.length_append, unhide HNW]; rfl, by rw [← List.append_assoc]; exact unhide R3⟩
            case measure => simp [intOf]; omega
        · obtain rfl : i = 4 := by omega
          have HK := hide hks
          have HNW := hide hnw
          clear hks hnw
          go_wp2
          have hks := unhide HK
          have hb := unhide HB
          have hN := unhide HN
          refine bodyPost_end (v := .tuple #[]) (by simp [results, Tryz.results73, go_sem]) rfl ⟨rfl, ⟨vR, vM, nw, col', ⟨hks.lies, hks.hue, hb.lent, hb.was, (hb.ent.turn hks.turn (by omega) (by omega) (fun x hx => by have := hx.1; have := hx.2; omega)).mono (fun k _ hk => ⟨hk.1, by have := hk.2; omega⟩), hks.done (unhide HH) rfl rfl hb.rou.small (by omega), (hb.out.turn hks.turn (by omega) (by omega) (fun x hx => by have := hx.1; have := hx.2; omega)).mono (fun k _ hk => ⟨hk.1, by have := hk.2; omega⟩), (hb.int.turn hks.turn (by omega) (by omega) (fun x hx => by have := hx.1; have := hx.2; omega)).mono (fun k _ hk => ⟨hk.1, by have := hk.2; omega⟩), (hb.pfx.turn hks.turn (by omega) (by omega) (fun x hx => by have := hx.1; have := hx.2; omega)).mono (fun k _ hk => ⟨hk.1, by have := hk.2; omega⟩)⟩, unhide HNW, hks.turn⟩⟩

end Go.Proofs.YtdnpeefnobjfaaaGreatDoor
