/- What packet.readEntries, packet.Decode and milepost.Decode answer. -/
import Derived.Test.YtdnpeefnobjfaaaGreatDoorDMathM
import Derived.Lib.Strings
namespace Go.Proofs.YtdnpeefnobjfaaaGreatDoor
open Go.RowKit
attribute [local go_sem ↓] Go.wp_at_zero Go.wp_at_succ

theorem sub_sh {b c : List UInt8} {k i : Nat} (h : ∀ j, j < 20 → bt c j = bt b (k + j)) (hi : i + 1 < 20) : sh c i = sh b (k + i) := by
  unfold sh; rw [h i (by omega), h (i + 1) hi, Nat.add_assoc]
theorem sub_wd {b c : List UInt8} {k i : Nat} (h : ∀ j, j < 20 → bt c j = bt b (k + j)) (hi : i + 3 < 20) : wd c i = wd b (k + i) := by
  unfold wd; rw [sub_sh h (by omega), sub_sh h (i := i + 2) (by omega), Nat.add_assoc]
theorem sub_err {b c : List UInt8} {k : Nat} (h : ∀ j, j < 20 → bt c j = bt b (k + j)) : errAt c 0 = errAt b k := by
  unfold errAt
  rw [sub_sh h (i := 0) (by omega), sub_wd h (i := 0 + 4) (by omega), sub_wd h (i := 0 + 8) (by omega), sub_wd h (i := 0 + 12) (by omega), sub_wd h (i := 0 + 16) (by omega)]
  simp only [Nat.zero_add, Nat.add_zero]
theorem sub_ent {b c : List UInt8} {k : Nat} (h : ∀ j, j < 20 → bt c j = bt b (k + j)) : entAt c 0 = entAt b k := by
  unfold entAt
  rw [sub_wd h (i := 0 + 4) (by omega), sub_wd h (i := 0 + 8) (by omega), sub_sh h (i := 0 + 2) (by omega), sub_wd h (i := 0 + 16) (by omega)]
theorem bt_extract (s : ByteArray) (a c j : Nat) (hj : a + j < c) (_hc : c ≤ s.size) : bt (s.extract a c).data.toList j = bt s.data.toList (a + j) := by
  rw [Lib.extract_data]
  unfold bt
  rw [List.getD_eq_getElem?_getD, List.getElem?_take, if_pos (by omega), List.getElem?_drop, ← List.getD_eq_getElem?_getD]

/-- An entry is written. -/
def putE (w : World) (g o : Nat) (e : Ent) : World := (((w.setCell ⟨g, o, none⟩ (.int .u32 e.addr)).setCell ⟨g, o + 1, none⟩ (.int .i64 e.len)).setCell ⟨g, o + 2, none⟩ (.int .i64 e.tag)).setCell ⟨g, o + 3, none⟩ (.int .i64 e.met)
theorem grown_putE (w : World) (g o : Nat) (e : Ent) : w.grownBy (putE w g o e) (some g) := grown_trans (grown_trans (grown_trans (grown_set _ _ _ _) (grown_set _ _ _ _)) (grown_set _ _ _ _)) (grown_set _ _ _ _)
/-- The first k of N entries are there. -/
def part (w : World) (g N : Nat) (f : Nat → Ent) (k : Nat) : Prop := ∃ cur, w.heap[g]? = some (.cells cur 42 (0, 0)) ∧ cur.size = N * 4 ∧ ∀ j, j < k → cellsAt cur (j * 4) (f j)
theorem part_keep {w w1 : World} {g N k : Nat} {f : Nat → Ent} (h : part w g N f k) (hk : w1.heap[g]? = w.heap[g]?) : part w1 g N f k := by
  obtain ⟨cur, hg, hr⟩ := h; exact ⟨cur, hk.trans hg, hr⟩
theorem part_lt {w : World} {g N k : Nat} {f : Nat → Ent} (h : part w g N f k) : g < w.heap.size := by obtain ⟨cur, hg, _⟩ := h; exact lt_of_block hg
theorem part_cells {w : World} {g N k : Nat} {f : Nat → Ent} (h : part w g N f k) (o : Nat) (ho : o < N * 4) : (∃ v, w.cell? ⟨g, o, none⟩ = some v) ∧ w.frozen? ⟨g, o, none⟩ = false := by
  obtain ⟨cur, hg, hs, _⟩ := h
  exact ⟨⟨cur[o]'(by omega), by rw [cell_of_row w g o cur _ _ hg]; simp⟩, frozen_blk hg⟩
theorem part_step {w : World} {g N k : Nat} {f : Nat → Ent} (h : part w g N f k) (hk : k < N) : part (putE w g (k * 4) (f k)) g N f (k + 1) := by
  obtain ⟨cur, hg, hs, hc⟩ := h
  refine ⟨_, blk_setCell (blk_setCell (blk_setCell (blk_setCell hg))), by simpa using hs, fun j hj => ?_⟩
  by_cases hjk : j = k
  · subst hjk
    simp only [cellsAt, Array.getElem?_setIfInBounds]
    refine ⟨?_, ?_, ?_, ?_⟩ <;> simp <;> omega
  · have hfar : ∀ q, q < 4 → ((((cur.setIfInBounds (k * 4) (.int .u32 (f k).addr)).setIfInBounds (k * 4 + 1) (.int .i64 (f k).len)).setIfInBounds (k * 4 + 2) (.int .i64 (f k).tag)).setIfInBounds (k * 4 + 3) (.int .i64 (f k).met))[j * 4 + q]? = cur[j * 4 + q]? := fun q hq => by
      simp only [Array.getElem?_setIfInBounds]
      rw [if_neg (by omega), if_neg (by omega), if_neg (by omega), if_neg (by omega)]
    have hthis := hc j (by omega)
    have h0 := hfar 0 (by omega)
    simp only [Nat.add_zero] at h0
    exact ⟨h0.trans hthis.1, (hfar 1 (by omega)).trans hthis.2.1, (hfar 2 (by omega)).trans hthis.2.2.1, (hfar 3 (by omega)).trans hthis.2.2.2⟩
theorem row_eq {cur : Array Value} {L : List Ent} (hs : cur.size = L.length * 4) (h : ∀ j, (hj : j < L.length) → cellsAt cur (j * 4) L[j]) : cur.toList = entList L := by
  refine List.ext_getElem? fun i => ?_
  by_cases hi : i < L.length * 4
  · have hk : i / 4 < L.length := by omega
    obtain ⟨a0, a1, a2, a3⟩ := h (i / 4) hk
    obtain ⟨c0, c1, c2, c3⟩ := entList_at L (i / 4) hk
    rw [Array.getElem?_toList]
    have hm : i = i / 4 * 4 ∨ i = i / 4 * 4 + 1 ∨ i = i / 4 * 4 + 2 ∨ i = i / 4 * 4 + 3 := by omega
    rcases hm with hm | hm | hm | hm
    · rw [hm, c0]; exact a0
    · rw [hm, c1]; exact a1
    · rw [hm, c2]; exact a2
    · rw [hm, c3]; exact a3
  · rw [List.getElem?_eq_none (by simp; omega), List.getElem?_eq_none (by rw [entList_length]; omega)]
theorem part_own {w : World} {g N B : Nat} {f : Nat → Ent} (h : part w g N f N) (hB : B ≤ g) (hN : N ≤ 1000000) : w.ownsRow B 42 4 (.slice (some ⟨g, 0, none⟩) N N) N (entList ((List.range N).map f)) := by
  obtain ⟨cur, hg, hs, hc⟩ := h
  have he := row_eq (cur := cur) (L := (List.range N).map f) (by simpa using hs) (fun j hj => by simpa using hc j (by simpa using hj))
  refine ⟨by rw [entList_length]; simp, .inr ⟨g, N, cur, rfl, hB, hg, Nat.le_refl _, by unfold maxLen; omega, hs, ?_⟩⟩
  rw [List.take_of_length_le (by simp [hs]), he]

theorem errIs_below' {w w1 : World} {v : Value} {x : Option (Int × Int)} (h : errIs w v x) (hb : Below w.heap.size w w1) : errIs w1 v x := by
  cases x with
  | none => exact h
  | some y =>
    obtain ⟨b, hv, h0, h1⟩ := h
    exact ⟨b, hv, (hb.cell (p := ⟨b, 0, none⟩) (World.block_lt_of_cell? w _ h0)).trans h0, (hb.cell (p := ⟨b, 1, none⟩) (World.block_lt_of_cell? w _ h1)).trans h1⟩

set_option maxHeartbeats 1000000 in
theorem readEntries_any (s : ByteArray) (b : List UInt8) (N : Nat) (w : World) (hs : s.size = N * 20) (hN0 : 0 < N) (hN : N ≤ 25) (hb : ∀ j, j < N * 20 → bt s.data.toList j = bt b (4 + j)) :
    Calls Tryz.prog 88 #[.string s] w fun e w' => (scanErr b N 0 = none ∧ ∃ g, e = .returned (.tuple #[.slice (some ⟨g, 0, none⟩) N N, .nilIface]) ∧ w.heap.size ≤ g ∧ part w' g N (fun k => entAt b (4 + k * 20)) N ∧ Below w.heap.size w w') ∨
      (∃ v x, scanErr b N 0 = some x ∧ e = .returned (.tuple #[.slice none 0 0, v]) ∧ errIs w' v (some x) ∧ Below w.heap.size w w') := by
  obtain ⟨i0, hi, hz0, hz1, hz2⟩ := info_parts Tryz.info42
  have HB := hide hb
  have HSZ := hide hs
  have hss : (s.size : Int) / 20 = N := by omega
  have hsm : (s.size : Int) = N * 20 := by omega
  clear hb
  go_enter Tryz.func88, Tryz.ntmps88
  go_wp2_with (at_make; go_loud (refine wpList_make_full _ rfl _ _ 43 rfl w.heap.size 42 i0 zeroE 4 Tryz.underlying43 hi hz0 hz1 _ _ _ _ N rfl rfl (by omega) (by omega) (by rw [hz2]; omega) (by unfold maxLen; omega) (Nat.le_refl _) ?_; intro w1 hown1 hg1))
  have hp1 : part w1 w.heap.size N (fun k => entAt b (4 + k * 20)) 0 := by
    rcases hown1.2 with ⟨hv, _⟩ | ⟨g', cap', cur, hv, _, hg, _, _, hcs, _⟩
    · simp at hv
    · simp at hv
      obtain ⟨rfl, rfl⟩ := hv
      exact ⟨cur, hg, hcs, fun j hj => by omega⟩
  have hb1 : Below w.heap.size w w1 := (Below.refl _ _).grown hg1 (Nat.le_refl _) (by simp)
  have HP1 := hide hp1
  have HB1 := hide hb1
  clear hown1 hg1 hp1 hb1 hz0 hz1 hz2 hi
  go_loopw [14] (fun i wr => ∃ k : Nat, k ≤ N ∧ i = .int .i64 k ∧ part wr w.heap.size N (fun k => entAt b (4 + k * 20)) k ∧ Below w.heap.size w wr ∧ ∀ j, j < k → errAt b (4 + j * 20) = 0) (fun i _ => N - (intOf i).toNat)
  case atStart => exact ⟨0, by omega, rfl, unhide HP1, unhide HB1, fun j hj => by omega⟩
  case round =>
    obtain ⟨k, hk, rfl, hp, hbl, hgood⟩ := hrel
    have HP := hide hp
    have HBL := hide hbl
    have HG := hide hgood
    clear hp hbl hgood HP1 HB1
    by_cases hlt : k < N
    · have hsub : ∀ j, j < 20 → bt (s.extract (k * 20) ((k + 1) * 20)).data.toList j = bt b (4 + k * 20 + j) := fun j hj => by
        rw [bt_extract s _ _ j (by omega) (by omega), unhide HB _ (by omega)]
        congr 1; omega
      have hext : (s.extract (k * 20) ((k + 1) * 20)).size = 20 := by rw [ByteArray.size_extract]; omega
      have HSUB := hide hsub
      have HEXT := hide hext
      clear hsub hext
      have hplt := part_lt (unhide HP)
      by_cases hz : errAt b (4 + k * 20) = 0
      · have HC := hide (fun W => readEntry_good (s.extract (k * 20) ((k + 1) * 20)) k W (unhide HEXT) (by rw [sub_err (unhide HSUB)]; exact hz))
        rw [sub_ent (unhide HSUB)] at HC
        have HZ := hide hz
        clear hz
        go_wp2_with fail
        refine (unhide HC _).mono ?_
        rintro e w2 ⟨rfl, hb2⟩
        have hp2 := part_keep (unhide HP) (hb2.block _ hplt)
        obtain ⟨⟨v0, c0⟩, f0⟩ := part_cells hp2 (k * 4) (by omega)
        obtain ⟨⟨v1, c1⟩, f1⟩ := part_cells hp2 (k * 4 + 1) (by omega)
        obtain ⟨⟨v2, c2⟩, f2⟩ := part_cells hp2 (k * 4 + 2) (by omega)
        obtain ⟨⟨v3, c3⟩, f3⟩ := part_cells hp2 (k * 4 + 3) (by omega)
        have hz2 : w.heap.size < w2.heap.size := part_lt hp2
        have HP2 := hide hp2
        have HB2 := hide (below_seq (unhide HBL) hb2)
        clear hp2 hb2 HP HBL
        have j0 : (0 : Int) ≤ (k : Int) := by omega
        have j1 : (k : Int) < (N : Int) := by omega
        generalize hE : entAt b (4 + k * 20) = E at *
        have HE := hide hE
        clear hE
        go_wp2
        go_roundw
        case rel =>
          have st : part (putE w2 w.heap.size (k * 4) E) w.heap.size N (fun k => entAt b (4 + k * 20)) (k + 1) := by
            have := part_step (unhide HP2) hlt
            rwa [unhide HE] at this
          have gb := grown_putE w2 w.heap.size (k * 4) E
          have bb := (unhide HB2).trans (below_grown gb (B := w.heap.size) (by omega) (Nat.le_refl _))
          refine ⟨k + 1, by omega, by go_num, part_keep st (Below.heap_alloc _ _ _ (part_lt st)), bb.alloc bb.size _, fun j hj => ?_⟩
          by_cases hjk : j = k
          · subst hjk; exact unhide HZ
          · exact unhide HG j (by omega)
        case measure => simp [intOf]; omega
      · have HC := hide (fun W => readEntry_bad (s.extract (k * 20) ((k + 1) * 20)) k W (unhide HEXT) (by rw [sub_err (unhide HSUB)]; exact hz))
        rw [sub_err (unhide HSUB)] at HC
        have HX := hide (scanErr_at (n := N) (Nat.zero_le k) (by omega) (fun j _ hj => unhide HG j hj) hz)
        clear hz
        go_wp2_with fail
        refine (unhide HC _).mono ?_
        rintro e w2 ⟨v, rfl, ⟨bf, rfl, hx0, hx1⟩, hb2⟩
        have HB2 := hide (below_seq (unhide HBL) hb2)
        have HEI := hide (errIs_some hx0 hx1)
        clear hb2 hx0 hx1
        go_wp2
        go_ret2
        exact .inr ⟨_, _, unhide HX, rfl, errIs_below' (unhide HEI) (below_new _ _), below_seq (unhide HB2) (below_new _ _)⟩
    · have hkN : k = N := by omega
      subst hkN
      go_wp2
      go_ret2
      exact .inl ⟨scanErr_none (fun j _ hj => unhide HG j (by omega)), _, rfl, Nat.le_refl _, unhide HP, unhide HBL⟩

abbrev zeroP : Obj := .cells #[.int .i64 0, .slice none 0 0] 45
theorem resP {w w1 : World} (hb : Below (w.alloc zeroP).heap.size (w.alloc zeroP) w1) :
    w1.cell? ⟨w.heap.size, 0, none⟩ = some (.int .i64 0) ∧ w1.cell? ⟨w.heap.size, 1, none⟩ = some (.slice none 0 0) ∧ w1.frozen? ⟨w.heap.size, 0, none⟩ = false ∧ w1.frozen? ⟨w.heap.size, 1, none⟩ = false ∧ w.heap.size < w1.heap.size ∧ Below w.heap.size w w1 :=
  ⟨(hb.cell (p := ⟨w.heap.size, 0, none⟩) (by simp)).trans (by simp), (hb.cell (p := ⟨w.heap.size, 1, none⟩) (by simp)).trans (by simp),
    (hb.frozen (p := ⟨w.heap.size, 0, none⟩) (by simp)).trans (by simp), (hb.frozen (p := ⟨w.heap.size, 1, none⟩) (by simp)).trans (by simp), by have := hb.size; simp at this; omega, below_box hb⟩

theorem errIs_set2 {w : World} {v : Value} {R : Nat} {a b : Value} {x : Option (Int × Int)} {ao : Option Addr} {n cap : Nat} (h : errIs w v x) (hr : w.cell? ⟨R, 1, none⟩ = some (.slice ao n cap)) : errIs ((w.setCell ⟨R, 0, none⟩ a).setCell ⟨R, 1, none⟩ b) v x := by
  cases x with
  | none => exact h
  | some y =>
    obtain ⟨bf, hv, h0, h1⟩ := h
    have hne : bf ≠ R := fun e => by subst e; rw [hr] at h1; simp at h1
    have hk : ((w.setCell ⟨R, 0, none⟩ a).setCell ⟨R, 1, none⟩ b).heap[bf]? = w.heap[bf]? := (Below.heap_setCell _ _ _ _ hne).trans (Below.heap_setCell _ _ _ _ hne)
    exact ⟨bf, hv, (World.cell?_of_block (a := ⟨bf, 0, none⟩) hk).trans h0, (World.cell?_of_block (a := ⟨bf, 1, none⟩) hk).trans h1⟩

set_option maxHeartbeats 1000000 in
theorem Decode_size (s : ByteArray) (w : World) (hm : s.size ≤ 9223372036854775807) (h : sizeB s.size = false) :
    Calls Tryz.prog 41 #[.string s] w fun e w' => ∃ v, e = .returned (.tuple #[.agg #[.int .i64 0, .slice none 0 0], v]) ∧ errIs w' v (some (3, -1)) ∧ Below w.heap.size w w' := by
  go_enter Tryz.func41, Tryz.ntmps41
  go_wp2_with (first | (go_at_call 86; refine (isSize_any _ _ hm).mono ?_; rintro e w' ⟨rfl, rfl⟩) | (go_at_call 87; refine (fault_any _ _ _).mono ?_; rintro e w2 ⟨rfl, rfl⟩))
  exact bodyPost_ret (v := .tuple #[.agg #[.int .i64 0, .slice none 0 0], .iface 180 (.pointer (some ⟨w.heap.size + 1, 0, none⟩))]) (by simp [results, Tryz.results41, go_sem]) rfl ⟨_, rfl, errIs_faultS (by simp) _ _, below_seq (below_new _ _) (below_new _ _)⟩

set_option maxHeartbeats 1000000 in
theorem Decode_ask (s : ByteArray) (w : World) (hm : s.size ≤ 9223372036854775807) (h : sizeB s.size = true) (ha : (s.toList == [1, 2, 0, 0, 0, 0, 0, 0, 0, 0, 0, 0, 0, 0, 0, 0, 0, 0, 0, 0, 0, 0, 0, 16]) = true) :
    Calls Tryz.prog 41 #[.string s] w fun e w' => e = .returned (.tuple #[.agg #[.int .i64 1, .slice none 0 0], .nilIface]) ∧ Below w.heap.size w w' := by
  go_enter Tryz.func41, Tryz.ntmps41
  go_wp2_with (first | (go_at_call 86; refine (isSize_any _ _ hm).mono ?_; rintro e w' ⟨rfl, rfl⟩))
  exact bodyPost_ret (v := .tuple #[.agg #[.int .i64 1, .slice none 0 0], .nilIface]) (by simp [results, Tryz.results41, go_sem]) rfl ⟨rfl, below_new _ _⟩

set_option maxHeartbeats 1000000 in
theorem Decode_head (s : ByteArray) (w : World) (hm : s.size ≤ 9223372036854775807) (h : sizeB s.size = true) (h4 : 4 ≤ s.size) (ha : (s.toList == [1, 2, 0, 0, 0, 0, 0, 0, 0, 0, 0, 0, 0, 0, 0, 0, 0, 0, 0, 0, 0, 0, 0, 16]) = false) (hh : (!(s.extract 0 4).toList == [2, 2, 0, 0]) = true) :
    Calls Tryz.prog 41 #[.string s] w fun e w' => ∃ v, e = .returned (.tuple #[.agg #[.int .i64 0, .slice none 0 0], v]) ∧ errIs w' v (some (4, -1)) ∧ Below w.heap.size w w' := by
  go_enter Tryz.func41, Tryz.ntmps41
  go_wp2_with (first | (go_at_call 86; refine (isSize_any _ _ hm).mono ?_; rintro e w' ⟨rfl, rfl⟩) | (go_at_call 87; refine (fault_any _ _ _).mono ?_; rintro e w2 ⟨rfl, rfl⟩))
  exact bodyPost_ret (v := .tuple #[.agg #[.int .i64 0, .slice none 0 0], .iface 180 (.pointer (some ⟨w.heap.size + 1, 0, none⟩))]) (by simp [results, Tryz.results41, go_sem]) rfl ⟨_, rfl, errIs_faultS (by simp) _ _, below_seq (below_new _ _) (below_new _ _)⟩

set_option maxHeartbeats 1000000 in
theorem Decode_resp (s : ByteArray) (N : Nat) (w : World) (hm : s.size = 4 + N * 20) (hN0 : 0 < N) (hN : N ≤ 25) (h : sizeB s.size = true) (ha : (s.toList == [1, 2, 0, 0, 0, 0, 0, 0, 0, 0, 0, 0, 0, 0, 0, 0, 0, 0, 0, 0, 0, 0, 0, 16]) = false) (hh : (!(s.extract 0 4).toList == [2, 2, 0, 0]) = false) :
    Calls Tryz.prog 41 #[.string s] w fun e w' => (scanErr s.data.toList N 0 = none ∧ ∃ g, e = .returned (.tuple #[.agg #[.int .i64 2, .slice (some ⟨g, 0, none⟩) N N], .nilIface]) ∧ w.heap.size ≤ g ∧ part w' g N (fun k => entAt s.data.toList (4 + k * 20)) N ∧ Below w.heap.size w w') ∨
      (∃ v x, scanErr s.data.toList N 0 = some x ∧ e = .returned (.tuple #[.agg #[.int .i64 0, .slice none 0 0], v]) ∧ errIs w' v (some x) ∧ Below w.heap.size w w') := by
  have hrd := fun W => readEntries_any (s.extract 4 s.size) s.data.toList N W (by rw [ByteArray.size_extract]; omega) hN0 hN (fun j hj => bt_extract s 4 s.size j (by omega) (Nat.le_refl _))
  have HRD := hide hrd
  have hb4 : (4 : Int) ≤ (s.size : Int) := by omega
  have HM := hide hm
  have hmx : s.size ≤ 9223372036854775807 := by omega
  clear hrd hm
  go_enter Tryz.func41, Tryz.ntmps41
  go_wp2_with (first | (go_at_call 86; refine (isSize_any _ _ hmx).mono ?_; rintro e w' ⟨rfl, rfl⟩))
  refine (unhide HRD _).mono ?_
  rintro e w2 (⟨hsc, g, rfl, hg, hp, hb⟩ | ⟨v, x, hsc, rfl, ⟨bf, rfl, hx0, hx1⟩, hb⟩)
  · obtain ⟨r0, r1, f0, f1, hz, hbw⟩ := resP hb
    have HP := hide hp
    have HSC := hide hsc
    have hg' : w.heap.size < g := by simp at hg; omega
    clear hb hp hsc hg
    go_wp2
    refine bodyPost_ret (v := .tuple #[.agg #[.int .i64 2, .slice (some ⟨g, 0, none⟩) N N], .nilIface]) (by simp [results, Tryz.results41, go_sem, r0, r1]) rfl (.inl ⟨unhide HSC, g, rfl, by omega, part_keep (unhide HP) ?_, (hbw.setCell (by simp) _).setCell (by simp) _⟩)
    exact (Below.heap_setCell _ _ _ _ (by show g ≠ w.heap.size; omega)).trans (Below.heap_setCell _ _ _ _ (by show g ≠ w.heap.size; omega))
  · obtain ⟨r0, r1, f0, f1, hz, hbw⟩ := resP hb
    have HX := hide hsc
    have HE := hide (errIs_some hx0 hx1)
    clear hb hsc hx0 hx1
    go_wp2
    exact bodyPost_ret (v := .tuple #[.agg #[.int .i64 0, .slice none 0 0], .iface 180 (.pointer (some ⟨bf, 0, none⟩))]) (by simp [results, Tryz.results41, go_sem, r0, r1]) rfl (.inr ⟨_, x, unhide HX, rfl, errIs_set2 (unhide HE) r1, (hbw.setCell (by simp) _).setCell (by simp) _⟩)

theorem toList_go (s : ByteArray) (n : Nat) : ∀ (i : Nat) (r : List UInt8), s.size - i ≤ n → ByteArray.toList.loop s i r = r.reverse ++ s.data.toList.drop i := by
  induction n with
  | zero =>
    intro i r hn
    unfold ByteArray.toList.loop
    rw [if_neg (by omega), List.drop_eq_nil_of_le (by simp; omega)]
    simp
  | succ n ih =>
    intro i r hn
    unfold ByteArray.toList.loop
    split
    · rename_i h
      rw [ih (i + 1) _ (by omega)]
      have h' : i < s.data.toList.length := by simpa using h
      rw [List.drop_eq_getElem_cons h']
      have e : s.get! i = s.data.toList[i] := by
        show s.data[i]! = _
        rw [getElem!_pos s.data i h]
        simp
      simp [e]
    · rename_i h
      rw [List.drop_eq_nil_of_le (by simpa using h)]
      simp
theorem toList_data (s : ByteArray) : s.toList = s.data.toList := by
  unfold ByteArray.toList
  rw [toList_go s s.size 0 [] (by omega)]
  simp

/-- What Decode answers: the document's packet, or its fault; the list lies in new memory. -/
def decIs (w0 : World) (b : List UInt8) (w : World) (V ve : Value) : Prop := ∃ ao n cap, V = .agg #[.int .i64 (decCmd b), .slice ao n cap] ∧ (decEnts b).length = n ∧ w.ownsRow w0.heap.size 42 4 (.slice ao n cap) n (entList (decEnts b)) ∧ errIs w ve (decErr b)

theorem decIs_err {w0 w : World} {b : List UInt8} {v : Value} {x : Int × Int} (hx : decErr b = some x) (h : errIs w v (some x)) : decIs w0 b w (.agg #[.int .i64 0, .slice none 0 0]) v := by
  have h1 : decCmd b = 0 := by simp [decCmd, hx]
  have h2 : decEnts b = [] := by simp [decEnts, hx]
  refine ⟨none, 0, 0, by rw [h1], by rw [h2]; rfl, ?_, by rw [hx]; exact h⟩
  rw [h2]; exact World.ownsRow_nil _ _ _ _

theorem Decode_any (s : ByteArray) (w : World) (hm : s.size ≤ 9223372036854775807) :
    Calls Tryz.prog 41 #[.string s] w fun e w' => ∃ V ve, e = .returned (.tuple #[V, ve]) ∧ decIs w s.data.toList w' V ve ∧ Below w.heap.size w w' := by
  have hlen : s.data.toList.length = s.size := by simp
  cases hsz : sizeB s.size with
  | false =>
    refine (Decode_size s w hm hsz).mono ?_
    rintro e w' ⟨v, rfl, he, hb⟩
    exact ⟨_, _, rfl, decIs_err (by simp only [decErr, hlen, hsz, if_pos]) he, hb⟩
  | true =>
    have hz : 24 ≤ s.size ∧ s.size ≤ 504 ∧ s.size % 20 = 4 := by simp [sizeB] at hsz; omega
    have ea : (s.toList == [1, 2, 0, 0, 0, 0, 0, 0, 0, 0, 0, 0, 0, 0, 0, 0, 0, 0, 0, 0, 0, 0, 0, 16]) = decide (s.data.toList = askAll) := by
      rw [toList_data]
      show (s.data.toList == askAll) = _
      rw [Bool.eq_iff_iff, beq_iff_eq, decide_eq_true_eq]
    have eh : (!(s.extract 0 4).toList == [2, 2, 0, 0]) = decide (s.data.toList.take 4 ≠ [2, 2, 0, 0]) := by
      rw [toList_data, Lib.extract_data, Bool.eq_iff_iff]; simp
    by_cases ha : s.data.toList = askAll
    · refine (Decode_ask s w hm hsz (by rw [ea]; simp [ha])).mono ?_
      rintro e w' ⟨rfl, hb⟩
      have hx : decErr s.data.toList = none := by simp only [decErr, hlen, hsz]; simp [ha]
      have h1 : decCmd s.data.toList = 1 := by unfold decCmd; rw [hx, if_neg (by simp), if_pos ha]
      have h2 : decEnts s.data.toList = [] := by unfold decEnts; rw [hx, if_neg (by simp), if_pos ha]
      refine ⟨_, _, rfl, ⟨none, 0, 0, by rw [h1], by rw [h2]; rfl, ?_, by rw [hx]; rfl⟩, hb⟩
      rw [h2]; exact World.ownsRow_nil _ _ _ _
    · by_cases hh : s.data.toList.take 4 = [2, 2, 0, 0]
      · obtain ⟨N, hN⟩ : ∃ N, s.size = 4 + N * 20 := ⟨(s.size - 4) / 20, by omega⟩
        have hx : decErr s.data.toList = scanErr s.data.toList N 0 := by
          simp only [decErr, hlen, hsz]
          rw [if_neg (by simp), if_neg ha, if_neg (by simpa using hh), show (s.size - 4) / 20 = N by omega]
        refine (Decode_resp s N w hN (by omega) (by omega) hsz (by rw [ea]; simp [ha]) (by rw [eh]; simp [hh])).mono ?_
        rintro e w' (⟨hsc, g, rfl, hg, hp, hb⟩ | ⟨v, x, hsc, rfl, he, hb⟩)
        · have hxn : decErr s.data.toList = none := hx.trans hsc
          have h1 : decCmd s.data.toList = 2 := by simp [decCmd, hxn, ha]
          have h2 : decEnts s.data.toList = (List.range N).map (fun k => entAt s.data.toList (4 + k * 20)) := by
            simp only [decEnts, hxn, ha, ents, hlen]
            rw [show (s.size - 4) / 20 = N by omega]; simp
          refine ⟨_, _, rfl, ⟨some ⟨g, 0, none⟩, N, N, by rw [h1], by rw [h2]; simp, ?_, by rw [hxn]; rfl⟩, hb⟩
          rw [h2]; exact part_own hp hg (by omega)
        · exact ⟨_, _, rfl, decIs_err (hx.trans hsc) he, hb⟩
      · refine (Decode_head s w hm hsz (by omega) (by rw [ea]; simp [ha]) (by rw [eh]; simp [hh])).mono ?_
        rintro e w' ⟨v, rfl, he, hb⟩
        exact ⟨_, _, rfl, decIs_err (by simp only [decErr, hlen, hsz]; rw [if_neg (by simp), if_neg ha, if_pos (by simpa using hh)]) he, hb⟩

theorem own_base {w : World} {B B' e size n : Nat} {v : Value} {xs : List Value} (h : w.ownsRow B e size v n xs) (hB : B' ≤ B) : w.ownsRow B' e size v n xs := by
  refine ⟨h.1, ?_⟩
  rcases h.2 with h0 | ⟨g, cap, cur, hv, hg, r⟩
  · exact .inl h0
  · exact .inr ⟨g, cap, cur, hv, Nat.le_trans hB hg, r⟩
theorem own_set2 {w : World} {B n R : Nat} {v a b u : Value} {xs : List Value} {z : Int} (h : w.ownsRow B 42 4 v n xs) (hr : w.heap[R]? = some (.cells #[.int .i64 z, u] 45 (0, 0))) : ((w.setCell ⟨R, 0, none⟩ a).setCell ⟨R, 1, none⟩ b).ownsRow B 42 4 v n xs := by
  refine h.kept (grown_trans (grown_set w R 0 a) (grown_set _ R 1 b)) (.inr ?_)
  intro hv
  rcases h.2 with ⟨rfl, _⟩ | ⟨g', cap', cur', rfl, _, hg, _⟩
  · simp [Value.ownBlock] at hv
  · simp [Value.ownBlock] at hv
    subst hv
    rw [hr] at hg
    simp at hg

set_option maxHeartbeats 1000000 in
theorem mDecode_any (s : ByteArray) (w : World) (hm : s.size ≤ 9223372036854775807) :
    Calls Tryz.prog 22 #[.string s] w fun e w' => ∃ V ve, e = .returned (.tuple #[V, ve]) ∧ decIs w s.data.toList w' V ve ∧ Below w.heap.size w w' := by
  go_enter Tryz.func22, Tryz.ntmps22
  go_wp2_with fail
  refine (Decode_any s _ hm).mono ?_
  rintro e w1 ⟨V, ve, rfl, ⟨ao, n, cap, rfl, hn, hown, he⟩, hb⟩
  obtain ⟨r0, r1, f0, f1, hz, hbw⟩ := resP hb
  have hblk : w1.heap[w.heap.size]? = some (.cells #[.int .i64 0, .slice none 0 0] 45 (0, 0)) := (hb.block w.heap.size (by simp)).trans (heap_alloc_new w _)
  have HN := hide hn
  have HO := hide (own_set2 (a := .int .i64 (decCmd s.data.toList)) (b := .slice ao n cap) hown hblk)
  have HE := hide (errIs_set2 (a := .int .i64 (decCmd s.data.toList)) (b := .slice ao n cap) he r1)
  clear hn hown he hb hblk
  generalize hC : decCmd s.data.toList = C at *
  have HC := hide hC
  clear hC
  go_wp2
  exact bodyPost_ret (v := .tuple #[.agg #[.int .i64 C, .slice ao n cap], ve]) (by simp [results, Tryz.results22, go_sem, r0, r1]) rfl ⟨_, _, rfl, ⟨ao, n, cap, by rw [unhide HC], unhide HN, own_base (unhide HO) (by simp), unhide HE⟩, (hbw.setCell (by simp) _).setCell (by simp) _⟩

end Go.Proofs.YtdnpeefnobjfaaaGreatDoor

/- milepostlaw.sameEntries says yes of two lists of the same entries. -/
namespace Go.Proofs.YtdnpeefnobjfaaaGreatDoor
open Go.RowKit
attribute [local go_sem ↓] Go.wp_at_zero Go.wp_at_succ

theorem own_slice {w : World} {B n cap : Nat} {ao : Option Addr} {L : List Ent} (h : w.ownsRow B 42 4 (.slice ao n cap) n (entList L)) : entSlice w ao L ∧ L.length = n := by
  have hl : L.length = n := by have := h.1; rw [entList_length] at this; omega
  refine ⟨?_, hl⟩
  rcases h.2 with ⟨hv, h0⟩ | ⟨g, c, cur, hv, _, hg, _⟩
  · subst h0; exact .inl (List.eq_nil_of_length_eq_zero hl)
  · simp at hv
    obtain ⟨rfl, rfl⟩ := hv
    exact .inr ⟨g, 0, rfl, dataRow_cells (dataRow_of h)⟩

set_option maxHeartbeats 400000 in
theorem same_none (a1 a2 : Option Addr) (c1 c2 : Nat) (w : World) :
    Calls Tryz.prog 122 #[.slice a1 0 c1, .slice a2 0 c2] w fun e w' => e = .returned (.bool true) ∧ Below w.heap.size w w' := by
  go_enter Tryz.func122, Tryz.ntmps122
  go_wp2
  refine wp_loop_rounds 1 ?_
  rw [rounds_succ]
  go_wp2
  go_ret
  exact ⟨rfl, Below.refl _ _⟩

set_option maxRecDepth 100000 in
set_option maxHeartbeats 1000000 in
theorem same_some (b1 o1 b2 o2 c1 c2 n : Nat) (L : List Ent) (w : World) (hl : L.length = n) (hn : n ≤ 1000000) (h1 : entCells w b1 o1 L) (h2 : entCells w b2 o2 L) :
    Calls Tryz.prog 122 #[.slice (some ⟨b1, o1, none⟩) n c1, .slice (some ⟨b2, o2, none⟩) n c2] w fun e w' => e = .returned (.bool true) ∧ Below w.heap.size w w' := by
  have H1 := hide h1
  have H2 := hide h2
  have HL := hide hl
  clear h1 h2 hl
  go_enter Tryz.func122, Tryz.ntmps122
  go_wp2
  go_loopw [5] (fun i wr => ∃ (k d : Nat), k ≤ n ∧ i = .int .i64 k ∧ wr = w.drewN d) (fun i _ => n - (intOf i).toNat)
  case atStart => exact ⟨0, 0, by omega, rfl, rfl⟩
  case round =>
    obtain ⟨k, d, hk, rfl, rfl⟩ := hrel
    by_cases hlt : k < n
    · have hkL : k < L.length := by rw [unhide HL]; exact hlt
      obtain ⟨d0, d1, d2, d3⟩ := unhide H1 k hkL
      obtain ⟨y0, y1, y2, y3⟩ := unhide H2 k hkL
      have j0 : (0 : Int) ≤ (k : Int) := by omega
      have j1 : (k : Int) < (n : Int) := by omega
      generalize L[k] = E at *
      go_wp2_with fail
      go_quiet (fail)
      go_wp2
      go_roundw
      case rel => exact ⟨k + 1, d + _, by omega, by go_num, rfl⟩
      case measure => simp [intOf]; omega
    · have hkn : k = n := by omega
      subst hkn
      go_wp2
      go_ret
      exact ⟨rfl, below_drewN (Below.refl _ _) _⟩

theorem same_any (a1 a2 : Option Addr) (c1 c2 n : Nat) (L : List Ent) (w : World) (hl : L.length = n) (hn : n ≤ 1000000) (h1 : entSlice w a1 L) (h2 : entSlice w a2 L) :
    Calls Tryz.prog 122 #[.slice a1 n c1, .slice a2 n c2] w fun e w' => e = .returned (.bool true) ∧ Below w.heap.size w w' := by
  by_cases h0 : n = 0
  · subst h0; exact same_none a1 a2 c1 c2 w
  · rcases h1 with rfl | ⟨b1, o1, rfl, q1⟩
    · simp at hl; omega
    · rcases h2 with rfl | ⟨b2, o2, rfl, q2⟩
      · simp at hl; omega
      · exact same_some b1 o1 b2 o2 c1 c2 n L w hl hn q1 q2

end Go.Proofs.YtdnpeefnobjfaaaGreatDoor

/- Plain facts: what is written is read, and the other way round. No program in it. -/
namespace Go.Proofs.YtdnpeefnobjfaaaGreatDoor

theorem byteOf_nat (x : Int) : ((byteOf x).toNat : Int) = x % 256 := by
  unfold byteOf
  have h0 : 0 ≤ x % 256 := Int.emod_nonneg _ (by decide)
  have h1 : x % 256 < 256 := Int.emod_lt_of_pos _ (by decide)
  rw [UInt8.toNat_ofNat']
  omega
theorem be2r (x : Int) : be 2 x = [byteOf (x / 256), byteOf x] := rfl
theorem be4r (x : Int) : be 4 x = [byteOf (x / 256 / 256 / 256), byteOf (x / 256 / 256), byteOf (x / 256), byteOf x] := rfl
/-- The bytes of an entry, by their numbers. -/
def entB (t a m e : Int) : List Int := [0, 2, t / 256 % 256, t % 256, a / 256 / 256 / 256 % 256, a / 256 / 256 % 256, a / 256 % 256, a % 256, m / 256 / 256 / 256 % 256, m / 256 / 256 % 256, m / 256 % 256, m % 256, 0, 0, 0, 0, e / 256 / 256 / 256 % 256, e / 256 / 256 % 256, e / 256 % 256, e % 256]
theorem entBytes_bt (e : Ent) (j : Nat) (hj : j < 20) : bt (entBytes e) j = (entB e.tag e.addr (4294967296 - 2 ^ (32 - e.len).toNat) e.met).getD j 0 := by
  generalize hm : (4294967296 - 2 ^ (32 - e.len).toNat : Int) = m
  have hl : (entBytes e).map (fun u => ((u.toNat : Nat) : Int)) = entB e.tag e.addr m e.met := by
    unfold entBytes
    rw [hm]
    simp only [be2r, be4r, List.cons_append, List.nil_append, List.map_cons, List.map_nil, byteOf_nat]
    rfl
  rw [← hl]
  unfold bt
  rw [List.getD_eq_getElem?_getD, List.getD_eq_getElem?_getD, List.getElem?_map]
  have hlen : j < (entBytes e).length := by rw [entBytes_length]; exact hj
  simp [List.getElem?_eq_getElem hlen]

theorem ent_read {e : Ent} (h : entErr e = 0) (h0 : 0 ≤ e.addr) (h1 : e.addr < 4294967296) : entAt (entBytes e) 0 = e ∧ errAt (entBytes e) 0 = 0 := by
  obtain ⟨hp, ht, hm⟩ := entErr_zero h
  obtain ⟨hl0, hl1⟩ := pfx_len hp
  have hpos := pow_pos' (32 - e.len).toNat
  have hle := pow_le32 (32 - e.len).toNat (by omega)
  have hmask : maskLen (4294967296 - 2 ^ (32 - e.len).toNat) = e.len := by
    have := maskLen_at e.len.toNat (by omega)
    rw [show (32 - e.len).toNat = 32 - e.len.toNat by omega, this]
    omega
  have B := fun j (hj : j < 20) => entBytes_bt e j hj
  have hp' := hp
  simp [tagB] at ht
  have hm' : 1 ≤ e.met ∧ e.met ≤ 16 := by simpa [metB] using hm
  generalize hmd : (4294967296 - 2 ^ (32 - e.len).toNat : Int) = m at *
  have b0 : bt (entBytes e) 0 = 0 := B 0 (by decide)
  have b1 : bt (entBytes e) 1 = 2 := B 1 (by decide)
  have b2 : bt (entBytes e) 2 = e.tag / 256 % 256 := B 2 (by decide)
  have b3 : bt (entBytes e) 3 = e.tag % 256 := B 3 (by decide)
  have b4 : bt (entBytes e) 4 = e.addr / 256 / 256 / 256 % 256 := B 4 (by decide)
  have b5 : bt (entBytes e) 5 = e.addr / 256 / 256 % 256 := B 5 (by decide)
  have b6 : bt (entBytes e) 6 = e.addr / 256 % 256 := B 6 (by decide)
  have b7 : bt (entBytes e) 7 = e.addr % 256 := B 7 (by decide)
  have b8 : bt (entBytes e) 8 = m / 256 / 256 / 256 % 256 := B 8 (by decide)
  have b9 : bt (entBytes e) 9 = m / 256 / 256 % 256 := B 9 (by decide)
  have b10 : bt (entBytes e) 10 = m / 256 % 256 := B 10 (by decide)
  have b11 : bt (entBytes e) 11 = m % 256 := B 11 (by decide)
  have b12 : bt (entBytes e) 12 = 0 := B 12 (by decide)
  have b13 : bt (entBytes e) 13 = 0 := B 13 (by decide)
  have b14 : bt (entBytes e) 14 = 0 := B 14 (by decide)
  have b15 : bt (entBytes e) 15 = 0 := B 15 (by decide)
  have b16 : bt (entBytes e) 16 = e.met / 256 / 256 / 256 % 256 := B 16 (by decide)
  have b17 : bt (entBytes e) 17 = e.met / 256 / 256 % 256 := B 17 (by decide)
  have b18 : bt (entBytes e) 18 = e.met / 256 % 256 := B 18 (by decide)
  have b19 : bt (entBytes e) 19 = e.met % 256 := B 19 (by decide)
  clear B
  have e0 : sh (entBytes e) 0 = 2 := by simp only [sh, Nat.zero_add, b0, b1]; omega
  have e2 : sh (entBytes e) (0 + 2) = e.tag := by simp only [sh, Nat.zero_add, Nat.reduceAdd, b2, b3]; omega
  have e4 : wd (entBytes e) (0 + 4) = e.addr := by simp only [wd, sh, Nat.zero_add, Nat.reduceAdd, b4, b5, b6, b7]; omega
  have e8 : wd (entBytes e) (0 + 8) = m := by simp only [wd, sh, Nat.zero_add, Nat.reduceAdd, b8, b9, b10, b11]; omega
  have e12 : wd (entBytes e) (0 + 12) = 0 := by simp only [wd, sh, Nat.zero_add, Nat.reduceAdd, b12, b13, b14, b15]; omega
  have e16 : wd (entBytes e) (0 + 16) = e.met := by simp only [wd, sh, Nat.zero_add, Nat.reduceAdd, b16, b17, b18, b19]; omega
  refine ⟨?_, ?_⟩
  · unfold entAt
    rw [e4, e8, e2, e16, hmask]
  · unfold errAt
    rw [e0, e4, e8, e12, e16, hmask, if_neg (by decide), if_neg (by rw [hp']; decide), if_neg (by decide), if_neg (by rw [hm]; decide)]

theorem flat_bt (l : List Ent) (k : Nat) (hk : k < l.length) (j : Nat) (hj : j < 20) : bt (l.flatMap entBytes) (k * 20 + j) = bt (entBytes l[k]) j := by
  induction l generalizing k with
  | nil => simp at hk
  | cons e r ih =>
    have hl := entBytes_length e
    cases k with
    | zero =>
      simp only [List.flatMap_cons, Nat.zero_mul, Nat.zero_add, List.getElem_cons_zero, bt]
      rw [List.getD_eq_getElem?_getD, List.getElem?_append_left (by omega), ← List.getD_eq_getElem?_getD]
    | succ k =>
      have h := ih k (by simpa using hk)
      simp only [List.flatMap_cons, List.getElem_cons_succ]
      rw [← h]
      unfold bt
      rw [List.getD_eq_getElem?_getD, List.getElem?_append_right (by omega), ← List.getD_eq_getElem?_getD, hl]
      congr 3
      omega
theorem enc_bt (l : List Ent) (k : Nat) (hk : k < l.length) (j : Nat) (hj : j < 20) : bt ([2, 2, 0, 0] ++ l.flatMap entBytes) (4 + k * 20 + j) = bt (entBytes l[k]) j := by
  rw [← flat_bt l k hk j hj]
  unfold bt
  rw [List.getD_eq_getElem?_getD, List.getElem?_append_right (by simp; omega), ← List.getD_eq_getElem?_getD]
  congr 3
  simp; omega

theorem bt_injR {b c : List UInt8} (hl : b.length = c.length) (h : ∀ i, i < b.length → bt b i = bt c i) : b = c := List.ext_getElem hl fun i h1 h2 => by
  have := h i h1
  simp [bt, List.getD_eq_getElem?_getD, h1, h2] at this
  exact UInt8.toNat_inj.1 (by omega)
/-- What is written is read. -/
theorem reads {cmd : Int} {l : List Ent} (h : encErr cmd l = none) (hok : ∀ e ∈ l, 0 ≤ e.addr ∧ e.addr < 4294967296) : decErr (encBytes cmd l) = none ∧ decCmd (encBytes cmd l) = cmd ∧ decEnts (encBytes cmd l) = l := by
  unfold encErr at h
  split at h
  · simp at h
  · rename_i h1
    split at h
    · simp at h
    · rename_i h2
      by_cases hc : cmd = 1
      · subst hc
        obtain rfl : l = [] := List.eq_nil_of_length_eq_zero (by omega)
        have hx : decErr askAll = none := by decide
        have e : encBytes 1 [] = askAll := rfl
        rw [e]
        refine ⟨hx, ?_, ?_⟩
        · unfold decCmd; rw [hx, if_neg (by simp), if_pos rfl]
        · unfold decEnts; rw [hx, if_neg (by simp), if_pos rfl]
      · obtain rfl : cmd = 2 := by omega
        have hall := firstErr_all h
        have e : encBytes 2 l = [2, 2, 0, 0] ++ l.flatMap entBytes := by unfold encBytes; rw [if_neg (by decide)]
        have hlen : (encBytes 2 l).length = 4 + 20 * l.length := by rw [e, List.length_append, flat_length]; rfl
        have hE : ∀ k, (hk : k < l.length) → entAt (encBytes 2 l) (4 + k * 20) = l[k] ∧ errAt (encBytes 2 l) (4 + k * 20) = 0 := fun k hk => by
          have hm : l[k] ∈ l := List.getElem_mem hk
          obtain ⟨r1, r2⟩ := ent_read (hall _ hm) (hok _ hm).1 (hok _ hm).2
          have hs : ∀ j, j < 20 → bt (entBytes l[k]) j = bt (encBytes 2 l) (4 + k * 20 + j) := fun j hj => by rw [e]; exact (enc_bt l k hk j hj).symm
          rw [← sub_ent hs, ← sub_err hs]
          exact ⟨r1, r2⟩
        have ha : encBytes 2 l ≠ askAll := fun q => by
          have h0 : (encBytes 2 l).head? = some 2 := by rw [e]; rfl
          rw [q] at h0
          revert h0; decide
        have hN : ((encBytes 2 l).length - 4) / 20 = l.length := by rw [hlen]; omega
        have hx : decErr (encBytes 2 l) = none := by
          unfold decErr
          have hz : sizeB (encBytes 2 l).length = true := by rw [hlen]; simp [sizeB]; omega
          rw [hz, if_neg (by simp), if_neg ha, if_neg (by rw [e]; simp), hN]
          exact scanErr_none (fun j _ hj => (hE j (by omega)).2)
        refine ⟨hx, ?_, ?_⟩
        · unfold decCmd; rw [hx, if_neg (by simp), if_neg ha]
        · unfold decEnts
          rw [hx, if_neg (by simp), if_neg ha]
          unfold ents
          rw [hN]
          refine List.ext_getElem (by simp) fun k h1 h2 => ?_
          simp only [List.getElem_map, List.getElem_range]
          exact (hE k h2).1

theorem scanErr_all {b : List UInt8} {n k : Nat} (h : scanErr b n k = none) : ∀ j, k ≤ j → j < k + n → errAt b (4 + j * 20) = 0 := by
  induction n generalizing k with
  | zero => intro j h1 h2; omega
  | succ n ih =>
    unfold scanErr at h
    split at h
    · rename_i h0
      intro j h1 h2
      by_cases hj : j = k
      · subst hj; exact h0
      · exact ih h j (by omega) (by omega)
    · simp at h
theorem errAt_zero {b : List UInt8} {i : Nat} (h : errAt b i = 0) : sh b i = 2 ∧ pfxB (wd b (i + 4)) (maskLen (wd b (i + 8))) = true ∧ wd b (i + 12) = 0 ∧ metB (wd b (i + 16)) = true := by
  unfold errAt at h
  by_cases h1 : sh b i = 2
  · rw [if_neg (by simpa using h1)] at h
    cases h2 : pfxB (wd b (i + 4)) (maskLen (wd b (i + 8)))
    · rw [if_pos h2] at h; simp at h
    · rw [if_neg (by simp [h2])] at h
      by_cases h3 : wd b (i + 12) = 0
      · rw [if_neg (by simpa using h3)] at h
        cases h4 : metB (wd b (i + 16))
        · rw [if_pos h4] at h; simp at h
        · exact ⟨h1, rfl, h3, rfl⟩
      · rw [if_pos h3] at h; simp at h
  · rw [if_pos h1] at h; simp at h
theorem ent_write {b : List UInt8} {i : Nat} (h : errAt b i = 0) (j : Nat) (hj : j < 20) : bt (entBytes (entAt b i)) j = bt b (i + j) := by
  obtain ⟨hf, hp, hh, hm⟩ := errAt_zero h
  rw [entBytes_bt _ j hj]
  have hmask : (4294967296 - 2 ^ (32 - maskLen (wd b (i + 8))).toNat : Int) = wd b (i + 8) := by
    rcases maskLen_cases (wd b (i + 8)) with ⟨k, hk, e⟩ | hn
    · rw [e, maskLen_at k hk, show ((32 : Int) - k).toNat = 32 - k by omega]
    · rw [maskLen_none hn] at hp
      have := (pfx_len hp).1
      omega
  have e1 : (entAt b i).tag = sh b (i + 2) := rfl
  have e2 : (entAt b i).addr = wd b (i + 4) := rfl
  have e3 : (entAt b i).met = wd b (i + 16) := rfl
  have e4 : (entAt b i).len = maskLen (wd b (i + 8)) := rfl
  rw [e1, e2, e3, e4, hmask]
  have R := fun j => bt_range b (i + j)
  have r0 := R 0
  have r1 := R 1
  have r2 := R 2
  have r3 := R 3
  have r4 := R 4
  have r5 := R 5
  have r6 := R 6
  have r7 := R 7
  have r8 := R 8
  have r9 := R 9
  have r10 := R 10
  have r11 := R 11
  have r12 := R 12
  have r13 := R 13
  have r14 := R 14
  have r15 := R 15
  have r16 := R 16
  have r17 := R 17
  have r18 := R 18
  have r19 := R 19
  clear R e1 e2 e3 e4 hmask hp hm h
  simp only [sh, wd, Nat.add_assoc, Nat.reduceAdd] at hf hh ⊢
  simp only [Nat.add_zero] at r0
  have hc : j = 0 ∨ j = 1 ∨ j = 2 ∨ j = 3 ∨ j = 4 ∨ j = 5 ∨ j = 6 ∨ j = 7 ∨ j = 8 ∨ j = 9 ∨ j = 10 ∨ j = 11 ∨ j = 12 ∨ j = 13 ∨ j = 14 ∨ j = 15 ∨ j = 16 ∨ j = 17 ∨ j = 18 ∨ j = 19 := by omega
  rcases hc with rfl | rfl | rfl | rfl | rfl | rfl | rfl | rfl | rfl | rfl | rfl | rfl | rfl | rfl | rfl | rfl | rfl | rfl | rfl | rfl
  all_goals
    simp only [entB, List.getD_cons_zero, List.getD_cons_succ, Nat.add_zero]
    omega

/-- What is read is written so. -/
theorem writes {b : List UInt8} (h : decErr b = none) : encErr (decCmd b) (decEnts b) = none ∧ encBytes (decCmd b) (decEnts b) = b ∧ ∀ e ∈ decEnts b, 0 ≤ e.addr ∧ e.addr < 4294967296 := by
  by_cases ha : b = askAll
  · have h1 : decCmd b = 1 := by unfold decCmd; rw [h, if_neg (by simp), if_pos ha]
    have h2 : decEnts b = [] := by unfold decEnts; rw [h, if_neg (by simp), if_pos ha]
    rw [h1, h2]
    exact ⟨rfl, ha.symm, by simp⟩
  · have h1 : decCmd b = 2 := by unfold decCmd; rw [h, if_neg (by simp), if_neg ha]
    have h2 : decEnts b = ents b := by unfold decEnts; rw [h, if_neg (by simp), if_neg ha]
    rw [h1, h2]
    unfold decErr at h
    split at h
    · simp at h
    · rename_i hz
      split at h
      · simp at h
      · rename_i ht
        have ht : b.take 4 = [2, 2, 0, 0] := by simpa using ht
        have hz : 24 ≤ b.length ∧ b.length ≤ 504 ∧ b.length % 20 = 4 := by simp [sizeB] at hz; omega
        obtain ⟨N, hN⟩ : ∃ N, (b.length - 4) / 20 = N := ⟨_, rfl⟩
        rw [hN] at h
        have hall := scanErr_all h
        have hlen : (ents b).length = N := by unfold ents; rw [hN]; simp
        have hget : ∀ k, (hk : k < (ents b).length) → (ents b)[k] = entAt b (4 + k * 20) := fun k hk => by simp [ents]
        refine ⟨?_, ?_, ?_⟩
        · unfold encErr
          rw [if_neg (by omega), if_neg (by omega)]
          refine firstErr_none fun j hj => ?_
          rw [hget j hj]
          obtain ⟨_, hp, _, hm⟩ := errAt_zero (hall j (by omega) (by omega))
          have r := sh_range b (4 + j * 20 + 2)
          have htag : tagB (sh b (4 + j * 20 + 2)) = true := by simp [tagB]; omega
          show entErr ⟨_, _, _, _⟩ = 0
          unfold entErr
          simp only
          rw [if_neg (by rw [hp]; decide), if_neg (by rw [htag]; decide), if_neg (by rw [hm]; decide)]
        · have e : encBytes 2 (ents b) = [2, 2, 0, 0] ++ (ents b).flatMap entBytes := by unfold encBytes; rw [if_neg (by decide)]
          rw [e]
          refine bt_injR (by rw [List.length_append, flat_length, hlen]; simp; omega) fun i hi => ?_
          rw [List.length_append, flat_length, hlen] at hi
          simp at hi
          by_cases h4 : i < 4
          · unfold bt
            rw [List.getD_eq_getElem?_getD, List.getD_eq_getElem?_getD, List.getElem?_append_left (by simpa using h4), ← ht, List.getElem?_take, if_pos h4]
          · obtain ⟨k, j, hj, rfl⟩ : ∃ k j, j < 20 ∧ i = 4 + k * 20 + j := ⟨(i - 4) / 20, (i - 4) % 20, by omega, by omega⟩
            have hk : k < (ents b).length := by omega
            rw [enc_bt _ k hk j hj, hget k hk, ent_write (hall k (by omega) (by omega)) j hj]
        · intro e he
          obtain ⟨k, hk, rfl⟩ := List.getElem_of_mem he
          rw [hget k hk]
          exact wd_range b (4 + k * 20 + 4)

end Go.Proofs.YtdnpeefnobjfaaaGreatDoor
