/- A table's rows as numbers; slices.Backward over them. -/
import Derived.Test.YtdnpeefnobjfaaaGreatDoorRCmp
import Derived.Test.YtdnpeefnobjfaaaGreatDoorChk
import Derived.RangeFuncNested
import Derived.RangeFuncBound
import Derived.RangeFuncCalls
import Derived.RangeFuncLeaves
import Derived.Shelf.Abstract
import Derived.Shelf.RegionOpen
import Derived.OwnWalkIn
import Derived.TacticsInMore
import Derived.LoopNIn
import Derived.LoopIn
namespace Go.Proofs.YtdnpeefnobjfaaaGreatDoor
open Go.RowKit Go.Shelf
attribute [local go_sem] Oper.semAt_some

/-- A row of a table: a route, its age; has it changed? -/
structure Rw where
  addr : Int
  len : Int
  tag : Int
  met : Int
  frm : Int
  age : Int
  chg : Bool
deriving DecidableEq, Inhabited
def rwVals (r : Rw) : List Value := [.int .u32 r.addr, .int .i64 r.len, .int .i64 r.tag, .int .i64 r.met, .int .i64 r.frm, .int .i64 r.age, .bool r.chg]
def rwCells (w : World) (b off : Nat) (L : List Rw) : Prop := ∀ k, (h : k < L.length) → w.cell? ⟨b, off + k * 7, none⟩ = some (.int .u32 L[k].addr) ∧ w.cell? ⟨b, off + k * 7 + 1, none⟩ = some (.int .i64 L[k].len) ∧ w.cell? ⟨b, off + k * 7 + 2, none⟩ = some (.int .i64 L[k].tag) ∧ w.cell? ⟨b, off + k * 7 + 3, none⟩ = some (.int .i64 L[k].met) ∧ w.cell? ⟨b, off + k * 7 + 4, none⟩ = some (.int .i64 L[k].frm) ∧ w.cell? ⟨b, off + k * 7 + 5, none⟩ = some (.int .i64 L[k].age) ∧ w.cell? ⟨b, off + k * 7 + 6, none⟩ = some (.bool L[k].chg)
theorem rwCells_below {w w1 : World} {b off B : Nat} {L : List Rw} (h : rwCells w b off L) (hb : Below B w w1) (hB : b < B) : rwCells w1 b off L := fun k hk => by
  obtain ⟨h0, h1, h2, h3, h4, h5, h6⟩ := h k hk
  exact ⟨(hb.cell (p := ⟨b, _, none⟩) hB).trans h0, (hb.cell (p := ⟨b, _, none⟩) hB).trans h1, (hb.cell (p := ⟨b, _, none⟩) hB).trans h2, (hb.cell (p := ⟨b, _, none⟩) hB).trans h3, (hb.cell (p := ⟨b, _, none⟩) hB).trans h4, (hb.cell (p := ⟨b, _, none⟩) hB).trans h5, (hb.cell (p := ⟨b, _, none⟩) hB).trans h6⟩
theorem rwCells_lt {w : World} {b off : Nat} {L : List Rw} (h : rwCells w b off L) (h0 : 0 < L.length) : b < w.heap.size := World.block_lt_of_cell? w _ (h 0 h0).1
/-- A slice that holds these rows. -/
def rwSlice (w : World) (ao : Option Addr) (L : List Rw) : Prop := L = [] ∨ ∃ b off, ao = some ⟨b, off, none⟩ ∧ rwCells w b off L
theorem rwSlice_below {w w1 : World} {ao : Option Addr} {L : List Rw} (h : rwSlice w ao L) (hb : Below w.heap.size w w1) : rwSlice w1 ao L := by
  rcases h with h | ⟨b, off, ha, hc⟩
  · exact .inl h
  · by_cases h0 : 0 < L.length
    · exact .inr ⟨b, off, ha, rwCells_below hc hb (rwCells_lt hc h0)⟩
    · exact .inl (List.eq_nil_of_length_eq_zero (by omega))

/-- A row whose prefix has a length. -/
abbrev ORw := { r : Rw // 0 ≤ r.len ∧ r.len ≤ 32 }
instance : Inhabited ORw := ⟨⟨default, by decide⟩⟩
def rawRows (L : List ORw) : List Rw := L.map (·.1)
theorem rawRows_length (L : List ORw) : (rawRows L).length = L.length := by simp [rawRows]
def okRows (L : List Rw) (h : ∀ r ∈ L, 0 ≤ r.len ∧ r.len ≤ 32) : List ORw := L.pmap (fun r h => ⟨r, h⟩) h
theorem raw_ok (L : List Rw) (h : ∀ r ∈ L, 0 ≤ r.len ∧ r.len ≤ 32) : rawRows (okRows L h) = L := by
  unfold rawRows okRows
  rw [List.map_pmap]
  simp

/-- What comes in round k: from the last row on. -/
def backAt (L : List ORw) (k : Nat) : Int × ORw := ((L.length : Int) - 1 - (k : Int), L[L.length - 1 - k]?.getD default)
def backUpto (L : List ORw) (k : Nat) : List (Int × ORw) := (List.range k).map (backAt L)
theorem backUpto_succ (L : List ORw) (k : Nat) : backUpto L (k + 1) = backUpto L k ++ [backAt L k] := by simp [backUpto, List.range_succ]
theorem backUpto_length (L : List ORw) (k : Nat) : (backUpto L k).length = k := by simp [backUpto]
theorem backUpto_rows (L : List ORw) (k : Nat) (hk : k ≤ L.length) : (backUpto L k).map (·.2) = L.reverse.take k := by
  apply List.ext_getElem
  · simp [backUpto]; omega
  · intro i h1 h2
    have hi : i < k := by simpa [backUpto] using h1
    simp only [backUpto, List.map_map, List.getElem_map, List.getElem_range, Function.comp_apply, backAt, List.getElem_take, List.getElem_reverse]
    rw [List.getElem?_eq_getElem (by omega)]
    rfl
def rwEncs (x : Int × ORw) : Array Value := #[.int .i64 x.1, .agg #[.int .u32 x.2.1.addr, .int .i64 x.2.1.len, .int .i64 x.2.1.tag, .int .i64 x.2.1.met, .int .i64 x.2.1.frm, .int .i64 x.2.1.age, .bool x.2.1.chg]]

set_option maxRecDepth 100000 in
set_option maxHeartbeats 2000000 in
theorem backward1_in (F : Fence) (n : Nat) (h7 : F.fn 152) (hro : F.round = none) (hn : 1 ≤ n) (l Bs n₀ b off len cap : Nat) (L : List ORw) (hL : L.length = len) (hlen : len ≤ 1000000) (hb : b < n₀) (hBs0 : Bs < n₀) (J Jx : List (Int × ORw) → World → Prop)
    (hY : ∀ pre x W, J pre W → pre.length < len → YieldAt F (n - 1) Tryz.prog l (rwEncs x) W fun e W' =>
      (e = .returned (.bool true) ∧ J (pre ++ [x]) W' ∧ Below n₀ W W') ∨ (e = .returned (.bool false) ∧ Jx (pre ++ [x]) W'))
    (W : World) (hBs : W.cell? ⟨Bs, 0, none⟩ = some (.slice (some ⟨b, off, none⟩) len cap)) (hc : rwCells W b off (rawRows L)) (h0 : J [] W) :
    CallsIn F n Tryz.prog 152 #[.func (.yield l) #[] #[], .pointer (some ⟨Bs, 0, none⟩)] W fun e W' => (∃ v, e = .returned v) ∧
      ((∃ ys, ys = backUpto L len ∧ J ys W') ∨ (∃ pre, (∃ k, k ≤ len ∧ pre = backUpto L k) ∧ Jx pre W')) := by
  refine callsIn_of_wp Tryz.func152 rfl h7 ?_ hro
  simp only [Tryz.ntmps152, List.size_toArray, List.length_cons, List.length_nil, Nat.reduceAdd, Nat.reduceSub, Array.replicate_succ, Array.replicate_zero, List.push_toArray, List.append_toArray, List.nil_append, List.cons_append]
  have HL := hide hL
  have HC := hide hc
  clear hL hc
  gi_wp2
  gi_loopw [3] (fun i wr => ∃ m : Nat, m ≤ len ∧ i = .int .i64 ((m : Int) - 1) ∧ J (backUpto L (len - m)) wr ∧ Below n₀ W wr)
    (fun i _ => (intOf i + 1).toNat)
  case atStart => exact ⟨len, Nat.le_refl _, rfl, by rw [Nat.sub_self]; exact h0, Below.refl _ _⟩
  case round =>
    obtain ⟨m, hk, rfl, hJs, hnx⟩ := hrel
    have hBx : wr.cell? ⟨Bs, 0, none⟩ = some (.slice (some ⟨b, off, none⟩) len cap) := (hnx.cell (p := ⟨Bs, 0, none⟩) hBs0).trans hBs
    cases m with
    | succ m =>
      obtain ⟨fn, tmps, assign, body, hy, hR⟩ := hY _ (backAt L (len - (m + 1))) wr hJs (by rw [backUpto_length]; omega)
      have hm : m < L.length := by rw [unhide HL]; omega
      obtain ⟨c0, c1, c2, c3, c4, c5, c6⟩ := rwCells_below (unhide HC) hnx hb m (by rw [rawRows_length]; exact hm)
      have hraw : (rawRows L)[m]'(by rw [rawRows_length]; exact hm) = L[m].1 := by simp [rawRows]
      rw [hraw] at c0 c1 c2 c3 c4 c5 c6
      clear hraw
      have hE : backAt L (len - (m + 1)) = ((m : Int), L[m]) := by
        simp only [backAt, unhide HL]
        rw [show len - 1 - (len - (m + 1)) = m by omega, List.getElem?_eq_getElem hm, show (len : Int) - 1 - ((len - (m + 1) : Nat) : Int) = m by omega]
        rfl
      have hnext : backUpto L (len - (m + 1)) ++ [((m : Int), L[m])] = backUpto L (len - m) := by
        rw [← hE, ← backUpto_succ, show len - (m + 1) + 1 = len - m by omega]
      rw [hE] at hy hR
      simp only [rwEncs] at hy
      rw [hnext] at hR
      clear hE hnext
      generalize L[m] = E at *
      have hi : (((m + 1 : Nat) : Int) - 1) = (m : Int) := by omega
      have hge : (0 : Int) ≤ (m : Int) := by omega
      have hlt : (m : Int) < (len : Int) := by omega
      rw [hi]
      clear hi
      gi_wp2
      refine hR.mono ?_
      rintro e W3 (⟨rfl, hJ3, hk3⟩ | ⟨rfl, hJx3⟩)
      · gi_wp2
        go_roundw
        case rel => exact ⟨m, by omega, by go_num, hJ3, hnx.trans hk3⟩
        case measure => simp [intOf]
      · gi_wp2
        refine bodyPost_ret (results_none rfl _ _ _) rfl ?_
        exact ⟨⟨_, rfl⟩, .inr ⟨_, ⟨len - m, by omega, rfl⟩, hJx3⟩⟩
    | zero =>
      gi_wp2
      go_end0
      exact ⟨⟨_, rfl⟩, .inl ⟨_, rfl, hJs⟩⟩

set_option maxRecDepth 100000 in
set_option maxHeartbeats 1000000 in
theorem backward1_nil_in (F : Fence) (n : Nat) (h7 : F.fn 152) (hro : F.round = none) (l Bs cap : Nat) (ao : Option Addr) (J : List (Int × ORw) → World → Prop) (W : World) (hBs : W.cell? ⟨Bs, 0, none⟩ = some (.slice ao 0 cap)) (h0 : J [] W) :
    CallsIn F n Tryz.prog 152 #[.func (.yield l) #[] #[], .pointer (some ⟨Bs, 0, none⟩)] W fun e W' => (∃ v, e = .returned v) ∧ J [] W' := by
  refine callsIn_of_wp Tryz.func152 rfl h7 ?_ hro
  simp only [Tryz.ntmps152, List.size_toArray, List.length_cons, List.length_nil, Nat.reduceAdd, Nat.reduceSub, Array.replicate_succ, Array.replicate_zero, List.push_toArray, List.append_toArray, List.nil_append, List.cons_append]
  gi_wp2
  gi_loopw [3] (fun i wr => i = .int .i64 (-1) ∧ J [] wr) (fun _ _ => 0)
  case atStart => exact ⟨rfl, h0⟩
  case round =>
    obtain ⟨rfl, hJs⟩ := hrel
    gi_wp2
    go_end0
    exact ⟨⟨_, rfl⟩, hJs⟩

set_option maxHeartbeats 1000000 in
theorem backward_in (F : Fence) (n : Nat) (h5 : F.fn 102) (hro : F.round = none) (a : Option Addr) (len cap : Nat) (w : World) :
    CallsIn F n Tryz.prog 102 #[.slice a len cap] w fun e w' => e = .returned (.func (.func 152) #[] #[.pointer (some ⟨w.heap.size, 0, none⟩)]) ∧ w' = w.alloc (.cells #[.slice a len cap] 118) := by
  refine callsIn_of_wp Tryz.func102 rfl h5 ?_ hro
  simp only [Tryz.ntmps102, List.size_toArray, List.length_cons, List.length_nil, Nat.reduceAdd, Nat.reduceSub, Array.replicate_succ, Array.replicate_zero, List.push_toArray, List.append_toArray, List.nil_append, List.cons_append]
  gi_wp2
  go_ret
  exact ⟨rfl, rfl⟩

/-- slices.Backward over rows: from the last one on; or a part, if a round says that it is enough. -/
theorem backward_stops (F : Fence) (n : Nat) (h7 : F.fn 152) (hro : F.round = none) (hn : 1 ≤ n) (Bs n₀ cap : Nat) (ao : Option Addr) (L : List ORw) (hlen : L.length ≤ 1000000) (w : World) (hBs : Bs < n₀) (hn₀ : n₀ ≤ w.heap.size)
    (hc : w.cell? ⟨Bs, 0, none⟩ = some (.slice ao L.length cap)) (hI : L = [] ∨ ∃ b off, ao = some ⟨b, off, none⟩ ∧ b < n₀ ∧ rwCells w b off (rawRows L)) :
    SeqStopsK F n Tryz.prog 152 #[.pointer (some ⟨Bs, 0, none⟩)] rwEncs (Below n₀) (fun ys => ys = backUpto L L.length) (fun pre => ∃ k, k ≤ L.length ∧ pre = backUpto L k) L.length w := fun l J Jx W hW _ _ hY h0 => by
  have hc' := (hW.cell (p := ⟨Bs, 0, none⟩) (Nat.lt_of_lt_of_le hBs hn₀)).trans hc
  rcases hI with rfl | ⟨b, off, rfl, hb, hcs⟩
  · exact (backward1_nil_in F n h7 hro l Bs cap ao J W hc' h0).mono fun e W' ⟨he, hj⟩ => ⟨he, .inl ⟨_, rfl, hj⟩⟩
  · exact backward1_in F n h7 hro hn l Bs n₀ b off L.length cap L rfl hlen hb hBs J Jx hY W hc' (rwCells_below hcs hW (Nat.lt_of_lt_of_le hb hn₀)) h0

end Go.Proofs.YtdnpeefnobjfaaaGreatDoor
