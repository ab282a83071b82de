/- A table's rows as numbers; slices.Backward over them. -/
import Derived.Test.YtdnpeefnobjfaaaGreatDoorPfxM
import Derived.RangeFuncNested
import Derived.RangeFuncBound
import Derived.RangeFuncCalls
import Derived.RangeFuncLeaves
import Derived.Shelf.Abstract
import Derived.Shelf.RegionOpen
import Derived.OwnWalkIn
import Derived.TacticsInMore
import Derived.LoopNIn
import Derived.LoopIn
namespace Go.Proofs.YtdnpeefnobjfaaaGreatDoor
open Go.RowKit Go.Shelf
attribute [local go_sem] Oper.semAt_some

/-- A row of a table: a route, its age; has it changed? -/
structure Rw where
  addr : Int
  len : Int
  tag : Int
  met : Int
  frm : Int
  age : Int
  chg : Bool
deriving DecidableEq, Inhabited
def rwVals (r : Rw) : List Value := [.int .u32 r.addr, .int .i64 r.len, .int .i64 r.tag, .int .i64 r.met, .int .i64 r.frm, .int .i64 r.age, .bool r.chg]
def rwCells (w : World) (b off : Nat) (L : List Rw) : Prop := ∀ k, (h : k < L.length) → w.cell? ⟨b, off + k * 7, none⟩ = some (.int .u32 L[k].addr) ∧ w.cell? ⟨b, off + k * 7 + 1, none⟩ = some (.int .i64 L[k].len) ∧ w.cell? ⟨b, off + k * 7 + 2, none⟩ = some (.int .i64 L[k].tag) ∧ w.cell? ⟨b, off + k * 7 + 3, none⟩ = some (.int .i64 L[k].met) ∧ w.cell? ⟨b, off + k * 7 + 4, none⟩ = some (.int .i64 L[k].frm) ∧ w.cell? ⟨b, off + k * 7 + 5, none⟩ = some (.int .i64 L[k].age) ∧ w.cell? ⟨b, off + k * 7 + 6, none⟩ = some (.bool L[k].chg)
theorem rwCells_below {w w1 : World} {b off B : Nat} {L : List Rw} (h : rwCells w b off L) (hb : Below B w w1) (hB : b < B) : rwCells w1 b off L := fun k hk => by
  obtain ⟨h0, h1, h2, h3, h4, h5, h6⟩ := h k hk
  exact ⟨(hb.cell (p := ⟨b, _, none⟩) hB).trans h0, (hb.cell (p := ⟨b, _, none⟩) hB).trans h1, (hb.cell (p := ⟨b, _, none⟩) hB).trans h2, (hb.cell (p := ⟨b, _, none⟩) hB).trans h3, (hb.cell (p := ⟨b, _, none⟩) hB).trans h4, (hb.cell (p := ⟨b, _, none⟩) hB).trans h5, (hb.cell (p := ⟨b, _, none⟩) hB).trans h6⟩
theorem rwCells_lt {w : World} {b off : Nat} {L : List Rw} (h : rwCells w b off L) (h0 : 0 < L.length) : b < w.heap.size := World.block_lt_of_cell? w _ (h 0 h0).1
/-- A slice that holds these rows. -/
def rwSlice (w : World) (ao : Option Addr) (L : List Rw) : Prop := L = [] ∨ ∃ b off, ao = some ⟨b, off, none⟩ ∧ rwCells w b off L
theorem rwSlice_below {w w1 : World} {ao : Option Addr} {L : List Rw} (h : rwSlice w ao L) (hb : Below w.heap.size w w1) : rwSlice w1 ao L := by
  rcases h with h | ⟨b, off, ha, hc⟩
  · exact .inl h
  · by_cases h0 : 0 < L.length
    · exact .inr ⟨b, off, ha, rwCells_below hc hb (rwCells_lt hc h0)⟩
    · exact .inl (List.eq_nil_of_length_eq_zero (by omega))

/-- A row whose prefix has a length. -/
abbrev ORw := { r : Rw // 0 ≤ r.len ∧ r.len ≤ 32 }
instance : Inhabited ORw := ⟨⟨default, by decide⟩⟩
def rawRows (L : List ORw) : List Rw := L.map (·.1)
theorem rawRows_length (L : List ORw) : (rawRows L).length = L.length := by simp [rawRows]
def okRows (L : List Rw) (h : ∀ r ∈ L, 0 ≤ r.len ∧ r.len ≤ 32) : List ORw := L.pmap (fun r h => ⟨r, h⟩) h
theorem raw_ok (L : List Rw) (h : ∀ r ∈ L, 0 ≤ r.len ∧ r.len ≤ 32) : rawRows (okRows L h) = L := by
  unfold rawRows okRows
  rw [List.map_pmap]
  simp

/-- What comes in round k: from the last row on. -/
def backAt (L : List ORw) (k : Nat) : Int × ORw := ((L.length : Int) - 1 - (k : Int), L[L.length - 1 - k]?.getD default)
def backUpto (L : List ORw) (k : Nat) : List (Int × ORw) := (List.range k).map (backAt L)
theorem backUpto_succ (L : List ORw) (k : Nat) : backUpto L (k + 1) = backUpto L k ++ [backAt L k] := by simp [backUpto, List.range_succ]
theorem backUpto_length (L : List ORw) (k : Nat) : (backUpto L k).length = k := by simp [backUpto]
theorem backUpto_rows (L : List ORw) (k : Nat) (hk : k ≤ L.length) : (backUpto L k).map (·.2) = L.reverse.take k := by
  apply List.ext_getElem
  · simp [backUpto]; omega
  · intro i h1 h2
    have hi : i < k := by simpa [backUpto] using h1
    simp only [backUpto, List.map_map, List.getElem_map, List.getElem_range, Function.comp_apply, backAt, List.getElem_take, List.getElem_reverse]
    rw [List.getElem?_eq_getElem (by omega)]
    rfl
def rwEncs (x : Int × ORw) : Array Value := #[.int .i64 x.1, .agg #[.int .u32 x.2.1.addr, .int .i64 x.2.1.len, .int .i64 x.2.1.tag, .int .i64 x.2.1.met, .int .i64 x.2.1.frm, .int .i64 x.2.1.age, .bool x.2.1.chg]]

set_option maxRecDepth 100000 in
set_option maxHeartbeats 2000000 in
theorem backward1_in (F : Fence) (n : Nat) (h7 : F.fn 152) (hro : F.round = none) (hn : 1 ≤ n) (l Bs n₀ b off len cap : Nat) (L : List ORw) (hL : L.length = len) (hlen : len ≤ 1000000) (hb : b < n₀) (hBs0 : Bs < n₀) (J Jx : List (Int × ORw) → World → Prop)
    (hY : ∀ pre x W, J pre W → pre.length < len → YieldAt F (n - 1) Tryz.prog l (rwEncs x) W fun e W' =>
      (e = .returned (.bool true) ∧ J (pre ++ [x]) W' ∧ Below n₀ W W') ∨ (e = .returned (.bool false) ∧ Jx (pre ++ [x]) W'))
    (W : World) (hBs : W.cell? ⟨Bs, 0, none⟩ = some (.slice (some ⟨b, off, none⟩) len cap)) (hc : rwCells W b off (rawRows L)) (h0 : J [] W) :
    CallsIn F n Tryz.prog 152 #[.func (.yield l) #[] #[], .pointer (some ⟨Bs, 0, none⟩)] W fun e W' => (∃ v, e = .returned v) ∧
      ((∃ ys, ys = backUpto L len ∧ J ys W') ∨ (∃ pre, (∃ k, k ≤ len ∧ pre = backUpto L k) ∧ Jx pre W')) := by
  refine callsIn_of_wp Tryz.func152 rfl h7 ?_ hro
  simp only [Tryz.ntmps152, List.size_toArray, List.length_cons, List.length_nil, Nat.reduceAdd, Nat.reduceSub, Array.replicate_succ, Array.replicate_zero, List.push_toArray, List.append_toArray, List.nil_append, List.cons_append]
  have HL := hide hL
  have HC := hide hc
  clear hL hc
  gi_wp2
  gi_loopw [3] (fun i wr => ∃ m : Nat, m ≤ len ∧ i = .int .i64 ((m : Int) - 1) ∧ J (backUpto L (len - m)) wr ∧ Below n₀ W wr)
    (fun i _ => (intOf i + 1).toNat)
  case atStart => exact ⟨len, Nat.le_refl _, rfl, by rw [Nat.sub_self]; exact h0, Below.refl _ _⟩
  case round =>
    obtain ⟨m, hk, rfl, hJs, hnx⟩ := hrel
    have hBx : wr.cell? ⟨Bs, 0, none⟩ = some (.slice (some ⟨b, off, none⟩) len cap) := (hnx.cell (p := ⟨Bs, 0, none⟩) hBs0).trans hBs
    cases m with
    | succ m =>
      obtain ⟨fn, tmps, assign, body, hy, hR⟩ := hY _ (backAt L (len - (m + 1))) wr hJs (by rw [backUpto_length]; omega)
      have hm : m < L.length := by rw [unhide HL]; omega
      obtain ⟨c0, c1, c2, c3, c4, c5, c6⟩ := rwCells_below (unhide HC) hnx hb m (by rw [rawRows_length]; exact hm)
      have hraw : (rawRows L)[m]'(by rw [rawRows_length]; exact hm) = L[m].1 := by simp [rawRows]
      rw [hraw] at c0 c1 c2 c3 c4 c5 c6
      clear hraw
      have hE : backAt L (len - (m + 1)) = ((m : Int), L[m]) := by
        simp only [backAt, unhide HL]
        rw [show len - 1 - (len - (m + 1)) = m by omega, List.getElem?_eq_getElem hm, show (len : Int) - 1 - ((len - (m + 1) : Nat) : Int) = m by omega]
        rfl
      have hnext : backUpto L (len - (m + 1)) ++ [((m : Int), L[m])] = backUpto L (len - m) := by
        rw [← hE, ← backUpto_succ, show len - (m + 1) + 1 = len - m by omega]
      rw [hE] at hy hR
      simp only [rwEncs] at hy
      rw [hnext] at hR
      clear hE hnext
      generalize L[m] = E at *
      have hi : (((m + 1 : Nat) : Int) - 1) = (m : Int) := by omega
      have hge : (0 : Int) ≤ (m : Int) := by omega
      have hlt : (m : Int) < (len : Int) := by omega
      rw [hi]
      clear hi
      gi_wp2
      refine hR.mono ?_
      rintro e W3 (⟨rfl, hJ3, hk3⟩ | ⟨rfl, hJx3⟩)
      · gi_wp2
        go_roundw
        case rel => exact ⟨m, by omega, by go_num, hJ3, hnx.trans hk3⟩
        case measure => simp [intOf]
      · gi_wp2
        refine bodyPost_ret (results_none rfl _ _ _) rfl ?_
        exact ⟨⟨_, rfl⟩, .inr ⟨_, ⟨len - m, by omega, rfl⟩, hJx3⟩⟩
    | zero =>
      gi_wp2
      go_end0
      exact ⟨⟨_, rfl⟩, .inl ⟨_, rfl, hJs⟩⟩

set_option maxRecDepth 100000 in
set_option maxHeartbeats 1000000 in
theorem backward1_nil_in (F : Fence) (n : Nat) (h7 : F.fn 152) (hro : F.round = none) (l Bs cap : Nat) (ao : Option Addr) (J : List (Int × ORw) → World → Prop) (W : World) (hBs : W.cell? ⟨Bs, 0, none⟩ = some (.slice ao 0 cap)) (h0 : J [] W) :
    CallsIn F n Tryz.prog 152 #[.func (.yield l) #[] #[], .pointer (some ⟨Bs, 0, none⟩)] W fun e W' => (∃ v, e = .returned v) ∧ J [] W' := by
  refine callsIn_of_wp Tryz.func152 rfl h7 ?_ hro
  simp only [Tryz.ntmps152, List.size_toArray, List.length_cons, List.length_nil, Nat.reduceAdd, Nat.reduceSub, Array.replicate_succ, Array.replicate_zero, List.push_toArray, List.append_toArray, List.nil_append, List.cons_append]
  gi_wp2
  gi_loopw [3] (fun i wr => i = .int .i64 (-1) ∧ J [] wr) (fun _ _ => 0)
  case atStart => exact ⟨rfl, h0⟩
  case round =>
    obtain ⟨rfl, hJs⟩ := hrel
    gi_wp2
    go_end0
    exact ⟨⟨_, rfl⟩, hJs⟩

set_option maxHeartbeats 1000000 in
theorem backward_in (F : Fence) (n : Nat) (h5 : F.fn 102) (hro : F.round = none) (a : Option Addr) (len cap : Nat) (w : World) :
    CallsIn F n Tryz.prog 102 #[.slice a len cap] w fun e w' => e = .returned (.func (.func 152) #[] #[.pointer (some ⟨w.heap.size, 0, none⟩)]) ∧ w' = w.alloc (.cells #[.slice a len cap] 118) := by
  refine callsIn_of_wp Tryz.func102 rfl h5 ?_ hro
  simp only [Tryz.ntmps102, List.size_toArray, List.length_cons, List.length_nil, Nat.reduceAdd, Nat.reduceSub, Array.replicate_succ, Array.replicate_zero, List.push_toArray, List.append_toArray, List.nil_append, List.cons_append]
  gi_wp2
  go_ret
  exact ⟨rfl, rfl⟩

/-- slices.Backward over rows: from the last one on; or a part, if a round says that it is enough. -/
theorem backward_stops (F : Fence) (n : Nat) (h7 : F.fn 152) (hro : F.round = none) (hn : 1 ≤ n) (Bs n₀ cap : Nat) (ao : Option Addr) (L : List ORw) (hlen : L.length ≤ 1000000) (w : World) (hBs : Bs < n₀) (hn₀ : n₀ ≤ w.heap.size)
    (hc : w.cell? ⟨Bs, 0, none⟩ = some (.slice ao L.length cap)) (hI : L = [] ∨ ∃ b off, ao = some ⟨b, off, none⟩ ∧ b < n₀ ∧ rwCells w b off (rawRows L)) :
    SeqStopsK F n Tryz.prog 152 #[.pointer (some ⟨Bs, 0, none⟩)] rwEncs (Below n₀) (fun ys => ys = backUpto L L.length) (fun pre => ∃ k, k ≤ L.length ∧ pre = backUpto L k) L.length w := fun l J Jx W hW _ _ hY h0 => by
  have hc' := (hW.cell (p := ⟨Bs, 0, none⟩) (Nat.lt_of_lt_of_le hBs hn₀)).trans hc
  rcases hI with rfl | ⟨b, off, rfl, hb, hcs⟩
  · exact (backward1_nil_in F n h7 hro l Bs cap ao J W hc' h0).mono fun e W' ⟨he, hj⟩ => ⟨he, .inl ⟨_, rfl, hj⟩⟩
  · exact backward1_in F n h7 hro hn l Bs n₀ b off L.length cap L rfl hlen hb hBs J Jx hY W hc' (rwCells_below hcs hW (Nat.lt_of_lt_of_le hb hn₀)) h0

end Go.Proofs.YtdnpeefnobjfaaaGreatDoor

/- What prefix.Has, Row.isDying and Table.Find answer. -/
namespace Go.Proofs.YtdnpeefnobjfaaaGreatDoor
open Go.RowKit Go.Shelf
attribute [local go_sem] Oper.semAt_some

set_option maxHeartbeats 400000 in
theorem isDying_any (r : Rw) (w : World) :
    Calls Tryz.prog 103 #[.agg #[.int .u32 r.addr, .int .i64 r.len, .int .i64 r.tag, .int .i64 r.met, .int .i64 r.frm, .int .i64 r.age, .bool r.chg]] w fun e w' => e = .returned (.bool (decide (r.met = 16))) ∧ Grows w w' := by
  go_enter Tryz.func103, Tryz.ntmps103
  go_wp2
  go_ret
  refine ⟨ret_bool ?_, (Grows.refl w).alloc _⟩
  rw [Bool.eq_iff_iff]; simp

/-- An address without its last bits. -/
theorem mask_and (x k : Nat) (hx : x < 4294967296) (hk : k ≤ 32) : x &&& (4294967296 - 2 ^ k) = x - x % 2 ^ k := by
  have e1 : 4294967296 - 2 ^ k = (2 ^ (32 - k) - 1) <<< k := by
    rw [Nat.shiftLeft_eq, Nat.sub_mul, ← Nat.pow_add, Nat.sub_add_cancel hk]
    simp
  have e2 : x - x % 2 ^ k = (x >>> k) <<< k := by
    rw [Nat.shiftLeft_eq, Nat.shiftRight_eq_div_pow]
    have := Nat.div_add_mod x (2 ^ k)
    rw [Nat.mul_comm] at this
    omega
  rw [e1, e2]
  apply Nat.eq_of_testBit_eq
  intro i
  simp only [Nat.testBit_and, Nat.testBit_shiftLeft, Nat.testBit_shiftRight, Nat.testBit_two_pow_sub_one]
  by_cases hi : k ≤ i
  · simp only [hi, decide_true, Bool.true_and]
    rw [Nat.add_sub_cancel' hi]
    by_cases h32 : i - k < 32 - k
    · simp [h32]
    · have : x.testBit i = false := Nat.testBit_lt_two_pow (Nat.lt_of_lt_of_le hx (by rw [show (4294967296 : Nat) = 2 ^ 32 from rfl]; exact Nat.pow_le_pow_right (by decide) (by omega)))
      simp [this]
  · simp [hi]
/-- Has a prefix an address? -/
def hasB (a l x : Int) : Bool := decide (x - x % 2 ^ (32 - l).toNat = a)
theorem has_val (a l x : Int) (h0 : 0 ≤ l) (hx : 0 ≤ x) (hx' : x < 4294967296) : (bits BinOp.and IntKind.u32 x (4294967296 - 2 ^ (32 - l).toNat) == a) = hasB a l x := by
  have hp := pow_pos' (32 - l).toNat
  have hl := pow_le32 (32 - l).toNat (by omega)
  rw [u32_and _ _ hx hx' (by omega) (by omega)]
  obtain ⟨y, rfl⟩ := Int.eq_ofNat_of_zero_le hx
  have e2 : ((2 : Int) ^ (32 - l).toNat) = ((2 ^ (32 - l).toNat : Nat) : Int) := by simp
  have e3 : ((4294967296 : Int) - 2 ^ (32 - l).toNat).toNat = 4294967296 - 2 ^ (32 - l).toNat := by rw [e2] at hl ⊢; omega
  rw [e3, Int.toNat_natCast, mask_and y _ (by omega) (by omega), hasB, e2, Bool.eq_iff_iff]
  have hm := Nat.mod_le y (2 ^ (32 - l).toNat)
  simp only [beq_iff_eq, decide_eq_true_eq]
  omega

set_option maxHeartbeats 400000 in
theorem has_any (a l x : Int) (w : World) (h0 : 0 ≤ l) (h1 : l ≤ 32) (hx : 0 ≤ x) (hx' : x < 4294967296) :
    Calls Tryz.prog 104 #[.agg #[.int .u32 a, .int .i64 l], .int .u32 x] w fun e w' => e = .returned (.bool (hasB a l x)) ∧ Grows w w' := by
  have hm : ∀ W, Calls Tryz.prog 127 #[.agg #[.int .u32 a, .int .i64 l]] W fun e w' => e = .returned (.int .u32 (4294967296 - 2 ^ (32 - l).toNat)) ∧ Grows W w' := fun W => (mask_any a l W h0 h1).mono fun _ _ ⟨he, hw⟩ => ⟨he, by rw [hw]; exact (Grows.refl W).alloc _⟩
  have hv := hide (has_val a l x h0 hx hx')
  have hfol := prog_follows
  go_enter Tryz.func104, Tryz.ntmps104
  go_wp2_with fail
  have G0 := fun n os => cell_grown (w := w.alloc (.cells #[.int .u32 a, .int .i64 l] 32)) (a := ⟨w.heap.size, 0, none⟩) (by simp) (show _ = some (.int .u32 a) by simp) n os
  have G1 := fun n os => cell_grown (w := w.alloc (.cells #[.int .u32 a, .int .i64 l] 32)) (a := ⟨w.heap.size, 1, none⟩) (by simp) (show _ = some (.int .i64 l) by simp) n os
  go_quiet_grown (first | (go_at_call 127; refine Grows.quiet (hm _)))
  go_wp2
  go_ret
  exact ⟨ret_bool (unhide hv), ((Grows.refl w).alloc _).grow _ _⟩

/-- A block of cells. -/
def Blk (W : World) (B : Nat) (cs : Array Value) (t : TypeId) : Prop := W.heap[B]? = some (.cells cs t (0, 0))
theorem Blk.lt {W : World} {B : Nat} {cs : Array Value} {t : TypeId} (h : Blk W B cs t) : B < W.heap.size := (Array.getElem?_eq_some_iff.1 h).1
theorem Blk.cell {W : World} {B : Nat} {cs : Array Value} {t : TypeId} (h : Blk W B cs t) (i : Nat) : W.cell? ⟨B, i, none⟩ = cs[i]? := by
  unfold Blk at h
  simp [World.cell?, h]
theorem Blk.frozen {W : World} {B : Nat} {cs : Array Value} {t : TypeId} (h : Blk W B cs t) (i : Nat) : W.frozen? ⟨B, i, none⟩ = false := by
  unfold Blk at h
  simp [World.frozen?, h]
theorem Blk.new (W : World) (cs : Array Value) (t : TypeId) : Blk (W.alloc (.cells cs t)) W.heap.size cs t := World.alloc_heap_new W _
theorem Blk.alloc {W : World} {B : Nat} {cs : Array Value} {t : TypeId} (h : Blk W B cs t) (o : Obj) : Blk (W.alloc o) B cs t := (Below.heap_alloc W o B h.lt).trans h
theorem Blk.below {W W' : World} {B n : Nat} {cs : Array Value} {t : TypeId} (h : Blk W B cs t) (hb : Below n W W') (hB : B < n) : Blk W' B cs t := (hb.block B hB).trans h
theorem Blk.grows {W W' : World} {B : Nat} {cs : Array Value} {t : TypeId} (h : Blk W B cs t) (hb : Grows W W') : Blk W' B cs t := h.below hb.below h.lt
theorem Blk.other {W : World} {B : Nat} {cs : Array Value} {t : TypeId} (h : Blk W B cs t) {p : Addr} (hp : p.block ≠ B) (v : Value) : Blk (W.setCell p v) B cs t := (Below.heap_setCell _ _ _ _ (by simpa using fun e => hp e.symm)).trans h
theorem Blk.set {W : World} {B : Nat} {cs : Array Value} {t : TypeId} (h : Blk W B cs t) (i : Nat) (v : Value) : Blk (W.setCell ⟨B, i, none⟩ v) B (cs.setIfInBounds i v) t := by
  unfold Blk at h ⊢
  simp [World.setCell, Array.getElem?_modify, h]
theorem Grows.grownBy {w w' : World} (h : Grows w w') : w.grownBy w' none :=
  ⟨h.below.os, h.below.tape, h.below.output, h.below.size, fun k hk _ => h.below.block k hk⟩
theorem Grows.keeps {w w' : World} (h : Grows w w') (B : Nat) : KeepsFrom B w w' := KeepsFrom.of_grownBy h.grownBy (fun j e => by cases e)
theorem Blk.own {β : Type} (B : Nat) (cs : β → Array Value) (t : TypeId) : Own (fun (s : β) W => Blk W B (cs s) t) := fun s X Y row hs hg hr =>
  (hg.block B hs.lt (fun e => by obtain ⟨o, ho, hn⟩ := hr B e.symm; rw [hs] at ho; cases ho; cases hn)).trans hs

/-- Is this the route for an address? -/
def findB (x : Int) (r : Rw) : Bool := !(decide (r.met = 16)) && hasB r.addr r.len x
def findR (L : List Rw) (x : Int) : Option Rw := L.reverse.find? (findB x)
def routeVals (r : Rw) : Array Value := #[.int .u32 r.addr, .int .i64 r.len, .int .i64 r.tag, .int .i64 r.met, .int .i64 r.frm]
def zeroRoute : Array Value := #[.int .u32 0, .int .i64 0, .int .i64 0, .int .i64 0, .int .i64 0]
def findOut : Option Rw → Value
  | some r => .tuple #[.agg (routeVals r), .bool true]
  | none => .tuple #[.agg zeroRoute, .bool false]
theorem findR_none {L : List ORw} {x : Int} (h : ∀ p ∈ backUpto L L.length, findB x p.2.1 = false) : findR (rawRows L) x = none := by
  unfold findR
  rw [List.find?_eq_none]
  intro r hr
  obtain ⟨q, hq, rfl⟩ := List.mem_map.1 (List.mem_reverse.1 hr)
  have : q ∈ (backUpto L L.length).map (·.2) := by rw [backUpto_rows L _ (Nat.le_refl _), List.take_of_length_le (by simp)]; exact List.mem_reverse.2 hq
  obtain ⟨p, hp, rfl⟩ := List.mem_map.1 this
  simp [h p hp]
theorem findR_some {L : List ORw} {x : Int} {k : Nat} (hk : k ≤ L.length) {ini : List (Int × ORw)} {last : Int × ORw} (e : backUpto L k = ini ++ [last]) (h : ∀ p ∈ ini, findB x p.2.1 = false) (hl : findB x last.2.1 = true) : findR (rawRows L) x = some last.2.1 := by
  unfold findR rawRows
  have e2 := congrArg (List.map (·.2)) e
  rw [backUpto_rows L k hk] at e2
  rw [← List.map_reverse, ← List.take_append_drop k L.reverse, e2, List.map_append, List.map_append, List.map_append, List.find?_append, List.find?_append]
  have h1 : ((ini.map (·.2)).map (·.1)).find? (findB x) = none := by
    rw [List.find?_eq_none]
    intro r hr
    obtain ⟨q, hq, rfl⟩ := List.mem_map.1 hr
    obtain ⟨p, hp, rfl⟩ := List.mem_map.1 hq
    simp [h p hp]
  rw [h1]
  simp [hl]

set_option maxRecDepth 100000 in
set_option maxHeartbeats 4000000 in
theorem find_ok (ao : Option Addr) (cap : Nat) (L : List ORw) (x : Int) (w : World) (hn : L.length ≤ 1000000) (hx : 0 ≤ x) (hx' : x < 4294967296) (hs : rwSlice w ao (rawRows L)) :
    Calls Tryz.prog 50 #[.agg #[.slice ao L.length cap], .int .u32 x] w fun e w' => e = .returned (findOut (findR (rawRows L) x)) ∧ Below w.heap.size w w' := by
  refine (callsIn_wide (n := 6)).1 ?_
  refine callsIn_of_wp_marks Tryz.func50 rfl trivial ?_ rfl
  simp only [Tryz.ntmps50, List.size_toArray, List.length_cons, List.length_nil, Nat.reduceAdd, Nat.reduceSub, Array.replicate_succ, Array.replicate_zero, List.push_toArray, List.append_toArray, List.nil_append, List.cons_append]
  have hfb : Fence.wide.fn 102 := trivial
  gi_wp2_with (gi_at_call 102; refine (backward_in Fence.wide (6 - 1) trivial rfl _ _ _ _).mono ?_; rintro e w' ⟨rfl, rfl⟩)
  have bX := (((Blk.new (w.alloc (.cells #[.slice ao L.length cap] 120)) #[.int .u32 x] 30).alloc (.cells #[.int .u32 0, .int .i64 0, .int .i64 0, .int .i64 0, .int .i64 0] 52)).alloc (.cells #[.bool false] 4)).alloc (.cells #[.slice ao L.length cap] 118)
  have bR := ((Blk.new ((w.alloc (.cells #[.slice ao L.length cap] 120)).alloc (.cells #[.int .u32 x] 30)) #[.int .u32 0, .int .i64 0, .int .i64 0, .int .i64 0, .int .i64 0] 52).alloc (.cells #[.bool false] 4)).alloc (.cells #[.slice ao L.length cap] 118)
  have bB := (Blk.new (((w.alloc (.cells #[.slice ao L.length cap] 120)).alloc (.cells #[.int .u32 x] 30)).alloc (.cells #[.int .u32 0, .int .i64 0, .int .i64 0, .int .i64 0, .int .i64 0] 52)) #[.bool false] 4).alloc (.cells #[.slice ao L.length cap] 118)
  have bN := Blk.new ((((w.alloc (.cells #[.slice ao L.length cap] 120)).alloc (.cells #[.int .u32 x] 30)).alloc (.cells #[.int .u32 0, .int .i64 0, .int .i64 0, .int .i64 0, .int .i64 0] 52)).alloc (.cells #[.bool false] 4)) #[.slice ao L.length cap] 118
  simp only [World.size_alloc] at bX bR bB bN
  have hB0 : Below w.heap.size w (((((w.alloc (.cells #[.slice ao L.length cap] 120)).alloc (.cells #[.int .u32 x] 30)).alloc (.cells #[.int .u32 0, .int .i64 0, .int .i64 0, .int .i64 0, .int .i64 0] 52)).alloc (.cells #[.bool false] 4)).alloc (.cells #[.slice ao L.length cap] 118)) := ((((((Grows.refl w).alloc _).alloc _).alloc _).alloc _).alloc _).below
  have hsz : (((((w.alloc (.cells #[.slice ao L.length cap] 120)).alloc (.cells #[.int .u32 x] 30)).alloc (.cells #[.int .u32 0, .int .i64 0, .int .i64 0, .int .i64 0, .int .i64 0] 52)).alloc (.cells #[.bool false] 4)).alloc (.cells #[.slice ao L.length cap] 118)).heap.size = w.heap.size + 5 := by simp
  obtain ⟨W0, hW0⟩ : ∃ W0, (((((w.alloc (.cells #[.slice ao L.length cap] 120)).alloc (.cells #[.int .u32 x] 30)).alloc (.cells #[.int .u32 0, .int .i64 0, .int .i64 0, .int .i64 0, .int .i64 0] 52)).alloc (.cells #[.bool false] 4)).alloc (.cells #[.slice ao L.length cap] 118)) = W0 := ⟨_, rfl⟩
  rw [hW0] at bX bR bB bN hB0 hsz ⊢
  clear hW0
  have hs0 := rwSlice_below hs hB0
  have hI0 : L = [] ∨ ∃ b off, ao = some ⟨b, off, none⟩ ∧ b < W0.heap.size ∧ rwCells W0 b off (rawRows L) := by
    rcases hs0 with h | ⟨b, off, ha, hc⟩
    · exact .inl (by have := congrArg List.length h; rw [rawRows_length] at this; exact List.eq_nil_of_length_eq_zero (by simpa using this))
    · by_cases h0 : 0 < L.length
      · exact .inr ⟨b, off, ha, rwCells_lt hc (by rw [rawRows_length]; exact h0), hc⟩
      · exact .inl (List.eq_nil_of_length_eq_zero (by omega))
  refine wpIn_rangeFunc_ownH rfl (by decide) (gf := 152) (lb := #[.pointer (some ⟨w.heap.size + 1 + 1 + 1 + 1, 0, none⟩)]) rfl trivial (enters_of Tryz.func152 (by kernel_rfl) rfl)
    (backward_stops Fence.wide (6 - 1) trivial rfl (by decide) (w.heap.size + 1 + 1 + 1 + 1) W0.heap.size cap ao L hn W0 (by omega) (Nat.le_refl _) ((bN.cell 0).trans rfl) hI0) belowK_t (belowK_b (Nat.le_refl _)) (Below.refl _ _) (fun _ => rfl)
    (fun pre W => (∀ p ∈ pre, findB x p.2.1 = false) ∧ Below W0.heap.size W0 W)
    (fun c pre W => (c = .ret ∧ ∃ ini last, pre = ini ++ [last] ∧ (∀ p ∈ ini, findB x p.2.1 = false) ∧ findB x last.2.1 = true ∧ Blk W (w.heap.size + 1 + 1) (routeVals last.2.1) 52 ∧ Blk W (w.heap.size + 1 + 1 + 1) #[.bool true] 4) ∧ Below w.heap.size w W)
    ?hI ?hIx ?h0
    (fun y a' W => ∃ Bx, w.heap.size + 5 ≤ Bx ∧ Blk W Bx #[.int .u32 y.2.1.addr, .int .i64 y.2.1.len, .int .i64 y.2.1.tag, .int .i64 y.2.1.met, .int .i64 y.2.1.frm, .int .i64 y.2.1.age, .bool y.2.1.chg] 137 ∧ a' = { tmps := #[.agg #[.slice ao L.length cap], .int .u32 x, .pointer (some ⟨w.heap.size, 0, none⟩), .pointer (some ⟨w.heap.size + 1, 0, none⟩), .pointer (some ⟨w.heap.size + 1 + 1, 0, none⟩), .pointer (some ⟨w.heap.size + 1 + 1 + 1, 0, none⟩), undef, .pointer (some ⟨Bx, 0, none⟩), .pointer (some ⟨w.heap.size, 0, none⟩), .slice ao L.length cap, .func (.func 152) #[] #[.pointer (some ⟨w.heap.size + 1 + 1 + 1 + 1, 0, none⟩)], .int .i64 y.1, .agg #[.int .u32 y.2.1.addr, .int .i64 y.2.1.len, .int .i64 y.2.1.tag, .int .i64 y.2.1.met, .int .i64 y.2.1.frm, .int .i64 y.2.1.age, .bool y.2.1.chg], undef, undef, undef, undef, undef, undef, undef, undef, undef, undef, undef, undef, undef], defers := [] })
    ?hAx ?assign ?body ?done ?stop
  case hI => exact OwnFrom.and (ownFrom_pure _ (fun (pre : List (Int × ORw)) => ∀ p ∈ pre, findB x p.2.1 = false)) (ownFrom_below (Nat.le_refl _) (Nat.le_refl _))
  case hIx =>
    intro c
    refine OwnFrom.and (Own.from (fun s X Y row hs hg hr => ?_) _) (ownFrom_below (Nat.le_refl _) (by omega))
    obtain ⟨hc, ini, last, e1, e2, e3, e4, e5⟩ := hs
    exact ⟨hc, ini, last, e1, e2, e3, Blk.own (β := Unit) _ (fun _ => routeVals last.2.1) _ () X Y row e4 hg hr, Blk.own (β := Unit) _ (fun _ => #[.bool true]) _ () X Y row e5 hg hr⟩
  case h0 => exact ⟨by simp, Below.refl _ _⟩
  case hAx =>
    intro y a' _ X Y row hs hg hr
    obtain ⟨Bx, h1, h2, h3⟩ := hs
    exact ⟨Bx, h1, Blk.own (β := Unit) _ (fun _ => _) _ () X Y row h2 hg (fun r e => (hr r e).2), h3⟩
  case assign =>
    rintro l pre y W K ⟨hp, hB1⟩ hK
    simp only [rwEncs]
    gi_wp2
    exact hK _ _ ((KeepsOthers.alloc _ _).from _) ((Below.refl _ W).alloc hB1.size _) ⟨hp, hB1.alloc hB1.size _⟩ ⟨W.heap.size, by have := hB1.size; omega, Blk.new W _ _, rfl⟩
  case body =>
    rintro l pre y a' W hl ⟨r, hr⟩ ⟨hp, hB1⟩ ⟨Bx, hBx, bX1, rfl⟩ hlt
    have HP := hide hp
    have HB := hide hB1
    have hlen := y.2.2
    have hsz1 : W0.heap.size ≤ W.heap.size := hB1.size
    have bXW := bX.below hB1 (by omega)
    have bRW := bR.below hB1 (by omega)
    have bBW := bB.below hB1 (by omega)
    clear hp hB1
    obtain ⟨⟨iy, ⟨E, hE⟩⟩, rfl⟩ : ∃ y', y = y' := ⟨y, rfl⟩
    have c0 : W.cell? ⟨Bx, 0, none⟩ = some (.int .u32 E.addr) := bX1.cell 0
    have c1 : W.cell? ⟨Bx, 1, none⟩ = some (.int .i64 E.len) := bX1.cell 1
    have c2 : W.cell? ⟨Bx, 2, none⟩ = some (.int .i64 E.tag) := bX1.cell 2
    have c3 : W.cell? ⟨Bx, 3, none⟩ = some (.int .i64 E.met) := bX1.cell 3
    have c4 : W.cell? ⟨Bx, 4, none⟩ = some (.int .i64 E.frm) := bX1.cell 4
    have c5 : W.cell? ⟨Bx, 5, none⟩ = some (.int .i64 E.age) := bX1.cell 5
    have c6 : W.cell? ⟨Bx, 6, none⟩ = some (.bool E.chg) := bX1.cell 6
    have hd : 1 ≤ 6 - 1 - 1 := by decide
    have hfd : Fence.wide.fn 103 := trivial
    have hfh : Fence.wide.fn 104 := trivial
    by_cases hdy : E.met = 16
    · have hdd : decide (E.met = 16) = true := by simpa using hdy
      have hnf : findB x E = false := by simp [findB, hdy]
      have hD := isDying_any E W
      rw [hdd] at hD
      clear hdy hdd
      gi_wp2_with (gi_at_call 103; refine (CallsIn.inRound l (callsIn_wide.2 hD)).mono ?_; rintro e w1 ⟨rfl, hg1⟩)
      refine ⟨hg1.keeps _, hg1.below.mono hsz1, ?_, (unhide HB).trans (hg1.below.mono hsz1)⟩
      intro p hp
      rcases List.mem_append.1 hp with h | h
      · exact unhide HP p h
      · simp at h; subst h; exact hnf
    · have hdd : decide (E.met = 16) = false := by simpa using hdy
      have hfv : findB x E = hasB E.addr E.len x := by simp [findB, hdy]
      have hD := isDying_any E W
      rw [hdd] at hD
      clear hdy hdd
      have cx : W.cell? ⟨w.heap.size + 1, 0, none⟩ = some (.int .u32 x) := bXW.cell 0
      have hH := fun w1 => has_any E.addr E.len x w1 hE.1 hE.2 hx hx'
      rw [← hfv] at hH
      clear hfv
      cases hq : findB x E with
      | false =>
        rw [hq] at hH
        have HQ := hide hq
        clear hq
        gi_wp2_with (first | (gi_at_call 103; refine (CallsIn.inRound l (callsIn_wide.2 hD)).mono ?_; rintro e w1 ⟨rfl, hg1⟩; have e0 := hg1.cell c0; have e1 := hg1.cell c1; have ex := hg1.cell cx) | (gi_at_call 104; refine (CallsIn.inRound l (callsIn_wide.2 (hH _))).mono ?_; rintro e w2 ⟨rfl, hg2⟩))
        have hg := hg1.trans hg2
        refine ⟨hg.keeps _, hg.below.mono hsz1, ?_, (unhide HB).trans (hg.below.mono hsz1)⟩
        intro p hp
        rcases List.mem_append.1 hp with h | h
        · exact unhide HP p h
        · simp at h; subst h; exact unhide HQ
      | true =>
        rw [hq] at hH
        have HQ := hide hq
        clear hq
        gi_wp2_with (first | (gi_at_call 103; refine (CallsIn.inRound l (callsIn_wide.2 hD)).mono ?_; rintro e w1 ⟨rfl, hg1⟩; have e0 := hg1.cell c0; have e1 := hg1.cell c1; have ex := hg1.cell cx) | (gi_at_call 104; refine (CallsIn.inRound l (callsIn_wide.2 (hH _))).mono ?_; rintro e w2 ⟨rfl, hg2⟩; have hg := hg1.trans hg2; have q0 := hg.cell c0; have q1 := hg.cell c1; have q2 := hg.cell c2; have q3 := hg.cell c3; have q4 := hg.cell c4; have bR2 := bRW.grows hg; have bB2 := bBW.grows hg; have s0 := bR2.cell 0; have s1 := bR2.cell 1; have s2 := bR2.cell 2; have s3 := bR2.cell 3; have s4 := bR2.cell 4; have s5 := bB2.cell 0; have z0 := bR2.frozen 0; have z1 := bR2.frozen 1; have z2 := bR2.frozen 2; have z3 := bR2.frozen 3; have z4 := bR2.frozen 4; have z5 := bB2.frozen 0))
        refine ⟨(hg.keeps _).trans ((((((((KeepsOthers.setCell _ _ _).trans (KeepsOthers.setCell _ _ _)).trans (KeepsOthers.setCell _ _ _)).trans (KeepsOthers.setCell _ _ _)).trans (KeepsOthers.setCell _ _ _)).trans (KeepsOthers.setCell _ _ _)).from _)), ⟨rfl, pre, _, rfl, unhide HP, unhide HQ, ?_, ?_⟩, ?_⟩
        · exact (((((bR2.set 0 (.int .u32 E.addr)).set 1 (.int .i64 E.len)).set 2 (.int .i64 E.tag)).set 3 (.int .i64 E.met)).set 4 (.int .i64 E.frm)).other (by simp) _
        · exact ((((((bB2.other (by simp) _).other (by simp) _).other (by simp) _).other (by simp) _).other (by simp) _).set 0 (.bool true))
        · exact (((((((hB0.trans ((unhide HB).mono (by omega))).trans (hg.below.mono (by omega))).setCell (p := ⟨w.heap.size + 1 + 1, 0, none⟩) (by simp; omega) _).setCell (p := ⟨w.heap.size + 1 + 1, 1, none⟩) (by simp; omega) _).setCell (p := ⟨w.heap.size + 1 + 1, 2, none⟩) (by simp; omega) _).setCell (p := ⟨w.heap.size + 1 + 1, 3, none⟩) (by simp; omega) _).setCell (p := ⟨w.heap.size + 1 + 1, 4, none⟩) (by simp; omega) _).setCell (p := ⟨w.heap.size + 1 + 1 + 1, 0, none⟩) (by simp; omega) _
  case done =>
    rintro D ys W hD rfl ⟨hp, hB1⟩ hK
    have HF := hide (findR_none hp)
    clear hp
    have HB := hide hB1
    have bR2 := bR.below hB1 (by omega)
    have bB2 := bB.below hB1 (by omega)
    clear hB1
    have s0 := bR2.cell 0
    have s1 := bR2.cell 1
    have s2 := bR2.cell 2
    have s3 := bR2.cell 3
    have s4 := bR2.cell 4
    have s5 := bB2.cell 0
    have z0 := bR2.frozen 0
    have z1 := bR2.frozen 1
    have z2 := bR2.frozen 2
    have z3 := bR2.frozen 3
    have z4 := bR2.frozen 4
    have z5 := bB2.frozen 0
    gi_wp2
    have dR := (((((bR2.set 0 (.int .u32 0)).set 1 (.int .i64 0)).set 2 (.int .i64 0)).set 3 (.int .i64 0)).set 4 (.int .i64 0)).other (p := ⟨w.heap.size + 1 + 1 + 1, 0, none⟩) (by simp) (.bool false)
    have dB := ((((((bB2.other (p := ⟨w.heap.size + 1 + 1, 0, none⟩) (by simp) (.int .u32 0)).other (p := ⟨w.heap.size + 1 + 1, 1, none⟩) (by simp) (.int .i64 0)).other (p := ⟨w.heap.size + 1 + 1, 2, none⟩) (by simp) (.int .i64 0)).other (p := ⟨w.heap.size + 1 + 1, 3, none⟩) (by simp) (.int .i64 0)).other (p := ⟨w.heap.size + 1 + 1, 4, none⟩) (by simp) (.int .i64 0)).set 0 (.bool false))
    have hbw := hide ((((((((hB0.trans ((unhide HB).mono (by omega))).setCell (p := ⟨w.heap.size + 1 + 1, 0, none⟩) (by simp; omega) (.int .u32 0)).setCell (p := ⟨w.heap.size + 1 + 1, 1, none⟩) (by simp; omega) (.int .i64 0)).setCell (p := ⟨w.heap.size + 1 + 1, 2, none⟩) (by simp; omega) (.int .i64 0)).setCell (p := ⟨w.heap.size + 1 + 1, 3, none⟩) (by simp; omega) (.int .i64 0)).setCell (p := ⟨w.heap.size + 1 + 1, 4, none⟩) (by simp; omega) (.int .i64 0)).setCell (p := ⟨w.heap.size + 1 + 1 + 1, 0, none⟩) (by simp; omega) (.bool false)))
    have hK' := ((((((KeepsOthers.setCell W ⟨w.heap.size + 1 + 1, 0, none⟩ (.int .u32 0)).trans (KeepsOthers.setCell _ ⟨w.heap.size + 1 + 1, 1, none⟩ (.int .i64 0))).trans (KeepsOthers.setCell _ ⟨w.heap.size + 1 + 1, 2, none⟩ (.int .i64 0))).trans (KeepsOthers.setCell _ ⟨w.heap.size + 1 + 1, 3, none⟩ (.int .i64 0))).trans (KeepsOthers.setCell _ ⟨w.heap.size + 1 + 1, 4, none⟩ (.int .i64 0))).trans (KeepsOthers.setCell _ ⟨w.heap.size + 1 + 1 + 1, 0, none⟩ (.bool false))).same D _ hK rfl
    refine ⟨by simp, .inl ⟨_, _, rfl, run_takeDeferred hK', ?_⟩⟩
    have gR := Blk.own (β := Unit) _ (fun _ => _) _ () _ _ _ dR (grownBy_putObj' _ D (.deferred none)) (fun r e => by cases e; exact ⟨_, hK', rfl⟩)
    have gB := Blk.own (β := Unit) _ (fun _ => _) _ () _ _ _ dB (grownBy_putObj' _ D (.deferred none)) (fun r e => by cases e; exact ⟨_, hK', rfl⟩)
    refine ⟨findOut none, ?_, by rw [unhide HF], (unhide hbw).trans (belowK_b (w := w) (Nat.le_refl _) _ D _ _ (by omega) hK' rfl rfl)⟩
    have t0 := gR.cell 0
    have t1 := gR.cell 1
    have t2 := gR.cell 2
    have t3 := gR.cell 3
    have t4 := gR.cell 4
    have t5 := gB.cell 0
    simp at t0 t1 t2 t3 t4 t5
    simp [results, Tryz.results50, go_sem, findOut, zeroRoute, t0, t1, t2, t3, t4, t5]
  case stop =>
    rintro D c pre W hD ⟨k, hk, rfl⟩ ⟨⟨rfl, ini, last, e1, e2, e3, bR1, bB1⟩, hB1⟩ hK
    have HF := hide (findR_some hk e1 e2 e3)
    have HB := hide hB1
    clear hB1
    gi_wp2
    refine ⟨by simp, .inl ⟨_, _, rfl, run_takeDeferred hK, ?_⟩⟩
    have gR := Blk.own (β := Unit) _ (fun _ => _) _ () _ _ _ bR1 (grownBy_putObj' _ D (.deferred none)) (fun r e => by cases e; exact ⟨_, hK, rfl⟩)
    have gB := Blk.own (β := Unit) _ (fun _ => _) _ () _ _ _ bB1 (grownBy_putObj' _ D (.deferred none)) (fun r e => by cases e; exact ⟨_, hK, rfl⟩)
    refine ⟨findOut (some last.2.1), ?_, by rw [unhide HF], (unhide HB).trans (belowK_b (w := w) (Nat.le_refl _) _ D _ _ (by omega) hK rfl rfl)⟩
    have t0 := gR.cell 0
    have t1 := gR.cell 1
    have t2 := gR.cell 2
    have t3 := gR.cell 3
    have t4 := gR.cell 4
    have t5 := gB.cell 0
    simp [routeVals] at t0 t1 t2 t3 t4 t5
    simp [results, Tryz.results50, go_sem, findOut, routeVals, t0, t1, t2, t3, t4, t5]

theorem find_any (ao : Option Addr) (n cap : Nat) (L : List Rw) (x : Int) (w : World) (hL : L.length = n) (hn : n ≤ 1000000) (hok : ∀ r ∈ L, 0 ≤ r.len ∧ r.len ≤ 32) (hx : 0 ≤ x) (hx' : x < 4294967296) (hs : rwSlice w ao L) :
    Calls Tryz.prog 50 #[.agg #[.slice ao n cap], .int .u32 x] w fun e w' => e = .returned (findOut (findR L x)) ∧ Below w.heap.size w w' := by
  have hr := raw_ok L hok
  have hl : (okRows L hok).length = n := by rw [← rawRows_length, hr]; exact hL
  have := find_ok ao cap (okRows L hok) x w (by omega) hx hx' (by rw [hr]; exact hs)
  rw [hr, hl] at this
  exact this

end Go.Proofs.YtdnpeefnobjfaaaGreatDoor
