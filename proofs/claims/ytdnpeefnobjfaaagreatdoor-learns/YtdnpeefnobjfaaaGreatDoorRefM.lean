/- What the reference's written, Bytes and Encode answer. -/
import Derived.Test.YtdnpeefnobjfaaaGreatDoorWrM
import Derived.Lib.SlBytesConst
namespace Go.Proofs.YtdnpeefnobjfaaaGreatDoor
open Go.RowKit

theorem be_cons (k : Nat) (x : Int) : be (k + 1) x = byteOf (x / 256 ^ k) :: be k x := by
  induction k generalizing x with
  | zero => simp [be]
  | succ k ih =>
    rw [show be (k + 1 + 1) x = be (k + 1) (x / 256) ++ [byteOf x] from rfl, ih (x / 256), show be (k + 1) x = be k (x / 256) ++ [byteOf x] from rfl]
    rw [List.cons_append]
    congr 2
    rw [Int.pow_succ, Int.mul_comm, Int.ediv_ediv_of_nonneg (by decide)]

/-- A row of bytes that has just been built, as a string. -/
theorem lit_string (w : World) (xs : List UInt8) (n : Nat) (hn : xs.length = n) (hm : n ≤ 1000) :
    (convert 226 9 (.slice (some ⟨w.heap.size, 0, none⟩) n n)).run Tryz.prog (w.alloc (.cells (cells8 xs).toArray 5)) = .ok (.string (strB xs)) (w.alloc (.cells (cells8 xs).toArray 5)) :=
  owned_string _ 0 _ n n xs ⟨by simp [cells8, hn], .inr ⟨w.heap.size, n, _, rfl, Nat.zero_le _, heap_alloc_new w _, Nat.le_refl _, by unfold maxLen; omega, by simp [cells8, hn], by simp [cells8]; exact List.take_of_length_le (by simp; omega)⟩⟩
theorem add_strB (a b : List UInt8) (w : World) (h : a.length + b.length ≤ 1000000) : (Op.stringOp .add (strB a) (strB b)).run Tryz.prog w = .ok (.string (strB (a ++ b))) w := by
  rw [run_string_add_sum w _ _ (by rw [strB_size, strB_size]; omega)]
  simp [strB, ByteArray.mk_append_mk]

set_option maxHeartbeats 400000 in
theorem written_any (x : Int) (n : Nat) (w : World) (h0 : 0 ≤ x) (h1 : x < 9223372036854775807) (hn : n ≤ 100) :
    Calls Tryz.prog 212 #[.int .i64 x, .int .i64 n] w fun e w' => e = .returned (.string (strB (be n x))) ∧ Below w.heap.size w w' := by
  go_enter Tryz.func212, Tryz.ntmps212
  go_wp2
  go_loopw [0, 5, 6] (fun y s i wr => ∃ k : Nat, k ≤ n ∧ i = .int .i64 k ∧ y = .int .i64 (x / 256 ^ k) ∧ s = .string (strB (be k x)) ∧ Below w.heap.size w wr) (fun _ _ i _ => n - (intOf i).toNat)
  case atStart => exact ⟨0, by omega, rfl, by simp, rfl, Below.refl _ _⟩
  case round =>
    obtain ⟨k, hk, rfl, rfl, rfl, hb⟩ := hrel
    have hy0 : 0 ≤ x / 256 ^ k := Int.ediv_nonneg h0 (Int.le_of_lt (Int.pow_pos (by decide)))
    have hy1 : x / 256 ^ k ≤ x := Int.ediv_le_self _ h0
    have hbe := be_cons k x
    have hnx : x / 256 ^ (k + 1) = x / 256 ^ k / 256 := by rw [Int.pow_succ, Int.ediv_ediv_of_nonneg (Int.le_of_lt (Int.pow_pos (by decide)))]
    have HBE := hide hbe
    have HNX := hide hnx
    clear hbe hnx
    generalize hY : x / 256 ^ k = y at *
    have HY := hide hY
    clear hY
    by_cases hlt : k < n
    · have hcv := lit_string wr [byteOf y] 1 rfl (by omega)
      have hadd : ∀ W : World, (Op.stringOp .add (strB [byteOf y]) (strB (be k x))).run Tryz.prog W = .ok (.string (strB (be (k + 1) x))) W := fun W => by
        rw [add_strB _ _ _ (by rw [be_length]; simp; omega), unhide HBE]; rfl
      rw [show (cells8 [byteOf y]).toArray = #[.int .u8 (y % 256)] by simp [cells8, byteV_of]] at hcv
      go_wp2_with fail
      go_roundw
      case rel => exact ⟨k + 1, by omega, by go_num, by rw [unhide HNX], rfl, hb.alloc hb.size _⟩
      case measure => simp [intOf]; omega
    · go_wp2
      go_ret
      exact ⟨by rw [show k = n by omega]; rfl, hb⟩

/-- What stays while an entry's bytes are written: its box, and all that was there. -/
abbrev held (W : World) (B H : Nat) (E : Ent) (w : World) : Prop := w.cell? ⟨H, 0, none⟩ = some (.int .u32 E.addr) ∧ w.cell? ⟨H, 1, none⟩ = some (.int .i64 E.len) ∧ w.cell? ⟨H, 2, none⟩ = some (.int .i64 E.tag) ∧ w.cell? ⟨H, 3, none⟩ = some (.int .i64 E.met) ∧ Below B W w
theorem held_below {W w w1 : World} {B H : Nat} {E : Ent} (h : held W B H E w) (hb : Below w.heap.size w w1) (hB : B ≤ W.heap.size) : held W B H E w1 := by
  obtain ⟨c0, c1, c2, c3, hs⟩ := h
  have hl : H < w.heap.size := World.block_lt_of_cell? w _ c0
  exact ⟨(hb.cell (p := ⟨H, 0, none⟩) hl).trans c0, (hb.cell (p := ⟨H, 1, none⟩) hl).trans c1, (hb.cell (p := ⟨H, 2, none⟩) hl).trans c2, (hb.cell (p := ⟨H, 3, none⟩) hl).trans c3, hs.trans (hb.mono (Nat.le_trans hB hs.size))⟩
theorem written_held (x : Int) (n : Nat) (W w : World) (B H : Nat) (E : Ent) (hh : held W B H E w) (hB : B ≤ W.heap.size) (h0 : 0 ≤ x) (h1 : x < 9223372036854775807) (hn : n ≤ 100) :
    Calls Tryz.prog 212 #[.int .i64 x, .int .i64 n] w fun e w' => e = .returned (.string (strB (be n x))) ∧ held W B H E w' := by
  refine (written_any x n w h0 h1 hn).mono ?_
  rintro e w' ⟨rfl, hb⟩
  exact ⟨rfl, held_below hh hb hB⟩

/-- Two strings joined, the outcome under a letter. -/
theorem add_let (a b : List UInt8) (h : a.length + b.length ≤ 1000000) : ∃ c, Hid (c = a ++ b) ∧ ∀ W : World, (Op.stringOp .add (strB a) (strB b)).run Tryz.prog W = .ok (.string (strB c)) W :=
  ⟨_, rfl, fun W => add_strB a b W h⟩

set_option maxHeartbeats 400000 in
theorem Bytes_ask (ao : Option Addr) (n cap : Nat) (w : World) :
    Calls Tryz.prog 162 #[.int .i64 1, .slice ao n cap] w fun e w' => e = .returned (.string (strB askAll)) ∧ Below w.heap.size w w' := by
  have hcv := lit_string w [1, 2, 0, 0] 4 rfl (by omega)
  rw [show (cells8 [1, 2, 0, 0]).toArray = #[.int .u8 1, .int .u8 2, .int .u8 0, .int .u8 0] by simp [cells8, byteV]] at hcv
  obtain ⟨A0, HA0⟩ : ∃ A, Hid (A = ([1, 2, 0, 0] : List UInt8)) := ⟨_, rfl⟩
  obtain ⟨B1, HB1⟩ : ∃ A, Hid (A = be 19 0) := ⟨_, rfl⟩
  obtain ⟨B2, HB2⟩ : ∃ A, Hid (A = be 1 16) := ⟨_, rfl⟩
  rw [← unhide HA0] at hcv
  obtain ⟨A1, HA1, ha1⟩ := add_let A0 B1 (by rw [unhide HA0, unhide HB1]; simp [be_length])
  obtain ⟨A2, HA2, ha2⟩ := add_let A1 B2 (by rw [unhide HA1, unhide HA0, unhide HB1, unhide HB2]; simp [be_length])
  have HF : Hid (A2 = askAll) := by rw [Hid, unhide HA2, unhide HA1, unhide HA0, unhide HB1, unhide HB2]; decide +kernel
  go_enter Tryz.func162, Tryz.ntmps162
  go_wp2_with fail
  refine (written_any 0 19 _ (by omega) (by omega) (by omega)).mono ?_
  rw [← unhide HB1]
  rintro e w1 ⟨rfl, hb1⟩
  go_wp2_with fail
  refine (written_any 16 1 _ (by omega) (by omega) (by omega)).mono ?_
  rw [← unhide HB2]
  rintro e w2 ⟨rfl, hb2⟩
  go_wp2_with fail
  go_ret
  exact ⟨by rw [← unhide HF]; rfl, below_seq (below_box hb1) hb2⟩

set_option maxHeartbeats 800000 in
theorem Bytes_resp (b off cap n : Nat) (l : List Ent) (w : World) (hok : entsOk l) (hn : l.length = n) (h25 : n ≤ 60) (hB : 0 < n → b < w.heap.size) (hz : ∀ e ∈ l, entErr e = 0) (hc : entCells w b off l) :
    Calls Tryz.prog 162 #[.int .i64 2, .slice (some ⟨b, off, none⟩) n cap] w fun e w' => e = .returned (.string (strB (encBytes 2 l))) ∧ Below w.heap.size w w' := by
  have HN := hide hn
  have HZ := hide hz
  clear hn hz
  have hcv := lit_string w [2, 2, 0, 0] 4 rfl (by omega)
  rw [show (cells8 [2, 2, 0, 0]).toArray = #[.int .u8 2, .int .u8 2, .int .u8 0, .int .u8 0] by simp [cells8, byteV]] at hcv
  go_enter Tryz.func162, Tryz.ntmps162
  go_wp2
  clear hcv
  go_loopw [5, 6] (fun s i wr => ∃ k : Nat, k ≤ n ∧ i = .int .i64 k ∧ s = .string (strB ([2, 2, 0, 0] ++ (l.take k).flatMap entBytes)) ∧ Below w.heap.size w wr) (fun _ i _ => n - (intOf i).toNat)
  case atStart => exact ⟨0, by omega, rfl, by simp, below_new _ _⟩
  case round =>
    obtain ⟨k, hk, rfl, rfl, hb⟩ := hrel
    by_cases hlt : k < n
    · have hlt' : k < l.length := by rw [unhide HN]; exact hlt
      have hcx := entCells_below hc hb (hB (by omega)) k hlt'
      have hoke := hok l[k] (List.getElem_mem _)
      have hze := unhide HZ l[k] (List.getElem_mem _)
      have hsn : (l.take (k + 1)).flatMap entBytes = (l.take k).flatMap entBytes ++ entBytes l[k] := by rw [List.take_succ_eq_append_getElem hlt', List.flatMap_append]; simp
      have HSN := hide hsn
      have hlen : ([2, 2, 0, 0] ++ (l.take k).flatMap entBytes).length = 4 + 20 * k := by rw [List.length_append, flat_length, List.length_take]; simp; omega
      have HL := hide hlen
      clear hsn hlen
      generalize hE : l[k] = E at *
      clear hE
      generalize hS : [2, 2, 0, 0] ++ (l.take k).flatMap entBytes = S at *
      have HS := hide hS
      clear hS
      obtain ⟨hp, ht, hm⟩ := entErr_zero hze
      have hl := pfx_len hp
      simp only [tagB, metB, Bool.and_eq_true, decide_eq_true_eq] at ht hm
      obtain ⟨ht0, ht1⟩ := ht
      obtain ⟨hm0, hm1⟩ := hm
      obtain ⟨hl0, hl1⟩ := hl
      obtain ⟨ha0, ha1⟩ := hoke
      clear hze hp
      obtain ⟨c0, c1, c2, c3⟩ := hcx
      have hp0 := pow_pos' (32 - E.len).toNat
      have hp1 := pow_le32 (32 - E.len).toNat (by omega)
      have hblk : ∀ W, Calls Tryz.prog 159 #[.int .i64 E.len] W fun e w' => e = .returned (.int .i64 (2 ^ (32 - E.len).toNat)) ∧ w' = W := fun W => block_any _ W hl0 hl1
      obtain ⟨B1, HB1⟩ : ∃ A, Hid (A = be 2 2) := ⟨_, rfl⟩
      obtain ⟨B2, HB2⟩ : ∃ A, Hid (A = be 2 E.tag) := ⟨_, rfl⟩
      obtain ⟨B3, HB3⟩ : ∃ A, Hid (A = be 4 E.addr) := ⟨_, rfl⟩
      obtain ⟨B4, HB4⟩ : ∃ A, Hid (A = be 4 (4294967296 - 2 ^ (32 - E.len).toNat)) := ⟨_, rfl⟩
      obtain ⟨B5, HB5⟩ : ∃ A, Hid (A = be 4 0) := ⟨_, rfl⟩
      obtain ⟨B6, HB6⟩ : ∃ A, Hid (A = be 4 E.met) := ⟨_, rfl⟩
      obtain ⟨S1, HS1, ha1⟩ := add_let S B1 (by rw [unhide HL, unhide HB1, be_length]; omega)
      obtain ⟨S2, HS2, ha2⟩ := add_let S1 B2 (by rw [unhide HS1, List.length_append, unhide HL, unhide HB1, unhide HB2, be_length, be_length]; omega)
      obtain ⟨S3, HS3, ha3⟩ := add_let S2 B3 (by rw [unhide HS2, unhide HS1, List.length_append, List.length_append, unhide HL, unhide HB1, unhide HB2, unhide HB3, be_length, be_length, be_length]; omega)
      obtain ⟨S4, HS4, ha4⟩ := add_let S3 B4 (by rw [unhide HS3, unhide HS2, unhide HS1, List.length_append, List.length_append, List.length_append, unhide HL, unhide HB1, unhide HB2, unhide HB3, unhide HB4, be_length, be_length, be_length, be_length]; omega)
      obtain ⟨S5, HS5, ha5⟩ := add_let S4 B5 (by rw [unhide HS4, unhide HS3, unhide HS2, unhide HS1, List.length_append, List.length_append, List.length_append, List.length_append, unhide HL, unhide HB1, unhide HB2, unhide HB3, unhide HB4, unhide HB5, be_length, be_length, be_length, be_length, be_length]; omega)
      obtain ⟨S6, HS6, ha6⟩ := add_let S5 B6 (by rw [unhide HS5, unhide HS4, unhide HS3, unhide HS2, unhide HS1, List.length_append, List.length_append, List.length_append, List.length_append, List.length_append, unhide HL, unhide HB1, unhide HB2, unhide HB3, unhide HB4, unhide HB5, unhide HB6, be_length, be_length, be_length, be_length, be_length, be_length]; omega)
      have HF : Hid (S6 = [2, 2, 0, 0] ++ (l.take (k + 1)).flatMap entBytes) := by
        rw [Hid, unhide HSN, unhide HS6, unhide HS5, unhide HS4, unhide HS3, unhide HS2, unhide HS1, ← List.append_assoc, unhide HS, unhide HB1, unhide HB2, unhide HB3, unhide HB4, unhide HB5, unhide HB6]
        simp [entBytes, List.append_assoc]
      have w1 : ∀ W, held w w.heap.size wr.heap.size E W → Calls Tryz.prog 212 #[.int .i64 2, .int .i64 2] W fun e w' => e = .returned (.string (strB B1)) ∧ held w w.heap.size wr.heap.size E w' := fun W h => by rw [unhide HB1]; exact written_held 2 2 w W _ _ E h (Nat.le_refl _) (by omega) (by omega) (by omega)
      have w2 : ∀ W, held w w.heap.size wr.heap.size E W → Calls Tryz.prog 212 #[.int .i64 E.tag, .int .i64 2] W fun e w' => e = .returned (.string (strB B2)) ∧ held w w.heap.size wr.heap.size E w' := fun W h => by rw [unhide HB2]; exact written_held _ 2 w W _ _ E h (Nat.le_refl _) (by omega) (by omega) (by omega)
      have w3 : ∀ W, held w w.heap.size wr.heap.size E W → Calls Tryz.prog 212 #[.int .i64 E.addr, .int .i64 4] W fun e w' => e = .returned (.string (strB B3)) ∧ held w w.heap.size wr.heap.size E w' := fun W h => by rw [unhide HB3]; exact written_held _ 4 w W _ _ E h (Nat.le_refl _) (by omega) (by omega) (by omega)
      have w4 : ∀ W, held w w.heap.size wr.heap.size E W → Calls Tryz.prog 212 #[.int .i64 (4294967296 - 2 ^ (32 - E.len).toNat), .int .i64 4] W fun e w' => e = .returned (.string (strB B4)) ∧ held w w.heap.size wr.heap.size E w' := fun W h => by rw [unhide HB4]; exact written_held _ 4 w W _ _ E h (Nat.le_refl _) (by omega) (by omega) (by omega)
      have w5 : ∀ W, held w w.heap.size wr.heap.size E W → Calls Tryz.prog 212 #[.int .i64 0, .int .i64 4] W fun e w' => e = .returned (.string (strB B5)) ∧ held w w.heap.size wr.heap.size E w' := fun W h => by rw [unhide HB5]; exact written_held _ 4 w W _ _ E h (Nat.le_refl _) (by omega) (by omega) (by omega)
      have w6 : ∀ W, held w w.heap.size wr.heap.size E W → Calls Tryz.prog 212 #[.int .i64 E.met, .int .i64 4] W fun e w' => e = .returned (.string (strB B6)) ∧ held w w.heap.size wr.heap.size E w' := fun W h => by rw [unhide HB6]; exact written_held _ 4 w W _ _ E h (Nat.le_refl _) (by omega) (by omega) (by omega)
      generalize (2 : Int) ^ (32 - E.len).toNat = K at *
      have HBLK := hide hblk
      have W1 := hide w1
      have W2 := hide w2
      have W3 := hide w3
      have W4 := hide w4
      have W5 := hide w5
      have W6 := hide w6
      have hbn : Below w.heap.size w (wr.alloc (.cells #[.int .u32 E.addr, .int .i64 E.len, .int .i64 E.tag, .int .i64 E.met] 42)) := hb.alloc hb.size _
      have hbd := hbn.drew
      have k1 : IntKind.i64.wrap E.addr = E.addr := by rw [IntKind.wrap_i64]; omega
      have k2 : IntKind.i64.wrap (4294967296 - K) = 4294967296 - K := by rw [IntKind.wrap_i64]; omega
      clear w1 w2 w3 w4 w5 w6 hblk
      go_wp2_with fail
      go_region_held3 (fun w' => w'.cell? ⟨wr.heap.size, 0, none⟩ = some (.int .u32 E.addr) ∧ w'.cell? ⟨wr.heap.size, 1, none⟩ = some (.int .i64 E.len) ∧ w'.cell? ⟨wr.heap.size, 2, none⟩ = some (.int .i64 E.tag) ∧ w'.cell? ⟨wr.heap.size, 3, none⟩ = some (.int .i64 E.met) ∧ Below w.heap.size w w') (go_keep)
        (first
          | (go_at_call_of 212 (E.tag); refine (unhide W2 _ (by assumption)).mono ?_; rintro e w' ⟨rfl, c0', c1', c2', c3', hb'⟩)
          | (go_at_call_of 212 (E.addr); refine (unhide W3 _ (by assumption)).mono ?_; rintro e w' ⟨rfl, c0', c1', c2', c3', hb'⟩)
          | (go_at_call_of 212 (E.met); refine (unhide W6 _ (by assumption)).mono ?_; rintro e w' ⟨rfl, c0', c1', c2', c3', hb'⟩)
          | (go_at_call_of 212 K; refine (unhide W4 _ (by assumption)).mono ?_; rintro e w' ⟨rfl, c0', c1', c2', c3', hb'⟩)
          | (go_at_call_of 212 (Value.int IntKind.i64 0); refine (unhide W5 _ (by assumption)).mono ?_; rintro e w' ⟨rfl, c0', c1', c2', c3', hb'⟩)
          | (go_at_call_of 212 (Value.int IntKind.i64 2); refine (unhide W1 _ (by assumption)).mono ?_; rintro e w' ⟨rfl, c0', c1', c2', c3', hb'⟩)
          | (go_at_call 159; refine (unhide HBLK _).mono ?_; rintro e w' ⟨rfl, rfl⟩))
      go_wp2
      go_roundw
      case rel => exact ⟨k + 1, by omega, by go_num, by rw [unhide HF], hb'⟩
      case measure => simp [intOf]; omega
    · go_wp2
      go_ret
      exact ⟨by rw [show k = n by omega, ← unhide HN, List.take_length]; simp [encBytes], hb⟩

end Go.Proofs.YtdnpeefnobjfaaaGreatDoor

/- What the reference's Encode answers: just what the program's does. -/
namespace Go.Proofs.YtdnpeefnobjfaaaGreatDoor
open Go.RowKit

/-- The reference's fault as a value. -/
def refF : Option (Int × Int) → Value
  | none => .agg #[.int .i64 0, .int .i64 0, .bool false]
  | some (e, n) => .agg #[.int .i64 e, .int .i64 n, .bool true]

set_option maxHeartbeats 400000 in
theorem rEncode_head (cmd : Int) (ao : Option Addr) (n cap : Nat) (w : World) (h1 : (cmd != 1) = true) (h2 : (cmd != 2) = true) :
    Calls Tryz.prog 114 #[.agg #[.int .i64 cmd, .slice ao n cap]] w fun e w' => e = .returned (.tuple #[.string (strB []), refF (some (4, -1))]) ∧ Below w.heap.size w w' := by
  go_enter Tryz.func114, Tryz.ntmps114
  go_wp2_with fail
  refine (of_any _ _ _).mono ?_
  rintro e w1 ⟨rfl, hb1⟩
  obtain ⟨hc1, hf1⟩ := bcell hb1
  have hs1 : w.heap.size + 1 < w1.heap.size := by have := hb1.size; simp at this; omega
  have hb : Below w.heap.size w w1 := below_box (below_box hb1)
  go_wp2
  exact bodyPost_ret (v := .tuple #[.string (strB []), refF (some (4, -1))]) (by simp [results, Tryz.results114, go_sem, refF, strB, hc1]) rfl ⟨rfl, ((hb.setCell (by simp) _).setCell (by simp) _).setCell (by simp) _⟩

set_option maxHeartbeats 400000 in
theorem rEncode_head1 (ao : Option Addr) (n cap : Nat) (w : World) (h0 : 0 < n) :
    Calls Tryz.prog 114 #[.agg #[.int .i64 1, .slice ao n cap]] w fun e w' => e = .returned (.tuple #[.string (strB []), refF (some (4, -1))]) ∧ Below w.heap.size w w' := by
  have e1 : decide ((0 : Int) < n) = true := by simp; omega
  go_enter Tryz.func114, Tryz.ntmps114
  go_wp2_with fail
  refine (of_any _ _ _).mono ?_
  rintro e w1 ⟨rfl, hb1⟩
  obtain ⟨hc1, hf1⟩ := bcell hb1
  have hs1 : w.heap.size + 1 < w1.heap.size := by have := hb1.size; simp at this; omega
  have hb : Below w.heap.size w w1 := below_box (below_box hb1)
  go_wp2
  exact bodyPost_ret (v := .tuple #[.string (strB []), refF (some (4, -1))]) (by simp [results, Tryz.results114, go_sem, refF, strB, hc1]) rfl ⟨rfl, ((hb.setCell (by simp) _).setCell (by simp) _).setCell (by simp) _⟩

set_option maxHeartbeats 400000 in
theorem rEncode_size (ao : Option Addr) (n cap : Nat) (w : World) (h25 : 25 < n) :
    Calls Tryz.prog 114 #[.agg #[.int .i64 2, .slice ao n cap]] w fun e w' => e = .returned (.tuple #[.string (strB []), refF (some (3, -1))]) ∧ Below w.heap.size w w' := by
  have e0 : ((n : Int) == 0) = false := by simp; omega
  have e1 : decide ((25 : Int) < n) = true := by simp; omega
  go_enter Tryz.func114, Tryz.ntmps114
  go_wp2_with fail
  refine (of_any _ _ _).mono ?_
  rintro e w1 ⟨rfl, hb1⟩
  obtain ⟨hc1, hf1⟩ := bcell hb1
  have hs1 : w.heap.size + 1 < w1.heap.size := by have := hb1.size; simp at this; omega
  have hb : Below w.heap.size w w1 := below_box (below_box hb1)
  go_wp2
  exact bodyPost_ret (v := .tuple #[.string (strB []), refF (some (3, -1))]) (by simp [results, Tryz.results114, go_sem, refF, strB, hc1]) rfl ⟨rfl, ((hb.setCell (by simp) _).setCell (by simp) _).setCell (by simp) _⟩

set_option maxHeartbeats 400000 in
theorem rEncode_none (ao : Option Addr) (cap : Nat) (w : World) :
    Calls Tryz.prog 114 #[.agg #[.int .i64 2, .slice ao 0 cap]] w fun e w' => e = .returned (.tuple #[.string (strB []), refF (some (3, -1))]) ∧ Below w.heap.size w w' := by
  go_enter Tryz.func114, Tryz.ntmps114
  go_wp2_with fail
  refine (of_any _ _ _).mono ?_
  rintro e w1 ⟨rfl, hb1⟩
  obtain ⟨hc1, hf1⟩ := bcell hb1
  have hs1 : w.heap.size + 1 < w1.heap.size := by have := hb1.size; simp at this; omega
  have hb : Below w.heap.size w w1 := below_box (below_box hb1)
  go_wp2
  exact bodyPost_ret (v := .tuple #[.string (strB []), refF (some (3, -1))]) (by simp [results, Tryz.results114, go_sem, refF, strB, hc1]) rfl ⟨rfl, ((hb.setCell (by simp) _).setCell (by simp) _).setCell (by simp) _⟩

set_option maxHeartbeats 400000 in
theorem rEncode_ask (ao : Option Addr) (cap : Nat) (w : World) :
    Calls Tryz.prog 114 #[.agg #[.int .i64 1, .slice ao 0 cap]] w fun e w' => e = .returned (.tuple #[.string (strB askAll), refF none]) ∧ Below w.heap.size w w' := by
  go_enter Tryz.func114, Tryz.ntmps114
  go_wp2
  refine wp_loop_rounds 1 ?_
  rw [rounds_succ]
  go_wp2_with fail
  refine (Bytes_ask _ _ _ _).mono ?_
  rintro e w1 ⟨rfl, hb1⟩
  obtain ⟨hc1, hf1⟩ := bcell hb1
  have hs1 : w.heap.size + 1 < w1.heap.size := by have := hb1.size; simp at this; omega
  have hb : Below w.heap.size w w1 := below_box (below_box hb1)
  go_wp2
  exact bodyPost_ret (v := .tuple #[.string (strB askAll), refF none]) (by simp [results, Tryz.results114, go_sem, refF, hc1]) rfl ⟨rfl, ((hb.setCell (by simp) _).setCell (by simp) _).setCell (by simp) _⟩

/-- The world at the loop: the packet's box, the result's box, and nothing older has turned. -/
abbrev rW (w : World) (b off n cap : Nat) : World := (w.alloc (.cells #[.int .i64 2, .slice (some ⟨b, off, none⟩) n cap] 45)).alloc (.cells #[.int .i64 0, .int .i64 0, .bool false] 150)
theorem rW_facts {w wr : World} {b off n cap : Nat} (hb : Below (w.heap.size + 2) (rW w b off n cap) wr) :
    wr.cell? ⟨w.heap.size, 0, none⟩ = some (.int .i64 2) ∧ wr.cell? ⟨w.heap.size, 1, none⟩ = some (.slice (some ⟨b, off, none⟩) n cap) ∧
    wr.cell? ⟨w.heap.size + 1, 0, none⟩ = some (.int .i64 0) ∧ wr.cell? ⟨w.heap.size + 1, 1, none⟩ = some (.int .i64 0) ∧ wr.cell? ⟨w.heap.size + 1, 2, none⟩ = some (.bool false) ∧
    wr.frozen? ⟨w.heap.size + 1, 0, none⟩ = false ∧ wr.frozen? ⟨w.heap.size + 1, 1, none⟩ = false ∧ wr.frozen? ⟨w.heap.size + 1, 2, none⟩ = false ∧ w.heap.size + 2 ≤ wr.heap.size ∧ Below w.heap.size w wr := by
  refine ⟨(hb.cell (p := ⟨w.heap.size, 0, none⟩) (by simp)).trans (by simp), (hb.cell (p := ⟨w.heap.size, 1, none⟩) (by simp)).trans (by simp),
    (hb.cell (p := ⟨w.heap.size + 1, 0, none⟩) (by simp)).trans (by simp), (hb.cell (p := ⟨w.heap.size + 1, 1, none⟩) (by simp)).trans (by simp), (hb.cell (p := ⟨w.heap.size + 1, 2, none⟩) (by simp)).trans (by simp),
    (hb.frozen (p := ⟨w.heap.size + 1, 0, none⟩) (by simp)).trans (by simp), (hb.frozen (p := ⟨w.heap.size + 1, 1, none⟩) (by simp)).trans (by simp), (hb.frozen (p := ⟨w.heap.size + 1, 2, none⟩) (by simp)).trans (by simp),
    by have := hb.size; simpa using this, ((below_new w _).trans ((below_new _ _).mono (by simp))).trans (hb.mono (by omega))⟩

set_option maxHeartbeats 1000000 in
theorem rEncode_loop (b off cap n : Nat) (l : List Ent) (w : World) (hok : entsOk l) (hn : l.length = n) (h0 : 0 < n) (h25 : n ≤ 25) (hB : b < w.heap.size) (hc : entCells w b off l) :
    Calls Tryz.prog 114 #[.agg #[.int .i64 2, .slice (some ⟨b, off, none⟩) n cap]] w fun e w' => e = .returned (.tuple #[.string (strB (encOut 2 l)), refF (firstErr l 0)]) ∧ Below w.heap.size w w' := by
  have HN := hide hn
  clear hn
  have e0 : ((n : Int) == 0) = false := by simp; omega
  have e1 : decide ((25 : Int) < n) = false := by simp; omega
  go_enter Tryz.func114, Tryz.ntmps114
  go_wp2
  go_loopw [5] (fun i wr => ∃ k : Nat, k ≤ n ∧ i = .int .i64 k ∧ Below (w.heap.size + 2) (rW w b off n cap) wr ∧ ∀ j, (hj : j < l.length) → j < k → entErr l[j] = 0) (fun i _ => n - (intOf i).toNat)
  case atStart => exact ⟨0, by omega, rfl, Below.refl _ _, fun j hj h => by omega⟩
  case round =>
    obtain ⟨k, hk, rfl, hb, hgood⟩ := hrel
    have HG := hide hgood
    clear hgood e0 e1
    obtain ⟨q0, q1, r0, r1, r2, f0, f1, f2, hsz, hbw⟩ := rW_facts hb
    by_cases hlt : k < n
    · have hlt' : k < l.length := by rw [unhide HN]; exact hlt
      have hcx := entCells_below hc hbw hB k hlt'
      have hoke := hok l[k] (List.getElem_mem _)
      generalize hE : l[k] = E at *
      have HE := hide hE
      clear hE
      obtain ⟨c0, c1, c2, c3⟩ := hcx
      go_wp2_with fail
      refine (IsPrefix_any _ _ _ hoke.1 hoke.2).mono ?_
      rintro e w1 ⟨rfl, hb1⟩
      have x1 := boxE_below (boxE_new wr E) hb1
      have hb2 : Below (w.heap.size + 2) (rW w b off n cap) w1 := (hb.alloc hsz _).trans (hb1.mono (by simp; omega))
      have hs3 : wr.heap.size < w1.heap.size := by have := hb1.size; simp at this; omega
      clear q0 q1 r0 r1 r2 f0 f1 f2 c0 c1 c2 c3 hb1 hb
      obtain ⟨q0, q1, r0, r1, r2, f0, f1, f2, hsz2, hbw2⟩ := rW_facts hb2
      obtain ⟨c0, c1, c2, c3⟩ := id x1
      by_cases hz : entErr E = 0
      · obtain ⟨hp, ht, hm⟩ := entErr_zero hz
        simp only [tagB, metB, Bool.and_eq_true, decide_eq_true_eq] at ht hm
        obtain ⟨ht0, ht1⟩ := ht
        obtain ⟨hm0, hm1⟩ := hm
        have HZ := hide hz
        clear hz
        go_wp2
        go_roundw
        case rel =>
          refine ⟨k + 1, by omega, by go_num, hb2, fun j hj hjk => ?_⟩
          by_cases hjk' : j = k
          · subst hjk'; rw [unhide HE]; exact unhide HZ
          · exact unhide HG j hj (by omega)
        case measure => simp [intOf]; omega
      · have hfe := firstErr_at (k := 0) k hlt' (fun j hj => unhide HG j (by omega) hj) (by rw [unhide HE]; exact hz)
        rw [unhide HE, Int.zero_add] at hfe
        have hout : encOut 2 l = [] := encOut_some ((encErr_two (by rw [unhide HN]; exact h0) (by rw [unhide HN]; exact h25)).trans hfe)
        have HOUT := hide hout
        clear hout
        cases hp : pfxB E.addr E.len
        · rw [show entErr E = 6 by simp [entErr, hp]] at hfe
          have HFE := hide hfe
          clear hz hfe
          go_wp2_with fail
          refine (of_any _ _ _).mono ?_
          rintro e w3 ⟨rfl, hb3⟩
          have hb4 : Below (w.heap.size + 2) (rW w b off n cap) w3 := hb2.trans (hb3.mono hsz2)
          clear q0 q1 r0 r1 r2 f0 f1 f2 c0 c1 c2 c3 hb3 hb2
          obtain ⟨q0, q1, r0, r1, r2, f0, f1, f2, hsz4, hbw4⟩ := rW_facts hb4
          go_wp2
          exact bodyPost_ret (v := .tuple #[.string (strB []), refF (some (6, k))]) (by simp [results, Tryz.results114, go_sem, refF, strB, r0, r1, r2]) rfl ⟨by rw [unhide HOUT, unhide HFE], ((hbw4.setCell (by simp) _).setCell (by simp) _).setCell (by simp) _⟩
        · cases ht : tagB E.tag
          · rw [show entErr E = 5 by simp [entErr, hp, ht]] at hfe
            have HFE := hide hfe
            have htd : (decide (E.tag < 0) = true) ∨ (decide (E.tag < 0) = false ∧ decide (65535 < E.tag) = true) := by
              simp only [tagB, Bool.and_eq_false_iff, decide_eq_false_iff_not] at ht
              simp only [decide_eq_true_eq, decide_eq_false_iff_not]; omega
            clear hz hfe ht
            rcases htd with htd | ⟨htd, htd'⟩
            all_goals
              go_wp2_with fail
              refine (of_any _ _ _).mono ?_
              rintro e w3 ⟨rfl, hb3⟩
              have hb4 : Below (w.heap.size + 2) (rW w b off n cap) w3 := hb2.trans (hb3.mono hsz2)
              clear q0 q1 r0 r1 r2 f0 f1 f2 c0 c1 c2 c3 hb3 hb2
              obtain ⟨q0, q1, r0, r1, r2, f0, f1, f2, hsz4, hbw4⟩ := rW_facts hb4
              go_wp2
              exact bodyPost_ret (v := .tuple #[.string (strB []), refF (some (5, k))]) (by simp [results, Tryz.results114, go_sem, refF, strB, r0, r1, r2]) rfl ⟨by rw [unhide HOUT, unhide HFE], ((hbw4.setCell (by simp) _).setCell (by simp) _).setCell (by simp) _⟩
          · have hm : metB E.met = false := by
              cases hm : metB E.met
              · rfl
              · exact absurd (by simp [entErr, hp, ht, hm]) hz
            rw [show entErr E = 8 by simp [entErr, hp, ht, hm]] at hfe
            have HFE := hide hfe
            have htd : (decide (E.met < 1) = true) ∨ (decide (E.met < 1) = false ∧ decide (16 < E.met) = true) := by
              simp only [metB, Bool.and_eq_false_iff, decide_eq_false_iff_not] at hm
              simp only [decide_eq_true_eq, decide_eq_false_iff_not]; omega
            simp only [tagB, Bool.and_eq_true, decide_eq_true_eq] at ht
            obtain ⟨ht0, ht1⟩ := ht
            clear hz hfe hm
            rcases htd with htd | ⟨htd, htd'⟩
            all_goals
              go_wp2_with fail
              refine (of_any _ _ _).mono ?_
              rintro e w3 ⟨rfl, hb3⟩
              have hb4 : Below (w.heap.size + 2) (rW w b off n cap) w3 := hb2.trans (hb3.mono hsz2)
              clear q0 q1 r0 r1 r2 f0 f1 f2 c0 c1 c2 c3 hb3 hb2
              obtain ⟨q0, q1, r0, r1, r2, f0, f1, f2, hsz4, hbw4⟩ := rW_facts hb4
              go_wp2
              exact bodyPost_ret (v := .tuple #[.string (strB []), refF (some (8, k))]) (by simp [results, Tryz.results114, go_sem, refF, strB, r0, r1, r2]) rfl ⟨by rw [unhide HOUT, unhide HFE], ((hbw4.setCell (by simp) _).setCell (by simp) _).setCell (by simp) _⟩
    · have hfe := firstErr_none (k := 0) (fun j hj => unhide HG j hj (by have := unhide HN; omega))
      have hout : encOut 2 l = encBytes 2 l := encOut_none ((encErr_two (by rw [unhide HN]; exact h0) (by rw [unhide HN]; exact h25)).trans hfe)
      have hall := firstErr_all hfe
      have HOUT := hide hout
      have HFE := hide hfe
      have HA := hide hall
      clear hfe hout hall
      go_wp2_with fail
      refine (Bytes_resp b off cap n l _ hok (unhide HN) (by omega) (fun _ => by omega) (unhide HA) (entCells_below hc hbw hB)).mono ?_
      rintro e w3 ⟨rfl, hb3⟩
      have hb4 : Below (w.heap.size + 2) (rW w b off n cap) w3 := hb.trans (hb3.mono hsz)
      clear q0 q1 r0 r1 r2 f0 f1 f2 hb3 hb
      obtain ⟨q0, q1, r0, r1, r2, f0, f1, f2, hsz4, hbw4⟩ := rW_facts hb4
      go_wp2
      exact bodyPost_ret (v := .tuple #[.string (strB (encBytes 2 l)), refF none]) (by simp [results, Tryz.results114, go_sem, refF, r0, r1, r2]) rfl ⟨by rw [unhide HOUT, unhide HFE], ((hbw4.setCell (by simp) _).setCell (by simp) _).setCell (by simp) _⟩

theorem rEncode_any (cmd : Int) (ao : Option Addr) (n cap : Nat) (l : List Ent) (w : World) (hok : entsOk l) (hn : l.length = n) (hs : entSlice w ao l) :
    Calls Tryz.prog 114 #[.agg #[.int .i64 cmd, .slice ao n cap]] w fun e w' => e = .returned (.tuple #[.string (strB (encOut cmd l)), refF (encErr cmd l)]) ∧ Below w.heap.size w w' := by
  by_cases h1 : cmd = 1
  · subst h1
    by_cases h0 : n = 0
    · subst h0
      obtain rfl : l = [] := List.eq_nil_of_length_eq_zero hn
      exact rEncode_ask ao cap w
    · have he : encErr 1 l = some (4, -1) := by unfold encErr; rw [if_pos (by omega)]
      rw [encOut_some he, he]
      exact rEncode_head1 ao n cap w (by omega)
  · by_cases h2 : cmd = 2
    · subst h2
      by_cases h0 : n = 0
      · subst h0
        have he : encErr 2 l = some (3, -1) := by unfold encErr; rw [if_neg (by omega), if_pos (by omega)]
        rw [encOut_some he, he]
        exact rEncode_none ao cap w
      · by_cases h25 : n ≤ 25
        · rw [encErr_two (by omega) (by omega)]
          rcases hs with rfl | ⟨b, off, rfl, hc⟩
          · simp at hn; omega
          · exact rEncode_loop b off cap n l w hok hn (by omega) h25 (entCells_lt hc (by omega)) hc
        · have he : encErr 2 l = some (3, -1) := by unfold encErr; rw [if_neg (by omega), if_pos (by omega)]
          rw [encOut_some he, he]
          exact rEncode_size ao n cap w (by omega)
    · have he : encErr cmd l = some (4, -1) := by unfold encErr; rw [if_pos (by omega)]
      rw [encOut_some he, he]
      exact rEncode_head cmd ao n cap w (by simp [h1]) (by simp [h2])

end Go.Proofs.YtdnpeefnobjfaaaGreatDoor

/- milepostlaw.agree says yes where the program's error is the reference's. -/
namespace Go.Proofs.YtdnpeefnobjfaaaGreatDoor
open Go.RowKit

set_option maxHeartbeats 400000 in
theorem agree_none (w : World) :
    Calls Tryz.prog 64 #[.nilIface, refF none] w fun e w' => e = .returned (.bool true) ∧ Below w.heap.size w w' := by
  unfold refF
  go_enter Tryz.func64, Tryz.ntmps64
  go_wp2
  go_ret
  exact ⟨rfl, below_new _ _⟩

theorem assert_errno (b : Nat) (W : World) : (Instr.typeAssert (.iface 180 (.pointer (some ⟨b, 0, none⟩))) 35 102 true).run Tryz.prog W = .ok (.tuple #[.int .i64 0, .bool false]) W := by kernel_rfl
theorem assert_fault (b : Nat) (W : World) : (Instr.typeAssert (.iface 180 (.pointer (some ⟨b, 0, none⟩))) 35 180 true).run Tryz.prog W = .ok (.tuple #[.pointer (some ⟨b, 0, none⟩), .bool true]) W := by kernel_rfl

set_option maxHeartbeats 400000 in
theorem agree_some (w : World) (b : Nat) (x n : Int) (h0 : w.cell? ⟨b, 0, none⟩ = some (.int .i64 x)) (h1 : w.cell? ⟨b, 1, none⟩ = some (.int .i64 n)) :
    Calls Tryz.prog 64 #[.iface 180 (.pointer (some ⟨b, 0, none⟩)), refF (some (x, n))] w fun e w' => e = .returned (.bool true) ∧ Below w.heap.size w w' := by
  have hlt := World.block_lt_of_cell? w _ h0
  have t1 := assert_errno b
  have t2 := assert_fault b
  unfold refF
  go_enter Tryz.func64, Tryz.ntmps64
  go_wp2_with fail
  go_quiet ((go_at_call 113; exact Calls.quiet_of_same (num_any _ _)))
  go_wp2
  go_ret
  exact ⟨rfl, below_drewN (below_new _ _) _⟩

theorem agree_any (w : World) (v : Value) (x : Option (Int × Int)) (h : errIs w v x) :
    Calls Tryz.prog 64 #[v, refF x] w fun e w' => e = .returned (.bool true) ∧ Below w.heap.size w w' := by
  cases x with
  | none => obtain rfl : v = .nilIface := h; exact agree_none w
  | some y => obtain ⟨b, rfl, h0, h1⟩ := h; exact agree_some w b y.1 y.2 h0 h1

end Go.Proofs.YtdnpeefnobjfaaaGreatDoor
