/- What the reference's written, Bytes and Encode answer. -/
import Derived.Test.YtdnpeefnobjfaaaGreatDoorEnc
import Derived.Lib.SlBytesConst
namespace Go.Proofs.YtdnpeefnobjfaaaGreatDoor
open Go.RowKit

theorem be_cons (k : Nat) (x : Int) : be (k + 1) x = byteOf (x / 256 ^ k) :: be k x := by
  induction k generalizing x with
  | zero => simp [be]
  | succ k ih =>
    rw [show be (k + 1 + 1) x = be (k + 1) (x / 256) ++ [byteOf x] from rfl, ih (x / 256), show be (k + 1) x = be k (x / 256) ++ [byteOf x] from rfl]
    rw [List.cons_append]
    congr 2
    rw [Int.pow_succ, Int.mul_comm, Int.ediv_ediv_of_nonneg (by decide)]

/-- A row of bytes that has just been built, as a string. -/
theorem lit_string (w : World) (xs : List UInt8) (n : Nat) (hn : xs.length = n) (hm : n ≤ 1000) :
    (convert 226 9 (.slice (some ⟨w.heap.size, 0, none⟩) n n)).run Tryz.prog (w.alloc (.cells (cells8 xs).toArray 5)) = .ok (.string (strB xs)) (w.alloc (.cells (cells8 xs).toArray 5)) :=
  owned_string _ 0 _ n n xs ⟨by simp [cells8, hn], .inr ⟨w.heap.size, n, _, rfl, Nat.zero_le _, heap_alloc_new w _, Nat.le_refl _, by unfold maxLen; omega, by simp [cells8, hn], by simp [cells8]; exact List.take_of_length_le (by simp; omega)⟩⟩
theorem add_strB (a b : List UInt8) (w : World) (h : a.length + b.length ≤ 1000000) : (Op.stringOp .add (strB a) (strB b)).run Tryz.prog w = .ok (.string (strB (a ++ b))) w := by
  rw [run_string_add_sum w _ _ (by rw [strB_size, strB_size]; omega)]
  simp [strB, ByteArray.mk_append_mk]

set_option maxHeartbeats 400000 in
theorem written_any (x : Int) (n : Nat) (w : World) (h0 : 0 ≤ x) (h1 : x < 9223372036854775807) (hn : n ≤ 100) :
    Calls Tryz.prog 212 #[.int .i64 x, .int .i64 n] w fun e w' => e = .returned (.string (strB (be n x))) ∧ Below w.heap.size w w' := by
  go_enter Tryz.func212, Tryz.ntmps212
  go_wp2
  go_loopw [0, 5, 6] (fun y s i wr => ∃ k : Nat, k ≤ n ∧ i = .int .i64 k ∧ y = .int .i64 (x / 256 ^ k) ∧ s = .string (strB (be k x)) ∧ Below w.heap.size w wr) (fun _ _ i _ => n - (intOf i).toNat)
  case atStart => exact ⟨0, by omega, rfl, by simp, rfl, Below.refl _ _⟩
  case round =>
    obtain ⟨k, hk, rfl, rfl, rfl, hb⟩ := hrel
    have hy0 : 0 ≤ x / 256 ^ k := Int.ediv_nonneg h0 (Int.le_of_lt (Int.pow_pos (by decide)))
    have hy1 : x / 256 ^ k ≤ x := Int.ediv_le_self _ h0
    have hbe := be_cons k x
    have hnx : x / 256 ^ (k + 1) = x / 256 ^ k / 256 := by rw [Int.pow_succ, Int.ediv_ediv_of_nonneg (Int.le_of_lt (Int.pow_pos (by decide)))]
    have HBE := hide hbe
    have HNX := hide hnx
    clear hbe hnx
    generalize hY : x / 256 ^ k = y at *
    have HY := hide hY
    clear hY
    by_cases hlt : k < n
    · have hcv := lit_string wr [byteOf y] 1 rfl (by omega)
      have hadd : ∀ W : World, (Op.stringOp .add (strB [byteOf y]) (strB (be k x))).run Tryz.prog W = .ok (.string (strB (be (k + 1) x))) W := fun W => by
        rw [add_strB _ _ _ (by rw [be_length]; simp; omega), unhide HBE]; rfl
      rw [show (cells8 [byteOf y]).toArray = #[.int .u8 (y % 256)] by simp [cells8, byteV_of]] at hcv
      go_wp2_with fail
      go_roundw
      case rel => exact ⟨k + 1, by omega, by go_num, by rw [unhide HNX], rfl, hb.alloc hb.size _⟩
      case measure => simp [intOf]; omega
    · go_wp2
      go_ret
      exact ⟨by rw [show k = n by omega]; rfl, hb⟩

/-- What stays while an entry's bytes are written: its box, and all that was there. -/
abbrev held (W : World) (B H : Nat) (E : Ent) (w : World) : Prop := w.cell? ⟨H, 0, none⟩ = some (.int .u32 E.addr) ∧ w.cell? ⟨H, 1, none⟩ = some (.int .i64 E.len) ∧ w.cell? ⟨H, 2, none⟩ = some (.int .i64 E.tag) ∧ w.cell? ⟨H, 3, none⟩ = some (.int .i64 E.met) ∧ Below B W w
theorem held_below {W w w1 : World} {B H : Nat} {E : Ent} (h : held W B H E w) (hb : Below w.heap.size w w1) (hB : B ≤ W.heap.size) : held W B H E w1 := by
  obtain ⟨c0, c1, c2, c3, hs⟩ := h
  have hl : H < w.heap.size := World.block_lt_of_cell? w _ c0
  exact ⟨(hb.cell (p := ⟨H, 0, none⟩) hl).trans c0, (hb.cell (p := ⟨H, 1, none⟩) hl).trans c1, (hb.cell (p := ⟨H, 2, none⟩) hl).trans c2, (hb.cell (p := ⟨H, 3, none⟩) hl).trans c3, hs.trans (hb.mono (Nat.le_trans hB hs.size))⟩
theorem written_held (x : Int) (n : Nat) (W w : World) (B H : Nat) (E : Ent) (hh : held W B H E w) (hB : B ≤ W.heap.size) (h0 : 0 ≤ x) (h1 : x < 9223372036854775807) (hn : n ≤ 100) :
    Calls Tryz.prog 212 #[.int .i64 x, .int .i64 n] w fun e w' => e = .returned (.string (strB (be n x))) ∧ held W B H E w' := by
  refine (written_any x n w h0 h1 hn).mono ?_
  rintro e w' ⟨rfl, hb⟩
  exact ⟨rfl, held_below hh hb hB⟩

/-- Two strings joined, the outcome under a letter. -/
theorem add_let (a b : List UInt8) (h : a.length + b.length ≤ 1000000) : ∃ c, Hid (c = a ++ b) ∧ ∀ W : World, (Op.stringOp .add (strB a) (strB b)).run Tryz.prog W = .ok (.string (strB c)) W :=
  ⟨_, rfl, fun W => add_strB a b W h⟩

set_option maxHeartbeats 400000 in
theorem Bytes_ask (ao : Option Addr) (n cap : Nat) (w : World) :
    Calls Tryz.prog 162 #[.int .i64 1, .slice ao n cap] w fun e w' => e = .returned (.string (strB askAll)) ∧ Below w.heap.size w w' := by
  have hcv := lit_string w [1, 2, 0, 0] 4 rfl (by omega)
  rw [show (cells8 [1, 2, 0, 0]).toArray = #[.int .u8 1, .int .u8 2, .int .u8 0, .int .u8 0] by simp [cells8, byteV]] at hcv
  obtain ⟨A0, HA0⟩ : ∃ A, Hid (A = ([1, 2, 0, 0] : List UInt8)) := ⟨_, rfl⟩
  obtain ⟨B1, HB1⟩ : ∃ A, Hid (A = be 19 0) := ⟨_, rfl⟩
  obtain ⟨B2, HB2⟩ : ∃ A, Hid (A = be 1 16) := ⟨_, rfl⟩
  rw [← unhide HA0] at hcv
  obtain ⟨A1, HA1, ha1⟩ := add_let A0 B1 (by rw [unhide HA0, unhide HB1]; simp [be_length])
  obtain ⟨A2, HA2, ha2⟩ := add_let A1 B2 (by rw [unhide HA1, unhide HA0, unhide HB1, unhide HB2]; simp [be_length])
  have HF : Hid (A2 = askAll) := by rw [Hid, unhide HA2, unhide HA1, unhide HA0, unhide HB1, unhide HB2]; decide +kernel
  go_enter Tryz.func162, Tryz.ntmps162
  go_wp2_with fail
  refine (written_any 0 19 _ (by omega) (by omega) (by omega)).mono ?_
  rw [← unhide HB1]
  rintro e w1 ⟨rfl, hb1⟩
  go_wp2_with fail
  refine (written_any 16 1 _ (by omega) (by omega) (by omega)).mono ?_
  rw [← unhide HB2]
  rintro e w2 ⟨rfl, hb2⟩
  go_wp2_with fail
  go_ret
  exact ⟨by rw [← unhide HF]; rfl, below_seq (below_box hb1) hb2⟩

set_option maxHeartbeats 800000 in
theorem Bytes_resp (b off cap n : Nat) (l : List Ent) (w : World) (hok : entsOk l) (hn : l.length = n) (h25 : n ≤ 60) (hB : 0 < n → b < w.heap.size) (hz : ∀ e ∈ l, entErr e = 0) (hc : entCells w b off l) :
    Calls Tryz.prog 162 #[.int .i64 2, .slice (some ⟨b, off, none⟩) n cap] w fun e w' => e = .returned (.string (strB (encBytes 2 l))) ∧ Below w.heap.size w w' := by
  have HN := hide hn
  have HZ := hide hz
  clear hn hz
  have hcv := lit_string w [2, 2, 0, 0] 4 rfl (by omega)
  rw [show (cells8 [2, 2, 0, 0]).toArray = #[.int .u8 2, .int .u8 2, .int .u8 0, .int .u8 0] by simp [cells8, byteV]] at hcv
  go_enter Tryz.func162, Tryz.ntmps162
  go_wp2
  clear hcv
  go_loopw [5, 6] (fun s i wr => ∃ k : Nat, k ≤ n ∧ i = .int .i64 k ∧ s = .string (strB ([2, 2, 0, 0] ++ (l.take k).flatMap entBytes)) ∧ Below w.heap.size w wr) (fun _ i _ => n - (intOf i).toNat)
  case atStart => exact ⟨0, by omega, rfl, by simp, below_new _ _⟩
  case round =>
    obtain ⟨k, hk, rfl, rfl, hb⟩ := hrel
    by_cases hlt : k < n
    · have hlt' : k < l.length := by rw [unhide HN]; exact hlt
      have hcx := entCells_below hc hb (hB (by omega)) k hlt'
      have hoke := hok l[k] (List.getElem_mem _)
      have hze := unhide HZ l[k] (List.getElem_mem _)
      have hsn : (l.take (k + 1)).flatMap entBytes = (l.take k).flatMap entBytes ++ entBytes l[k] := by rw [List.take_succ_eq_append_getElem hlt', List.flatMap_append]; simp
      have HSN := hide hsn
      have hlen : ([2, 2, 0, 0] ++ (l.take k).flatMap entBytes).length = 4 + 20 * k := by rw [List.length_append, flat_length, List.length_take]; simp; omega
      have HL := hide hlen
      clear hsn hlen
      generalize hE : l[k] = E at *
      clear hE
      generalize hS : [2, 2, 0, 0] ++ (l.take k).flatMap entBytes = S at *
      have HS := hide hS
      clear hS
      obtain ⟨hp, ht, hm⟩ := entErr_zero hze
      have hl := pfx_len hp
      simp only [tagB, metB, Bool.and_eq_true, decide_eq_true_eq] at ht hm
      obtain ⟨ht0, ht1⟩ := ht
      obtain ⟨hm0, hm1⟩ := hm
      obtain ⟨hl0, hl1⟩ := hl
      obtain ⟨ha0, ha1⟩ := hoke
      clear hze hp
      obtain ⟨c0, c1, c2, c3⟩ := hcx
      have hp0 := pow_pos' (32 - E.len).toNat
      have hp1 := pow_le32 (32 - E.len).toNat (by omega)
      have hblk : ∀ W, Calls Tryz.prog 159 #[.int .i64 E.len] W fun e w' => e = .returned (.int .i64 (2 ^ (32 - E.len).toNat)) ∧ w' = W := fun W => block_any _ W hl0 hl1
      obtain ⟨B1, HB1⟩ : ∃ A, Hid (A = be 2 2) := ⟨_, rfl⟩
      obtain ⟨B2, HB2⟩ : ∃ A, Hid (A = be 2 E.tag) := ⟨_, rfl⟩
      obtain ⟨B3, HB3⟩ : ∃ A, Hid (A = be 4 E.addr) := ⟨_, rfl⟩
      obtain ⟨B4, HB4⟩ : ∃ A, Hid (A = be 4 (4294967296 - 2 ^ (32 - E.len).toNat)) := ⟨_, rfl⟩
      obtain ⟨B5, HB5⟩ : ∃ A, Hid (A = be 4 0) := ⟨_, rfl⟩
      obtain ⟨B6, HB6⟩ : ∃ A, Hid (A = be 4 E.met) := ⟨_, rfl⟩
      obtain ⟨S1, HS1, ha1⟩ := add_let S B1 (by rw [unhide HL, unhide HB1, be_length]; omega)
      obtain ⟨S2, HS2, ha2⟩ := add_let S1 B2 (by rw [unhide HS1, List.length_append, unhide HL, unhide HB1, unhide HB2, be_length, be_length]; omega)
      obtain ⟨S3, HS3, ha3⟩ := add_let S2 B3 (by rw [unhide HS2, unhide HS1, List.length_append, List.length_append, unhide HL, unhide HB1, unhide HB2, unhide HB3, be_length, be_length, be_length]; omega)
      obtain ⟨S4, HS4, ha4⟩ := add_let S3 B4 (by rw [unhide HS3, unhide HS2, unhide HS1, List.length_append, List.length_append, List.length_append, unhide HL, unhide HB1, unhide HB2, unhide HB3, unhide HB4, be_length, be_length, be_length, be_length]; omega)
      obtain ⟨S5, HS5, ha5⟩ := add_let S4 B5 (by rw [unhide HS4, unhide HS3, unhide HS2, unhide HS1, List.length_append, List.length_append, List.length_append, List.length_append, unhide HL, unhide HB1, unhide HB2, unhide HB3, unhide HB4, unhide HB5, be_length, be_length, be_length, be_length, be_length]; omega)
      obtain ⟨S6, HS6, ha6⟩ := add_let S5 B6 (by rw [unhide HS5, unhide HS4, unhide HS3, unhide HS2, unhide HS1, List.length_append, List.length_append, List.length_append, List.length_append, List.length_append, unhide HL, unhide HB1, unhide HB2, unhide HB3, unhide HB4, unhide HB5, unhide HB6, be_length, be_length, be_length, be_length, be_length, be_length]; omega)
      have HF : Hid (S6 = [2, 2, 0, 0] ++ (l.take (k + 1)).flatMap entBytes) := by
        rw [Hid, unhide HSN, unhide HS6, unhide HS5, unhide HS4, unhide HS3, unhide HS2, unhide HS1, ← List.append_assoc, unhide HS, unhide HB1, unhide HB2, unhide HB3, unhide HB4, unhide HB5, unhide HB6]
        simp [entBytes, List.append_assoc]
      have w1 : ∀ W, held w w.heap.size wr.heap.size E W → Calls Tryz.prog 212 #[.int .i64 2, .int .i64 2] W fun e w' => e = .returned (.string (strB B1)) ∧ held w w.heap.size wr.heap.size E w' := fun W h => by rw [unhide HB1]; exact written_held 2 2 w W _ _ E h (Nat.le_refl _) (by omega) (by omega) (by omega)
      have w2 : ∀ W, held w w.heap.size wr.heap.size E W → Calls Tryz.prog 212 #[.int .i64 E.tag, .int .i64 2] W fun e w' => e = .returned (.string (strB B2)) ∧ held w w.heap.size wr.heap.size E w' := fun W h => by rw [unhide HB2]; exact written_held _ 2 w W _ _ E h (Nat.le_refl _) (by omega) (by omega) (by omega)
      have w3 : ∀ W, held w w.heap.size wr.heap.size E W → Calls Tryz.prog 212 #[.int .i64 E.addr, .int .i64 4] W fun e w' => e = .returned (.string (strB B3)) ∧ held w w.heap.size wr.heap.size E w' := fun W h => by rw [unhide HB3]; exact written_held _ 4 w W _ _ E h (Nat.le_refl _) (by omega) (by omega) (by omega)
      have w4 : ∀ W, held w w.heap.size wr.heap.size E W → Calls Tryz.prog 212 #[.int .i64 (4294967296 - 2 ^ (32 - E.len).toNat), .int .i64 4] W fun e w' => e = .returned (.string (strB B4)) ∧ held w w.heap.size wr.heap.size E w' := fun W h => by rw [unhide HB4]; exact written_held _ 4 w W _ _ E h (Nat.le_refl _) (by omega) (by omega) (by omega)
      have w5 : ∀ W, held w w.heap.size wr.heap.size E W → Calls Tryz.prog 212 #[.int .i64 0, .int .i64 4] W fun e w' => e = .returned (.string (strB B5)) ∧ held w w.heap.size wr.heap.size E w' := fun W h => by rw [unhide HB5]; exact written_held _ 4 w W _ _ E h (Nat.le_refl _) (by omega) (by omega) (by omega)
      have w6 : ∀ W, held w w.heap.size wr.heap.size E W → Calls Tryz.prog 212 #[.int .i64 E.met, .int .i64 4] W fun e w' => e = .returned (.string (strB B6)) ∧ held w w.heap.size wr.heap.size E w' := fun W h => by rw [unhide HB6]; exact written_held _ 4 w W _ _ E h (Nat.le_refl _) (by omega) (by omega) (by omega)
      generalize (2 : Int) ^ (32 - E.len).toNat = K at *
      have HBLK := hide hblk
      have W1 := hide w1
      have W2 := hide w2
      have W3 := hide w3
      have W4 := hide w4
      have W5 := hide w5
      have W6 := hide w6
      have hbn : Below w.heap.size w (wr.alloc (.cells #[.int .u32 E.addr, .int .i64 E.len, .int .i64 E.tag, .int .i64 E.met] 42)) := hb.alloc hb.size _
      have hbd := hbn.drew
      have k1 : IntKind.i64.wrap E.addr = E.addr := by rw [IntKind.wrap_i64]; omega
      have k2 : IntKind.i64.wrap (4294967296 - K) = 4294967296 - K := by rw [IntKind.wrap_i64]; omega
      clear w1 w2 w3 w4 w5 w6 hblk
      go_wp2_with fail
      go_region_held3 (fun w' => w'.cell? ⟨wr.heap.size, 0, none⟩ = some (.int .u32 E.addr) ∧ w'.cell? ⟨wr.heap.size, 1, none⟩ = some (.int .i64 E.len) ∧ w'.cell? ⟨wr.heap.size, 2, none⟩ = some (.int .i64 E.tag) ∧ w'.cell? ⟨wr.heap.size, 3, none⟩ = some (.int .i64 E.met) ∧ Below w.heap.size w w') (go_keep)
        (first
          | (go_at_call_of 212 (E.tag); refine (unhide W2 _ (by assumption)).mono ?_; rintro e w' ⟨rfl, c0', c1', c2', c3', hb'⟩)
          | (go_at_call_of 212 (E.addr); refine (unhide W3 _ (by assumption)).mono ?_; rintro e w' ⟨rfl, c0', c1', c2', c3', hb'⟩)
          | (go_at_call_of 212 (E.met); refine (unhide W6 _ (by assumption)).mono ?_; rintro e w' ⟨rfl, c0', c1', c2', c3', hb'⟩)
          | (go_at_call_of 212 K; refine (unhide W4 _ (by assumption)).mono ?_; rintro e w' ⟨rfl, c0', c1', c2', c3', hb'⟩)
          | (go_at_call_of 212 (Value.int IntKind.i64 0); refine (unhide W5 _ (by assumption)).mono ?_; rintro e w' ⟨rfl, c0', c1', c2', c3', hb'⟩)
          | (go_at_call_of 212 (Value.int IntKind.i64 2); refine (unhide W1 _ (by assumption)).mono ?_; rintro e w' ⟨rfl, c0', c1', c2', c3', hb'⟩)
          | (go_at_call 159; refine (unhide HBLK _).mono ?_; rintro e w' ⟨rfl, rfl⟩))
      go_wp2
      go_roundw
      case rel => exact ⟨k + 1, by omega, by go_num, by rw [unhide HF], hb'⟩
      case measure => simp [intOf]; omega
    · go_wp2
      go_ret
      exact ⟨by rw [show k = n by omega, ← unhide HN, List.take_length]; simp [encBytes], hb⟩

end Go.Proofs.YtdnpeefnobjfaaaGreatDoor
