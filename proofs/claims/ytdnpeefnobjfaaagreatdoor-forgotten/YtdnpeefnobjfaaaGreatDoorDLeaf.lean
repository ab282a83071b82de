/- What the small functions that read bytes answer. -/
import Derived.Test.YtdnpeefnobjfaaaGreatDoorDMath
import Derived.Test.YtdnpeefnobjfaaaGreatDoorChk
import Derived.Lib.BitFns
namespace Go.Proofs.YtdnpeefnobjfaaaGreatDoor
open Go.RowKit

theorem bt_at (s : ByteArray) (i : Nat) (h : i < s.size) : ((s[i]).toNat : Int) = bt s.data.toList i := by
  have h' : i < s.data.size := h
  have e : s[i] = s.data[i] := rfl
  rw [e]
  simp only [bt, List.getD_eq_getElem?_getD, Array.getElem?_toList]
  rw [Array.getElem?_eq_getElem h']
  rfl

set_option maxHeartbeats 400000 in
theorem isSize_any (n : Nat) (w : World) (hn : n ≤ 9223372036854775807) :
    Calls Tryz.prog 86 #[.int .i64 n] w fun e w' => e = .returned (.bool (sizeB n)) ∧ w' = w := by
  by_cases h1 : 24 ≤ n
  · by_cases h2 : n ≤ 504
    · go_enter Tryz.func86, Tryz.ntmps86
      go_wp2
      go_ret
      exact ⟨ret_bool (by simp only [sizeB, h1, h2, decide_true, Bool.true_and]; rw [Bool.eq_iff_iff]; simp; omega), rfl⟩
    · go_enter Tryz.func86, Tryz.ntmps86
      go_wp2
      go_ret
      exact ⟨ret_bool (by simp [sizeB, h2]), rfl⟩
  · go_enter Tryz.func86, Tryz.ntmps86
    go_wp2
    go_ret
    exact ⟨ret_bool (by simp [sizeB, h1]), rfl⟩

theorem or_sum (i : Nat) (a b : Int) (h0 : 0 ≤ a) (ha : a % 2 ^ i = 0) (h1 : 0 ≤ b) (hb : b < 2 ^ i) : ((a.toNat ||| b.toNat : Nat) : Int) = a + b := by
  obtain ⟨x, rfl⟩ := Int.eq_ofNat_of_zero_le h0
  obtain ⟨y, rfl⟩ := Int.eq_ofNat_of_zero_le h1
  rw [Int.toNat_natCast, Int.toNat_natCast, nat_join i x y (by exact_mod_cast ha) (by exact_mod_cast hb)]
  simp

set_option maxHeartbeats 400000 in
theorem short_any (s : ByteArray) (i : Nat) (w : World) (h : i + 1 < s.size) (hs : s.size ≤ 9223372036854775807) :
    Calls Tryz.prog 177 #[.string s, .int .i64 i] w fun e w' => e = .returned (.int .u16 (sh s.data.toList i)) ∧ ∃ nq, w' = w.drewN nq := by
  have e0 := bt_at s i (by omega)
  have e1 := bt_at s (i + 1) (by omega)
  have r0 := bt_range s.data.toList i
  have r1 := bt_range s.data.toList (i + 1)
  have i0 : (0 : Int) ≤ (i : Int) := by omega
  have i1 : (i : Int) < (s.size : Int) := by omega
  have i2 : (i : Int) + 1 < (s.size : Int) := by omega
  go_enter Tryz.func177, Tryz.ntmps177
  go_wp2_with fail
  go_quiet (fail)
  go_wp2
  go_ret
  refine ⟨ret_int ?_, _, rfl⟩
  rw [u16_or _ _ (by omega) (by omega) (by omega) (by omega), or_sum 8 _ _ (by omega) (by omega) (by omega) (by omega)]
  rfl

set_option maxHeartbeats 400000 in
theorem word_any (s : ByteArray) (i : Nat) (w : World) (h : i + 3 < s.size) (hs : s.size ≤ 9223372036854775807) :
    Calls Tryz.prog 179 #[.string s, .int .i64 i] w fun e w' => e = .returned (.int .u32 (wd s.data.toList i)) ∧ ∃ nq, w' = w.drewN nq := by
  have r0 := sh_range s.data.toList i
  have r1 := sh_range s.data.toList (i + 2)
  go_enter Tryz.func179, Tryz.ntmps179
  go_wp2_with fail
  refine (short_any s i _ (by omega) hs).mono ?_
  rintro e w1 ⟨rfl, n1, rfl⟩
  go_wp2_with fail
  rw [show ((i : Int) + 2) = ((i + 2 : Nat) : Int) by omega]
  refine (short_any s (i + 2) _ (by omega) hs).mono ?_
  rintro e w2 ⟨rfl, n2, rfl⟩
  go_wp2_with fail
  go_ret
  refine ⟨ret_int ?_, ?_⟩
  · rw [u32_or _ _ (by omega) (by omega) (by omega) (by omega), or_sum 16 _ _ (by omega) (by omega) (by omega) (by omega)]
    rfl
  · exact ⟨_, rfl⟩

set_option maxHeartbeats 400000 in
theorem number_any (s : ByteArray) (i n : Nat) (w : World) (h : i + n ≤ s.size) (hs : s.size ≤ 1000) (hn : n ≤ 4) :
    Calls Tryz.prog 166 #[.string s, .int .i64 i, .int .i64 n] w fun e w' => e = .returned (.int .i64 (numAt s.data.toList i n)) ∧ w' = w := by
  go_enter Tryz.func166, Tryz.ntmps166
  go_wp2
  go_loop [7, 8] (fun x j => ∃ k : Nat, k ≤ n ∧ j = .int .i64 (i + k : Nat) ∧ x = .int .i64 (numAt s.data.toList i k)) (fun _ j => i + n - (intOf j).toNat)
  case atStart => exact ⟨0, by omega, rfl, rfl⟩
  case round =>
    obtain ⟨k, hk, rfl, rfl⟩ := hrel
    have r := numAt_range s.data.toList i k (by omega)
    obtain ⟨r0, r1, r2⟩ := r
    by_cases hlt : k < n
    · have e0 := bt_at s (i + k) (by omega)
      have b0 := bt_range s.data.toList (i + k)
      have r3 := r2 (by omega)
      have HN : Hid (numAt s.data.toList i (k + 1) = 256 * numAt s.data.toList i k + bt s.data.toList (i + k)) := rfl
      have hj : ((i + k : Nat) : Int) < (i : Int) + (n : Int) := by omega
      go_wp2
      go_round
      case rel => exact ⟨k + 1, by omega, by rw [show ((i : Int) + k + 1) = ((i + (k + 1) : Nat) : Int) by omega], by rw [HN.out]⟩
      case measure => simp [intOf]; omega
    · go_wp2
      go_ret
      exact ⟨by rw [show k = n by omega]; rfl, rfl⟩

set_option maxHeartbeats 400000 in
theorem length_any (m : Int) (w : World) (_h0 : 0 ≤ m) (_h1 : m < 4294967296) :
    Calls Tryz.prog 214 #[.int .i64 m] w fun e w' => e = .returned (.int .i64 (maskLen m)) ∧ w' = w := by
  go_enter Tryz.func214, Tryz.ntmps214
  go_wp2
  go_loop [3] (fun j => ∃ k : Nat, k ≤ 33 ∧ j = .int .i64 k ∧ ∀ q : Nat, q < k → m ≠ 4294967296 - 2 ^ (32 - q)) (fun j => 33 - (intOf j).toNat)
  case atStart => exact ⟨0, by omega, rfl, fun q hq => by omega⟩
  case round =>
    obtain ⟨k, hk, rfl, hq⟩ := hrel
    have HQ := hide hq
    clear hq
    by_cases hlt : k ≤ 32
    · have hp0 := pow_pos' (32 - k)
      have hp1 := pow_le32 (32 - k) (by omega)
      have hblk : ∀ W, Calls Tryz.prog 159 #[.int .i64 k] W fun e w' => e = .returned (.int .i64 (2 ^ (32 - k))) ∧ w' = W := fun W => by
        have := block_any (k : Int) W (by omega) (by omega)
        rwa [show ((32 : Int) - k).toNat = 32 - k by omega] at this
      generalize hK : (2 : Int) ^ (32 - k) = K at *
      have HK := hide hK
      have HB := hide hblk
      clear hK hblk
      by_cases he : m = 4294967296 - K
      · have hb : (m == 4294967296 - K) = true := by simp [he]
        have HE := hide he
        clear he
        go_wp2_with (go_at_call 159; refine (unhide HB _).mono ?_; rintro e w' ⟨rfl, rfl⟩)
        go_ret
        exact ⟨ret_int (by rw [unhide HE, ← unhide HK, maskLen_at k hlt]), rfl⟩
      · have hb : (m == 4294967296 - K) = false := by simp [he]
        have HE := hide he
        clear he
        go_wp2_with (go_at_call 159; refine (unhide HB _).mono ?_; rintro e w' ⟨rfl, rfl⟩)
        go_round
        case rel =>
          refine ⟨k + 1, by omega, by go_num, fun q hq => ?_⟩
          by_cases hqk : q = k
          · subst hqk; rw [unhide HK]; exact unhide HE
          · exact unhide HQ q (by omega)
        case measure => simp [intOf]; omega
    · go_wp2
      go_ret
      exact ⟨ret_int (by rw [maskLen_none (fun q hq => unhide HQ q (by omega))]), rfl⟩

set_option maxHeartbeats 1000000 in
set_option maxRecDepth 100000 in
theorem len32_a (x : Int) (w : World) (h0 : 0 ≤ x) (h1 : x ≤ 255) :
    Calls Tryz.prog 223 #[.int .u32 x] w fun e w' => e = .returned (.int .i64 (Lib.bitLen x.toNat)) ∧ w' = w := by
  have l := Lib.bitLen_le8' x h0 h1
  have el := Lib.len8_of x h0 h1
  go_enter Tryz.func223, Tryz.ntmps223
  go_wp2
  go_ret
  exact ⟨rfl, rfl⟩
set_option maxHeartbeats 1000000 in
set_option maxRecDepth 100000 in
theorem len32_b (x : Int) (w : World) (h0 : 256 ≤ x) (h1 : x < 65536) :
    Calls Tryz.prog 223 #[.int .u32 x] w fun e w' => e = .returned (.int .i64 (Lib.bitLen x.toNat)) ∧ w' = w := by
  have i0 : 0 ≤ x / 256 := by omega
  have i1 : x / 256 ≤ 255 := by omega
  have l := Lib.bitLen_le8' (x / 256) i0 i1
  have el := Lib.len8_of (x / 256) i0 i1
  go_enter Tryz.func223, Tryz.ntmps223
  go_wp2
  go_ret
  exact ⟨ret_int (by have e : (x / 256).toNat = x.toNat / 256 := by omega
                     have s := Lib.bitLen_shift8 x.toNat (by omega) (by omega)
                     rw [e]; omega), rfl⟩
set_option maxHeartbeats 1000000 in
set_option maxRecDepth 100000 in
theorem len32_c (x : Int) (w : World) (h0 : 65536 ≤ x) (h1 : x < 16777216) :
    Calls Tryz.prog 223 #[.int .u32 x] w fun e w' => e = .returned (.int .i64 (Lib.bitLen x.toNat)) ∧ w' = w := by
  have i0 : 0 ≤ x / 65536 := by omega
  have i1 : x / 65536 ≤ 255 := by omega
  have l := Lib.bitLen_le8' (x / 65536) i0 i1
  have el := Lib.len8_of (x / 65536) i0 i1
  go_enter Tryz.func223, Tryz.ntmps223
  go_wp2
  go_ret
  exact ⟨ret_int (by have e : (x / 65536).toNat = x.toNat / 65536 := by omega
                     have s := Lib.bitLen_shift16 x.toNat (by omega) (by omega)
                     rw [e]; omega), rfl⟩
set_option maxHeartbeats 1000000 in
set_option maxRecDepth 100000 in
theorem len32_d (x : Int) (w : World) (h0 : 16777216 ≤ x) (h1 : x ≤ 4294967295) :
    Calls Tryz.prog 223 #[.int .u32 x] w fun e w' => e = .returned (.int .i64 (Lib.bitLen x.toNat)) ∧ w' = w := by
  have i0 : 0 ≤ x / 65536 / 256 := by omega
  have i1 : x / 65536 / 256 ≤ 255 := by omega
  have l := Lib.bitLen_le8' (x / 65536 / 256) i0 i1
  have el := Lib.len8_of (x / 65536 / 256) i0 i1
  go_enter Tryz.func223, Tryz.ntmps223
  go_wp2
  go_ret
  exact ⟨ret_int (by have e : (x / 65536 / 256).toNat = x.toNat / 16777216 := by omega
                     have s := Lib.bitLen_shift24 x.toNat (by omega) (by omega)
                     rw [e]; omega), rfl⟩

theorem len32_any (x : Int) (w : World) (h0 : 0 ≤ x) (h1 : x ≤ 4294967295) :
    Calls Tryz.prog 223 #[.int .u32 x] w fun e w' => e = .returned (.int .i64 (Lib.bitLen x.toNat)) ∧ w' = w := by
  by_cases ha : x ≤ 255
  · exact len32_a x w h0 ha
  · by_cases hb : x < 65536
    · exact len32_b x w (by omega) hb
    · by_cases hc : x < 16777216
      · exact len32_c x w (by omega) hc
      · exact len32_d x w (by omega) h1

/-- How many bits at a number's head are 0. -/
def lz (x : Int) : Int := 32 - (Lib.bitLen x.toNat : Int)
theorem lz_range (x : Int) (h1 : x ≤ 4294967295) : 0 ≤ lz x ∧ lz x ≤ 32 := by
  have := Lib.bitLen_le x.toNat 32 (by omega) (by omega)
  unfold lz; omega
theorem bitLen_ones : ∀ j : Fin 33, Lib.bitLen (2 ^ j.val - 1) = j.val := by decide +kernel
theorem lz_ones (k : Nat) (hk : k ≤ 32) : lz (2 ^ (32 - k) - 1) = k := by
  have h := bitLen_ones ⟨32 - k, by omega⟩
  have e : ((2 : Int) ^ (32 - k) - 1).toNat = 2 ^ (32 - k) - 1 := by
    have e2 : ((2 : Int) ^ (32 - k)) = ((2 ^ (32 - k) : Nat) : Int) := by simp
    rw [e2]; omega
  unfold lz
  rw [e, h]
  simp only
  omega

set_option maxHeartbeats 400000 in
theorem lz_any (x : Int) (w : World) (h0 : 0 ≤ x) (h1 : x ≤ 4294967295) :
    Calls Tryz.prog 225 #[.int .u32 x] w fun e w' => e = .returned (.int .i64 (lz x)) ∧ w' = w := by
  have l := Lib.bitLen_le x.toNat 32 (by omega) (by omega)
  go_enter Tryz.func225, Tryz.ntmps225
  go_wp2_with (go_at_call 223; refine (len32_any _ _ h0 h1).mono ?_; rintro e w' ⟨rfl, rfl⟩)
  go_ret
  exact ⟨rfl, rfl⟩

theorem nat_not32 (x : Nat) (h : x < 2 ^ 32) : (2 ^ 32 - 1) ^^^ x = 2 ^ 32 - (x + 1) := by
  apply Nat.eq_of_testBit_eq
  intro i
  rw [Nat.testBit_xor, Nat.testBit_two_pow_sub_one, Nat.testBit_two_pow_sub_succ h]
  by_cases hi : i < 32
  · simp [hi]
  · have : x.testBit i = false := Nat.testBit_lt_two_pow (Nat.lt_of_lt_of_le h (Nat.pow_le_pow_right (by decide) (by omega)))
    simp [hi, this]
theorem not32 (m : Int) (h0 : 0 ≤ m) (h1 : m < 4294967296) : bits .xor .u32 IntKind.u32.max m = 4294967295 - m := by
  rw [show IntKind.u32.max = 4294967295 from rfl, u32_xor _ _ (by decide) (by decide) h0 h1]
  have := nat_not32 m.toNat (by omega)
  rw [show (4294967295 : Int).toNat = 2 ^ 32 - 1 from rfl, this]
  omega

set_option maxHeartbeats 400000 in
theorem Of_mask (a : Int) (k : Nat) (w : World) (b : Bool) (hb : pfxB a k = b) (h0 : 0 ≤ a) (h1 : a < 4294967296) (hk : k ≤ 32) :
    Calls Tryz.prog 178 #[.int .u32 a, .int .u32 (4294967296 - 2 ^ (32 - k))] w fun e w' => e = .returned (.tuple #[if b then .agg #[.int .u32 a, .int .i64 k] else .agg #[.int .u32 0, .int .i64 0], .bool b]) ∧ Below w.heap.size w w' := by
  have hp0 := pow_pos' (32 - k)
  have hp1 := pow_le32 (32 - k) (by omega)
  have hlz := lz_ones k hk
  have hmk : ∀ W, Calls Tryz.prog 127 #[.agg #[.int .u32 a, .int .i64 k]] W fun e w' => e = .returned (.int .u32 (4294967296 - 2 ^ (32 - k))) ∧ w' = W.alloc (.cells #[.int .u32 a, .int .i64 k] 32) := fun W => by
    have := mask_any a k W (by omega) (by omega)
    rwa [show ((32 : Int) - k).toNat = 32 - k by omega] at this
  generalize hK : (2 : Int) ^ (32 - k) = K at *
  have hnot := not32 (4294967296 - K) (by omega) (by omega)
  rw [show (4294967295 : Int) - (4294967296 - K) = K - 1 by omega] at hnot
  have HLZ : ∀ W, Calls Tryz.prog 225 #[.int .u32 (K - 1)] W fun e w' => e = .returned (.int .i64 k) ∧ w' = W := fun W => by
    have := lz_any (K - 1) W (by omega) (by omega)
    rwa [hlz] at this
  have HLZ := hide HLZ
  have HMK := hide hmk
  have hsg : IntKind.u32.signed = false := rfl
  have hne : ((4294967296 - K : Int) != 4294967296 - K) = false := by simp
  have HB := hide hb
  have HIS : ∀ W, Calls Tryz.prog 77 #[.agg #[.int .u32 a, .int .i64 k]] W fun e w' => e = .returned (.bool b) ∧ Below W.heap.size W w' := fun W => by
    have := Is_any a k W h0 h1
    rwa [hb] at this
  have HIS := hide HIS
  clear hK hlz hmk hb
  go_enter Tryz.func178, Tryz.ntmps178
  go_wp2_with fail
  refine (unhide HLZ _).mono ?_
  rintro e w1 ⟨rfl, rfl⟩
  go_wp2_with fail
  refine (unhide HMK _).mono ?_
  rintro e w2 ⟨rfl, rfl⟩
  go_wp2_with fail
  refine (unhide HIS _).mono ?_
  rintro e w3 ⟨rfl, hb3⟩
  obtain ⟨hc3, hf3⟩ := bcell hb3
  have hs3 : w.heap.size + 2 < w3.heap.size := by have := hb3.size; simp at this; omega
  have hbw : Below w.heap.size w w3 := below_box (below_box (below_box hb3))
  have r0 : w3.cell? ⟨w.heap.size, 0, none⟩ = some (.int .u32 0) := (hc3 w.heap.size 0 (by simp; omega)).trans (((below_new _ _).cell (p := ⟨w.heap.size, 0, none⟩) (by simp; omega)).trans (by simp))
  have r1 : w3.cell? ⟨w.heap.size, 1, none⟩ = some (.int .i64 0) := (hc3 w.heap.size 1 (by simp; omega)).trans (((below_new _ _).cell (p := ⟨w.heap.size, 1, none⟩) (by simp; omega)).trans (by simp))
  cases b
  · go_wp2
    exact bodyPost_ret (v := .tuple #[.agg #[.int .u32 0, .int .i64 0], .bool false]) (by simp [results, Tryz.results178, go_sem, r0, r1]) rfl ⟨rfl, (hbw.setCell (by simp) _).setCell (by simp) _⟩
  · go_wp2
    exact bodyPost_ret (v := .tuple #[.agg #[.int .u32 a, .int .i64 k], .bool true]) (by simp [results, Tryz.results178, go_sem, r0, r1]) rfl ⟨rfl, (hbw.setCell (by simp) _).setCell (by simp) _⟩

set_option maxHeartbeats 400000 in
theorem Of_none (a m : Int) (w : World) (hm0 : 0 ≤ m) (hm1 : m < 4294967296) (hn : ∀ k : Nat, k ≤ 32 → m ≠ 4294967296 - 2 ^ (32 - k)) :
    Calls Tryz.prog 178 #[.int .u32 a, .int .u32 m] w fun e w' => e = .returned (.tuple #[.agg #[.int .u32 0, .int .i64 0], .bool false]) ∧ Below w.heap.size w w' := by
  have hnot := not32 m hm0 hm1
  obtain ⟨l0, l1⟩ := lz_range (4294967295 - m) (by omega)
  have HLZ := hide (fun W => lz_any (4294967295 - m) W (by omega) (by omega))
  generalize lz (4294967295 - m) = l at *
  have hne : ((4294967296 - 2 ^ (32 - l).toNat : Int) != m) = true := by
    rw [bne_iff_ne]
    intro e
    exact hn l.toNat (by omega) (by rw [← e, show (32 - l).toNat = 32 - l.toNat by omega])
  have hsg : IntKind.u32.signed = false := rfl
  clear hn
  go_enter Tryz.func178, Tryz.ntmps178
  go_wp2_with fail
  refine (unhide HLZ _).mono ?_
  rintro e w1 ⟨rfl, rfl⟩
  go_wp2_with fail
  refine (mask_any a l _ l0 l1).mono ?_
  rintro e w2 ⟨rfl, rfl⟩
  go_wp2
  exact bodyPost_ret (v := .tuple #[.agg #[.int .u32 0, .int .i64 0], .bool false]) (by simp [results, Tryz.results178, go_sem]) rfl ⟨rfl, ((below_new _ _).trans ((below_new _ _).mono (by simp))).trans ((below_new _ _).mono (by simp; omega))⟩

/-- prefix.Of: yes, and the prefix, where address and mask are one's. -/
theorem Of_any (a m : Int) (b : Bool) (w : World) (ha0 : 0 ≤ a) (ha1 : a < 4294967296) (hm0 : 0 ≤ m) (hm1 : m < 4294967296) (hb : pfxB a (maskLen m) = b) :
    Calls Tryz.prog 178 #[.int .u32 a, .int .u32 m] w fun e w' => e = .returned (.tuple #[if b then .agg #[.int .u32 a, .int .i64 (maskLen m)] else .agg #[.int .u32 0, .int .i64 0], .bool b]) ∧ Below w.heap.size w w' := by
  rcases maskLen_cases m with ⟨k, hk, rfl⟩ | hn
  · rw [maskLen_at k hk] at hb ⊢
    exact Of_mask a k w b hb ha0 ha1 hk
  · rw [maskLen_none hn] at hb ⊢
    obtain rfl : b = false := by rw [← hb]; exact pfx_lo (by decide)
    exact Of_none a m w hm0 hm1 hn

end Go.Proofs.YtdnpeefnobjfaaaGreatDoor
