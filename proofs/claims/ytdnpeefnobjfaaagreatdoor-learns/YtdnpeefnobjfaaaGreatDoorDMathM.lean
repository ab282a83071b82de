/- Plain facts on reading a packet's bytes: what each entry is, the first fault. No program in it. -/
import Derived.Test.YtdnpeefnobjfaaaGreatDoorMathM
import Derived.Test.YtdnpeefnobjfaaaGreatDoorPfxM
import Derived.Lib.BitFns
import Derived.Test.YtdnpeefnobjfaaaGreatDoorBookM
namespace Go.Proofs.YtdnpeefnobjfaaaGreatDoor

/-- A byte of a text (0 behind its end). -/
def bt (b : List UInt8) (i : Nat) : Int := (b.getD i 0).toNat
def sh (b : List UInt8) (i : Nat) : Int := bt b i * 256 + bt b (i + 1)
def wd (b : List UInt8) (i : Nat) : Int := sh b i * 65536 + sh b (i + 2)
theorem bt_range (b : List UInt8) (i : Nat) : 0 ≤ bt b i ∧ bt b i < 256 := by
  unfold bt
  have := (b.getD i 0).toNat_lt
  omega
theorem sh_range (b : List UInt8) (i : Nat) : 0 ≤ sh b i ∧ sh b i < 65536 := by
  unfold sh
  have h1 := bt_range b i
  have h2 := bt_range b (i + 1)
  omega
theorem wd_range (b : List UInt8) (i : Nat) : 0 ≤ wd b i ∧ wd b i < 4294967296 := by
  unfold wd
  have h1 := sh_range b i
  have h2 := sh_range b (i + 2)
  omega
/-- The number of n bytes at a place. -/
def numAt (b : List UInt8) (i : Nat) : Nat → Int
  | 0 => 0
  | n + 1 => 256 * numAt b i n + bt b (i + n)
theorem numAt_range (b : List UInt8) (i n : Nat) (hn : n ≤ 4) : 0 ≤ numAt b i n ∧ numAt b i n < 4294967296 ∧ (n ≤ 3 → numAt b i n < 16777216) := by
  have h0 := bt_range b i
  have h1 := bt_range b (i + 1)
  have h2 := bt_range b (i + 2)
  have h3 := bt_range b (i + 3)
  match n, hn with
  | 0, _ => simp [numAt]
  | 1, _ => simp [numAt]; omega
  | 2, _ => simp [numAt]; omega
  | 3, _ => simp [numAt]; omega
  | 4, _ => simp [numAt]; omega
theorem numAt_two (b : List UInt8) (i : Nat) : numAt b i 2 = sh b i := by simp [numAt, sh]; omega
theorem numAt_four (b : List UInt8) (i : Nat) : numAt b i 4 = wd b i := by simp [numAt, wd, sh, Nat.add_assoc]; omega
/-- The length of a mask; -1: it is none. -/
def maskLenFrom (m : Int) : Nat → Nat → Int
  | 0, _ => -1
  | f + 1, n => if m = 4294967296 - 2 ^ (32 - n) then n else maskLenFrom m f (n + 1)
def maskLen (m : Int) : Int := maskLenFrom m 33 0
theorem pow_inj32 {a b : Nat} (h : (2 : Int) ^ a = 2 ^ b) : a = b := by
  have e1 : ((2 : Int) ^ a) = ((2 ^ a : Nat) : Int) := by simp
  have e2 : ((2 : Int) ^ b) = ((2 ^ b : Nat) : Int) := by simp
  rw [e1, e2] at h
  have h' : 2 ^ a = 2 ^ b := by exact_mod_cast h
  rcases Nat.lt_trichotomy a b with hl | hl | hl
  · have := Nat.pow_lt_pow_right (show 1 < 2 by decide) hl; omega
  · exact hl
  · have := Nat.pow_lt_pow_right (show 1 < 2 by decide) hl; omega
theorem maskLenFrom_ne {m : Int} (f n : Nat) (h : ∀ k, n ≤ k → k < n + f → m ≠ 4294967296 - 2 ^ (32 - k)) : maskLenFrom m f n = -1 := by
  induction f generalizing n with
  | zero => rfl
  | succ f ih =>
    unfold maskLenFrom
    rw [if_neg (h n (Nat.le_refl _) (by omega)), ih (n + 1) (fun k h1 h2 => h k (by omega) (by omega))]
theorem maskLenFrom_at {m : Int} (f n k : Nat) (hk : n ≤ k) (hf : k < n + f) (hm : m = 4294967296 - 2 ^ (32 - k)) (hk32 : k ≤ 32) : maskLenFrom m f n = k := by
  induction f generalizing n with
  | zero => omega
  | succ f ih =>
    unfold maskLenFrom
    by_cases hn : n = k
    · subst hn; rw [if_pos hm]
    · rw [if_neg (fun e => ?_), ih (n + 1) (by omega) (by omega)]
      have : (2 : Int) ^ (32 - n) = 2 ^ (32 - k) := by omega
      have := pow_inj32 this
      omega
theorem maskLen_at (k : Nat) (hk : k ≤ 32) : maskLen (4294967296 - 2 ^ (32 - k)) = k := maskLenFrom_at 33 0 k (by omega) (by omega) rfl hk
theorem maskLen_none {m : Int} (h : ∀ k : Nat, k ≤ 32 → m ≠ 4294967296 - 2 ^ (32 - k)) : maskLen m = -1 := maskLenFrom_ne 33 0 (fun k _ hk => h k (by omega))
theorem maskLen_cases (m : Int) : (∃ k : Nat, k ≤ 32 ∧ m = 4294967296 - 2 ^ (32 - k)) ∨ ∀ k : Nat, k ≤ 32 → m ≠ 4294967296 - 2 ^ (32 - k) := by
  by_cases h : ∃ k : Nat, k ≤ 32 ∧ m = 4294967296 - 2 ^ (32 - k)
  · exact .inl h
  · exact .inr fun k hk e => h ⟨k, hk, e⟩

/-- The entry at a place, and its fault (0: none). -/
def entAt (b : List UInt8) (i : Nat) : Ent := ⟨wd b (i + 4), maskLen (wd b (i + 8)), sh b (i + 2), wd b (i + 16)⟩
def errAt (b : List UInt8) (i : Nat) : Int :=
  if sh b i ≠ 2 then 5 else if pfxB (wd b (i + 4)) (maskLen (wd b (i + 8))) = false then 6 else if wd b (i + 12) ≠ 0 then 7 else if metB (wd b (i + 16)) = false then 8 else 0
/-- The first fault from entry k on, of n entries. -/
def scanErr (b : List UInt8) : Nat → Nat → Option (Int × Int)
  | 0, _ => none
  | n + 1, k => if errAt b (4 + k * 20) = 0 then scanErr b n (k + 1) else some (errAt b (4 + k * 20), k)
theorem scanErr_none {b : List UInt8} {n k : Nat} (h : ∀ j, k ≤ j → j < k + n → errAt b (4 + j * 20) = 0) : scanErr b n k = none := by
  induction n generalizing k with
  | zero => rfl
  | succ n ih =>
    unfold scanErr
    rw [if_pos (h k (Nat.le_refl _) (by omega)), ih (fun j h1 h2 => h j (by omega) (by omega))]
theorem scanErr_at {b : List UInt8} {n k m : Nat} (hm : k ≤ m) (hn : m < k + n) (h : ∀ j, k ≤ j → j < m → errAt b (4 + j * 20) = 0) (hne : errAt b (4 + m * 20) ≠ 0) : scanErr b n k = some (errAt b (4 + m * 20), (m : Int)) := by
  induction n generalizing k with
  | zero => omega
  | succ n ih =>
    unfold scanErr
    by_cases hk : k = m
    · subst hk; rw [if_neg hne]
    · rw [if_pos (h k (Nat.le_refl _) (by omega)), ih (by omega) (by omega) (fun j h1 h2 => h j (by omega) h2)]
def sizeB (n : Nat) : Bool := decide (24 ≤ n) && decide (n ≤ 504) && decide (n % 20 = 4)
def ents (b : List UInt8) : List Ent := (List.range ((b.length - 4) / 20)).map fun k => entAt b (4 + k * 20)
/-- What Decode finds wrong. -/
def decErr (b : List UInt8) : Option (Int × Int) :=
  if sizeB b.length = false then some (3, -1) else if b = askAll then none else if b.take 4 ≠ [2, 2, 0, 0] then some (4, -1) else scanErr b ((b.length - 4) / 20) 0
def decCmd (b : List UInt8) : Int := if (decErr b).isSome then 0 else if b = askAll then 1 else 2
def decEnts (b : List UInt8) : List Ent := if (decErr b).isSome then [] else if b = askAll then [] else ents b

end Go.Proofs.YtdnpeefnobjfaaaGreatDoor

/- What the small functions that read bytes answer. -/
namespace Go.Proofs.YtdnpeefnobjfaaaGreatDoor
open Go.RowKit

theorem bt_at (s : ByteArray) (i : Nat) (h : i < s.size) : ((s[i]).toNat : Int) = bt s.data.toList i := by
  have h' : i < s.data.size := h
  have e : s[i] = s.data[i] := rfl
  rw [e]
  simp only [bt, List.getD_eq_getElem?_getD, Array.getElem?_toList]
  rw [Array.getElem?_eq_getElem h']
  rfl

set_option maxHeartbeats 400000 in
theorem isSize_any (n : Nat) (w : World) (hn : n ≤ 9223372036854775807) :
    Calls Tryz.prog 86 #[.int .i64 n] w fun e w' => e = .returned (.bool (sizeB n)) ∧ w' = w := by
  by_cases h1 : 24 ≤ n
  · by_cases h2 : n ≤ 504
    · go_enter Tryz.func86, Tryz.ntmps86
      go_wp2
      go_ret
      exact ⟨ret_bool (by simp only [sizeB, h1, h2, decide_true, Bool.true_and]; rw [Bool.eq_iff_iff]; simp; omega), rfl⟩
    · go_enter Tryz.func86, Tryz.ntmps86
      go_wp2
      go_ret
      exact ⟨ret_bool (by simp [sizeB, h2]), rfl⟩
  · go_enter Tryz.func86, Tryz.ntmps86
    go_wp2
    go_ret
    exact ⟨ret_bool (by simp [sizeB, h1]), rfl⟩

theorem or_sum (i : Nat) (a b : Int) (h0 : 0 ≤ a) (ha : a % 2 ^ i = 0) (h1 : 0 ≤ b) (hb : b < 2 ^ i) : ((a.toNat ||| b.toNat : Nat) : Int) = a + b := by
  obtain ⟨x, rfl⟩ := Int.eq_ofNat_of_zero_le h0
  obtain ⟨y, rfl⟩ := Int.eq_ofNat_of_zero_le h1
  rw [Int.toNat_natCast, Int.toNat_natCast, nat_join i x y (by exact_mod_cast ha) (by exact_mod_cast hb)]
  simp

set_option maxHeartbeats 400000 in
theorem short_any (s : ByteArray) (i : Nat) (w : World) (h : i + 1 < s.size) (hs : s.size ≤ 9223372036854775807) :
    Calls Tryz.prog 177 #[.string s, .int .i64 i] w fun e w' => e = .returned (.int .u16 (sh s.data.toList i)) ∧ ∃ nq, w' = w.drewN nq := by
  have e0 := bt_at s i (by omega)
  have e1 := bt_at s (i + 1) (by omega)
  have r0 := bt_range s.data.toList i
  have r1 := bt_range s.data.toList (i + 1)
  have i0 : (0 : Int) ≤ (i : Int) := by omega
  have i1 : (i : Int) < (s.size : Int) := by omega
  have i2 : (i : Int) + 1 < (s.size : Int) := by omega
  go_enter Tryz.func177, Tryz.ntmps177
  go_wp2_with fail
  go_quiet (fail)
  go_wp2
  go_ret
  refine ⟨ret_int ?_, _, rfl⟩
  rw [u16_or _ _ (by omega) (by omega) (by omega) (by omega), or_sum 8 _ _ (by omega) (by omega) (by omega) (by omega)]
  rfl

set_option maxHeartbeats 400000 in
theorem word_any (s : ByteArray) (i : Nat) (w : World) (h : i + 3 < s.size) (hs : s.size ≤ 9223372036854775807) :
    Calls Tryz.prog 179 #[.string s, .int .i64 i] w fun e w' => e = .returned (.int .u32 (wd s.data.toList i)) ∧ ∃ nq, w' = w.drewN nq := by
  have r0 := sh_range s.data.toList i
  have r1 := sh_range s.data.toList (i + 2)
  go_enter Tryz.func179, Tryz.ntmps179
  go_wp2_with fail
  refine (short_any s i _ (by omega) hs).mono ?_
  rintro e w1 ⟨rfl, n1, rfl⟩
  go_wp2_with fail
  rw [show ((i : Int) + 2) = ((i + 2 : Nat) : Int) by omega]
  refine (short_any s (i + 2) _ (by omega) hs).mono ?_
  rintro e w2 ⟨rfl, n2, rfl⟩
  go_wp2_with fail
  go_ret
  refine ⟨ret_int ?_, ?_⟩
  · rw [u32_or _ _ (by omega) (by omega) (by omega) (by omega), or_sum 16 _ _ (by omega) (by omega) (by omega) (by omega)]
    rfl
  · exact ⟨_, rfl⟩

set_option maxHeartbeats 400000 in
theorem number_any (s : ByteArray) (i n : Nat) (w : World) (h : i + n ≤ s.size) (hs : s.size ≤ 1000) (hn : n ≤ 4) :
    Calls Tryz.prog 166 #[.string s, .int .i64 i, .int .i64 n] w fun e w' => e = .returned (.int .i64 (numAt s.data.toList i n)) ∧ w' = w := by
  go_enter Tryz.func166, Tryz.ntmps166
  go_wp2
  go_loop [7, 8] (fun x j => ∃ k : Nat, k ≤ n ∧ j = .int .i64 (i + k : Nat) ∧ x = .int .i64 (numAt s.data.toList i k)) (fun _ j => i + n - (intOf j).toNat)
  case atStart => exact ⟨0, by omega, rfl, rfl⟩
  case round =>
    obtain ⟨k, hk, rfl, rfl⟩ := hrel
    have r := numAt_range s.data.toList i k (by omega)
    obtain ⟨r0, r1, r2⟩ := r
    by_cases hlt : k < n
    · have e0 := bt_at s (i + k) (by omega)
      have b0 := bt_range s.data.toList (i + k)
      have r3 := r2 (by omega)
      have HN : Hid (numAt s.data.toList i (k + 1) = 256 * numAt s.data.toList i k + bt s.data.toList (i + k)) := rfl
      have hj : ((i + k : Nat) : Int) < (i : Int) + (n : Int) := by omega
      go_wp2
      go_round
      case rel => exact ⟨k + 1, by omega, by rw [show ((i : Int) + k + 1) = ((i + (k + 1) : Nat) : Int) by omega], by rw [HN.out]⟩
      case measure => simp [intOf]; omega
    · go_wp2
      go_ret
      exact ⟨by rw [show k = n by omega]; rfl, rfl⟩

set_option maxHeartbeats 400000 in
theorem length_any (m : Int) (w : World) (_h0 : 0 ≤ m) (_h1 : m < 4294967296) :
    Calls Tryz.prog 214 #[.int .i64 m] w fun e w' => e = .returned (.int .i64 (maskLen m)) ∧ w' = w := by
  go_enter Tryz.func214, Tryz.ntmps214
  go_wp2
  go_loop [3] (fun j => ∃ k : Nat, k ≤ 33 ∧ j = .int .i64 k ∧ ∀ q : Nat, q < k → m ≠ 4294967296 - 2 ^ (32 - q)) (fun j => 33 - (intOf j).toNat)
  case atStart => exact ⟨0, by omega, rfl, fun q hq => by omega⟩
  case round =>
    obtain ⟨k, hk, rfl, hq⟩ := hrel
    have HQ := hide hq
    clear hq
    by_cases hlt : k ≤ 32
    · have hp0 := pow_pos' (32 - k)
      have hp1 := pow_le32 (32 - k) (by omega)
      have hblk : ∀ W, Calls Tryz.prog 159 #[.int .i64 k] W fun e w' => e = .returned (.int .i64 (2 ^ (32 - k))) ∧ w' = W := fun W => by
        have := block_any (k : Int) W (by omega) (by omega)
        rwa [show ((32 : Int) - k).toNat = 32 - k by omega] at this
      generalize hK : (2 : Int) ^ (32 - k) = K at *
      have HK := hide hK
      have HB := hide hblk
      clear hK hblk
      by_cases he : m = 4294967296 - K
      · have hb : (m == 4294967296 - K) = true := by simp [he]
        have HE := hide he
        clear he
        go_wp2_with (go_at_call 159; refine (unhide HB _).mono ?_; rintro e w' ⟨rfl, rfl⟩)
        go_ret
        exact ⟨ret_int (by rw [unhide HE, ← unhide HK, maskLen_at k hlt]), rfl⟩
      · have hb : (m == 4294967296 - K) = false := by simp [he]
        have HE := hide he
        clear he
        go_wp2_with (go_at_call 159; refine (unhide HB _).mono ?_; rintro e w' ⟨rfl, rfl⟩)
        go_round
        case rel =>
          refine ⟨k + 1, by omega, by go_num, fun q hq => ?_⟩
          by_cases hqk : q = k
          · subst hqk; rw [unhide HK]; exact unhide HE
          · exact unhide HQ q (by omega)
        case measure => simp [intOf]; omega
    · go_wp2
      go_ret
      exact ⟨ret_int (by rw [maskLen_none (fun q hq => unhide HQ q (by omega))]), rfl⟩

set_option maxHeartbeats 1000000 in
set_option maxRecDepth 100000 in
theorem len32_a (x : Int) (w : World) (h0 : 0 ≤ x) (h1 : x ≤ 255) :
    Calls Tryz.prog 223 #[.int .u32 x] w fun e w' => e = .returned (.int .i64 (Lib.bitLen x.toNat)) ∧ w' = w := by
  have l := Lib.bitLen_le8' x h0 h1
  have el := Lib.len8_of x h0 h1
  go_enter Tryz.func223, Tryz.ntmps223
  go_wp2
  go_ret
  exact ⟨rfl, rfl⟩
set_option maxHeartbeats 1000000 in
set_option maxRecDepth 100000 in
theorem len32_b (x : Int) (w : World) (h0 : 256 ≤ x) (h1 : x < 65536) :
    Calls Tryz.prog 223 #[.int .u32 x] w fun e w' => e = .returned (.int .i64 (Lib.bitLen x.toNat)) ∧ w' = w := by
  have i0 : 0 ≤ x / 256 := by omega
  have i1 : x / 256 ≤ 255 := by omega
  have l := Lib.bitLen_le8' (x / 256) i0 i1
  have el := Lib.len8_of (x / 256) i0 i1
  go_enter Tryz.func223, Tryz.ntmps223
  go_wp2
  go_ret
  exact ⟨ret_int (by have e : (x / 256).toNat = x.toNat / 256 := by omega
                     have s := Lib.bitLen_shift8 x.toNat (by omega) (by omega)
                     rw [e]; omega), rfl⟩
set_option maxHeartbeats 1000000 in
set_option maxRecDepth 100000 in
theorem len32_c (x : Int) (w : World) (h0 : 65536 ≤ x) (h1 : x < 16777216) :
    Calls Tryz.prog 223 #[.int .u32 x] w fun e w' => e = .returned (.int .i64 (Lib.bitLen x.toNat)) ∧ w' = w := by
  have i0 : 0 ≤ x / 65536 := by omega
  have i1 : x / 65536 ≤ 255 := by omega
  have l := Lib.bitLen_le8' (x / 65536) i0 i1
  have el := Lib.len8_of (x / 65536) i0 i1
  go_enter Tryz.func223, Tryz.ntmps223
  go_wp2
  go_ret
  exact ⟨ret_int (by have e : (x / 65536).toNat = x.toNat / 65536 := by omega
                     have s := Lib.bitLen_shift16 x.toNat (by omega) (by omega)
                     rw [e]; omega), rfl⟩
set_option maxHeartbeats 1000000 in
set_option maxRecDepth 100000 in
theorem len32_d (x : Int) (w : World) (h0 : 16777216 ≤ x) (h1 : x ≤ 4294967295) :
    Calls Tryz.prog 223 #[.int .u32 x] w fun e w' => e = .returned (.int .i64 (Lib.bitLen x.toNat)) ∧ w' = w := by
  have i0 : 0 ≤ x / 65536 / 256 := by omega
  have i1 : x / 65536 / 256 ≤ 255 := by omega
  have l := Lib.bitLen_le8' (x / 65536 / 256) i0 i1
  have el := Lib.len8_of (x / 65536 / 256) i0 i1
  go_enter Tryz.func223, Tryz.ntmps223
  go_wp2
  go_ret
  exact ⟨ret_int (by have e : (x / 65536 / 256).toNat = x.toNat / 16777216 := by omega
                     have s := Lib.bitLen_shift24 x.toNat (by omega) (by omega)
                     rw [e]; omega), rfl⟩

theorem len32_any (x : Int) (w : World) (h0 : 0 ≤ x) (h1 : x ≤ 4294967295) :
    Calls Tryz.prog 223 #[.int .u32 x] w fun e w' => e = .returned (.int .i64 (Lib.bitLen x.toNat)) ∧ w' = w := by
  by_cases ha : x ≤ 255
  · exact len32_a x w h0 ha
  · by_cases hb : x < 65536
    · exact len32_b x w (by omega) hb
    · by_cases hc : x < 16777216
      · exact len32_c x w (by omega) hc
      · exact len32_d x w (by omega) h1

/-- How many bits at a number's head are 0. -/
def lz (x : Int) : Int := 32 - (Lib.bitLen x.toNat : Int)
theorem lz_range (x : Int) (h1 : x ≤ 4294967295) : 0 ≤ lz x ∧ lz x ≤ 32 := by
  have := Lib.bitLen_le x.toNat 32 (by omega) (by omega)
  unfold lz; omega
theorem bitLen_ones : ∀ j : Fin 33, Lib.bitLen (2 ^ j.val - 1) = j.val := by decide +kernel
theorem lz_ones (k : Nat) (hk : k ≤ 32) : lz (2 ^ (32 - k) - 1) = k := by
  have h := bitLen_ones ⟨32 - k, by omega⟩
  have e : ((2 : Int) ^ (32 - k) - 1).toNat = 2 ^ (32 - k) - 1 := by
    have e2 : ((2 : Int) ^ (32 - k)) = ((2 ^ (32 - k) : Nat) : Int) := by simp
    rw [e2]; omega
  unfold lz
  rw [e, h]
  simp only
  omega

set_option maxHeartbeats 400000 in
theorem lz_any (x : Int) (w : World) (h0 : 0 ≤ x) (h1 : x ≤ 4294967295) :
    Calls Tryz.prog 225 #[.int .u32 x] w fun e w' => e = .returned (.int .i64 (lz x)) ∧ w' = w := by
  have l := Lib.bitLen_le x.toNat 32 (by omega) (by omega)
  go_enter Tryz.func225, Tryz.ntmps225
  go_wp2_with (go_at_call 223; refine (len32_any _ _ h0 h1).mono ?_; rintro e w' ⟨rfl, rfl⟩)
  go_ret
  exact ⟨rfl, rfl⟩

theorem nat_not32 (x : Nat) (h : x < 2 ^ 32) : (2 ^ 32 - 1) ^^^ x = 2 ^ 32 - (x + 1) := by
  apply Nat.eq_of_testBit_eq
  intro i
  rw [Nat.testBit_xor, Nat.testBit_two_pow_sub_one, Nat.testBit_two_pow_sub_succ h]
  by_cases hi : i < 32
  · simp [hi]
  · have : x.testBit i = false := Nat.testBit_lt_two_pow (Nat.lt_of_lt_of_le h (Nat.pow_le_pow_right (by decide) (by omega)))
    simp [hi, this]
theorem not32 (m : Int) (h0 : 0 ≤ m) (h1 : m < 4294967296) : bits .xor .u32 IntKind.u32.max m = 4294967295 - m := by
  rw [show IntKind.u32.max = 4294967295 from rfl, u32_xor _ _ (by decide) (by decide) h0 h1]
  have := nat_not32 m.toNat (by omega)
  rw [show (4294967295 : Int).toNat = 2 ^ 32 - 1 from rfl, this]
  omega

set_option maxHeartbeats 400000 in
theorem Of_mask (a : Int) (k : Nat) (w : World) (b : Bool) (hb : pfxB a k = b) (h0 : 0 ≤ a) (h1 : a < 4294967296) (hk : k ≤ 32) :
    Calls Tryz.prog 178 #[.int .u32 a, .int .u32 (4294967296 - 2 ^ (32 - k))] w fun e w' => e = .returned (.tuple #[if b then .agg #[.int .u32 a, .int .i64 k] else .agg #[.int .u32 0, .int .i64 0], .bool b]) ∧ Below w.heap.size w w' := by
  have hp0 := pow_pos' (32 - k)
  have hp1 := pow_le32 (32 - k) (by omega)
  have hlz := lz_ones k hk
  have hmk : ∀ W, Calls Tryz.prog 127 #[.agg #[.int .u32 a, .int .i64 k]] W fun e w' => e = .returned (.int .u32 (4294967296 - 2 ^ (32 - k))) ∧ w' = W.alloc (.cells #[.int .u32 a, .int .i64 k] 32) := fun W => by
    have := mask_any a k W (by omega) (by omega)
    rwa [show ((32 : Int) - k).toNat = 32 - k by omega] at this
  generalize hK : (2 : Int) ^ (32 - k) = K at *
  have hnot := not32 (4294967296 - K) (by omega) (by omega)
  rw [show (4294967295 : Int) - (4294967296 - K) = K - 1 by omega] at hnot
  have HLZ : ∀ W, Calls Tryz.prog 225 #[.int .u32 (K - 1)] W fun e w' => e = .returned (.int .i64 k) ∧ w' = W := fun W => by
    have := lz_any (K - 1) W (by omega) (by omega)
    rwa [hlz] at this
  have HLZ := hide HLZ
  have HMK := hide hmk
  have hsg : IntKind.u32.signed = false := rfl
  have hne : ((4294967296 - K : Int) != 4294967296 - K) = false := by simp
  have HB := hide hb
  have HIS : ∀ W, Calls Tryz.prog 77 #[.agg #[.int .u32 a, .int .i64 k]] W fun e w' => e = .returned (.bool b) ∧ Below W.heap.size W w' := fun W => by
    have := Is_any a k W h0 h1
    rwa [hb] at this
  have HIS := hide HIS
  clear hK hlz hmk hb
  go_enter Tryz.func178, Tryz.ntmps178
  go_wp2_with fail
  refine (unhide HLZ _).mono ?_
  rintro e w1 ⟨rfl, rfl⟩
  go_wp2_with fail
  refine (unhide HMK _).mono ?_
  rintro e w2 ⟨rfl, rfl⟩
  go_wp2_with fail
  refine (unhide HIS _).mono ?_
  rintro e w3 ⟨rfl, hb3⟩
  obtain ⟨hc3, hf3⟩ := bcell hb3
  have hs3 : w.heap.size + 2 < w3.heap.size := by have := hb3.size; simp at this; omega
  have hbw : Below w.heap.size w w3 := below_box (below_box (below_box hb3))
  have r0 : w3.cell? ⟨w.heap.size, 0, none⟩ = some (.int .u32 0) := (hc3 w.heap.size 0 (by simp; omega)).trans (((below_new _ _).cell (p := ⟨w.heap.size, 0, none⟩) (by simp; omega)).trans (by simp))
  have r1 : w3.cell? ⟨w.heap.size, 1, none⟩ = some (.int .i64 0) := (hc3 w.heap.size 1 (by simp; omega)).trans (((below_new _ _).cell (p := ⟨w.heap.size, 1, none⟩) (by simp; omega)).trans (by simp))
  cases b
  · go_wp2
    exact bodyPost_ret (v := .tuple #[.agg #[.int .u32 0, .int .i64 0], .bool false]) (by simp [results, Tryz.results178, go_sem, r0, r1]) rfl ⟨rfl, (hbw.setCell (by simp) _).setCell (by simp) _⟩
  · go_wp2
    exact bodyPost_ret (v := .tuple #[.agg #[.int .u32 a, .int .i64 k], .bool true]) (by simp [results, Tryz.results178, go_sem, r0, r1]) rfl ⟨rfl, (hbw.setCell (by simp) _).setCell (by simp) _⟩

set_option maxHeartbeats 400000 in
theorem Of_none (a m : Int) (w : World) (hm0 : 0 ≤ m) (hm1 : m < 4294967296) (hn : ∀ k : Nat, k ≤ 32 → m ≠ 4294967296 - 2 ^ (32 - k)) :
    Calls Tryz.prog 178 #[.int .u32 a, .int .u32 m] w fun e w' => e = .returned (.tuple #[.agg #[.int .u32 0, .int .i64 0], .bool false]) ∧ Below w.heap.size w w' := by
  have hnot := not32 m hm0 hm1
  obtain ⟨l0, l1⟩ := lz_range (4294967295 - m) (by omega)
  have HLZ := hide (fun W => lz_any (4294967295 - m) W (by omega) (by omega))
  generalize lz (4294967295 - m) = l at *
  have hne : ((4294967296 - 2 ^ (32 - l).toNat : Int) != m) = true := by
    rw [bne_iff_ne]
    intro e
    exact hn l.toNat (by omega) (by rw [← e, show (32 - l).toNat = 32 - l.toNat by omega])
  have hsg : IntKind.u32.signed = false := rfl
  clear hn
  go_enter Tryz.func178, Tryz.ntmps178
  go_wp2_with fail
  refine (unhide HLZ _).mono ?_
  rintro e w1 ⟨rfl, rfl⟩
  go_wp2_with fail
  refine (mask_any a l _ l0 l1).mono ?_
  rintro e w2 ⟨rfl, rfl⟩
  go_wp2
  exact bodyPost_ret (v := .tuple #[.agg #[.int .u32 0, .int .i64 0], .bool false]) (by simp [results, Tryz.results178, go_sem]) rfl ⟨rfl, ((below_new _ _).trans ((below_new _ _).mono (by simp))).trans ((below_new _ _).mono (by simp; omega))⟩

/-- prefix.Of: yes, and the prefix, where address and mask are one's. -/
theorem Of_any (a m : Int) (b : Bool) (w : World) (ha0 : 0 ≤ a) (ha1 : a < 4294967296) (hm0 : 0 ≤ m) (hm1 : m < 4294967296) (hb : pfxB a (maskLen m) = b) :
    Calls Tryz.prog 178 #[.int .u32 a, .int .u32 m] w fun e w' => e = .returned (.tuple #[if b then .agg #[.int .u32 a, .int .i64 (maskLen m)] else .agg #[.int .u32 0, .int .i64 0], .bool b]) ∧ Below w.heap.size w w' := by
  rcases maskLen_cases m with ⟨k, hk, rfl⟩ | hn
  · rw [maskLen_at k hk] at hb ⊢
    exact Of_mask a k w b hb ha0 ha1 hk
  · rw [maskLen_none hn] at hb ⊢
    obtain rfl : b = false := by rw [← hb]; exact pfx_lo (by decide)
    exact Of_none a m w hm0 hm1 hn

end Go.Proofs.YtdnpeefnobjfaaaGreatDoor

/- What packet.readEntry and readEntries answer. -/
namespace Go.Proofs.YtdnpeefnobjfaaaGreatDoor
open Go.RowKit
attribute [local go_sem ↓] Go.wp_at_zero Go.wp_at_succ

abbrev zeroE : Value := .agg #[.int .u32 0, .int .i64 0, .int .i64 0, .int .i64 0]
abbrev zeroO : Obj := .cells #[.int .u32 0, .int .i64 0, .int .i64 0, .int .i64 0] 42

/-- The result's box is there, and may be written. -/
theorem resE {w w1 : World} (hb : Below (w.alloc zeroO).heap.size (w.alloc zeroO) w1) :
    w1.cell? ⟨w.heap.size, 0, none⟩ = some (.int .u32 0) ∧ w1.cell? ⟨w.heap.size, 1, none⟩ = some (.int .i64 0) ∧ w1.cell? ⟨w.heap.size, 2, none⟩ = some (.int .i64 0) ∧ w1.cell? ⟨w.heap.size, 3, none⟩ = some (.int .i64 0) ∧
    w1.frozen? ⟨w.heap.size, 0, none⟩ = false ∧ w1.frozen? ⟨w.heap.size, 1, none⟩ = false ∧ w1.frozen? ⟨w.heap.size, 2, none⟩ = false ∧ w1.frozen? ⟨w.heap.size, 3, none⟩ = false ∧ w.heap.size < w1.heap.size ∧ Below w.heap.size w w1 :=
  ⟨(hb.cell (p := ⟨w.heap.size, 0, none⟩) (by simp)).trans (by simp), (hb.cell (p := ⟨w.heap.size, 1, none⟩) (by simp)).trans (by simp), (hb.cell (p := ⟨w.heap.size, 2, none⟩) (by simp)).trans (by simp), (hb.cell (p := ⟨w.heap.size, 3, none⟩) (by simp)).trans (by simp),
    (hb.frozen (p := ⟨w.heap.size, 0, none⟩) (by simp)).trans (by simp), (hb.frozen (p := ⟨w.heap.size, 1, none⟩) (by simp)).trans (by simp), (hb.frozen (p := ⟨w.heap.size, 2, none⟩) (by simp)).trans (by simp), (hb.frozen (p := ⟨w.heap.size, 3, none⟩) (by simp)).trans (by simp),
    by have := hb.size; simp at this; omega, below_box hb⟩
theorem errIs_faultS {X : World} {h : Nat} (hX : X.heap.size = h) (e n : Int) : errIs (X.alloc (.cells #[.int .i64 e, .int .i64 n] 203)) (.iface 180 (.pointer (some ⟨h, 0, none⟩))) (some (e, n)) := by
  rw [← hX]; exact errIs_fault X e n
theorem short_b (s : ByteArray) (i : Nat) (w : World) (h : i + 1 < s.size) (hs : s.size ≤ 9223372036854775807) :
    Calls Tryz.prog 177 #[.string s, .int .i64 i] w fun e w' => e = .returned (.int .u16 (sh s.data.toList i)) ∧ Below w.heap.size w w' := by
  refine (short_any s i w h hs).mono ?_
  rintro e w' ⟨rfl, n, rfl⟩
  exact ⟨rfl, below_drewN (Below.refl _ _) n⟩
theorem word_b (s : ByteArray) (i : Nat) (w : World) (h : i + 3 < s.size) (hs : s.size ≤ 9223372036854775807) :
    Calls Tryz.prog 179 #[.string s, .int .i64 i] w fun e w' => e = .returned (.int .u32 (wd s.data.toList i)) ∧ Below w.heap.size w w' := by
  refine (word_any s i w h hs).mono ?_
  rintro e w' ⟨rfl, n, rfl⟩
  exact ⟨rfl, below_drewN (Below.refl _ _) n⟩
theorem size_set4 (w : World) (a b c d : Addr) (x y z u : Value) : ((((w.setCell a x).setCell b y).setCell c z).setCell d u).heap.size = w.heap.size := by simp [World.setCell]

theorem below_drew1 (w : World) : Below w.heap.size w w.drew := (Below.refl _ _).drew
/-- A prefix in a box of its own. -/
theorem pbox {w w1 : World} {a l : Int} (hb : Below (w.alloc (.cells #[.int .u32 a, .int .i64 l] 32)).heap.size (w.alloc (.cells #[.int .u32 a, .int .i64 l] 32)) w1) :
    w1.cell? ⟨w.heap.size, 0, none⟩ = some (.int .u32 a) ∧ w1.cell? ⟨w.heap.size, 1, none⟩ = some (.int .i64 l) ∧ w.heap.size < w1.heap.size :=
  ⟨(hb.cell (p := ⟨w.heap.size, 0, none⟩) (by simp)).trans (by simp), (hb.cell (p := ⟨w.heap.size, 1, none⟩) (by simp)).trans (by simp), by have := hb.size; simp at this; omega⟩
theorem pbox_below {w w1 : World} {P : Nat} {a l : Int} (h : w.cell? ⟨P, 0, none⟩ = some (.int .u32 a) ∧ w.cell? ⟨P, 1, none⟩ = some (.int .i64 l) ∧ P < w.heap.size) (hb : Below w.heap.size w w1) :
    w1.cell? ⟨P, 0, none⟩ = some (.int .u32 a) ∧ w1.cell? ⟨P, 1, none⟩ = some (.int .i64 l) ∧ P < w1.heap.size :=
  ⟨(hb.cell (p := ⟨P, 0, none⟩) h.2.2).trans h.1, (hb.cell (p := ⟨P, 1, none⟩) h.2.2).trans h.2.1, Nat.lt_of_lt_of_le h.2.2 hb.size⟩

set_option maxHeartbeats 1000000 in
theorem readEntry_fam (s : ByteArray) (n : Int) (w : World) (hs : s.size = 20) (h : sh s.data.toList 0 ≠ 2) :
    Calls Tryz.prog 138 #[.string s, .int .i64 n] w fun e w' => ∃ v, e = .returned (.tuple #[zeroE, v]) ∧ errIs w' v (some (5, n)) ∧ Below w.heap.size w w' := by
  have HS := hide (fun W => short_b s 0 W (by omega) (by omega))
  have hne : (sh s.data.toList 0 != 2) = true := by simp [h]
  generalize sh s.data.toList 0 = F at *
  clear h hs
  go_enter Tryz.func138, Tryz.ntmps138
  go_wp2_with fail
  refine (unhide HS _).mono ?_
  rintro e w1 ⟨rfl, hb1⟩
  obtain ⟨r0, r1, r2, r3, f0, f1, f2, f3, hz, hb⟩ := resE hb1
  clear hb1
  go_wp2_with fail
  refine (fault_any _ _ _).mono ?_
  rintro e w2 ⟨rfl, rfl⟩
  go_wp2
  refine bodyPost_ret (v := .tuple #[zeroE, .iface 180 (.pointer (some ⟨w1.heap.size, 0, none⟩))]) (by simp [results, Tryz.results138, go_sem, r0, r1, r2, r3, hz]) rfl ⟨_, rfl, errIs_faultS (size_set4 _ _ _ _ _ _ _ _ _) _ _, ?_⟩
  exact ((((hb.setCell (by simp) _).setCell (by simp) _).setCell (by simp) _).setCell (by simp) _).alloc (by rw [size_set4]; omega) _

set_option maxHeartbeats 1000000 in
theorem readEntry_pfx (s : ByteArray) (n : Int) (w : World) (hs : s.size = 20) (hf : sh s.data.toList 0 = 2) (hp : pfxB (wd s.data.toList 4) (maskLen (wd s.data.toList 8)) = false) :
    Calls Tryz.prog 138 #[.string s, .int .i64 n] w fun e w' => ∃ v, e = .returned (.tuple #[zeroE, v]) ∧ errIs w' v (some (6, n)) ∧ Below w.heap.size w w' := by
  have r0' := sh_range s.data.toList 2
  have r4 := wd_range s.data.toList 4
  have r8 := wd_range s.data.toList 8
  have r16 := wd_range s.data.toList 16
  have HS0 := hide (fun W => short_b s 0 W (by omega) (by omega))
  have HS2 := hide (fun W => short_b s 2 W (by omega) (by omega))
  have HW4 := hide (fun W => word_b s 4 W (by omega) (by omega))
  have HW8 := hide (fun W => word_b s 8 W (by omega) (by omega))
  have HW12 := hide (fun W => word_b s 12 W (by omega) (by omega))
  have HW16 := hide (fun W => word_b s 16 W (by omega) (by omega))
  rw [hf] at HS0
  clear hf
  generalize sh s.data.toList 2 = T at *
  generalize wd s.data.toList 4 = A at *
  generalize wd s.data.toList 8 = M at *
  generalize wd s.data.toList 12 = Hp at *
  generalize wd s.data.toList 16 = Mt at *
  have HOF := hide (fun W => Of_any A M false W r4.1 r4.2 r8.1 r8.2 hp)
  simp only [if_false, Bool.false_eq_true] at HOF
  clear hs hp
  go_enter Tryz.func138, Tryz.ntmps138
  go_wp2_with fail
  refine (unhide HS0 _).mono ?_
  rintro e w1 ⟨rfl, hb1⟩
  have k1 := hide hb1
  clear hb1
  go_wp2_with fail
  refine (unhide HW4 _).mono ?_
  rintro e w2 ⟨rfl, hb2⟩
  have k2 := hide (below_seq (unhide k1) hb2)
  clear hb2 k1
  go_wp2_with fail
  refine (unhide HW8 _).mono ?_
  rintro e w3 ⟨rfl, hb3⟩
  have k3 := hide (below_seq (unhide k2) hb3)
  clear hb3 k2
  go_wp2_with fail
  refine (unhide HOF _).mono ?_
  rintro e w4 ⟨rfl, hb4⟩
  have k4 := hide (below_seq (unhide k3) hb4)
  clear hb4 k3
  go_wp2_with fail
  refine (fault_any _ _ _).mono ?_
  rintro e wf ⟨rfl, rfl⟩
  obtain ⟨r0, r1, r2, r3, f0, f1, f2, f3, hz, hb⟩ := resE (unhide k4)
  go_wp2
  refine bodyPost_ret (v := .tuple #[zeroE, .iface 180 (.pointer (some ⟨w4.heap.size + 1, 0, none⟩))]) (by simp [results, Tryz.results138, go_sem, r0, r1, r2, r3, hz]) rfl ⟨_, rfl, errIs_faultS (by simp) _ _, ?_⟩
  exact (((((hb.setCell (by simp) _).setCell (by simp) _).setCell (by simp) _).setCell (by simp) _).alloc (by rw [size_set4]; omega) _).alloc (by simp; omega) _

set_option maxHeartbeats 1000000 in
theorem readEntry_hop (s : ByteArray) (n : Int) (w : World) (hs : s.size = 20) (hf : sh s.data.toList 0 = 2) (hp : pfxB (wd s.data.toList 4) (maskLen (wd s.data.toList 8)) = true) (hh : wd s.data.toList 12 ≠ 0) :
    Calls Tryz.prog 138 #[.string s, .int .i64 n] w fun e w' => ∃ v, e = .returned (.tuple #[zeroE, v]) ∧ errIs w' v (some (7, n)) ∧ Below w.heap.size w w' := by
  have r0' := sh_range s.data.toList 2
  have r4 := wd_range s.data.toList 4
  have r8 := wd_range s.data.toList 8
  have r16 := wd_range s.data.toList 16
  have HS0 := hide (fun W => short_b s 0 W (by omega) (by omega))
  have HS2 := hide (fun W => short_b s 2 W (by omega) (by omega))
  have HW4 := hide (fun W => word_b s 4 W (by omega) (by omega))
  have HW8 := hide (fun W => word_b s 8 W (by omega) (by omega))
  have HW12 := hide (fun W => word_b s 12 W (by omega) (by omega))
  have HW16 := hide (fun W => word_b s 16 W (by omega) (by omega))
  have hne : (wd s.data.toList 12 != 0) = true := by simp [hh]
  clear hh
  rw [hf] at HS0
  clear hf
  generalize sh s.data.toList 2 = T at *
  generalize wd s.data.toList 4 = A at *
  generalize wd s.data.toList 8 = M at *
  generalize wd s.data.toList 12 = Hp at *
  generalize wd s.data.toList 16 = Mt at *
  have HOF := hide (fun W => Of_any A M true W r4.1 r4.2 r8.1 r8.2 hp)
  simp only [if_true] at HOF
  clear hs hp
  go_enter Tryz.func138, Tryz.ntmps138
  go_wp2_with fail
  refine (unhide HS0 _).mono ?_
  rintro e w1 ⟨rfl, hb1⟩
  have k1 := hide hb1
  clear hb1
  go_wp2_with fail
  refine (unhide HW4 _).mono ?_
  rintro e w2 ⟨rfl, hb2⟩
  have k2 := hide (below_seq (unhide k1) hb2)
  clear hb2 k1
  go_wp2_with fail
  refine (unhide HW8 _).mono ?_
  rintro e w3 ⟨rfl, hb3⟩
  have k3 := hide (below_seq (unhide k2) hb3)
  clear hb3 k2
  go_wp2_with fail
  refine (unhide HOF _).mono ?_
  rintro e w4 ⟨rfl, hb4⟩
  have k4 := hide (below_seq (unhide k3) hb4)
  clear hb4 k3
  go_wp2_with fail
  refine (unhide HW12 _).mono ?_
  rintro e w5 ⟨rfl, hb5⟩
  have k5 := hide (below_seq (below_seq (unhide k4) (below_new w4 _)) hb5)
  have P5 := hide (pbox hb5)
  clear hb5 k4
  go_wp2_with fail
  refine (fault_any _ _ _).mono ?_
  rintro e wf ⟨rfl, rfl⟩
  obtain ⟨r0, r1, r2, r3, f0, f1, f2, f3, hz, hb⟩ := resE (unhide k5)
  go_wp2
  refine bodyPost_ret (v := .tuple #[zeroE, .iface 180 (.pointer (some ⟨w5.heap.size, 0, none⟩))]) (by simp [results, Tryz.results138, go_sem, r0, r1, r2, r3, hz]) rfl ⟨_, rfl, errIs_faultS (size_set4 _ _ _ _ _ _ _ _ _) _ _, ?_⟩
  exact ((((hb.setCell (by simp) _).setCell (by simp) _).setCell (by simp) _).setCell (by simp) _).alloc (by rw [size_set4]; omega) _

set_option maxHeartbeats 1000000 in
theorem readEntry_met (s : ByteArray) (n : Int) (w : World) (hs : s.size = 20) (hf : sh s.data.toList 0 = 2) (hp : pfxB (wd s.data.toList 4) (maskLen (wd s.data.toList 8)) = true) (hh : wd s.data.toList 12 = 0) (hm : metB (wd s.data.toList 16) = false) :
    Calls Tryz.prog 138 #[.string s, .int .i64 n] w fun e w' => ∃ v, e = .returned (.tuple #[zeroE, v]) ∧ errIs w' v (some (8, n)) ∧ Below w.heap.size w w' := by
  have r0' := sh_range s.data.toList 2
  have r4 := wd_range s.data.toList 4
  have r8 := wd_range s.data.toList 8
  have r16 := wd_range s.data.toList 16
  have HS0 := hide (fun W => short_b s 0 W (by omega) (by omega))
  have HS2 := hide (fun W => short_b s 2 W (by omega) (by omega))
  have HW4 := hide (fun W => word_b s 4 W (by omega) (by omega))
  have HW8 := hide (fun W => word_b s 8 W (by omega) (by omega))
  have HW12 := hide (fun W => word_b s 12 W (by omega) (by omega))
  have HW16 := hide (fun W => word_b s 16 W (by omega) (by omega))
  have hne : (wd s.data.toList 12 != 0) = false := by simp [hh]
  clear hh
  rw [hf] at HS0
  clear hf
  generalize sh s.data.toList 2 = T at *
  generalize wd s.data.toList 4 = A at *
  generalize wd s.data.toList 8 = M at *
  generalize wd s.data.toList 12 = Hp at *
  generalize wd s.data.toList 16 = Mt at *
  have HOF := hide (fun W => Of_any A M true W r4.1 r4.2 r8.1 r8.2 hp)
  simp only [if_true] at HOF
  clear hs hp
  go_enter Tryz.func138, Tryz.ntmps138
  go_wp2_with fail
  refine (unhide HS0 _).mono ?_
  rintro e w1 ⟨rfl, hb1⟩
  have k1 := hide hb1
  clear hb1
  go_wp2_with fail
  refine (unhide HW4 _).mono ?_
  rintro e w2 ⟨rfl, hb2⟩
  have k2 := hide (below_seq (unhide k1) hb2)
  clear hb2 k1
  go_wp2_with fail
  refine (unhide HW8 _).mono ?_
  rintro e w3 ⟨rfl, hb3⟩
  have k3 := hide (below_seq (unhide k2) hb3)
  clear hb3 k2
  go_wp2_with fail
  refine (unhide HOF _).mono ?_
  rintro e w4 ⟨rfl, hb4⟩
  have k4 := hide (below_seq (unhide k3) hb4)
  clear hb4 k3
  go_wp2_with fail
  refine (unhide HW12 _).mono ?_
  rintro e w5 ⟨rfl, hb5⟩
  have k5 := hide (below_seq (below_seq (unhide k4) (below_new w4 _)) hb5)
  have P5 := hide (pbox hb5)
  clear hb5 k4
  go_wp2_with fail
  refine (unhide HW16 _).mono ?_
  rintro e w6 ⟨rfl, hb6⟩
  have k6 := hide (below_seq (unhide k5) hb6)
  have P6 := hide (pbox_below (unhide P5) hb6)
  clear hb6 k5 P5
  go_wp2_with (go_at_call 174; refine (isMetric_any _ _).mono ?_; rintro e w' ⟨rfl, rfl⟩)
  go_wp2_with fail
  refine (fault_any _ _ _).mono ?_
  rintro e wf ⟨rfl, rfl⟩
  obtain ⟨r0, r1, r2, r3, f0, f1, f2, f3, hz, hb⟩ := resE (unhide k6)
  go_wp2
  refine bodyPost_ret (v := .tuple #[zeroE, .iface 180 (.pointer (some ⟨w'.heap.size, 0, none⟩))]) (by simp [results, Tryz.results138, go_sem, r0, r1, r2, r3, hz]) rfl ⟨_, rfl, errIs_faultS (size_set4 _ _ _ _ _ _ _ _ _) _ _, ?_⟩
  exact ((((hb.setCell (by simp) _).setCell (by simp) _).setCell (by simp) _).setCell (by simp) _).alloc (by rw [size_set4]; omega) _

set_option maxHeartbeats 1000000 in
theorem readEntry_ok (s : ByteArray) (n : Int) (w : World) (hs : s.size = 20) (hf : sh s.data.toList 0 = 2) (hp : pfxB (wd s.data.toList 4) (maskLen (wd s.data.toList 8)) = true) (hh : wd s.data.toList 12 = 0) (hm : metB (wd s.data.toList 16) = true) :
    Calls Tryz.prog 138 #[.string s, .int .i64 n] w fun e w' => e = .returned (.tuple #[.agg #[.int .u32 (wd s.data.toList 4), .int .i64 (maskLen (wd s.data.toList 8)), .int .i64 (sh s.data.toList 2), .int .i64 (wd s.data.toList 16)], .nilIface]) ∧ Below w.heap.size w w' := by
  have r0' := sh_range s.data.toList 2
  have r4 := wd_range s.data.toList 4
  have r8 := wd_range s.data.toList 8
  have r16 := wd_range s.data.toList 16
  have HS0 := hide (fun W => short_b s 0 W (by omega) (by omega))
  have HS2 := hide (fun W => short_b s 2 W (by omega) (by omega))
  have HW4 := hide (fun W => word_b s 4 W (by omega) (by omega))
  have HW8 := hide (fun W => word_b s 8 W (by omega) (by omega))
  have HW12 := hide (fun W => word_b s 12 W (by omega) (by omega))
  have HW16 := hide (fun W => word_b s 16 W (by omega) (by omega))
  have hne : (wd s.data.toList 12 != 0) = false := by simp [hh]
  clear hh
  rw [hf] at HS0
  clear hf
  generalize sh s.data.toList 2 = T at *
  generalize wd s.data.toList 4 = A at *
  generalize wd s.data.toList 8 = M at *
  generalize wd s.data.toList 12 = Hp at *
  generalize wd s.data.toList 16 = Mt at *
  have HOF := hide (fun W => Of_any A M true W r4.1 r4.2 r8.1 r8.2 hp)
  simp only [if_true] at HOF
  clear hs hp
  go_enter Tryz.func138, Tryz.ntmps138
  go_wp2_with fail
  refine (unhide HS0 _).mono ?_
  rintro e w1 ⟨rfl, hb1⟩
  have k1 := hide hb1
  clear hb1
  go_wp2_with fail
  refine (unhide HW4 _).mono ?_
  rintro e w2 ⟨rfl, hb2⟩
  have k2 := hide (below_seq (unhide k1) hb2)
  clear hb2 k1
  go_wp2_with fail
  refine (unhide HW8 _).mono ?_
  rintro e w3 ⟨rfl, hb3⟩
  have k3 := hide (below_seq (unhide k2) hb3)
  clear hb3 k2
  go_wp2_with fail
  refine (unhide HOF _).mono ?_
  rintro e w4 ⟨rfl, hb4⟩
  have k4 := hide (below_seq (unhide k3) hb4)
  clear hb4 k3
  go_wp2_with fail
  refine (unhide HW12 _).mono ?_
  rintro e w5 ⟨rfl, hb5⟩
  have k5 := hide (below_seq (below_seq (unhide k4) (below_new w4 _)) hb5)
  have P5 := hide (pbox hb5)
  have hPR : w.heap.size < w4.heap.size := (resE (unhide k4)).2.2.2.2.2.2.2.2.1
  clear hb5 k4
  go_wp2_with fail
  refine (unhide HW16 _).mono ?_
  rintro e w6 ⟨rfl, hb6⟩
  have k6 := hide (below_seq (unhide k5) hb6)
  have P6 := hide (pbox_below (unhide P5) hb6)
  clear hb6 k5 P5
  go_wp2_with (go_at_call 174; refine (isMetric_any _ _).mono ?_; rintro e w' ⟨rfl, rfl⟩)
  obtain ⟨r0, r1, r2, r3, f0, f1, f2, f3, hz, hb⟩ := resE (unhide k6)
  obtain ⟨q0, q1, hpz⟩ := unhide P6
  have z1 : w4.heap.size ≠ w.heap.size := by omega
  have kT : IntKind.i64.wrap T = T := by rw [IntKind.wrap_i64]; omega
  clear r0 r1 r2 r3 f0 f1 f2 f3 hb
  go_region_held3 (fun w' => w'.cell? ⟨w4.heap.size, 0, none⟩ = some (.int .u32 A) ∧ w'.cell? ⟨w4.heap.size, 1, none⟩ = some (.int .i64 (maskLen M))) (first | go_keep | exact ⟨(cell_set4 _ z1 _ _ _ _ _ _ _ _ _).trans q0', (cell_set4 _ z1 _ _ _ _ _ _ _ _ _).trans q1'⟩)
    (first
      | (go_at_call 177; refine (unhide HS2 _).mono ?_; rintro e w7 ⟨rfl, hb7⟩; have q0' := (pbox_below (unhide P6) (Below.trans (below_drew1 w') hb7)).1; have q1' := (pbox_below (unhide P6) (Below.trans (below_drew1 w') hb7)).2.1; obtain ⟨r0, r1, r2, r3, f0, f1, f2, f3, hz7, hb8⟩ := resE (below_seq (unhide k6) (Below.trans (below_drew1 w') hb7)); clear hb7))
  go_wp2
  exact bodyPost_ret (v := .tuple #[.agg #[.int .u32 A, .int .i64 (maskLen M), .int .i64 T, .int .i64 Mt], .nilIface]) (by simp [results, Tryz.results138, go_sem, r0, r1, r2, r3]) rfl ⟨rfl, (((hb8.setCell (by simp) _).setCell (by simp) _).setCell (by simp) _).setCell (by simp) _⟩

/-- One entry: it is read, or its first fault is told. -/
theorem readEntry_good (s : ByteArray) (n : Int) (w : World) (hs : s.size = 20) (h : errAt s.data.toList 0 = 0) :
    Calls Tryz.prog 138 #[.string s, .int .i64 n] w fun e w' => e = .returned (.tuple #[.agg #[.int .u32 (entAt s.data.toList 0).addr, .int .i64 (entAt s.data.toList 0).len, .int .i64 (entAt s.data.toList 0).tag, .int .i64 (entAt s.data.toList 0).met], .nilIface]) ∧ Below w.heap.size w w' := by
  unfold errAt at h
  split at h
  · simp at h
  · rename_i h1
    split at h
    · simp at h
    · rename_i h2
      split at h
      · simp at h
      · rename_i h3
        split at h
        · simp at h
        · rename_i h4
          exact readEntry_ok s n w hs (by simpa using h1) (by simpa using h2) (by simpa using h3) (by simpa using h4)
theorem readEntry_bad (s : ByteArray) (n : Int) (w : World) (hs : s.size = 20) (h : errAt s.data.toList 0 ≠ 0) :
    Calls Tryz.prog 138 #[.string s, .int .i64 n] w fun e w' => ∃ v, e = .returned (.tuple #[zeroE, v]) ∧ errIs w' v (some (errAt s.data.toList 0, n)) ∧ Below w.heap.size w w' := by
  unfold errAt at h ⊢
  split
  · rename_i h1; exact readEntry_fam s n w hs h1
  · rename_i h1
    split
    · rename_i h2; exact readEntry_pfx s n w hs (by simpa using h1) h2
    · rename_i h2
      split
      · rename_i h3; exact readEntry_hop s n w hs (by simpa using h1) (by simpa using h2) h3
      · rename_i h3
        split
        · rename_i h4; exact readEntry_met s n w hs (by simpa using h1) (by simpa using h2) (by simpa using h3) h4
        · rename_i h4
          rw [if_neg h1, if_neg h2, if_neg h3, if_neg h4] at h
          exact absurd rfl h

end Go.Proofs.YtdnpeefnobjfaaaGreatDoor
