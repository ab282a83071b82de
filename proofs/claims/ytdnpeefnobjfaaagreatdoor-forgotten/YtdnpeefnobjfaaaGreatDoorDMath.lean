/- Plain facts on reading a packet's bytes: what each entry is, the first fault. No program in it. -/
import Derived.Test.YtdnpeefnobjfaaaGreatDoorMath
namespace Go.Proofs.YtdnpeefnobjfaaaGreatDoor

/-- A byte of a text (0 behind its end). -/
def bt (b : List UInt8) (i : Nat) : Int := (b.getD i 0).toNat
def sh (b : List UInt8) (i : Nat) : Int := bt b i * 256 + bt b (i + 1)
def wd (b : List UInt8) (i : Nat) : Int := sh b i * 65536 + sh b (i + 2)
theorem bt_range (b : List UInt8) (i : Nat) : 0 ≤ bt b i ∧ bt b i < 256 := by
  unfold bt
  have := (b.getD i 0).toNat_lt
  omega
theorem sh_range (b : List UInt8) (i : Nat) : 0 ≤ sh b i ∧ sh b i < 65536 := by
  unfold sh
  have h1 := bt_range b i
  have h2 := bt_range b (i + 1)
  omega
theorem wd_range (b : List UInt8) (i : Nat) : 0 ≤ wd b i ∧ wd b i < 4294967296 := by
  unfold wd
  have h1 := sh_range b i
  have h2 := sh_range b (i + 2)
  omega
/-- The number of n bytes at a place. -/
def numAt (b : List UInt8) (i : Nat) : Nat → Int
  | 0 => 0
  | n + 1 => 256 * numAt b i n + bt b (i + n)
theorem numAt_range (b : List UInt8) (i n : Nat) (hn : n ≤ 4) : 0 ≤ numAt b i n ∧ numAt b i n < 4294967296 ∧ (n ≤ 3 → numAt b i n < 16777216) := by
  have h0 := bt_range b i
  have h1 := bt_range b (i + 1)
  have h2 := bt_range b (i + 2)
  have h3 := bt_range b (i + 3)
  match n, hn with
  | 0, _ => simp [numAt]
  | 1, _ => simp [numAt]; omega
  | 2, _ => simp [numAt]; omega
  | 3, _ => simp [numAt]; omega
  | 4, _ => simp [numAt]; omega
theorem numAt_two (b : List UInt8) (i : Nat) : numAt b i 2 = sh b i := by simp [numAt, sh]; omega
theorem numAt_four (b : List UInt8) (i : Nat) : numAt b i 4 = wd b i := by simp [numAt, wd, sh, Nat.add_assoc]; omega
/-- The length of a mask; -1: it is none. -/
def maskLenFrom (m : Int) : Nat → Nat → Int
  | 0, _ => -1
  | f + 1, n => if m = 4294967296 - 2 ^ (32 - n) then n else maskLenFrom m f (n + 1)
def maskLen (m : Int) : Int := maskLenFrom m 33 0
theorem pow_inj32 {a b : Nat} (h : (2 : Int) ^ a = 2 ^ b) : a = b := by
  have e1 : ((2 : Int) ^ a) = ((2 ^ a : Nat) : Int) := by simp
  have e2 : ((2 : Int) ^ b) = ((2 ^ b : Nat) : Int) := by simp
  rw [e1, e2] at h
  have h' : 2 ^ a = 2 ^ b := by exact_mod_cast h
  rcases Nat.lt_trichotomy a b with hl | hl | hl
  · have := Nat.pow_lt_pow_right (show 1 < 2 by decide) hl; omega
  · exact hl
  · have := Nat.pow_lt_pow_right (show 1 < 2 by decide) hl; omega
theorem maskLenFrom_ne {m : Int} (f n : Nat) (h : ∀ k, n ≤ k → k < n + f → m ≠ 4294967296 - 2 ^ (32 - k)) : maskLenFrom m f n = -1 := by
  induction f generalizing n with
  | zero => rfl
  | succ f ih =>
    unfold maskLenFrom
    rw [if_neg (h n (Nat.le_refl _) (by omega)), ih (n + 1) (fun k h1 h2 => h k (by omega) (by omega))]
theorem maskLenFrom_at {m : Int} (f n k : Nat) (hk : n ≤ k) (hf : k < n + f) (hm : m = 4294967296 - 2 ^ (32 - k)) (hk32 : k ≤ 32) : maskLenFrom m f n = k := by
  induction f generalizing n with
  | zero => omega
  | succ f ih =>
    unfold maskLenFrom
    by_cases hn : n = k
    · subst hn; rw [if_pos hm]
    · rw [if_neg (fun e => ?_), ih (n + 1) (by omega) (by omega)]
      have : (2 : Int) ^ (32 - n) = 2 ^ (32 - k) := by omega
      have := pow_inj32 this
      omega
theorem maskLen_at (k : Nat) (hk : k ≤ 32) : maskLen (4294967296 - 2 ^ (32 - k)) = k := maskLenFrom_at 33 0 k (by omega) (by omega) rfl hk
theorem maskLen_none {m : Int} (h : ∀ k : Nat, k ≤ 32 → m ≠ 4294967296 - 2 ^ (32 - k)) : maskLen m = -1 := maskLenFrom_ne 33 0 (fun k _ hk => h k (by omega))
theorem maskLen_cases (m : Int) : (∃ k : Nat, k ≤ 32 ∧ m = 4294967296 - 2 ^ (32 - k)) ∨ ∀ k : Nat, k ≤ 32 → m ≠ 4294967296 - 2 ^ (32 - k) := by
  by_cases h : ∃ k : Nat, k ≤ 32 ∧ m = 4294967296 - 2 ^ (32 - k)
  · exact .inl h
  · exact .inr fun k hk e => h ⟨k, hk, e⟩

/-- The entry at a place, and its fault (0: none). -/
def entAt (b : List UInt8) (i : Nat) : Ent := ⟨wd b (i + 4), maskLen (wd b (i + 8)), sh b (i + 2), wd b (i + 16)⟩
def errAt (b : List UInt8) (i : Nat) : Int :=
  if sh b i ≠ 2 then 5 else if pfxB (wd b (i + 4)) (maskLen (wd b (i + 8))) = false then 6 else if wd b (i + 12) ≠ 0 then 7 else if metB (wd b (i + 16)) = false then 8 else 0
/-- The first fault from entry k on, of n entries. -/
def scanErr (b : List UInt8) : Nat → Nat → Option (Int × Int)
  | 0, _ => none
  | n + 1, k => if errAt b (4 + k * 20) = 0 then scanErr b n (k + 1) else some (errAt b (4 + k * 20), k)
theorem scanErr_none {b : List UInt8} {n k : Nat} (h : ∀ j, k ≤ j → j < k + n → errAt b (4 + j * 20) = 0) : scanErr b n k = none := by
  induction n generalizing k with
  | zero => rfl
  | succ n ih =>
    unfold scanErr
    rw [if_pos (h k (Nat.le_refl _) (by omega)), ih (fun j h1 h2 => h j (by omega) (by omega))]
theorem scanErr_at {b : List UInt8} {n k m : Nat} (hm : k ≤ m) (hn : m < k + n) (h : ∀ j, k ≤ j → j < m → errAt b (4 + j * 20) = 0) (hne : errAt b (4 + m * 20) ≠ 0) : scanErr b n k = some (errAt b (4 + m * 20), (m : Int)) := by
  induction n generalizing k with
  | zero => omega
  | succ n ih =>
    unfold scanErr
    by_cases hk : k = m
    · subst hk; rw [if_neg hne]
    · rw [if_pos (h k (Nat.le_refl _) (by omega)), ih (by omega) (by omega) (fun j h1 h2 => h j (by omega) h2)]
def sizeB (n : Nat) : Bool := decide (24 ≤ n) && decide (n ≤ 504) && decide (n % 20 = 4)
def ents (b : List UInt8) : List Ent := (List.range ((b.length - 4) / 20)).map fun k => entAt b (4 + k * 20)
/-- What Decode finds wrong. -/
def decErr (b : List UInt8) : Option (Int × Int) :=
  if sizeB b.length = false then some (3, -1) else if b = askAll then none else if b.take 4 ≠ [2, 2, 0, 0] then some (4, -1) else scanErr b ((b.length - 4) / 20) 0
def decCmd (b : List UInt8) : Int := if (decErr b).isSome then 0 else if b = askAll then 1 else 2
def decEnts (b : List UInt8) : List Ent := if (decErr b).isSome then [] else if b = askAll then [] else ents b

end Go.Proofs.YtdnpeefnobjfaaaGreatDoor
