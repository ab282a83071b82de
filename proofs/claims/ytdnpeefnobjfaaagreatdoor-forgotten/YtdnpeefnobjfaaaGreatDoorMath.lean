/- Plain facts on numbers and bytes: what a prefix, a mask, a metric, an entry's bytes and a packet's first fault are. No program in it. -/
namespace Go.Proofs.YtdnpeefnobjfaaaGreatDoor

/-- An entry: address, length, tag, metric. -/
structure Ent where
  addr : Int
  len : Int
  tag : Int
  met : Int

def pfxB (a l : Int) : Bool := decide (0 ≤ l) && decide (l ≤ 32) && decide (a % 2 ^ (32 - l).toNat = 0)
def metB (n : Int) : Bool := decide (1 ≤ n) && decide (n ≤ 16)
def tagB (n : Int) : Bool := decide (0 ≤ n) && decide (n ≤ 65535)

theorem pfx_lo {a l : Int} (h : l < 0) : pfxB a l = false := by
  have : decide (0 ≤ l) = false := by simp; omega
  simp [pfxB, this]
theorem pfx_hi {a l : Int} (h : 32 < l) : pfxB a l = false := by
  have : decide (l ≤ 32) = false := by simp; omega
  simp [pfxB, this]
theorem pfx_in {a l : Int} (h0 : 0 ≤ l) (h1 : l ≤ 32) : pfxB a l = decide (a % 2 ^ (32 - l).toNat = 0) := by
  simp [pfxB, h0, h1]
theorem pfx_len {a l : Int} (h : pfxB a l = true) : 0 ≤ l ∧ l ≤ 32 := by
  simp [pfxB] at h; exact h.1

theorem pow_pos' (n : Nat) : (0 : Int) < 2 ^ n := Int.pow_pos (by decide)
theorem pow_le32 (n : Nat) (h : n ≤ 32) : (2 : Int) ^ n ≤ 4294967296 := by
  have h1 : 2 ^ n ≤ 2 ^ 32 := Nat.pow_le_pow_right (by decide) h
  have e2 : ((2 : Int) ^ n) = ((2 ^ n : Nat) : Int) := by simp
  rw [e2]; omega
theorem mask_val (n : Nat) (h : n ≤ 32) : (4294967295 * 2 ^ n) % 4294967296 = (4294967296 - 2 ^ n : Int) := by
  have hp := pow_pos' n
  have hl := pow_le32 n h
  have e : (4294967295 * 2 ^ n : Int) = (4294967296 - 2 ^ n) + 4294967296 * (2 ^ n - 1) := by
    rw [Int.mul_sub]; omega
  rw [e, Int.add_mul_emod_self_left]
  exact Int.emod_eq_of_lt (by omega) (by omega)

/-- The bits of an address outside a mask are nought just where the address is a multiple of the block. -/
theorem low_and (x n : Nat) : x &&& (2 ^ n - 1) = x % 2 ^ n := Nat.and_two_pow_sub_one_eq_mod x n
theorem andNot_mask (a : Int) (n : Nat) (h : n ≤ 32) (h0 : 0 ≤ a) : (((a.toNat &&& (4294967295 - ((4294967296 : Int) - 2 ^ n).toNat) : Nat) : Int) == 0) = decide (a % 2 ^ n = 0) := by
  have hp := pow_pos' n
  have hl := pow_le32 n h
  obtain ⟨x, rfl⟩ := Int.eq_ofNat_of_zero_le h0
  have e2 : ((2 : Int) ^ n) = ((2 ^ n : Nat) : Int) := by simp
  have e : 4294967295 - ((4294967296 : Int) - 2 ^ n).toNat = 2 ^ n - 1 := by
    rw [e2] at hl hp ⊢; omega
  rw [e, Int.toNat_natCast, low_and, e2]
  rw [Bool.eq_iff_iff]
  simp only [beq_iff_eq, decide_eq_true_eq]
  omega

/-- The first fault of an entry (0: none). -/
def entErr (e : Ent) : Int := if pfxB e.addr e.len = false then 6 else if tagB e.tag = false then 5 else if metB e.met = false then 8 else 0
def firstErr : List Ent → Int → Option (Int × Int)
  | [], _ => none
  | e :: r, k => if entErr e = 0 then firstErr r (k + 1) else some (entErr e, k)
def encErr (cmd : Int) (l : List Ent) : Option (Int × Int) :=
  if (cmd ≠ 1 ∧ cmd ≠ 2) ∨ (cmd = 1 ∧ 0 < l.length) then some (4, -1)
  else if cmd = 2 ∧ (l.length = 0 ∨ 25 < l.length) then some (3, -1)
  else firstErr l 0

theorem entErr_range (e : Ent) : entErr e = 0 ∨ entErr e = 5 ∨ entErr e = 6 ∨ entErr e = 8 := by
  unfold entErr; split
  · simp
  · split
    · simp
    · split <;> simp
theorem entErr_zero {e : Ent} (h : entErr e = 0) : pfxB e.addr e.len = true ∧ tagB e.tag = true ∧ metB e.met = true := by
  unfold entErr at h
  cases h1 : pfxB e.addr e.len <;> cases h2 : tagB e.tag <;> cases h3 : metB e.met <;> simp [h1, h2, h3] at h ⊢
theorem firstErr_take {l : List Ent} {k : Int} (m : Nat) (hm : m ≤ l.length) (h : ∀ j, (hj : j < m) → entErr (l[j]'(by omega)) = 0) : firstErr l k = firstErr (l.drop m) (k + m) := by
  induction m generalizing l k with
  | zero => simp
  | succ m ih =>
    match l, hm with
    | e :: r, hm =>
      have h0 : entErr e = 0 := h 0 (by omega)
      have := ih (l := r) (k := k + 1) (by simpa using hm) (fun j hj => h (j + 1) (by omega))
      rw [show firstErr (e :: r) k = firstErr r (k + 1) by simp [firstErr, h0], this]
      simp only [List.drop_succ_cons]
      congr 1; omega
theorem firstErr_none {l : List Ent} {k : Int} (h : ∀ j, (hj : j < l.length) → entErr (l[j]'hj) = 0) : firstErr l k = none := by
  rw [firstErr_take l.length (Nat.le_refl _) h]; simp [firstErr]
theorem firstErr_at {l : List Ent} {k : Int} (m : Nat) (hm : m < l.length) (h : ∀ j, (hj : j < m) → entErr (l[j]'(by omega)) = 0) (hne : entErr (l[m]'hm) ≠ 0) : firstErr l k = some (entErr (l[m]'hm), k + m) := by
  rw [firstErr_take m (by omega) h]
  rw [List.drop_eq_getElem_cons hm]
  simp [firstErr, hne]
theorem firstErr_all {l : List Ent} {k : Int} (h : firstErr l k = none) : ∀ e ∈ l, entErr e = 0 := by
  induction l generalizing k with
  | nil => simp
  | cons e r ih =>
    unfold firstErr at h
    split at h
    · rename_i h0
      intro x hx
      rcases List.mem_cons.1 hx with rfl | hx
      · exact h0
      · exact ih h x hx
    · simp at h

/-- The low byte of a number. -/
def byteOf (x : Int) : UInt8 := UInt8.ofNat (x % 256).toNat
/-- A number as n bytes, the high one first. -/
def be : Nat → Int → List UInt8
  | 0, _ => []
  | n + 1, x => be n (x / 256) ++ [byteOf x]
theorem be_length (n : Nat) (x : Int) : (be n x).length = n := by
  induction n generalizing x with
  | zero => rfl
  | succ n ih => simp [be, ih]
def entBytes (e : Ent) : List UInt8 := be 2 2 ++ be 2 e.tag ++ be 4 e.addr ++ be 4 (4294967296 - 2 ^ (32 - e.len).toNat) ++ be 4 0 ++ be 4 e.met
theorem entBytes_length (e : Ent) : (entBytes e).length = 20 := by simp [entBytes, be_length]
def askAll : List UInt8 := [1, 2, 0, 0, 0, 0, 0, 0, 0, 0, 0, 0, 0, 0, 0, 0, 0, 0, 0, 0, 0, 0, 0, 16]
def encBytes (cmd : Int) (l : List Ent) : List UInt8 := if cmd = 1 then askAll else [2, 2, 0, 0] ++ l.flatMap entBytes
theorem flat_length (l : List Ent) : (l.flatMap entBytes).length = 20 * l.length := by
  induction l with
  | nil => rfl
  | cons e r ih => simp [List.flatMap_cons, entBytes_length, ih]; omega

end Go.Proofs.YtdnpeefnobjfaaaGreatDoor
