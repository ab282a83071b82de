/- Plain facts on numbers and bytes: what a prefix, a mask, a metric, an entry's bytes and a packet's first fault are. No program in it. -/
import Derived.Test.YtdnpeefnobjfaaaGreatDoorProg
import Derived.WalkKit
import Derived.WalkSpells
import Derived.WalkLawsBesides
import Derived.Deep.QuietTactic
import Derived.BigQuiet
import Derived.Shelf.SlSortCmp.QuietGrown
namespace Go.Proofs.YtdnpeefnobjfaaaGreatDoor

/-- An entry: address, length, tag, metric. -/
structure Ent where
  addr : Int
  len : Int
  tag : Int
  met : Int

def pfxB (a l : Int) : Bool := decide (0 ≤ l) && decide (l ≤ 32) && decide (a % 2 ^ (32 - l).toNat = 0)
def metB (n : Int) : Bool := decide (1 ≤ n) && decide (n ≤ 16)
def tagB (n : Int) : Bool := decide (0 ≤ n) && decide (n ≤ 65535)

theorem pfx_lo {a l : Int} (h : l < 0) : pfxB a l = false := by
  have : decide (0 ≤ l) = false := by simp; omega
  simp [pfxB, this]
theorem pfx_hi {a l : Int} (h : 32 < l) : pfxB a l = false := by
  have : decide (l ≤ 32) = false := by simp; omega
  simp [pfxB, this]
theorem pfx_in {a l : Int} (h0 : 0 ≤ l) (h1 : l ≤ 32) : pfxB a l = decide (a % 2 ^ (32 - l).toNat = 0) := by
  simp [pfxB, h0, h1]
theorem pfx_len {a l : Int} (h : pfxB a l = true) : 0 ≤ l ∧ l ≤ 32 := by
  simp [pfxB] at h; exact h.1

theorem pow_pos' (n : Nat) : (0 : Int) < 2 ^ n := Int.pow_pos (by decide)
theorem pow_le32 (n : Nat) (h : n ≤ 32) : (2 : Int) ^ n ≤ 4294967296 := by
  have h1 : 2 ^ n ≤ 2 ^ 32 := Nat.pow_le_pow_right (by decide) h
  have e2 : ((2 : Int) ^ n) = ((2 ^ n : Nat) : Int) := by simp
  rw [e2]; omega
theorem mask_val (n : Nat) (h : n ≤ 32) : (4294967295 * 2 ^ n) % 4294967296 = (4294967296 - 2 ^ n : Int) := by
  have hp := pow_pos' n
  have hl := pow_le32 n h
  have e : (4294967295 * 2 ^ n : Int) = (4294967296 - 2 ^ n) + 4294967296 * (2 ^ n - 1) := by
    rw [Int.mul_sub]; omega
  rw [e, Int.add_mul_emod_self_left]
  exact Int.emod_eq_of_lt (by omega) (by omega)

/-- The bits of an address outside a mask are nought just where the address is a multiple of the block. -/
theorem low_and (x n : Nat) : x &&& (2 ^ n - 1) = x % 2 ^ n := Nat.and_two_pow_sub_one_eq_mod x n
theorem andNot_mask (a : Int) (n : Nat) (h : n ≤ 32) (h0 : 0 ≤ a) : (((a.toNat &&& (4294967295 - ((4294967296 : Int) - 2 ^ n).toNat) : Nat) : Int) == 0) = decide (a % 2 ^ n = 0) := by
  have hp := pow_pos' n
  have hl := pow_le32 n h
  obtain ⟨x, rfl⟩ := Int.eq_ofNat_of_zero_le h0
  have e2 : ((2 : Int) ^ n) = ((2 ^ n : Nat) : Int) := by simp
  have e : 4294967295 - ((4294967296 : Int) - 2 ^ n).toNat = 2 ^ n - 1 := by
    rw [e2] at hl hp ⊢; omega
  rw [e, Int.toNat_natCast, low_and, e2]
  rw [Bool.eq_iff_iff]
  simp only [beq_iff_eq, decide_eq_true_eq]
  omega

/-- The first fault of an entry (0: none). -/
def entErr (e : Ent) : Int := if pfxB e.addr e.len = false then 6 else if tagB e.tag = false then 5 else if metB e.met = false then 8 else 0
def firstErr : List Ent → Int → Option (Int × Int)
  | [], _ => none
  | e :: r, k => if entErr e = 0 then firstErr r (k + 1) else some (entErr e, k)
def encErr (cmd : Int) (l : List Ent) : Option (Int × Int) :=
  if (cmd ≠ 1 ∧ cmd ≠ 2) ∨ (cmd = 1 ∧ 0 < l.length) then some (4, -1)
  else if cmd = 2 ∧ (l.length = 0 ∨ 25 < l.length) then some (3, -1)
  else firstErr l 0

theorem entErr_range (e : Ent) : entErr e = 0 ∨ entErr e = 5 ∨ entErr e = 6 ∨ entErr e = 8 := by
  unfold entErr; split
  · simp
  · split
    · simp
    · split <;> simp
theorem entErr_zero {e : Ent} (h : entErr e = 0) : pfxB e.addr e.len = true ∧ tagB e.tag = true ∧ metB e.met = true := by
  unfold entErr at h
  cases h1 : pfxB e.addr e.len <;> cases h2 : tagB e.tag <;> cases h3 : metB e.met <;> simp [h1, h2, h3] at h ⊢
theorem firstErr_take {l : List Ent} {k : Int} (m : Nat) (hm : m ≤ l.length) (h : ∀ j, (hj : j < m) → entErr (l[j]'(by omega)) = 0) : firstErr l k = firstErr (l.drop m) (k + m) := by
  induction m generalizing l k with
  | zero => simp
  | succ m ih =>
    match l, hm with
    | e :: r, hm =>
      have h0 : entErr e = 0 := h 0 (by omega)
      have := ih (l := r) (k := k + 1) (by simpa using hm) (fun j hj => h (j + 1) (by omega))
      rw [show firstErr (e :: r) k = firstErr r (k + 1) by simp [firstErr, h0], this]
      simp only [List.drop_succ_cons]
      congr 1; omega
theorem firstErr_none {l : List Ent} {k : Int} (h : ∀ j, (hj : j < l.length) → entErr (l[j]'hj) = 0) : firstErr l k = none := by
  rw [firstErr_take l.length (Nat.le_refl _) h]; simp [firstErr]
theorem firstErr_at {l : List Ent} {k : Int} (m : Nat) (hm : m < l.length) (h : ∀ j, (hj : j < m) → entErr (l[j]'(by omega)) = 0) (hne : entErr (l[m]'hm) ≠ 0) : firstErr l k = some (entErr (l[m]'hm), k + m) := by
  rw [firstErr_take m (by omega) h]
  rw [List.drop_eq_getElem_cons hm]
  simp [firstErr, hne]
theorem firstErr_all {l : List Ent} {k : Int} (h : firstErr l k = none) : ∀ e ∈ l, entErr e = 0 := by
  induction l generalizing k with
  | nil => simp
  | cons e r ih =>
    unfold firstErr at h
    split at h
    · rename_i h0
      intro x hx
      rcases List.mem_cons.1 hx with rfl | hx
      · exact h0
      · exact ih h x hx
    · simp at h

/-- The low byte of a number. -/
def byteOf (x : Int) : UInt8 := UInt8.ofNat (x % 256).toNat
/-- A number as n bytes, the high one first. -/
def be : Nat → Int → List UInt8
  | 0, _ => []
  | n + 1, x => be n (x / 256) ++ [byteOf x]
theorem be_length (n : Nat) (x : Int) : (be n x).length = n := by
  induction n generalizing x with
  | zero => rfl
  | succ n ih => simp [be, ih]
def entBytes (e : Ent) : List UInt8 := be 2 2 ++ be 2 e.tag ++ be 4 e.addr ++ be 4 (4294967296 - 2 ^ (32 - e.len).toNat) ++ be 4 0 ++ be 4 e.met
theorem entBytes_length (e : Ent) : (entBytes e).length = 20 := by simp [entBytes, be_length]
def askAll : List UInt8 := [1, 2, 0, 0, 0, 0, 0, 0, 0, 0, 0, 0, 0, 0, 0, 0, 0, 0, 0, 0, 0, 0, 0, 16]
def encBytes (cmd : Int) (l : List Ent) : List UInt8 := if cmd = 1 then askAll else [2, 2, 0, 0] ++ l.flatMap entBytes
theorem flat_length (l : List Ent) : (l.flatMap entBytes).length = 20 * l.length := by
  induction l with
  | nil => rfl
  | cons e r ih => simp [List.flatMap_cons, entBytes_length, ih]; omega

end Go.Proofs.YtdnpeefnobjfaaaGreatDoor

/- What the small functions of the program and of the reference answer: each for every argument; they write nothing that was there. -/
namespace Go.Proofs.YtdnpeefnobjfaaaGreatDoor
open Go.RowKit

theorem ret_bool {a b : Bool} (h : a = b) : Ending.returned (.bool a) = .returned (.bool b) := by rw [h]
theorem ret_int {k : IntKind} {a b : Int} (h : a = b) : Ending.returned (.int k a) = .returned (.int k b) := by rw [h]

set_option maxHeartbeats 400000 in
theorem mask_any (a l : Int) (w : World) (h0 : 0 ≤ l) (h1 : l ≤ 32) :
    Calls Tryz.prog 127 #[.agg #[.int .u32 a, .int .i64 l]] w fun e w' => e = .returned (.int .u32 (4294967296 - 2 ^ (32 - l).toNat)) ∧ w' = w.alloc (.cells #[.int .u32 a, .int .i64 l] 32) := by
  go_enter Tryz.func127, Tryz.ntmps127
  go_wp2
  go_ret
  exact ⟨ret_int (mask_val _ (by omega)), rfl⟩

set_option maxHeartbeats 400000 in
theorem isMetric_any (n : Int) (w : World) :
    Calls Tryz.prog 174 #[.int .i64 n] w fun e w' => e = .returned (.bool (metB n)) ∧ w' = w := by
  go_enter Tryz.func174, Tryz.ntmps174
  go_wp2
  · go_ret
    exact ⟨ret_bool (by have h : 1 ≤ n := by assumption
                        simp [metB, h]), rfl⟩
  · go_ret
    exact ⟨ret_bool (by have h : n < 1 := by assumption
                        have h' : decide (1 ≤ n) = false := by simp; omega
                        simp [metB, h']), rfl⟩

set_option maxHeartbeats 400000 in
theorem isTag_any (n : Int) (w : World) :
    Calls Tryz.prog 173 #[.int .i64 n] w fun e w' => e = .returned (.bool (tagB n)) ∧ w' = w := by
  go_enter Tryz.func173, Tryz.ntmps173
  go_wp2
  · go_ret
    exact ⟨ret_bool (by have h : 0 ≤ n := by assumption
                        simp [tagB, h]), rfl⟩
  · go_ret
    exact ⟨ret_bool (by have h : n < 0 := by assumption
                        have h' : decide (0 ≤ n) = false := by simp; omega
                        simp [tagB, h']), rfl⟩

set_option maxHeartbeats 400000 in
theorem fault_any (e n : Int) (w : World) :
    Calls Tryz.prog 87 #[.int .i64 e, .int .i64 n] w fun r w' => r = .returned (.iface 180 (.pointer (some ⟨w.heap.size, 0, none⟩))) ∧ w' = w.alloc (.cells #[.int .i64 e, .int .i64 n] 203) := by
  go_enter Tryz.func87, Tryz.ntmps87
  go_wp2
  go_ret
  exact ⟨rfl, rfl⟩

set_option maxHeartbeats 400000 in
theorem num_any (e : Int) (w : World) :
    Calls Tryz.prog 113 #[.int .i64 e] w fun r w' => r = .returned (.int .i64 e) ∧ w' = w := by
  go_enter Tryz.func113, Tryz.ntmps113
  go_wp2
  go_ret
  exact ⟨rfl, rfl⟩

set_option maxHeartbeats 400000 in
theorem of_any (e n : Int) (w : World) :
    Calls Tryz.prog 161 #[.int .i64 e, .int .i64 n] w fun r w' => r = .returned (.agg #[.int .i64 e, .int .i64 n, .bool true]) ∧ Below w.heap.size w w' := by
  go_enter Tryz.func161, Tryz.ntmps161
  go_wp2
  exact bodyPost_ret (v := .agg #[.int .i64 e, .int .i64 n, .bool true]) (by simp [results, Tryz.results161, go_sem]) rfl ⟨rfl, (Below.refl _ _).alloc (Nat.le_refl _) _⟩

set_option maxHeartbeats 400000 in
theorem block_any (n : Int) (w : World) (h0 : 0 ≤ n) (h1 : n ≤ 32) :
    Calls Tryz.prog 159 #[.int .i64 n] w fun e w' => e = .returned (.int .i64 (2 ^ (32 - n).toNat)) ∧ w' = w := by
  go_enter Tryz.func159, Tryz.ntmps159
  go_wp2
  go_loop [3, 4] (fun b i => ∃ k : Int, n ≤ k ∧ k ≤ 32 ∧ i = .int .i64 k ∧ b = .int .i64 (2 ^ (k - n).toNat)) (fun _ i => (32 - intOf i).toNat)
  case atStart => exact ⟨n, by omega, by omega, rfl, by simp⟩
  case round =>
    obtain ⟨k, hk1, hk2, rfl, rfl⟩ := hrel
    have hp := pow_pos' (k - n).toNat
    have hl := pow_le32 (k - n).toNat (by omega)
    by_cases hlt : k < 32
    · go_wp2
      go_round
      case rel => exact ⟨k + 1, by omega, by omega, rfl, by rw [show (k + 1 - n).toNat = (k - n).toNat + 1 by omega, Int.pow_succ, Int.mul_comm]⟩
      case measure => simp [intOf]; omega
    · go_wp2
      go_ret
      exact ⟨ret_int (by rw [show k = 32 by omega]), rfl⟩

end Go.Proofs.YtdnpeefnobjfaaaGreatDoor

/- Worlds that have grown: what was there is as it was; some draws, some blocks more. -/
namespace Go.Proofs.YtdnpeefnobjfaaaGreatDoor
open Go.RowKit Go.Sort

theorem prog_follows : Tryz.prog.follows .mixedOrders = true := by kernel_rfl

/-- What was there is as it was; some draws, some blocks more. -/
def Grows (w w' : World) : Prop := ∃ q os, w' = grow (w.drewN q) os
theorem Grows.refl (w : World) : Grows w w := ⟨0, #[], by simp [World.drewN]⟩
theorem Grows.alloc {w w' : World} (h : Grows w w') (o : Obj) : Grows w (w'.alloc o) := by
  obtain ⟨q, os, rfl⟩ := h
  exact ⟨q, os ++ #[o], by rw [alloc_eq_grow, grow_grow]⟩
theorem Grows.drew {w w' : World} (h : Grows w w') : Grows w w'.drew := by
  obtain ⟨q, os, rfl⟩ := h
  exact ⟨q + 1, os, rfl⟩
theorem Grows.drewN {w w' : World} (h : Grows w w') (n : Nat) : Grows w (w'.drewN n) := by
  obtain ⟨q, os, rfl⟩ := h
  exact ⟨q + n, os, by simp [grow, World.drewN, Nat.add_assoc]⟩
theorem Grows.below {w w' : World} (h : Grows w w') : Below w.heap.size w w' := by
  obtain ⟨q, os, rfl⟩ := h
  exact ⟨rfl, rfl, rfl, by simp [grow, World.drewN], fun k hk => by simp [grow, World.drewN, Array.getElem?_append, hk]⟩
theorem Grows.trans {a b c : World} (h : Grows a b) (k : Grows b c) : Grows a c := by
  obtain ⟨q, os, rfl⟩ := h
  obtain ⟨q', os', rfl⟩ := k
  exact ⟨q + q', os ++ os', by simp [grow, World.drewN, Array.append_assoc, Nat.add_assoc]⟩
theorem Grows.drawn {w w' : World} (h : Grows w w') : w.drawn ≤ w'.drawn := by
  obtain ⟨q, os, rfl⟩ := h
  exact Nat.le_add_right _ _
theorem Grows.of {w w' : World} (hb : Below w.heap.size w w') (hd : w.drawn ≤ w'.drawn) : Grows w w' := by
  refine ⟨w'.drawn - w.drawn, w'.heap.extract w.heap.size w'.heap.size, ?_⟩
  obtain ⟨h1, h2, h3, h4, h5⟩ := hb
  cases w with
  | mk hp tp dr os op =>
    cases w' with
    | mk hp' tp' dr' os' op' =>
      simp only at h1 h2 h3 h4 h5 hd
      subst h1 h2 h3
      simp only [Go.Sort.grow, World.drewN]
      congr 1
      · apply Array.ext_getElem?
        intro k
        rw [Array.getElem?_append]
        by_cases hk : k < hp.size
        · rw [if_pos hk]; exact h5 k hk
        · rw [if_neg hk, Array.getElem?_extract]
          by_cases hk2 : k < hp'.size
          · rw [if_pos (by omega), show hp.size + (k - hp.size) = k by omega]
          · rw [if_neg (by omega)]; simp; omega
      · omega
theorem Grows.setCell {w w' : World} (h : Grows w w') {p : Addr} (hp : w.heap.size ≤ p.block) (v : Value) : Grows w (w'.setCell p v) := .of (h.below.setCell (p := p) hp v) h.drawn
/-- A contract in the form that go_quiet_grown asks. -/
theorem Grows.quiet {P : Program} {f : FuncId} {args : Array Value} {w : World} {n : Nat} {os : Array Obj} {v : Value}
    (h : Calls P f args (grow (w.drewN n) os) fun e w' => e = .returned v ∧ Grows (grow (w.drewN n) os) w') : Calls P f args (grow (w.drewN n) os) fun e w'' => e = .returned v ∧ ∃ p : GrownBy, w'' = grow (w.drewN p.n) p.os :=
  Calls.grown_of h
theorem Grows.grow {w w' : World} (h : Grows w w') (n : Nat) (os : Array Obj) : Grows w (grow (w'.drewN n) os) := h.trans ⟨n, os, rfl⟩
theorem Grows.cell {w w' : World} (h : Grows w w') {p : Addr} {v : Value} (hc : w.cell? p = some v) : w'.cell? p = some v :=
  (h.below.cell (p := p) (World.block_lt_of_cell? w _ hc)).trans hc

end Go.Proofs.YtdnpeefnobjfaaaGreatDoor
