/- The plain story of the law Forgotten: its router's rows. No program in it. -/
import Derived.Test.YtdnpeefnobjfaaaGreatDoorTTake
namespace Go.Proofs.YtdnpeefnobjfaaaGreatDoor

/-- The law's own router: its own prefix; the net that is told. -/
def fOwn : Rw := ownRw ⟨16777216, 8⟩
def fRow (m a : Int) : Rw := ⟨335544320, 8, 9, m, 0, a, true⟩
/-- How the told net stands: so many ticks old; dying since so many; forgotten. -/
abbrev FSt := Sum Nat (Option Nat)
abbrev FSt.live (a : Nat) : FSt := .inl a
abbrev FSt.dead (a : Nat) : FSt := .inr (some a)
abbrev FSt.gone : FSt := .inr none
theorem FSt.parts {P : FSt → Prop} (s : FSt) (live : ∀ a, P (.inl a)) (dead : ∀ a, P (.inr (some a))) (gone : P (.inr none)) : P s := by
  rcases s with a | _ | a
  · exact live a
  · exact gone
  · exact dead a
def fRows : FSt → List Rw
  | .inl a => [fOwn, fRow 5 a]
  | .inr (some a) => [fOwn, fRow 16 a]
  | .inr none => [fOwn]
theorem older_own : rwOlder fOwn = fOwn := by decide
theorem gone_own : rwGone fOwn = false := by decide
theorem tick_live (a : Nat) (h : a < 179) : tickL (fRows (.live a)) = fRows (.live (a + 1)) := by
  have e1 : rwOlder (fRow 5 a) = fRow 5 ((a + 1 : Nat) : Int) := by
    unfold rwOlder fRow
    rw [if_neg (by show ¬ (0 : Int) = -1; decide), if_neg (by show ¬ (a : Int) + 1 = 180; omega)]
    simp
  have e2 : rwGone (fRow 5 ((a + 1 : Nat) : Int)) = false := by simp [rwGone, fRow]
  simp only [tickL, fRows, keptL, List.map_cons, List.map_nil, older_own, e1, List.filter_cons, gone_own, e2, List.filter_nil, Bool.not_false, if_true]
theorem tick_dies : tickL (fRows (.live 179)) = fRows (.dead 0) := by decide
theorem tick_dead (a : Nat) (h : a < 119) : tickL (fRows (.dead a)) = fRows (.dead (a + 1)) := by
  have e1 : rwOlder (fRow 16 a) = fRow 16 ((a + 1 : Nat) : Int) := by
    unfold rwOlder fRow
    rw [if_neg (by show ¬ (0 : Int) = -1; decide), if_neg (by show ¬ (a : Int) + 1 = 180; omega)]
    simp
  have e2 : rwGone (fRow 16 ((a + 1 : Nat) : Int)) = false := by
    have h2 : ¬ ((a + 1 : Nat) : Int) = 120 := by omega
    simp only [rwGone, fRow, h2, decide_false, Bool.and_false]
  simp only [tickL, fRows, keptL, List.map_cons, List.map_nil, older_own, e1, List.filter_cons, gone_own, e2, List.filter_nil, Bool.not_false, if_true]
theorem tick_goes : tickL (fRows (.dead 119)) = fRows .gone := by decide
theorem tick_gone : tickL (fRows .gone) = fRows .gone := by decide
/-- So many ticks later. -/
def fLater : FSt → Nat → FSt
  | .inl a, n => if a + n < 180 then .live (a + n) else .dead (a + n - 180)
  | .inr (some a), n => if a + n < 120 then .dead (a + n) else .gone
  | .inr none, _ => .gone
def fOk : FSt → Prop
  | .inl a => a < 180
  | .inr (some a) => a < 120
  | .inr none => True
theorem later_gone (n : Nat) : laterL n (fRows .gone) = fRows .gone := by
  induction n with
  | zero => rfl
  | succ n ih => show tickL (laterL n _) = _; rw [ih, tick_gone]
theorem later_dead (a n : Nat) (h : a < 120) : laterL n (fRows (.dead a)) = fRows (fLater (.dead a) n) := by
  induction n with
  | zero => simp [laterL, fLater, h]
  | succ n ih =>
    show tickL (laterL n _) = _
    rw [ih]
    show tickL (fRows (if a + n < 120 then .dead (a + n) else .gone)) = fRows (if a + (n + 1) < 120 then .dead (a + (n + 1)) else .gone)
    by_cases h1 : a + n < 119
    · rw [if_pos (by omega), if_pos (by omega), tick_dead _ h1]; rfl
    · by_cases h2 : a + n = 119
      · rw [if_pos (by omega), if_neg (by omega), h2, tick_goes]
      · rw [if_neg (by omega), if_neg (by omega), tick_gone]
theorem later_live (a n : Nat) (h : a < 180) (hn : n ≤ 100) : laterL n (fRows (.live a)) = fRows (fLater (.live a) n) := by
  induction n with
  | zero => simp [laterL, fLater, h]
  | succ n ih =>
    show tickL (laterL n _) = _
    rw [ih (by omega)]
    show tickL (fRows (if a + n < 180 then .live (a + n) else .dead (a + n - 180))) = fRows (if a + (n + 1) < 180 then .live (a + (n + 1)) else .dead (a + (n + 1) - 180))
    by_cases h1 : a + n < 179
    · rw [if_pos (by omega), if_pos (by omega), tick_live _ h1]; rfl
    · by_cases h2 : a + n = 179
      · rw [if_pos (by omega), if_neg (by omega), h2, tick_dies, show a + (n + 1) - 180 = 0 by omega]
      · rw [if_neg (by omega), if_neg (by omega), tick_dead _ (by omega), show a + n - 180 + 1 = a + (n + 1) - 180 by omega]
theorem later_f (s : FSt) (n : Nat) (hs : fOk s) (hn : n ≤ 100) : laterL n (fRows s) = fRows (fLater s n) := by
  cases s using FSt.parts with
  | live a => exact later_live a n hs hn
  | dead a => exact later_dead a n hs
  | gone => exact later_gone n
theorem fLater_ok (s : FSt) (n : Nat) (hs : fOk s) (hn : n ≤ 100) : fOk (fLater s n) := by
  cases s using FSt.parts with
  | live a =>
    have ha : a < 180 := hs
    show fOk (if a + n < 180 then .live (a + n) else .dead (a + n - 180))
    by_cases h : a + n < 180
    · rw [if_pos h]; exact h
    · rw [if_neg h]; show a + n - 180 < 120; omega
  | dead a =>
    show fOk (if a + n < 120 then .dead (a + n) else .gone)
    by_cases h : a + n < 120
    · rw [if_pos h]; exact h
    · rw [if_neg h]; trivial
  | gone => trivial
/-- The news of the net. -/
def fNews : Rw := newsRw ⟨335544320, 8, 9, 3⟩ 0 2
theorem fNews_eq : fNews = ⟨335544320, 8, 9, 5, 0, 0, false⟩ := by decide
theorem take_first : takeL (fRows .gone) fNews = fRows (.live 0) := by decide
theorem take_live (a : Nat) : takeL (fRows (.live a)) fNews = fRows (.live 0) := by
  rw [fNews_eq]
  simp [takeL, takeAt, fRows, ixOf, fOwn, ownRw, freshRw, fRow, rwPf, rwHeard, rwRetold, List.takeWhile]
theorem take_dead (a : Nat) : takeL (fRows (.dead a)) fNews = fRows (.live 0) := by
  rw [fNews_eq]
  simp [takeL, takeAt, fRows, ixOf, fOwn, ownRw, freshRw, fRow, rwPf, rwHeard, rwRetold, List.takeWhile]
theorem find_live (a : Nat) : findR (fRows (.live a)) 335610371 = some (fRow 5 a) := by
  simp [findR, fRows, fRow, findB, hasB]
theorem find_dead (a : Nat) : findR (fRows (.dead a)) 335610371 = none := by
  simp [findR, fRows, fRow, findB, hasB, fOwn, ownRw, freshRw]
theorem find_gone : findR (fRows .gone) 335610371 = none := by decide
theorem find_own (s : FSt) : findR (fRows s) 16777217 = some fOwn := by
  cases s using FSt.parts <;> simp [findR, fRows, fRow, findB, hasB, fOwn, ownRw, freshRw]
theorem fRows_sorted (s : FSt) : rwSorted (fRows s) := by
  cases s using FSt.parts <;> simp [rwSorted, fRows, fRow, fOwn, ownRw, freshRw, rwPf, pfLt]
theorem fRows_ages (s : FSt) (h : fOk s) : agesIn 10000 (fRows s) := by
  intro r hr
  cases s using FSt.parts with
  | live a => have : a < 180 := h; simp [fRows] at hr; rcases hr with rfl | rfl <;> simp [fOwn, ownRw, freshRw, fRow]; omega
  | dead a => have : a < 120 := h; simp [fRows] at hr; rcases hr with rfl | rfl <;> simp [fOwn, ownRw, freshRw, fRow]; omega
  | gone => simp [fRows] at hr; subst hr; simp [fOwn, ownRw, freshRw]
theorem fRows_len (s : FSt) : (fRows s).length ≤ 2 := by cases s using FSt.parts <;> simp [fRows]
theorem fRows_ok (s : FSt) : ∀ r ∈ fRows s, 0 ≤ r.len ∧ r.len ≤ 32 := by
  intro r hr
  cases s using FSt.parts <;> simp [fRows] at hr
  · rcases hr with rfl | rfl <;> simp [fOwn, ownRw, freshRw, fRow]
  · rcases hr with rfl | rfl <;> simp [fOwn, ownRw, freshRw, fRow]
  · subst hr; simp [fOwn, ownRw, freshRw]

end Go.Proofs.YtdnpeefnobjfaaaGreatDoor
