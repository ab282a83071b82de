/- Which costs and own prefixes a router may have: what milepost.areCosts and milepost.areOwn answer. -/
import Derived.Test.YtdnpeefnobjfaaaGreatDoorRCmp
import Derived.Test.YtdnpeefnobjfaaaGreatDoorChk
namespace Go.Proofs.YtdnpeefnobjfaaaGreatDoor
open Go.RowKit
attribute [local go_sem ↓] Go.wp_at_zero Go.wp_at_succ

def numCells (w : World) (b off : Nat) (l : List Int) : Prop := ∀ k, (h : k < l.length) → w.cell? ⟨b, off + k, none⟩ = some (.int .i64 l[k])
theorem numCells_below {w w1 : World} {b off B : Nat} {l : List Int} (h : numCells w b off l) (hb : Below B w w1) (hB : b < B) : numCells w1 b off l := fun k hk => (hb.cell (p := ⟨b, _, none⟩) hB).trans (h k hk)
theorem numCells_lt {w : World} {b off : Nat} {l : List Int} (h : numCells w b off l) (h0 : 0 < l.length) : b < w.heap.size := World.block_lt_of_cell? w _ (h 0 h0)
/-- A slice that holds these numbers. -/
def numSlice (w : World) (ao : Option Addr) (l : List Int) : Prop := l = [] ∨ ∃ b off, ao = some ⟨b, off, none⟩ ∧ numCells w b off l
theorem numSlice_below {w w1 : World} {ao : Option Addr} {l : List Int} (h : numSlice w ao l) (hb : Below w.heap.size w w1) : numSlice w1 ao l := by
  rcases h with h | ⟨b, off, ha, hc⟩
  · exact .inl h
  · by_cases h0 : 0 < l.length
    · exact .inr ⟨b, off, ha, numCells_below hc hb (numCells_lt hc h0)⟩
    · exact .inl (List.eq_nil_of_length_eq_zero (by omega))

def pfCells (w : World) (b off : Nat) (l : List Pf) : Prop := ∀ k, (h : k < l.length) → w.cell? ⟨b, off + k * 2, none⟩ = some (.int .u32 l[k].addr) ∧ w.cell? ⟨b, off + k * 2 + 1, none⟩ = some (.int .i64 l[k].len)
theorem pfCells_below {w w1 : World} {b off B : Nat} {l : List Pf} (h : pfCells w b off l) (hb : Below B w w1) (hB : b < B) : pfCells w1 b off l := fun k hk =>
  ⟨(hb.cell (p := ⟨b, _, none⟩) hB).trans (h k hk).1, (hb.cell (p := ⟨b, _, none⟩) hB).trans (h k hk).2⟩
theorem pfCells_lt {w : World} {b off : Nat} {l : List Pf} (h : pfCells w b off l) (h0 : 0 < l.length) : b < w.heap.size := World.block_lt_of_cell? w _ (h 0 h0).1
/-- A slice that holds these prefixes. -/
def pfSlice (w : World) (ao : Option Addr) (l : List Pf) : Prop := l = [] ∨ ∃ b off, ao = some ⟨b, off, none⟩ ∧ pfCells w b off l
theorem pfSlice_below {w w1 : World} {ao : Option Addr} {l : List Pf} (h : pfSlice w ao l) (hb : Below w.heap.size w w1) : pfSlice w1 ao l := by
  rcases h with h | ⟨b, off, ha, hc⟩
  · exact .inl h
  · by_cases h0 : 0 < l.length
    · exact .inr ⟨b, off, ha, pfCells_below hc hb (pfCells_lt hc h0)⟩
    · exact .inl (List.eq_nil_of_length_eq_zero (by omega))
def pfsOk (l : List Pf) : Prop := ∀ p ∈ l, 0 ≤ p.addr ∧ p.addr < 4294967296

/-- No cost. -/
def noCost (n : Int) : Bool := decide (n < 1) || decide (15 < n)

set_option maxHeartbeats 400000 in
theorem isNoCost_any (n : Int) (w : World) : Calls Tryz.prog 76 #[.int .i64 n] w fun e w' => e = .returned (.bool (noCost n)) ∧ w' = w := by
  go_enter Tryz.func76, Tryz.ntmps76
  go_wp2
  · go_ret
    exact ⟨ret_bool (by have h : ¬ n < 1 := by omega
                        simp [noCost, h]), rfl⟩
  · go_ret
    exact ⟨ret_bool (by have h : n < 1 := by assumption
                        simp [noCost, h]), rfl⟩

set_option maxHeartbeats 400000 in
theorem indexCost_any (ao : Option Addr) (n cap : Nat) (l : List Int) (w : World) (hn : l.length = n) (h8 : n ≤ 8) (hs : numSlice w ao l) :
    Calls Tryz.prog 126 #[.slice ao n cap, .func (.func 76) #[] #[]] w fun e w' => (∃ r : Int, e = .returned (.int .i64 r) ∧ decide (0 ≤ r) = l.any noCost) ∧ w' = w := by
  have HN := hide hn
  have HS := hide hs
  clear hn hs
  go_enter Tryz.func126, Tryz.ntmps126
  go_wp2
  go_loop [8] (fun i => ∃ k : Nat, k ≤ n ∧ i = .int .i64 k ∧ ∀ j, (hj : j < l.length) → j < k → noCost l[j] = false) (fun i => n - (intOf i).toNat)
  case atStart => exact ⟨0, by omega, rfl, fun j hj h => by omega⟩
  case round =>
    obtain ⟨k, hk, rfl, hgood⟩ := hrel
    have HG := hide hgood
    clear hgood
    by_cases hlt : k < n
    · have hlt' : k < l.length := by rw [unhide HN]; exact hlt
      rcases unhide HS with h0 | ⟨b, off, rfl, hc⟩
      · rw [h0] at hlt'; simp at hlt'
      · have hcx := hc k hlt'
        generalize hE : l[k] = E at *
        have HE := hide hE
        clear hE hc
        cases hq : noCost E with
        | true =>
          have HQ := hide hq
          clear hq
          go_wp2_with (go_at_call 76; refine (isNoCost_any E _).mono ?_; rintro e w1 ⟨rfl, rfl⟩; rw [unhide HQ])
          go_ret
          refine ⟨⟨_, rfl, ?_⟩, rfl⟩
          rw [show l.any noCost = true from List.any_eq_true.2 ⟨l[k], List.getElem_mem _, by rw [unhide HE]; exact unhide HQ⟩]
          simp
        | false =>
          have HQ := hide hq
          clear hq
          go_wp2_with (go_at_call 76; refine (isNoCost_any E _).mono ?_; rintro e w1 ⟨rfl, rfl⟩; rw [unhide HQ])
          go_round
          case rel =>
            refine ⟨k + 1, by omega, by go_num, fun j hj hjk => ?_⟩
            by_cases hjk' : j = k
            · subst hjk'; rw [unhide HE]; exact unhide HQ
            · exact unhide HG j hj (by omega)
          case measure => simp [intOf]; omega
    · have hkn : k = n := by omega
      subst hkn
      go_wp2
      go_ret
      refine ⟨⟨-1, rfl, ?_⟩, rfl⟩
      rw [show l.any noCost = false from ?_]
      · rfl
      · rw [List.any_eq_false]
        intro x hx
        obtain ⟨j, hj, rfl⟩ := List.getElem_of_mem hx
        simpa using unhide HG j hj (by rw [← unhide HN]; exact hj)

set_option maxHeartbeats 400000 in
theorem containsCost_any (ao : Option Addr) (n cap : Nat) (l : List Int) (w : World) (hn : l.length = n) (h8 : n ≤ 8) (hs : numSlice w ao l) :
    Calls Tryz.prog 75 #[.slice ao n cap, .func (.func 76) #[] #[]] w fun e w' => e = .returned (.bool (l.any noCost)) ∧ w' = w := by
  have hi := indexCost_any ao n cap l
  have HN := hide hn
  have HS := hide hs
  clear hn hs
  go_enter Tryz.func75, Tryz.ntmps75
  go_wp2_with (go_at_call 126; refine (hi _ (unhide HN) h8 (unhide HS)).mono ?_; rintro e w1 ⟨⟨r, rfl, hr⟩, rfl⟩; have HR := hide hr; clear hr)
  go_ret
  exact ⟨ret_bool (unhide HR), rfl⟩

/-- Costs that may be. -/
def costsB (l : List Int) : Bool := decide (l.length ≤ 8) && !(l.any noCost)

set_option maxHeartbeats 400000 in
theorem areCosts_any (ao : Option Addr) (n cap : Nat) (l : List Int) (w : World) (hn : l.length = n) (hs : numSlice w ao l) :
    Calls Tryz.prog 34 #[.slice ao n cap] w fun e w' => e = .returned (.bool (costsB l)) ∧ w' = w := by
  by_cases h8 : n ≤ 8
  · have hi := containsCost_any ao n cap l w hn h8 hs
    have hv : Hid (costsB l = !(l.any noCost)) := by show costsB l = _; simp [costsB, hn, h8]
    clear hn hs
    generalize l.any noCost = q at hi hv
    go_enter Tryz.func34, Tryz.ntmps34
    go_wp2_with (go_at_call 75; refine hi.mono ?_; rintro e w1 ⟨rfl, rfl⟩)
    go_ret
    exact ⟨ret_bool hv.out.symm, rfl⟩
  · have hv : Hid (costsB l = false) := by show costsB l = _; simp [costsB, hn, h8]
    have hd : decide ((n : Int) ≤ 8) = false := by simp; omega
    clear hn hs
    go_enter Tryz.func34, Tryz.ntmps34
    go_wp2
    go_ret
    exact ⟨ret_bool hv.out.symm, rfl⟩

end Go.Proofs.YtdnpeefnobjfaaaGreatDoor
