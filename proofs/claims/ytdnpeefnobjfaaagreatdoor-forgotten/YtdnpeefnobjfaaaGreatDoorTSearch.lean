/- The place of a prefix in a table: slices.BinarySearchFunc over rows. -/
import Derived.Test.YtdnpeefnobjfaaaGreatDoorTHeard
import Derived.Test.YtdnpeefnobjfaaaGreatDoorROwn
namespace Go.Proofs.YtdnpeefnobjfaaaGreatDoor
open Go.RowKit Go.Shelf Go.Sort
attribute [local go_sem ↓] Go.wp_at_zero Go.wp_at_succ

def rwPf (r : Rw) : Pf := ⟨r.addr, r.len⟩
/-- Rows in the order of their prefixes, each prefix once. -/
def rwSorted (L : List Rw) : Prop := L.Pairwise fun a b => pfLt (rwPf a) (rwPf b)
theorem pfLt_trans {a b c : Pf} (h : pfLt a b) (k : pfLt b c) : pfLt a c := by unfold pfLt at *; omega
theorem pfLt_irrefl (a : Pf) : ¬ pfLt a a := by unfold pfLt; omega
theorem rwSorted_lt {L : List Rw} (h : rwSorted L) {i j : Nat} (hi : i < L.length) (hj : j < L.length) (hij : i < j) : pfLt (rwPf L[i]) (rwPf L[j]) := List.pairwise_iff_getElem.1 h i j hi hj hij
/-- Where a prefix stands, or would. -/
def placeOf (L : List Rw) (p : Pf) (i : Nat) : Prop := i ≤ L.length ∧ (∀ j, (hj : j < L.length) → j < i → pfLt (rwPf L[j]) p) ∧ (∀ j, (hj : j < L.length) → i ≤ j → ¬ pfLt (rwPf L[j]) p)

theorem cmpP_zero (a b : Pf) : cmpP a b = 0 ↔ a = b := by
  rw [Pf.beq_iff]
  unfold cmpP cmpI
  by_cases h1 : a.addr < b.addr
  · simp [h1]; omega
  · by_cases h2 : b.addr < a.addr
    · simp [h1, h2]; omega
    · have h3 : a.addr = b.addr := by omega
      by_cases h4 : a.len < b.len
      · simp [h3, h4]; omega
      · by_cases h5 : b.len < a.len
        · simp [h3, h4, h5]; omega
        · simp [h3, h4, h5]; omega

set_option maxRecDepth 100000 in
set_option maxHeartbeats 4000000 in
theorem search_some (b off n cap : Nat) (L : List Rw) (p : Pf) (w : World) (hL : L.length = n) (hn : n ≤ 1000000) (hso : rwSorted L) (hB : b < w.heap.size) (hc : rwCells w b off L) :
    Calls Tryz.prog 146 #[.slice (some ⟨b, off, none⟩) n cap, .agg #[.int .u32 p.addr, .int .i64 p.len], .func (.func 147) #[] #[]] w fun e w' =>
      ∃ i : Nat, placeOf L p i ∧ e = .returned (.tuple #[.int .i64 i, .bool ((L[i]?.map rwPf) == some p)]) ∧ Grows w w' := by
  have HL := hide hL
  have HS := hide hso
  have hC := fun r W => rowCompare_any r p W
  have hfol := prog_follows
  have bP := Blk.new w #[.int .u32 p.addr, .int .i64 p.len] 32
  have hcW := rwCells_below hc (below_new w (.cells #[.int .u32 p.addr, .int .i64 p.len] 32)) hB
  have hG0 := (Grows.refl w).alloc (.cells #[.int .u32 p.addr, .int .i64 p.len] 32)
  have hBW : b < (w.alloc (.cells #[.int .u32 p.addr, .int .i64 p.len] 32)).heap.size := by simp; omega
  clear hL hso hc
  go_enter Tryz.func146, Tryz.ntmps146
  go_wp2_with fail
  generalize w.alloc (.cells #[.int .u32 p.addr, .int .i64 p.len] 32) = W at *
  have HP := hide bP
  have HC := hide hcW
  have HG := hide hG0
  clear bP hcW hG0
  go_loopw [9, 10] (fun vi vj wr => ∃ i j : Nat, i ≤ j ∧ j ≤ n ∧ vi = .int .i64 i ∧ vj = .int .i64 j ∧ Grows W wr ∧ (∀ k, (hk : k < L.length) → k < i → pfLt (rwPf L[k]) p) ∧ (∀ k, (hk : k < L.length) → j ≤ k → ¬ pfLt (rwPf L[k]) p)) (fun vi vj _ => (intOf vj - intOf vi).toNat)
  case atStart => exact ⟨0, n, by omega, by omega, rfl, rfl, Grows.refl _, fun k hk h => by omega, fun k hk h => by rw [unhide HL] at hk; omega⟩
  case round =>
    obtain ⟨i, j, hij, hjn, rfl, rfl, hg, hlo, hhi⟩ := hrel
    have HLO := hide hlo
    have HHI := hide hhi
    have HGR := hide hg
    clear hlo hhi
    by_cases hlt : i < j
    · have hlti : (i : Int) < (j : Int) := by omega
      have hw1 : IntKind.i64.wrap ((i : Int) + (j : Int)) = (i : Int) + (j : Int) := wrap_small _ (by omega) (by omega)
      go_wp2_with fail
      obtain ⟨h, hh⟩ : ∃ h : Nat, h = (i + j) / 2 := ⟨_, rfl⟩
      have hhI : ((i : Int) + (j : Int)) / 2 = (h : Int) := by omega
      have hhn : h < n := by omega
      have hhL : h < L.length := by rw [unhide HL]; exact hhn
      have hhi1 : i ≤ h := by omega
      have hhj : h < j := by omega
      rw [hhI]
      have j0 : (0 : Int) ≤ (h : Int) := by omega
      have j1 : (h : Int) < (n : Int) := by omega
      clear hh hhI
      have hBr : b < wr.heap.size := Nat.lt_of_lt_of_le hBW hg.below.size
      obtain ⟨c0, c1, c2, c3, c4, c5, c6⟩ := rwCells_below (unhide HC) hg.below hBW h hhL
      have bP1 := (unhide HP).grows hg
      have g0 := (bP1.cell 0).trans (show _ = some (.int .u32 p.addr) from rfl)
      have g1 := (bP1.cell 1).trans (show _ = some (.int .i64 p.len) from rfl)
      have G0 := fun m os => cell_grown hBr c0 m os
      have G1 := fun m os => cell_grown hBr c1 m os
      have G2 := fun m os => cell_grown hBr c2 m os
      have G3 := fun m os => cell_grown hBr c3 m os
      have G4 := fun m os => cell_grown hBr c4 m os
      have G5 := fun m os => cell_grown hBr c5 m os
      have G6 := fun m os => cell_grown hBr c6 m os
      have P0 := fun m os => cell_grown bP1.lt g0 m os
      have P1 := fun m os => cell_grown bP1.lt g1 m os
      have HLE := hide (show ∀ q, cmpP (rwPf L[h]) p = q → (q < 0 ↔ pfLt (rwPf L[h]) p) from fun q hq => by rw [← hq]; exact cmpP_neg _ _)
      have hCE := hC L[h]
      have HE := hide (show rwPf L[h] = ⟨L[h].addr, L[h].len⟩ from rfl)
      rw [← unhide HE] at hCE
      clear bP1 g0 g1 c0 c1 c2 c3 c4 c5 c6 hg
      obtain ⟨q, hq⟩ : ∃ q, cmpP (rwPf L[h]) p = q := ⟨_, rfl⟩
      rw [hq] at hCE
      have hqlt := unhide HLE q hq
      clear hq HLE HE
      by_cases hqn : q < 0
      · have HPL := hide (hqlt.1 hqn)
        clear hqlt
        generalize L[h] = E at G0 G1 G2 G3 G4 G5 G6 hCE
        go_quiet_grown (first | (go_at_call 147; refine Grows.quiet (hCE _)))
        go_wp2
        go_roundw
        case rel =>
          refine ⟨h + 1, j, by omega, hjn, by go_num, rfl, (unhide HGR).grow _ _, fun k hk hkh => ?_, unhide HHI⟩
          by_cases hkh' : k = h
          · subst hkh'; exact unhide HPL
          · exact pfLt_trans (rwSorted_lt (unhide HS) hk hhL (by omega)) (unhide HPL)
        case measure => simp [intOf]; omega
      · have HPL := hide (fun hx => hqn (hqlt.2 hx))
        clear hqlt
        have hqd : decide (q < 0) = false := by simp; omega
        clear hqn
        generalize L[h] = E at G0 G1 G2 G3 G4 G5 G6 hCE
        go_quiet_grown (first | (go_at_call 147; refine Grows.quiet (hCE _)))
        go_wp2
        go_roundw
        case rel =>
          refine ⟨i, h, by omega, by omega, rfl, rfl, (unhide HGR).grow _ _, unhide HLO, fun k hk hkh => ?_⟩
          by_cases hkh' : k = h
          · subst hkh'; exact unhide HPL
          · exact fun hx => unhide HPL (pfLt_trans (rwSorted_lt (unhide HS) hhL hk (by omega)) hx)
        case measure => simp [intOf]; omega
    · have hji : j = i := by omega
      subst hji
      have hlti : decide ((j : Int) < (j : Int)) = false := by simp
      have HPO := hide (show placeOf L p j from ⟨by rw [unhide HL]; exact hjn, unhide HLO, unhide HHI⟩)
      by_cases hin : j < n
      · have hjL : j < L.length := by rw [unhide HL]; exact hin
        have j0 : (0 : Int) ≤ (j : Int) := by omega
        have j1 : (j : Int) < (n : Int) := by omega
        have hBr : b < wr.heap.size := Nat.lt_of_lt_of_le hBW hg.below.size
        obtain ⟨c0, c1, c2, c3, c4, c5, c6⟩ := rwCells_below (unhide HC) hg.below hBW j hjL
        have bP1 := (unhide HP).grows hg
        have g0 := (bP1.cell 0).trans (show _ = some (.int .u32 p.addr) from rfl)
        have g1 := (bP1.cell 1).trans (show _ = some (.int .i64 p.len) from rfl)
        have G0 := fun m os => cell_grown hBr c0 m os
        have G1 := fun m os => cell_grown hBr c1 m os
        have G2 := fun m os => cell_grown hBr c2 m os
        have G3 := fun m os => cell_grown hBr c3 m os
        have G4 := fun m os => cell_grown hBr c4 m os
        have G5 := fun m os => cell_grown hBr c5 m os
        have G6 := fun m os => cell_grown hBr c6 m os
        have P0 := fun m os => cell_grown bP1.lt g0 m os
        have P1 := fun m os => cell_grown bP1.lt g1 m os
        have hval : (L[j]?.map rwPf == some p) = (cmpP (rwPf L[j]) p == 0) := by
          rw [List.getElem?_eq_getElem hjL, Bool.eq_iff_iff]
          simp [cmpP_zero]
        have HV := hide hval
        have hCE := hC L[j]
        have HE := hide (show rwPf L[j] = ⟨L[j].addr, L[j].len⟩ from rfl)
        rw [← unhide HE] at hCE
        clear bP1 g0 g1 c0 c1 c2 c3 c4 c5 c6 hg hval
        obtain ⟨q, hq⟩ : ∃ q, cmpP (rwPf L[j]) p = q := ⟨_, rfl⟩
        rw [hq] at hCE HV
        clear hq HE
        generalize L[j] = E at G0 G1 G2 G3 G4 G5 G6 hCE
        go_wp2_with fail
        go_quiet_grown (first | (go_at_call 147; refine Grows.quiet (hCE _)))
        go_wp2
        go_ret2
        exact ⟨j, unhide HPO, by rw [unhide HV]; rfl, (unhide HG).trans ((unhide HGR).grow _ _)⟩
      · have hjn' : j = n := by omega
        subst hjn'
        have HV := hide (show (L[j]?.map rwPf == some p) = false by rw [List.getElem?_eq_none (by rw [unhide HL]; exact Nat.le_refl _)]; rfl)
        clear hg
        go_wp2_with fail
        go_big_region_o
        go_wp2
        go_ret2
        exact ⟨j, unhide HPO, by rw [unhide HV]; rfl, (unhide HG).trans (unhide HGR).drew⟩

set_option maxRecDepth 100000 in
set_option maxHeartbeats 1000000 in
theorem search_none (ao : Option Addr) (cap : Nat) (p : Pf) (fv : Value) (w : World) :
    Calls Tryz.prog 146 #[.slice ao 0 cap, .agg #[.int .u32 p.addr, .int .i64 p.len], fv] w fun e w' => e = .returned (.tuple #[.int .i64 0, .bool false]) ∧ Grows w w' := by
  have hfol := prog_follows
  have hG0 := hide ((Grows.refl w).alloc (.cells #[.int .u32 p.addr, .int .i64 p.len] 32))
  go_enter Tryz.func146, Tryz.ntmps146
  go_wp2_with fail
  generalize w.alloc (.cells #[.int .u32 p.addr, .int .i64 p.len] 32) = W at *
  refine wp_loop_rounds 1 ?_
  rw [rounds_succ]
  go_wp2_with fail
  go_big_region_o
  go_wp2
  go_ret2
  exact ⟨rfl, (unhide hG0).drew⟩

theorem search_any (ao : Option Addr) (n cap : Nat) (L : List Rw) (p : Pf) (w : World) (hL : L.length = n) (hn : n ≤ 1000000) (hso : rwSorted L) (hs : rwSlice w ao L) :
    Calls Tryz.prog 146 #[.slice ao n cap, .agg #[.int .u32 p.addr, .int .i64 p.len], .func (.func 147) #[] #[]] w fun e w' =>
      ∃ i : Nat, placeOf L p i ∧ e = .returned (.tuple #[.int .i64 i, .bool ((L[i]?.map rwPf) == some p)]) ∧ Grows w w' := by
  by_cases h0 : n = 0
  · subst h0
    have : L = [] := List.eq_nil_of_length_eq_zero hL
    subst this
    refine (search_none ao cap p _ w).mono ?_
    rintro e w' ⟨rfl, hg⟩
    exact ⟨0, ⟨Nat.le_refl _, fun j hj => by simp at hj, fun j hj => by simp at hj⟩, rfl, hg⟩
  · rcases hs with rfl | ⟨b, off, rfl, hc⟩
    · simp at hL; omega
    · exact search_some b off n cap L p w hL hn hso (rwCells_lt hc (by omega)) hc

end Go.Proofs.YtdnpeefnobjfaaaGreatDoor
