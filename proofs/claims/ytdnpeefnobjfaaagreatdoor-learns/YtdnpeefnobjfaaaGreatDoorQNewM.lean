/- The reference's New. -/
import Derived.Test.YtdnpeefnobjfaaaGreatDoorQNewMM
import Derived.Test.YtdnpeefnobjfaaaGreatDoorRNewM
import Derived.Test.YtdnpeefnobjfaaaGreatDoorBack
namespace Go.Proofs.YtdnpeefnobjfaaaGreatDoor
open Go.RowKit Go.Shelf
attribute [local go_sem ↓] Go.wp_at_zero Go.wp_at_succ

theorem IsPrefix_ref (a l : Int) (w : World) (ha : 0 ≤ a ∧ a < 4294967296) :
    Calls Tryz.prog 110 #[.agg #[.int .u32 a, .int .i64 l]] w fun e w' => e = .returned (.bool (pfxB a l)) ∧ Below w.heap.size w w' := by
  by_cases h0 : l < 0
  · exact IsPrefix_lo a l w h0
  · by_cases h1 : 32 < l
    · exact IsPrefix_hi a l w h1
    · exact IsPrefix_in a l w (by omega) (by omega) ha.1 ha.2

/-- What New answers. -/
def newRefIs (w : World) (lc : List Int) (lo : List Pf) (e : Ending) (w' : World) : Prop :=
  ((costsB lc && ownB lo) = false ∧ e = .returned (.pointer none) ∧ Below w.heap.size w w') ∨
  ((costsB lc && ownB lo) = true ∧ ∃ (Q : Nat) (cv lv : Value) (Ls : List Pf), e = .returned (.pointer (some ⟨Q, 0, none⟩)) ∧ RefAt w' w.heap.size Q lc (Ls.map ownRw) cv lv ∧ Ls.Perm lo ∧ Ls.Pairwise pfLt ∧ Below w.heap.size w w')

set_option maxRecDepth 100000 in
set_option maxHeartbeats 4000000 in
theorem newRef_any (ac ao : Option Addr) (cc co : Nat) (lc : List Int) (lo : List Pf) (w : World) (hok : pfsOk lo) (hsc : numSlice w ac lc) (hso : pfSlice w ao lo) :
    Calls Tryz.prog 62 #[.agg #[.slice ac lc.length cc, .slice ao lo.length co]] w fun e w' => newRefIs w lc lo e w' := by
  by_cases h8 : 8 < lc.length
  · have hb : (costsB lc && ownB lo) = false := by
      have : costsB lc = false := by simp [costsB]; omega
      simp [this]
    have hd : decide ((8 : Int) < (lc.length : Int)) = true := by simp; omega
    have HB := hide hb
    clear hb hok hsc hso
    go_enter Tryz.func62, Tryz.ntmps62
    go_wp2
    go_ret
    exact Or.inl ⟨unhide HB, rfl, below_new _ _⟩
  by_cases h20 : 20 < lo.length
  · have hb : (costsB lc && ownB lo) = false := by
      have : ownB lo = false := by simp [ownB]; omega
      simp [this]
    have hd : decide ((8 : Int) < (lc.length : Int)) = false := by simp; omega
    have hd2 : decide ((20 : Int) < (lo.length : Int)) = true := by simp; omega
    have HB := hide hb
    clear hb hok hsc hso
    go_enter Tryz.func62, Tryz.ntmps62
    go_wp2
    go_ret
    exact Or.inl ⟨unhide HB, rfl, below_new _ _⟩
  have hd : decide ((8 : Int) < (lc.length : Int)) = false := by simp; omega
  have hd2 : decide ((20 : Int) < (lo.length : Int)) = false := by simp; omega
  have hd3 : decide (8 < lc.length) = false := by simp; omega
  have hd4 : decide (20 < lo.length) = false := by simp; omega
  obtain ⟨iI, hiI, hI0, hI1, hI2⟩ := info_parts Tryz.info3
  have HSC := hide hsc
  have HSO := hide hso
  have HOK := hide hok
  have h8' : lc.length ≤ 8 := by omega
  have h20' : lo.length ≤ 20 := by omega
  have bC := hide ((Blk.new w #[.slice ac lc.length cc, .slice ao lo.length co] 25).alloc (.cells #[.slice none 0 0, .slice none 0 0] 160))
  have bQ := Blk.new (w.alloc (.cells #[.slice ac lc.length cc, .slice ao lo.length co] 25)) #[.slice none 0 0, .slice none 0 0] 160
  rw [World.size_alloc] at bQ
  have BQ := hide bQ
  have HB0 := hide (show Below w.heap.size w _ from (((Grows.refl w).alloc (.cells #[.slice ac lc.length cc, .slice ao lo.length co] 25)).alloc (.cells #[.slice none 0 0, .slice none 0 0] 160)).below)
  clear hsc hso hok h8 h20 bQ
  go_enter Tryz.func62, Tryz.ntmps62
  go_wp2_with fail
  generalize (w.alloc (.cells #[.slice ac lc.length cc, .slice ao lo.length co] 25)).alloc (.cells #[.slice none 0 0, .slice none 0 0] 160) = W at *
  go_loopw [4] (fun i wr => ∃ k : Nat, k ≤ lc.length ∧ i = .int .i64 k ∧ (∀ j, (h : j < lc.length) → j < k → noCost lc[j] = false) ∧ Blk wr w.heap.size #[.slice ac lc.length cc, .slice ao lo.length co] 25 ∧ Below w.heap.size w wr ∧ ∃ cv, RefAt wr w.heap.size (w.heap.size + 1) (lc.take k) [] cv (.slice none 0 0)) (fun i _ => lc.length - (intOf i).toNat)
  case atStart => exact ⟨0, by omega, rfl, fun j _ h => by omega, unhide bC, unhide HB0, .slice none 0 0, unhide BQ, World.ownsRow_nil _ _ _ _, World.ownsRow_nil _ _ _ _, by omega⟩
  case round =>
    obtain ⟨k, hk, rfl, hpre, hC, hb, cv, hA⟩ := hrel
    have c0 := (hC.cell 0).trans (show _ = some (.slice ac lc.length cc) from rfl)
    have HPRE := hide hpre
    clear hpre bC BQ HB0
    by_cases hlt : k < lc.length
    · rcases numSlice_below (unhide HSC) hb with h0 | ⟨g, off, rfl, hnc⟩
      · rw [h0] at hlt; simp at hlt
      · have r0 := hnc k hlt
        have j0 : (0 : Int) ≤ (k : Int) := by omega
        have j1 : (k : Int) < (lc.length : Int) := by omega
        by_cases hno : noCost lc[k] = true
        · have hbad : (costsB lc && ownB lo) = false := by
            have : costsB lc = false := by
              simp only [costsB, Bool.and_eq_false_iff, Bool.not_eq_false']
              exact .inr (List.any_eq_true.2 ⟨_, List.getElem_mem hlt, hno⟩)
            simp [this]
          have HBAD := hide hbad
          have HBE := hide hb
          simp only [noCost, Bool.or_eq_true, decide_eq_true_eq] at hno
          generalize lc[k] = c at *
          clear hbad hb hnc hC hA
          rcases hno with h1 | h1
          · have e1 : decide (c < 1) = true := by simpa using h1
            go_wp2
            go_ret
            exact Or.inl ⟨unhide HBAD, rfl, unhide HBE⟩
          · have e1 : decide (c < 1) = false := by simp; omega
            have e2 : decide (15 < c) = true := by simpa using h1
            go_wp2
            go_ret
            exact Or.inl ⟨unhide HBAD, rfl, unhide HBE⟩
        · have hno' : noCost lc[k] = false := by simpa using hno
          obtain ⟨av, cpv, rfl⟩ := ownsRow_slice hA.costs
          have htk : (lc.take k).length = k := by rw [List.length_take]; omega
          rw [htk] at hA
          have q0 := (hA.blk.cell 0).trans (show _ = some (.slice av k cpv) from rfl)
          have fq0 := hA.blk.frozen 0
          have hQl : w.heap.size + 1 < wr.heap.size := hA.blk.lt
          have nB : (Value.slice av k cpv).ownBlock ≠ some (w.heap.size + 1) := fun e => by
            rcases hA.costs.2 with ⟨hv, _⟩ | ⟨g', c', cur, hv, _, hgc, _⟩
            · rw [hv] at e; simp [Value.ownBlock] at e
            · rw [hv] at e
              simp [Value.ownBlock] at e
              subst e
              have h1 := hA.blk
              unfold Blk at h1
              rw [h1] at hgc
              simp at hgc
          have hgl : g < wr.heap.size := World.block_lt_of_cell? wr _ r0
          have hsw : w.heap.size ≤ wr.heap.size := hb.size
          have C0 := fun o => ((below_new wr o).cell (p := ⟨w.heap.size, 0, none⟩) (show w.heap.size < wr.heap.size by omega)).trans c0
          have R0 := fun o => ((below_new wr o).cell (p := ⟨g, off + k, none⟩) hgl).trans r0
          have Q0 := fun o => ((below_new wr o).cell (p := ⟨w.heap.size + 1, 0, none⟩) hQl).trans q0
          have FQ0 := fun o => ((below_new wr o).frozen (p := ⟨w.heap.size + 1, 0, none⟩) hQl).trans fq0
          have HOWN := hide (show wr.ownsRow w.heap.size 3 1 (.slice av k cpv) k (numList (lc.take k)) from by have := hA.costs; rwa [htk] at this)
          have HSTEP := hide (fun (w5 : World) (o : Obj) (g5 c5 : Nat) (h1 : w5.ownsRow w.heap.size 3 1 (.slice (some ⟨g5, 0, none⟩) (k + 1) c5) (k + 1) (numList (lc.take k) ++ [.int .i64 lc[k]])) (h2 : (wr.alloc o).drew.grownBy w5 (Value.slice av k cpv).ownBlock) => newCost_step (w5 := w5) (o := o) (n := k + 1) (g5 := g5) (c5 := c5) (c := lc[k]) hA (by rw [htk]) h1 h2)
          have HTK := hide (List.take_succ_eq_append_getElem hlt)
          have HPRE2 := hide (fun j (hj : j < lc.length) (hjk : j < k + 1) => show noCost lc[j] = false from by
            by_cases e : j = k
            · subst e; exact hno'
            · exact unhide HPRE j hj (by omega))
          have HBE := hide hb
          have HCC := hide hC
          have HNO := hide hno'
          have K2 := hide Q0
          have FK2 := hide FQ0
          have NB2 := hide nB
          have e1 : decide (lc[k] < 1) = false := by simp [noCost] at hno'; simp; omega
          have e2 : decide (15 < lc[k]) = false := by simp [noCost] at hno'; simp; omega
          generalize lc[k] = c at *
          clear hno hno' hA hb hC hnc FQ0 nB htk
          go_wp2_with fail
          go_region_law ((refine step_append_lies _ (by rfl) (.tmp 45) (.tmp 51) 22 (by rfl) w.heap.size 3 iI (.int .i64 0) 1 8 Tryz.underlying22 hiI hI0 hI1 hI2 rfl (by decide) (.slice av k cpv) k (numList (lc.take k)) (by rfl) (by exact (unhide HOWN).alloc _) ⟨wr.heap.size, 0, none⟩ 1 1 [.int .i64 c] (by rfl) rfl (by exact World.news_of_block (heap_alloc_new wr _)) (by intro u hu; simp at hu; subst hu; rfl) (by decide) (by unfold maxLen; omega) (by omega) (by simp; omega) (wr.heap.size + 1) (by simp) ?_; intro g5 c5 w5 hown5 hg5 hat5 hlt5; have p1 : w5.cell? ⟨w.heap.size + 1, 0, none⟩ = some (.slice av k cpv) := (hg5.cell (by exact unhide K2 _) (Ne.symm (unhide NB2))); have p2 : w5.frozen? ⟨w.heap.size + 1, 0, none⟩ = false := (by rw [hg5.frozen_far _ (by simp; omega) (Ne.symm (unhide NB2))]; exact unhide FK2 _); have R2 := hide (unhide HSTEP w5 _ g5 c5 hown5 hg5); clear hown5 hat5))
          all_goals
            obtain ⟨hA5, hkp⟩ := unhide R2
            have hC5 := hkp _ _ _ (unhide HCC) (by decide) (by omega)
            have hb5 := ((((unhide HBE).alloc hsw _).drew).grown hg5 (by simp; omega) (fun q hq => (ownsRow_from (unhide HOWN) q hq).1)).setCell (p := ⟨w.heap.size + 1, 0, none⟩) (by simp) (.slice (some ⟨g5, 0, none⟩) (k + 1) c5)
            rw [← unhide HTK] at hA5
            have HFIN := hide (And.intro hC5 (And.intro hb5 hA5))
            clear hC5 hb5 hA5 hkp R2 HSTEP HOWN hg5 p1 p2 C0 R0 Q0 K2 FK2 NB2 HBE HCC
            generalize w5.setCell ⟨w.heap.size + 1, 0, none⟩ (.slice (some ⟨g5, 0, none⟩) (k + 1) c5) = wd at *
            go_wp2
            go_roundw
            case rel => exact ⟨k + 1, by omega, by go_num, unhide HPRE2, (unhide HFIN).1, (unhide HFIN).2.1, _, (unhide HFIN).2.2⟩
            case measure => simp [intOf]; omega
    · have hkn : k = lc.length := by omega
      subst hkn
      rw [List.take_length] at hA
      have hcost : costsB lc = true := by
        simp only [costsB, Bool.and_eq_true, decide_eq_true_eq, Bool.not_eq_true', List.any_eq_false]
        refine ⟨h8', fun c hc => ?_⟩
        obtain ⟨j, hj, rfl⟩ := List.mem_iff_getElem.1 hc
        simp [unhide HPRE j hj hj]
      have HCB := hide hcost
      have HA := hide hA
      have HC := hide hC
      have HB := hide hb
      clear HPRE HSC hA hC hb hcost
      go_wp2_with fail
      generalize hW : wr = W2 at *
      clear hW c0
      go_loopw [5] (fun i wr => ∃ k : Nat, k ≤ lo.length ∧ i = .int .i64 k ∧ ownAt [] lo = ownAt (lo.take k) (lo.drop k) ∧ Blk wr w.heap.size #[.slice ac lc.length cc, .slice ao lo.length co] 25 ∧ Below w.heap.size w wr ∧ ∃ (lv : Value) (Ls : List Pf), RefAt wr w.heap.size (w.heap.size + 1) lc (Ls.map ownRw) cv lv ∧ Ls.Perm (lo.take k) ∧ Ls.Pairwise pfLt) (fun i _ => lo.length - (intOf i).toNat)
      case atStart => exact ⟨0, by omega, rfl, rfl, unhide HC, unhide HB, .slice none 0 0, [], unhide HA, List.Perm.refl _, List.Pairwise.nil⟩
      case round =>
        obtain ⟨k, hk, rfl, heq, hC, hb, lv, Ls, hA, hperm, hpw⟩ := hrel
        clear HA HC HB
        have c1 := (hC.cell 1).trans (show _ = some (.slice ao lo.length co) from rfl)
        by_cases hlt : k < lo.length
        · rcases pfSlice_below (unhide HSO) hb with h0 | ⟨g, off, rfl, hpc⟩
          · rw [h0] at hlt; simp at hlt
          · obtain ⟨r0, r1⟩ := hpc k hlt
            have hgl : g < wr.heap.size := World.block_lt_of_cell? wr _ r0
            have hCl : w.heap.size < wr.heap.size := hC.lt
            have hI := IsPrefix_ref lo[k].addr lo[k].len wr (unhide HOK _ (List.getElem_mem hlt))
            have hlen : Ls.length ≤ 20 := by rw [hperm.length_eq, List.length_take]; omega
            have hmem : lo[k] ∈ Ls ↔ lo[k] ∈ lo.take k := hperm.mem_iff
            have hbad := ownAt_bad hlt
            have hgood := ownAt_good hlt
            have htk := List.take_succ_eq_append_getElem hlt
            have hins := ins_own Ls lo[k] hpw
            have HA := hide hA
            have HBW := hide hb
            have HCW := hide hC
            have HEQ := hide heq
            have HPM := hide hperm
            have HBAD := hide hbad
            have HGOOD := hide hgood
            have HTK := hide htk
            have HINS := hide hins
            have HMEM := hide hmem
            have j0 : (0 : Int) ≤ (k : Int) := by omega
            have j1 : (k : Int) < (lo.length : Int) := by omega
            obtain ⟨p, hp⟩ : ∃ p, lo[k] = p := ⟨_, rfl⟩
            rw [hp] at r0 r1 hI HBAD HGOOD HTK HINS HMEM
            clear hp hbad hgood htk hins hA hb hC heq hperm hpw hmem hpc
            obtain ⟨av, cpv, hlv⟩ := ownsRow_slice (unhide HA).rows
            subst hlv
            rw [List.length_map] at HA
            go_wp2_with (go_at_call 110; refine hI.mono ?_; rintro e w1 ⟨rfl, hb1⟩; have c1b := (hb1.cell (p := ⟨w.heap.size, 1, none⟩) hCl).trans c1; have r0b := (hb1.cell (p := ⟨g, _, none⟩) hgl).trans r0; have r1b := (hb1.cell (p := ⟨g, _, none⟩) hgl).trans r1)
            have hA1 := (unhide HA).below hb1
            have hWh := where_any (w.heap.size + 1) p av cpv (Ls.map ownRw) cv w1 (by rw [List.length_map]; omega) (by rw [List.length_map]; exact hA1.blk) (by have h7 := hA1.rows; rw [List.length_map] at h7; exact rwSlice_ownT h7)
            have HA1 := hide hA1
            have hb1w := (unhide HBW).trans (hb1.mono (unhide HBW).size)
            have HB1 := hide hb1w
            have HC1 := hide ((unhide HCW).below hb1 hCl)
            clear hA1 hb1w hb1 HA HBW HCW hI r0 r1 c1
            refine hWh.mono ?_
            rintro e w2 ⟨z, rfl, hz, hg2⟩
            have c1c := hg2.cell c1b
            have r0c := hg2.cell r0b
            have r1c := hg2.cell r1b
            have hg2b : Below w1.heap.size w1 w2 := hg2.below
            have hA2 := (unhide HA1).below hg2b
            have hb2 := (unhide HB1).trans (hg2b.mono (unhide HB1).size)
            have hC2 := (unhide HC1).below hg2b (unhide HC1).lt
            have HB2 := hide hb2
            have HC2 := hide hC2
            have HA2 := hide hA2
            clear hg2 hg2b hA2 hb2 hC2 HA1 HB1 HC1 c1b r0b r1b hWh
            cases hpx : pfxB p.addr p.len with
            | false =>
              have hbad : (costsB lc && ownB lo) = false := by
                rw [ownB, unhide HEQ, unhide HBAD (by rw [hpx]; rfl)]; simp
              have HBF := hide hbad
              clear hbad
              go_wp2
              go_ret
              exact Or.inl ⟨unhide HBF, rfl, unhide HB2⟩
            | true =>
              by_cases hin : p ∈ Ls
              · rcases hz with ⟨rfl, hno⟩ | ⟨i, hi, rfl, _⟩
                · exact absurd rfl (hno (ownRw p) (List.mem_map_of_mem hin))
                · have hbad : (costsB lc && ownB lo) = false := by
                    have hc : (lo.take k).contains p = true := List.contains_iff_mem.2 ((unhide HMEM).1 hin)
                    rw [ownB, unhide HEQ, unhide HBAD (by rw [hpx, hc]; rfl)]; simp
                  have HBF := hide hbad
                  have hi0 : decide ((0 : Int) ≤ (i : Int)) = true := by simp
                  clear hbad
                  go_wp2
                  go_ret
                  exact Or.inl ⟨unhide HBF, rfl, unhide HB2⟩
              · rcases hz with ⟨rfl, _⟩ | ⟨i, hi, rfl, hp⟩
                · have hIn := insert_ref w.heap.size (w.heap.size + 1) lc (Ls.map ownRw) ⟨p.addr, p.len, 0, 1, -1, 0, true⟩ cv _ w2 (unhide HA2) (by rw [List.length_map]; omega)
                  have hIn' := hide hIn
                  have hc : (lo.take k).contains p = false := by
                    cases hq : (lo.take k).contains p with
                    | false => rfl
                    | true => exact absurd ((unhide HMEM).2 (List.contains_iff_mem.1 hq)) hin
                  have HEQ2 := hide ((unhide HEQ).trans (unhide HGOOD (by rw [hpx, hc]; rfl)))
                  have HIS := hide (unhide HINS hin)
                  clear hIn hc hin hpx HEQ HGOOD HINS HBAD HMEM
                  go_wp2_with (go_at_call 112; refine (unhide hIn').mono ?_; rintro e w3 ⟨rfl, lv3, hA3, hg3, _⟩)
                  go_roundw
                  case rel =>
                    obtain ⟨i1, i2, i3⟩ := unhide HIS
                    refine ⟨k + 1, by omega, by go_num, unhide HEQ2, ?_, ?_, lv3, _, by rw [← i1]; exact hA3, ?_, i3⟩
                    · exact (hg3.block _ (unhide HC2).lt (by simp)).trans (unhide HC2)
                    · exact (unhide HB2).grown hg3 (unhide HB2).size (by simp)
                    · rw [unhide HTK]
                      exact (i2.trans (List.Perm.cons p (unhide HPM))).trans (List.perm_append_singleton p _).symm
                  case measure => simp [intOf]; omega
                · have hm : p ∈ Ls := by
                    rw [List.getElem_map] at hp
                    have : Ls[i]'(by simpa using hi) = p := hp
                    exact this ▸ List.getElem_mem _
                  exact absurd hm hin
        · have hkn : k = lo.length := by omega
          subst hkn
          rw [List.take_length, List.drop_length] at heq
          rw [List.take_length] at hperm
          have hfin : (costsB lc && ownB lo) = true := by
            rw [unhide HCB, ownB, heq]
            simp [ownAt]
            omega
          have HFIN := hide (And.intro hfin (And.intro hA (And.intro hperm (And.intro hpw hb))))
          clear hfin hA hperm hpw hb heq
          go_wp2
          go_ret
          obtain ⟨f1, f2, f3, f4, f5⟩ := unhide HFIN
          exact Or.inr ⟨f1, _, cv, lv, Ls, rfl, f2, f3, f4, f5⟩

end Go.Proofs.YtdnpeefnobjfaaaGreatDoor

/- Both routers begin with the same rows. -/
namespace Go.Proofs.YtdnpeefnobjfaaaGreatDoor
open Go.RowKit Go.Shelf

theorem sorted_same {A B : List Pf} (hA : pfSorted A) (hB : B.Pairwise pfLt) (h : A.Perm B) : A = B := by
  induction A generalizing B with
  | nil => exact h.nil_eq
  | cons a A ih =>
    cases B with
    | nil => exact absurd h.length_eq (by simp)
    | cons b B =>
      have hA' := List.pairwise_cons.1 hA
      have hB' := List.pairwise_cons.1 hB
      by_cases e : a = b
      · subst e
        rw [ih hA'.2 hB'.2 ((List.perm_cons a).1 h)]
      · have h1 : a ∈ B := by
          rcases List.mem_cons.1 (h.mem_iff.1 (List.mem_cons_self ..)) with h1 | h1
          · exact absurd h1 e
          · exact h1
        have h2 : b ∈ A := by
          rcases List.mem_cons.1 (h.mem_iff.2 (List.mem_cons_self ..)) with h2 | h2
          · exact absurd h2.symm e
          · exact h2
        exact absurd (hB'.1 a h1) (hA'.1 b h2)
theorem ownAt_fine {pre l : List Pf} (h : ownAt pre l = true) : ∀ p ∈ l, pfxB p.addr p.len = true := by
  induction l generalizing pre with
  | nil => simp
  | cons q l ih =>
    rw [ownAt, Bool.and_eq_true, Bool.and_eq_true] at h
    intro p hp
    rcases List.mem_cons.1 hp with rfl | h2
    · exact h.1.1
    · exact ih h.2 p h2
/-- The table that a router begins with. -/
theorem begins_ok {lo Ls : List Pf} (hb : ownB lo = true) (hok : pfsOk lo) (hp : Ls.Perm lo) (hs : Ls.Pairwise pfLt) : TabOk (Ls.map ownRw) := by
  rw [ownB, Bool.and_eq_true, decide_eq_true_eq] at hb
  exact TabOk.own hs (by rw [hp.length_eq]; omega) (fun p h => ⟨hok p (hp.mem_iff.1 h), ownAt_fine hb.2 p (hp.mem_iff.1 h)⟩)

end Go.Proofs.YtdnpeefnobjfaaaGreatDoor
