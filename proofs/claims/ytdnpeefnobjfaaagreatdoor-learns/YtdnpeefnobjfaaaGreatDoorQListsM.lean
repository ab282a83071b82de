/- The Book's lists: numbers and prefixes read as they were marked. -/
import Derived.Test.YtdnpeefnobjfaaaGreatDoorQColM
import Derived.BigQuiet
namespace Go.Proofs.YtdnpeefnobjfaaaGreatDoor
open Go.RowKit Go.Shelf
attribute [local go_sem ↓] Go.wp_at_zero Go.wp_at_succ

theorem neqPf_run (a l a' l' : Int) (w : World) : (binOp .neq 32 (.agg #[.int .u32 a, .int .i64 l]) (.agg #[.int .u32 a', .int .i64 l'])).run Tryz.prog w = .ok (.bool (!(decide (a = a') && decide (l = l')))) w := by
  rw [run_neq_struct, show (10000 : Nat) = 9998 + 1 + 1 from rfl, eqPf_in]
  rfl
theorem kept_at {κ : Kd} {col : Col} {ca cm : Nat} {ci : Nat → Prop} {w : World} {v vm : Value} {l : List Itm} (h : KeptC κ col ca cm ci w v vm l) :
    ∃ ao cap am capm g gm, v = .slice ao l.length cap ∧ vm = .slice am l.length capm ∧ l.length ≤ 9223372036854775807 ∧ (0 < l.length → ao = some ⟨g, 0, none⟩ ∧ am = some ⟨gm, 0, none⟩) ∧
      ∀ k, (hk : k < l.length) → w.cell? ⟨g, k, none⟩ = some (.slice l[k].a l[k].n l[k].cap) ∧ w.cell? ⟨gm, k, none⟩ = some (.int .i64 l[k].m) := by
  obtain ⟨ao, cap, g, hv, hn, hc⟩ := row_form h.rows.1
  obtain ⟨am, capm, gm, hvm, _, hcm⟩ := row_form h.marks.1
  refine ⟨ao, cap, am, capm, g, gm, hv, hvm, hn, fun h0 => ⟨(hc h0).1, (hcm h0).1⟩, fun k hk => ⟨?_, ?_⟩⟩
  · exact (hc (by omega)).2 k _ (by simp [hk, Itm.val])
  · exact (hcm (by omega)).2 k _ (by simp [hk])

set_option maxRecDepth 100000 in
set_option maxHeartbeats 4000000 in
theorem lists_any (Bk : Nat) (s : Bks) (li lp : List Itm) (col : Col) (a1 a2 b1 b2 : Nat) (a3 b3 : Nat → Prop) (w : World) (hs : s.lies w Bk) (hi : KeptC kdI col a1 a2 a3 w s.i s.im li) (hp : KeptC kdP col b1 b2 b3 w s.p s.pm lp) :
    Calls Tryz.prog 71 #[.pointer (some ⟨Bk, 0, none⟩)] w fun e w' => e = .returned (.bool true) ∧ ∃ d, w' = w.drewN d := by
  obtain ⟨ai, ci, am, cm, gi, gm, hv, hvm, hn, hsome, hcell⟩ := kept_at hi
  obtain ⟨ap, cp, aq, cq, gp, gq, hv2, hvm2, hn2, hsome2, hcell2⟩ := kept_at hp
  have k9 := (Bks.cell hs 9).trans (congrArg some hv)
  have k10 := (Bks.cell hs 10).trans (congrArg some hvm)
  have k11 := (Bks.cell hs 11).trans (congrArg some hv2)
  have k12 := (Bks.cell hs 12).trans (congrArg some hvm2)
  have HS := hide hsome
  have HC := hide hcell
  have HS2 := hide hsome2
  have HC2 := hide hcell2
  have HE := hide hi.each
  have HE2 := hide hp.each
  have HM := hide hi.small
  have HM2 := hide hp.small
  clear hs hi hp hv hvm hv2 hvm2 hsome hcell hsome2 hcell2
  go_enter Tryz.func71, Tryz.ntmps71
  go_wp2_with fail
  go_loopw [3] (fun i wr => ∃ (k d : Nat), k ≤ li.length ∧ i = .int .i64 k ∧ wr = w.drewN d) (fun i _ => li.length - (intOf i).toNat)
  case atStart => exact ⟨0, 0, by omega, rfl, rfl⟩
  case round =>
    obtain ⟨k, d, hk, rfl, rfl⟩ := hrel
    by_cases hlt : k < li.length
    · obtain ⟨e1, e2⟩ := unhide HS (by omega)
      subst e1 e2
      obtain ⟨c1, c2⟩ := unhide HC k hlt
      have hok := unhide HE li[k] (List.getElem_mem hlt)
      have hsm := unhide HM li[k] (List.getElem_mem hlt)
      generalize li[k] = t at *
      obtain ⟨ta, tn, tc, tm⟩ := t
      dsimp only at c1 c2 hsm
      have HOK := hide hok
      have j0 : (0 : Int) ≤ (k : Int) := by omega
      have j1 : (k : Int) < (li.length : Int) := by omega
      clear hok
      go_wp2_with fail
      go_loopw [4] (fun i wr => ∃ (j d : Nat), j ≤ tn ∧ i = .int .i64 j ∧ wr = w.drewN d) (fun i _ => tn - (intOf i).toNat)
      case atStart => exact ⟨0, d, by omega, rfl, rfl⟩
      case round =>
        obtain ⟨j, d2, hj, rfl, rfl⟩ := hrel
        by_cases hlj : j < tn
        · obtain ⟨g, off, ha, hce⟩ := Itm.okK.cell (unhide HOK) (by show 0 < tn; omega)
          have hta : ta = some ⟨g, off, none⟩ := ha
          subst hta
          have r0 : w.cell? ⟨g, off + j, none⟩ = some (.int .i64 tm) := by
            have := hce j hlj 0 (.int .i64 tm) rfl
            simpa [kdI] using this
          have i0 : (0 : Int) ≤ (j : Int) := by omega
          have i1 : (j : Int) < (tn : Int) := by omega
          have hne : (tm != tm) = false := by simp
          clear hce ha
          go_wp2_with fail
          go_quiet (fail)
          go_wp2
          go_roundw
          case rel => exact ⟨j + 1, d2 + _, by omega, by go_num, rfl⟩
          case measure => simp [intOf]; omega
        · have hjn : j = tn := by omega
          subst hjn
          go_wp2
          go_roundw
          case rel => exact ⟨k + 1, d2, by omega, by go_num, rfl⟩
          case measure => simp [intOf]; omega
    · have hkn : k = li.length := by omega
      subst hkn
      go_wp2_with fail
      go_loopw [5] (fun i wr => ∃ (k d : Nat), k ≤ lp.length ∧ i = .int .i64 k ∧ wr = w.drewN d) (fun i _ => lp.length - (intOf i).toNat)
      case atStart => exact ⟨0, d, by omega, rfl, rfl⟩
      case round =>
        obtain ⟨k, d, hk, rfl, rfl⟩ := hrel
        by_cases hlt : k < lp.length
        · obtain ⟨e1, e2⟩ := unhide HS2 (by omega)
          subst e1 e2
          obtain ⟨c1, c2⟩ := unhide HC2 k hlt
          have hok := unhide HE2 lp[k] (List.getElem_mem hlt)
          have hsm := unhide HM2 lp[k] (List.getElem_mem hlt)
          generalize lp[k] = t at *
          obtain ⟨ta, tn, tc, tm⟩ := t
          dsimp only at c1 c2 hsm
          have HOK := hide hok
          have j0 : (0 : Int) ≤ (k : Int) := by omega
          have j1 : (k : Int) < (lp.length : Int) := by omega
          clear hok
          go_wp2_with fail
          go_loopw [6] (fun i wr => ∃ (j d : Nat), j ≤ tn ∧ i = .int .i64 j ∧ wr = w.drewN d) (fun i _ => tn - (intOf i).toNat)
          case atStart => exact ⟨0, d, by omega, rfl, rfl⟩
          case round =>
            obtain ⟨j, d2, hj, rfl, rfl⟩ := hrel
            by_cases hlj : j < tn
            · obtain ⟨g, off, ha, hce⟩ := Itm.okK.cell (unhide HOK) (by show 0 < tn; omega)
              have hta : ta = some ⟨g, off, none⟩ := ha
              subst hta
              have r0 : w.cell? ⟨g, off + j * 2, none⟩ = some (.int .u32 0) := hce j hlj 0 (.int .u32 0) rfl
              have r1 : w.cell? ⟨g, off + j * 2 + 1, none⟩ = some (.int .i64 tm) := hce j hlj 1 (.int .i64 tm) rfl
              have i0 : (0 : Int) ≤ (j : Int) := by omega
              have i1 : (j : Int) < (tn : Int) := by omega
              have hEq : ∀ W : World, (binOp .neq 32 (.agg #[.int .u32 0, .int .i64 tm]) (.agg #[.int .u32 0, .int .i64 tm])).run Tryz.prog W = .ok (.bool false) W := fun W => by
                have h := neqPf_run 0 tm 0 tm W
                simp only [decide_true, Bool.and_self, Bool.not_true] at h
                exact h
              clear hce ha
              go_wp2_with fail
              go_quiet (fail)
              go_wp2
              go_roundw
              case rel => exact ⟨j + 1, d2 + _, by omega, by go_num, rfl⟩
              case measure => simp [intOf]; omega
            · have hjn : j = tn := by omega
              subst hjn
              go_wp2
              go_roundw
              case rel => exact ⟨k + 1, d2, by omega, by go_num, rfl⟩
              case measure => simp [intOf]; omega
        · have hkn : k = lp.length := by omega
          subst hkn
          go_wp2
          go_ret
          exact ⟨rfl, d, rfl⟩

end Go.Proofs.YtdnpeefnobjfaaaGreatDoor

/- Marked elements are not other than themselves: entries, routes, outs. -/
namespace Go.Proofs.YtdnpeefnobjfaaaGreatDoor
open Go.RowKit Go.Shelf

set_option maxRecDepth 100000 in
set_option maxHeartbeats 1000000 in
theorem neqEnt_mark (m : Int) (w : World) : (binOp .neq 42 (.agg #[.int .u32 0, .int .i64 0, .int .i64 m, .int .i64 0]) (.agg #[.int .u32 0, .int .i64 0, .int .i64 m, .int .i64 0])).run Tryz.prog w = .ok (.bool false) w := by
  have u3 := Tryz.underlying3
  have a3 := Tryz.isAgg3
  have z3 := Tryz.sizeOf3
  have aP := Tryz.isAgg32
  have zP := Tryz.sizeOf32
  have hP := eqPf_in 0 0 0 0 9997
  rw [run_neq_struct, show (10000 : Nat) = 9997 + 1 + 1 + 1 from rfl, run_equalIn_agg w (9997 + 1 + 1) 42 _ _ (by kernel_rfl) (by kernel_rfl)]
  simp only [Program.fieldsOf, Tryz.underlying42]
  go_simp
theorem neqRoute_mark (m : Int) (w : World) : (binOp .neq 52 (.agg #[.int .u32 0, .int .i64 0, .int .i64 m, .int .i64 0, .int .i64 0]) (.agg #[.int .u32 0, .int .i64 0, .int .i64 m, .int .i64 0, .int .i64 0])).run Tryz.prog w = .ok (.bool false) w := by
  have h := neqRoute_run ⟨0, 0, m, 0, 0, 0, false⟩ ⟨0, 0, m, 0, 0, 0, false⟩ w
  have e : sameRoute ⟨0, 0, m, 0, 0, 0, false⟩ ⟨0, 0, m, 0, 0, 0, false⟩ = true := by simp [sameRoute]
  rw [e] at h
  exact h
set_option maxRecDepth 100000 in
set_option maxHeartbeats 1000000 in
theorem neqOut_mark (m : Int) (w : World) : (binOp .neq 64 (.agg #[.int .i64 m, .string ⟨#[]⟩]) (.agg #[.int .i64 m, .string ⟨#[]⟩])).run Tryz.prog w = .ok (.bool false) w := by
  have u3 := Tryz.underlying3
  have a3 := Tryz.isAgg3
  have z3 := Tryz.sizeOf3
  have u4 := Tryz.underlying9
  have a4 := Tryz.isAgg9
  have z4 := Tryz.sizeOf9
  rw [run_neq_struct, show (10000 : Nat) = 9998 + 1 + 1 from rfl, run_equalIn_agg w (9998 + 1) 64 _ _ (by kernel_rfl) (by kernel_rfl)]
  simp only [Program.fieldsOf, Tryz.underlying64]
  go_simp

end Go.Proofs.YtdnpeefnobjfaaaGreatDoor

/- The Book's looks, of all kinds, behind back. -/
namespace Go.Proofs.YtdnpeefnobjfaaaGreatDoor
open Go.RowKit Go.Shelf
attribute [local go_sem ↓] Go.wp_at_zero Go.wp_at_succ

set_option maxRecDepth 100000 in
set_option maxHeartbeats 8000000 in
theorem looks_behind (Bk : Nat) (s : Bks) (le lr lo li lp : List Itm) (col : Col) (a1 a2 b1 b2 c1 c2 d1 d2 e1 e2 : Nat) (a3 b3 c3 d3 e3 : Nat → Prop) (w0 : World) (P : World → Prop) (hback : Calls Tryz.prog 70 #[.pointer (some ⟨Bk, 0, none⟩)] w0 fun e w' => e = .returned (.bool true) ∧ P w')
    (hf : ∀ w, P w → s.lies w Bk ∧ KeptC kdE col a1 a2 a3 w s.e s.em le ∧ KeptC kdR col b1 b2 b3 w s.r s.rm lr ∧ KeptC kdO col c1 c2 c3 w s.o s.om lo ∧ KeptC kdI col d1 d2 d3 w s.i s.im li ∧ KeptC kdP col e1 e2 e3 w s.p s.pm lp) :
    Calls Tryz.prog 31 #[.pointer (some ⟨Bk, 0, none⟩)] w0 fun e w' => e = .returned (.bool true) ∧ ∃ w d, P w ∧ w' = w.drewN d := by
  have HF := hide hf
  clear hf
  go_enter Tryz.func31, Tryz.ntmps31
  go_wp2_with (go_at_call 70; refine hback.mono ?_; rintro e w ⟨rfl, hPw⟩; have HPW := hide hPw; clear hPw)
  obtain ⟨hs, he, hr, ho, hi, hp⟩ := unhide HF w (unhide HPW)
  obtain ⟨ai, ci, am, cm, gi, gm, hv, hvm, hn, hsome, hcell⟩ := kept_at he
  obtain ⟨ap, cp, aq, cq, gp, gq, hv2, hvm2, hn2, hsome2, hcell2⟩ := kept_at hr
  obtain ⟨ax, cx, ay, cy, gx, gy, hv3, hvm3, hn3, hsome3, hcell3⟩ := kept_at ho
  have k1 := (Bks.cell hs 1).trans (congrArg some hv)
  have k2 := (Bks.cell hs 2).trans (congrArg some hvm)
  have k3 := (Bks.cell hs 3).trans (congrArg some hv2)
  have k4 := (Bks.cell hs 4).trans (congrArg some hvm2)
  have k5 := (Bks.cell hs 5).trans (congrArg some hv3)
  have k6 := (Bks.cell hs 6).trans (congrArg some hvm3)
  have HS1 := hide hsome
  have HC1 := hide hcell
  have HS2 := hide hsome2
  have HC2 := hide hcell2
  have HS3 := hide hsome3
  have HC3 := hide hcell3
  have HE1 := hide he.each
  have HE2 := hide hr.each
  have HE3 := hide ho.each
  have HM1 := hide he.small
  have HM2 := hide hr.small
  have HM3 := hide ho.small
  have HLIST := hide (fun d => lists_any Bk s li lp (paint col w.heap.size 0) d1 d2 e1 e2 d3 e3 (w.drewN d) (Bks.keep hs rfl) (hi.turn (C := fun _ => False) (Turns.below 0 ((Grows.refl w).drewN d).below) id id (fun _ _ => id)) (hp.turn (C := fun _ => False) (Turns.below 0 ((Grows.refl w).drewN d).below) id id (fun _ _ => id)))
  clear HF hs he hr ho hi hp hv hvm hv2 hvm2 hv3 hvm3 hsome hcell hsome2 hcell2 hsome3 hcell3
  go_loopw [4] (fun i wr => ∃ (k d : Nat), k ≤ le.length ∧ i = .int .i64 k ∧ wr = w.drewN d) (fun i _ => le.length - (intOf i).toNat)
  case atStart => exact ⟨0, 0, by omega, rfl, rfl⟩
  case round =>
    obtain ⟨k, d, hk, rfl, rfl⟩ := hrel
    by_cases hlt : k < le.length
    · obtain ⟨e1, e2⟩ := unhide HS1 (by omega)
      subst e1 e2
      obtain ⟨c1, c2⟩ := unhide HC1 k hlt
      have hok := unhide HE1 le[k] (List.getElem_mem hlt)
      have hsm := unhide HM1 le[k] (List.getElem_mem hlt)
      generalize le[k] = t at *
      obtain ⟨ta, tn, tc, tm⟩ := t
      dsimp only at c1 c2 hsm
      have HOK := hide hok
      have j0 : (0 : Int) ≤ (k : Int) := by omega
      have j1 : (k : Int) < (le.length : Int) := by omega
      clear hok
      go_wp2_with fail
      go_loopw [5] (fun i wr => ∃ (j d : Nat), j ≤ tn ∧ i = .int .i64 j ∧ wr = w.drewN d) (fun i _ => tn - (intOf i).toNat)
      case atStart => exact ⟨0, d, by omega, rfl, rfl⟩
      case round =>
        obtain ⟨j, d2, hj, rfl, rfl⟩ := hrel
        by_cases hlj : j < tn
        · obtain ⟨g, off, ha, hce⟩ := Itm.okK.cell (unhide HOK) (by show 0 < tn; omega)
          have hta : ta = some ⟨g, off, none⟩ := ha
          subst hta
          have r0 : w.cell? ⟨g, off + j * 4, none⟩ = some (.int .u32 0) := hce j hlj 0 (.int .u32 0) rfl
          have r1 : w.cell? ⟨g, off + j * 4 + 1, none⟩ = some (.int .i64 0) := hce j hlj 1 (.int .i64 0) rfl
          have r2 : w.cell? ⟨g, off + j * 4 + 2, none⟩ = some (.int .i64 tm) := hce j hlj 2 (.int .i64 tm) rfl
          have r3 : w.cell? ⟨g, off + j * 4 + 3, none⟩ = some (.int .i64 0) := hce j hlj 3 (.int .i64 0) rfl
          have i0 : (0 : Int) ≤ (j : Int) := by omega
          have i1 : (j : Int) < (tn : Int) := by omega
          have hEq := neqEnt_mark tm
          clear hce ha
          go_wp2_with fail
          go_quiet (fail)
          go_wp2
          go_roundw
          case rel => exact ⟨j + 1, d2 + _, by omega, by go_num, rfl⟩
          case measure => simp [intOf]; omega
        · have hjn : j = tn := by omega
          subst hjn
          go_wp2
          go_roundw
          case rel => exact ⟨k + 1, d2, by omega, by go_num, rfl⟩
          case measure => simp [intOf]; omega
    · have hkn : k = le.length := by omega
      subst hkn
      go_wp2_with fail
      go_loopw [6] (fun i wr => ∃ (k d : Nat), k ≤ lr.length ∧ i = .int .i64 k ∧ wr = w.drewN d) (fun i _ => lr.length - (intOf i).toNat)
      case atStart => exact ⟨0, d, by omega, rfl, rfl⟩
      case round =>
        obtain ⟨k, d, hk, rfl, rfl⟩ := hrel
        by_cases hlt : k < lr.length
        · obtain ⟨e1, e2⟩ := unhide HS2 (by omega)
          subst e1 e2
          obtain ⟨c1, c2⟩ := unhide HC2 k hlt
          have hok := unhide HE2 lr[k] (List.getElem_mem hlt)
          have hsm := unhide HM2 lr[k] (List.getElem_mem hlt)
          generalize lr[k] = t at *
          obtain ⟨ta, tn, tc, tm⟩ := t
          dsimp only at c1 c2 hsm
          have HOK := hide hok
          have j0 : (0 : Int) ≤ (k : Int) := by omega
          have j1 : (k : Int) < (lr.length : Int) := by omega
          clear hok
          go_wp2_with fail
          go_loopw [7] (fun i wr => ∃ (j d : Nat), j ≤ tn ∧ i = .int .i64 j ∧ wr = w.drewN d) (fun i _ => tn - (intOf i).toNat)
          case atStart => exact ⟨0, d, by omega, rfl, rfl⟩
          case round =>
            obtain ⟨j, d2, hj, rfl, rfl⟩ := hrel
            by_cases hlj : j < tn
            · obtain ⟨g, off, ha, hce⟩ := Itm.okK.cell (unhide HOK) (by show 0 < tn; omega)
              have hta : ta = some ⟨g, off, none⟩ := ha
              subst hta
              have r0 : w.cell? ⟨g, off + j * 5, none⟩ = some (.int .u32 0) := hce j hlj 0 (.int .u32 0) rfl
              have r1 : w.cell? ⟨g, off + j * 5 + 1, none⟩ = some (.int .i64 0) := hce j hlj 1 (.int .i64 0) rfl
              have r2 : w.cell? ⟨g, off + j * 5 + 2, none⟩ = some (.int .i64 tm) := hce j hlj 2 (.int .i64 tm) rfl
              have r3 : w.cell? ⟨g, off + j * 5 + 3, none⟩ = some (.int .i64 0) := hce j hlj 3 (.int .i64 0) rfl
              have r4 : w.cell? ⟨g, off + j * 5 + 4, none⟩ = some (.int .i64 0) := hce j hlj 4 (.int .i64 0) rfl
              have i0 : (0 : Int) ≤ (j : Int) := by omega
              have i1 : (j : Int) < (tn : Int) := by omega
              have hEq := neqRoute_mark tm
              clear hce ha
              go_wp2_with fail
              go_quiet (fail)
              go_wp2
              go_roundw
              case rel => exact ⟨j + 1, d2 + _, by omega, by go_num, rfl⟩
              case measure => simp [intOf]; omega
            · have hjn : j = tn := by omega
              subst hjn
              go_wp2
              go_roundw
              case rel => exact ⟨k + 1, d2, by omega, by go_num, rfl⟩
              case measure => simp [intOf]; omega
        · have hkn : k = lr.length := by omega
          subst hkn
          go_wp2_with fail
          go_loopw [8] (fun i wr => ∃ (k d : Nat), k ≤ lo.length ∧ i = .int .i64 k ∧ wr = w.drewN d) (fun i _ => lo.length - (intOf i).toNat)
          case atStart => exact ⟨0, d, by omega, rfl, rfl⟩
          case round =>
            obtain ⟨k, d, hk, rfl, rfl⟩ := hrel
            by_cases hlt : k < lo.length
            · obtain ⟨e1, e2⟩ := unhide HS3 (by omega)
              subst e1 e2
              obtain ⟨c1, c2⟩ := unhide HC3 k hlt
              have hok := unhide HE3 lo[k] (List.getElem_mem hlt)
              have hsm := unhide HM3 lo[k] (List.getElem_mem hlt)
              generalize lo[k] = t at *
              obtain ⟨ta, tn, tc, tm⟩ := t
              dsimp only at c1 c2 hsm
              have HOK := hide hok
              have j0 : (0 : Int) ≤ (k : Int) := by omega
              have j1 : (k : Int) < (lo.length : Int) := by omega
              clear hok
              go_wp2_with fail
              go_loopw [9] (fun i wr => ∃ (j d : Nat), j ≤ tn ∧ i = .int .i64 j ∧ wr = w.drewN d) (fun i _ => tn - (intOf i).toNat)
              case atStart => exact ⟨0, d, by omega, rfl, rfl⟩
              case round =>
                obtain ⟨j, d2, hj, rfl, rfl⟩ := hrel
                by_cases hlj : j < tn
                · obtain ⟨g, off, ha, hce⟩ := Itm.okK.cell (unhide HOK) (by show 0 < tn; omega)
                  have hta : ta = some ⟨g, off, none⟩ := ha
                  subst hta
                  have r0 : w.cell? ⟨g, off + j * 2, none⟩ = some (.int .i64 tm) := hce j hlj 0 (.int .i64 tm) rfl
                  have r1 : w.cell? ⟨g, off + j * 2 + 1, none⟩ = some (.string ⟨#[]⟩) := hce j hlj 1 (.string ⟨#[]⟩) rfl
                  have i0 : (0 : Int) ≤ (j : Int) := by omega
                  have i1 : (j : Int) < (tn : Int) := by omega
                  have hEq := neqOut_mark tm
                  clear hce ha
                  go_wp2_with fail
                  go_quiet (fail)
                  go_wp2
                  go_roundw
                  case rel => exact ⟨j + 1, d2 + _, by omega, by go_num, rfl⟩
                  case measure => simp [intOf]; omega
                · have hjn : j = tn := by omega
                  subst hjn
                  go_wp2
                  go_roundw
                  case rel => exact ⟨k + 1, d2, by omega, by go_num, rfl⟩
                  case measure => simp [intOf]; omega
            · have hkn : k = lo.length := by omega
              subst hkn
              have hL := unhide HLIST d
              go_wp2_with (go_at_call 71; refine hL.mono ?_; rintro e w9 ⟨rfl, d9, rfl⟩)
              go_ret
              exact ⟨rfl, w, d + d9, unhide HPW, by first | rfl | simp [World.drewN, Nat.add_assoc] | simp [Nat.add_assoc]⟩

/-- Where nothing is lent: only the Book's own block turns. -/
theorem looks_nil {I : Nat → Prop} {Bk : Nat} {s : Bks} {le lr lo li lp : List Itm} {col : Col} {w0 : World} (h : BookC I col w0 Bk s le lr lo li lp) (hI : ∀ x, I x → x ≠ 1) :
    Calls Tryz.prog 31 #[.pointer (some ⟨Bk, 0, none⟩)] w0 fun e w' => e = .returned (.bool true) ∧ BookC I (paint col w0.heap.size 1) w' Bk s le lr lo li lp ∧ Turns (· = 1) col (paint col w0.heap.size 1) w0 w' := by
  have hse : ({ s with l := nl, wa := nl } : Bks) = s := by
    have hl := h.lent
    have hwa := h.was
    cases s
    simp only at hl hwa
    subst hl hwa
    rfl
  have hb := back_nil Bk s w0 h.lies h.lent h.was
  rw [hse] at hb
  have hall : ∀ w, (s.lies w Bk ∧ w0.grownBy w (some Bk)) → BookC I (paint col w0.heap.size 1) w Bk s le lr lo li lp ∧ Turns (· = 1) col (paint col w0.heap.size 1) w0 w := fun w ⟨h1, h2⟩ => by
    have ht : Turns (· = 1) col (paint col w0.heap.size 1) w0 w := Turns.grown 1 h2 (fun k hk => by simp at hk; subst hk; exact h.hue)
    refine ⟨⟨h1, (paint_old (Bks.lt h.lies)).trans h.hue, h.lent, h.was, h.ent.turn ht ?_ ?_ ?_, h.rou.turn ht ?_ ?_ ?_, h.out.turn ht ?_ ?_ ?_, h.int.turn ht ?_ ?_ ?_, h.pfx.turn ht ?_ ?_ ?_⟩, ht⟩ <;> first | decide | exact hI
  refine (looks_behind Bk s le lr lo li lp (paint col w0.heap.size 1) 20 21 22 23 24 25 26 27 28 29 I I I I I w0 (fun w => s.lies w Bk ∧ w0.grownBy w (some Bk)) hb (fun w hw => ?_)).mono fun e w' ⟨h1, w, d, hw, h4⟩ => ?_
  · have hB := (hall w hw).1
    exact ⟨hB.lies, hB.ent, hB.rou, hB.out, hB.int, hB.pfx⟩
  · obtain ⟨hB, ht⟩ := hall w hw
    subst h4
    have ht2 : Turns (· = 1) col (paint col w0.heap.size 1) w0 (w.drewN d) := ⟨ht.os, ht.tape, ht.output, ht.size, ht.keep, ht.hue⟩
    exact ⟨h1, hB.turn (C := fun _ => False) (col' := paint col w0.heap.size 1) ⟨rfl, rfl, rfl, Nat.le_refl _, fun _ _ _ => rfl, fun _ _ => rfl⟩ id (fun _ _ _ => id) (fun _ _ => id), ht2⟩

end Go.Proofs.YtdnpeefnobjfaaaGreatDoor
