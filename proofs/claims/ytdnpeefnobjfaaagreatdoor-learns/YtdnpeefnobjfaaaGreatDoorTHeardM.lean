/- What becomes of a row that hears news: retold, isWorseThan, heard. -/
import Derived.Test.YtdnpeefnobjfaaaGreatDoorRStartM
import Derived.Laws.StructEq
import Derived.Test.YtdnpeefnobjfaaaGreatDoorRCostM
namespace Go.Proofs.YtdnpeefnobjfaaaGreatDoor
open Go.RowKit Go.Shelf Go.Sort
attribute [local go_sem ↓] Go.wp_at_zero Go.wp_at_succ

theorem outBlk2 (w : World) (cs : Array Value) (t : TypeId) (cs2 : Array Value) (t2 : TypeId) (zs : Array Value) (u : TypeId) : Blk (((w.alloc (.cells cs t)).alloc (.cells cs2 t2)).alloc (.cells zs u)) (w.heap.size + 1 + 1) zs u := by
  have := Blk.new ((w.alloc (.cells cs t)).alloc (.cells cs2 t2)) zs u
  simpa only [World.size_alloc] using this
theorem midBlk (w : World) (cs : Array Value) (t : TypeId) (cs2 : Array Value) (t2 : TypeId) : Blk ((w.alloc (.cells cs t)).alloc (.cells cs2 t2)) (w.heap.size + 1) cs2 t2 := by
  have := Blk.new (w.alloc (.cells cs t)) cs2 t2
  simpa only [World.size_alloc] using this

set_option maxHeartbeats 1000000 in
theorem worse_any (r n : Rw) (w : World) :
    Calls Tryz.prog 193 #[.agg #[.int .u32 r.addr, .int .i64 r.len, .int .i64 r.tag, .int .i64 r.met, .int .i64 r.frm, .int .i64 r.age, .bool r.chg], .agg #[.int .u32 n.addr, .int .i64 n.len, .int .i64 n.tag, .int .i64 n.met, .int .i64 n.frm]] w fun e w' => e = .returned (.bool (rwWorse r n)) ∧ Grows w w' := by
  have bR := hide ((Blk.new w #[.int .u32 r.addr, .int .i64 r.len, .int .i64 r.tag, .int .i64 r.met, .int .i64 r.frm, .int .i64 r.age, .bool r.chg] 137).alloc (.cells #[.int .u32 n.addr, .int .i64 n.len, .int .i64 n.tag, .int .i64 n.met, .int .i64 n.frm] 52))
  have hD := fun W => isDying_any r W
  by_cases hm : n.met = r.met
  · by_cases h16 : r.met = 16
    · have hv : Hid (rwWorse r n = false) := by show rwWorse r n = _; simp [rwWorse, hm, h16]
      have hd : decide (r.met = 16) = true := by simp [h16]
      have he : (n.met == r.met) = true := by simp [hm]
      clear hm h16
      simp only [hd] at hD
      go_enter Tryz.func193, Tryz.ntmps193
      go_wp2_with (go_at_call 103; refine (hD _).mono ?_; rintro e w1 ⟨rfl, hg⟩)
      go_ret
      exact ⟨ret_bool hv.out.symm, (((Grows.refl w).alloc _).alloc _).trans hg⟩
    · have hv : Hid (rwWorse r n = decide (90 ≤ r.age)) := by show rwWorse r n = _; simp [rwWorse, hm, h16]
      have hd : decide (r.met = 16) = false := by simp [h16]
      have he : (n.met == r.met) = true := by simp [hm]
      clear hm h16
      simp only [hd] at hD
      go_enter Tryz.func193, Tryz.ntmps193
      go_wp2_with (go_at_call 103; refine (hD _).mono ?_; rintro e w1 ⟨rfl, hg⟩; have bR1 := (unhide bR).grows hg; have s5 := bR1.cell 5)
      go_ret
      exact ⟨ret_bool hv.out.symm, (((Grows.refl w).alloc _).alloc _).trans hg⟩
  · have hv : Hid (rwWorse r n = decide (n.met < r.met)) := by show rwWorse r n = _; simp [rwWorse, hm]
    have he : (n.met == r.met) = false := by simp [hm]
    clear hm
    go_enter Tryz.func193, Tryz.ntmps193
    go_wp2
    go_ret
    exact ⟨ret_bool hv.out.symm, ((Grows.refl w).alloc _).alloc _⟩

set_option maxRecDepth 100000 in
set_option maxHeartbeats 1000000 in
theorem eqPf_in (a l a' l' : Int) (d : Nat) (w : World) : (Op.equalIn (d + 1 + 1) 32 (.agg #[.int .u32 a, .int .i64 l]) (.agg #[.int .u32 a', .int .i64 l'])).run Tryz.prog w = .ok (decide (a = a') && decide (l = l')) w := by
  have u3 := Tryz.underlying3
  have a3 := Tryz.isAgg3
  have z3 := Tryz.sizeOf3
  have u4 := Tryz.underlying30
  have a4 := Tryz.isAgg30
  have z4 := Tryz.sizeOf30
  rw [run_equalIn_agg w (d + 1) 32 _ _ (by kernel_rfl) (by kernel_rfl)]
  simp only [Program.fieldsOf, Tryz.underlying32]
  go_simp
  by_cases h1 : a = a' <;> by_cases h2 : l = l' <;> simp [h1, h2]

set_option maxRecDepth 100000 in
set_option maxHeartbeats 1000000 in
/-- Are two routes not the same? -/
theorem neqRoute_run (r n : Rw) (w : World) : (binOp .neq 52 (.agg #[.int .u32 r.addr, .int .i64 r.len, .int .i64 r.tag, .int .i64 r.met, .int .i64 r.frm]) (.agg #[.int .u32 n.addr, .int .i64 n.len, .int .i64 n.tag, .int .i64 n.met, .int .i64 n.frm])).run Tryz.prog w = .ok (.bool (!(sameRoute r n))) w := by
  have u3 := Tryz.underlying3
  have a3 := Tryz.isAgg3
  have z3 := Tryz.sizeOf3
  have aP := Tryz.isAgg32
  have zP := Tryz.sizeOf32
  have hP := eqPf_in r.addr r.len n.addr n.len 9997
  rw [run_neq_struct, show (10000 : Nat) = 9997 + 1 + 1 + 1 from rfl, run_equalIn_agg w (9997 + 1 + 1) 52 _ _ (by kernel_rfl) (by kernel_rfl)]
  simp only [Program.fieldsOf, Tryz.underlying52]
  go_simp
  by_cases h1 : r.addr = n.addr <;> by_cases h2 : r.len = n.len <;> by_cases h3 : r.tag = n.tag <;> by_cases h4 : r.met = n.met <;> by_cases h5 : r.frm = n.frm <;> simp [sameRoute, h1, h2, h3, h4, h5]

set_option maxRecDepth 100000 in
set_option maxHeartbeats 2000000 in
theorem retold_any (r n : Rw) (w : World) :
    Calls Tryz.prog 192 #[.agg #[.int .u32 r.addr, .int .i64 r.len, .int .i64 r.tag, .int .i64 r.met, .int .i64 r.frm, .int .i64 r.age, .bool r.chg], .agg #[.int .u32 n.addr, .int .i64 n.len, .int .i64 n.tag, .int .i64 n.met, .int .i64 n.frm]] w fun e w' => e = .returned (.agg #[.int .u32 (rwRetold r n).addr, .int .i64 (rwRetold r n).len, .int .i64 (rwRetold r n).tag, .int .i64 (rwRetold r n).met, .int .i64 (rwRetold r n).frm, .int .i64 (rwRetold r n).age, .bool (rwRetold r n).chg]) ∧ Grows w w' := by
  have HO := hide (outBlk2 w #[.int .u32 r.addr, .int .i64 r.len, .int .i64 r.tag, .int .i64 r.met, .int .i64 r.frm, .int .i64 r.age, .bool r.chg] 137 #[.int .u32 n.addr, .int .i64 n.len, .int .i64 n.tag, .int .i64 n.met, .int .i64 n.frm] 52 #[.int .u32 0, .int .i64 0, .int .i64 0, .int .i64 0, .int .i64 0, .int .i64 0, .bool false] 137)
  by_cases hm : n.met = 16
  · have hv : rwRetold r n = rwLost r := by simp [rwRetold, hm]
    rw [hv]
    have hL := fun W => lost_any r W
    generalize rwLost r = r2 at hL ⊢
    have he : (n.met == 16) = true := by simp [hm]
    clear hm hv
    go_enter Tryz.func192, Tryz.ntmps192
    go_wp2_with (go_at_call 109; refine (hL _).mono ?_; rintro e w1 ⟨rfl, hg⟩; have bO1 := (unhide HO).grows hg; have s0 := bO1.cell 0; have s1 := bO1.cell 1; have s2 := bO1.cell 2; have s3 := bO1.cell 3; have s4 := bO1.cell 4; have s5 := bO1.cell 5; have s6 := bO1.cell 6; have z0 := bO1.frozen 0; have z1 := bO1.frozen 1; have z2 := bO1.frozen 2; have z3 := bO1.frozen 3; have z4 := bO1.frozen 4; have z5 := bO1.frozen 5; have z6 := bO1.frozen 6)
    have bF := (((((((bO1.set 0 (.int .u32 r2.addr)).set 1 (.int .i64 r2.len)).set 2 (.int .i64 r2.tag)).set 3 (.int .i64 r2.met)).set 4 (.int .i64 r2.frm)).set 5 (.int .i64 r2.age)).set 6 (.bool r2.chg))
    have t0 := bF.cell 0
    have t1 := bF.cell 1
    have t2 := bF.cell 2
    have t3 := bF.cell 3
    have t4 := bF.cell 4
    have t5 := bF.cell 5
    have t6 := bF.cell 6
    simp at t0 t1 t2 t3 t4 t5 t6
    refine bodyPost_ret (v := .agg #[.int .u32 r2.addr, .int .i64 r2.len, .int .i64 r2.tag, .int .i64 r2.met, .int .i64 r2.frm, .int .i64 r2.age, .bool r2.chg]) (by simp [results, Tryz.results192, go_sem, t0, t1, t2, t3, t4, t5, t6]) rfl ⟨?_, ((((((((((((Grows.refl w).alloc _).alloc _).alloc _).trans hg).setCell (by simp <;> omega) _).setCell (by simp <;> omega) _).setCell (by simp <;> omega) _).setCell (by simp <;> omega) _).setCell (by simp <;> omega) _).setCell (by simp <;> omega) _).setCell (by simp <;> omega) _)⟩
    rfl
  · have he : (n.met == 16) = false := by simp [hm]
    cases hc : r.chg with
    | true =>
      have hv : rwRetold r n = { n with age := 0, chg := true } := by simp [rwRetold, hm, hc]
      rw [hv]
      clear hm hv
      go_enter Tryz.func192, Tryz.ntmps192
      go_wp2_with fail
      go_region
      go_wp2
      exact bodyPost_ret (v := .agg #[.int .u32 n.addr, .int .i64 n.len, .int .i64 n.tag, .int .i64 n.met, .int .i64 n.frm, .int .i64 0, .bool true]) (by simp [results, Tryz.results192, go_sem]) rfl ⟨rfl, ((((Grows.refl w).alloc _).alloc _).alloc _).drew⟩
    | false =>
      have hv : rwRetold r n = { n with age := 0, chg := !(sameRoute r n) } := by simp [rwRetold, hm, hc]
      rw [hv]
      have hq := neqRoute_run r n
      generalize (!(sameRoute r n)) = q at hq ⊢
      clear hm hv
      go_enter Tryz.func192, Tryz.ntmps192
      go_wp2_with fail
      go_region
      go_wp2
      exact bodyPost_ret (v := .agg #[.int .u32 n.addr, .int .i64 n.len, .int .i64 n.tag, .int .i64 n.met, .int .i64 n.frm, .int .i64 0, .bool q]) (by simp [results, Tryz.results192, go_sem]) rfl ⟨rfl, ((((Grows.refl w).alloc _).alloc _).alloc _).drew⟩

set_option maxRecDepth 100000 in
set_option maxHeartbeats 2000000 in
theorem heard_any (r n : Rw) (w : World) :
    Calls Tryz.prog 148 #[.agg #[.int .u32 r.addr, .int .i64 r.len, .int .i64 r.tag, .int .i64 r.met, .int .i64 r.frm, .int .i64 r.age, .bool r.chg], .agg #[.int .u32 n.addr, .int .i64 n.len, .int .i64 n.tag, .int .i64 n.met, .int .i64 n.frm]] w fun e w' => e = .returned (.agg #[.int .u32 (rwHeard r n).addr, .int .i64 (rwHeard r n).len, .int .i64 (rwHeard r n).tag, .int .i64 (rwHeard r n).met, .int .i64 (rwHeard r n).frm, .int .i64 (rwHeard r n).age, .bool (rwHeard r n).chg]) ∧ Grows w w' := by
  have bR := hide (((Blk.new w #[.int .u32 r.addr, .int .i64 r.len, .int .i64 r.tag, .int .i64 r.met, .int .i64 r.frm, .int .i64 r.age, .bool r.chg] 137).alloc (.cells #[.int .u32 n.addr, .int .i64 n.len, .int .i64 n.tag, .int .i64 n.met, .int .i64 n.frm] 52)).alloc (.cells #[.int .u32 0, .int .i64 0, .int .i64 0, .int .i64 0, .int .i64 0, .int .i64 0, .bool false] 137))
  have bN := hide ((midBlk w #[.int .u32 r.addr, .int .i64 r.len, .int .i64 r.tag, .int .i64 r.met, .int .i64 r.frm, .int .i64 r.age, .bool r.chg] 137 #[.int .u32 n.addr, .int .i64 n.len, .int .i64 n.tag, .int .i64 n.met, .int .i64 n.frm] 52).alloc (.cells #[.int .u32 0, .int .i64 0, .int .i64 0, .int .i64 0, .int .i64 0, .int .i64 0, .bool false] 137))
  have HO := hide (outBlk2 w #[.int .u32 r.addr, .int .i64 r.len, .int .i64 r.tag, .int .i64 r.met, .int .i64 r.frm, .int .i64 r.age, .bool r.chg] 137 #[.int .u32 n.addr, .int .i64 n.len, .int .i64 n.tag, .int .i64 n.met, .int .i64 n.frm] 52 #[.int .u32 0, .int .i64 0, .int .i64 0, .int .i64 0, .int .i64 0, .int .i64 0, .bool false] 137)
  have hD := fun W => isOwn_any r W
  by_cases hm : r.frm = -1
  · have hv : rwHeard r n = r := by simp [rwHeard, hm]
    rw [hv]
    have hd : decide (r.frm = -1) = true := by simp [hm]
    clear hm hv
    simp only [hd] at hD
    go_enter Tryz.func148, Tryz.ntmps148
    go_wp2_with (go_at_call 150; refine (hD _).mono ?_; rintro e w1 ⟨rfl, hg⟩; have bR1 := (unhide bR).grows hg; have bN1 := (unhide bN).grows hg; have bO1 := (unhide HO).grows hg; have a0 := bR1.cell 0; have a1 := bR1.cell 1; have a2 := bR1.cell 2; have a3 := bR1.cell 3; have a4 := bR1.cell 4; have a5 := bR1.cell 5; have a6 := bR1.cell 6; have n0 := bN1.cell 0; have n1 := bN1.cell 1; have n2 := bN1.cell 2; have n3 := bN1.cell 3; have n4 := bN1.cell 4; have s0 := bO1.cell 0; have s1 := bO1.cell 1; have s2 := bO1.cell 2; have s3 := bO1.cell 3; have s4 := bO1.cell 4; have s5 := bO1.cell 5; have s6 := bO1.cell 6; have z0 := bO1.frozen 0; have z1 := bO1.frozen 1; have z2 := bO1.frozen 2; have z3 := bO1.frozen 3; have z4 := bO1.frozen 4; have z5 := bO1.frozen 5; have z6 := bO1.frozen 6)
    have bF := (((((((bO1.set 0 (.int .u32 r.addr)).set 1 (.int .i64 r.len)).set 2 (.int .i64 r.tag)).set 3 (.int .i64 r.met)).set 4 (.int .i64 r.frm)).set 5 (.int .i64 r.age)).set 6 (.bool r.chg))
    have t0 := bF.cell 0
    have t1 := bF.cell 1
    have t2 := bF.cell 2
    have t3 := bF.cell 3
    have t4 := bF.cell 4
    have t5 := bF.cell 5
    have t6 := bF.cell 6
    simp at t0 t1 t2 t3 t4 t5 t6
    refine bodyPost_ret (v := .agg #[.int .u32 r.addr, .int .i64 r.len, .int .i64 r.tag, .int .i64 r.met, .int .i64 r.frm, .int .i64 r.age, .bool r.chg]) (by simp [results, Tryz.results148, go_sem, t0, t1, t2, t3, t4, t5, t6]) rfl ⟨?_, ((((((((((((Grows.refl w).alloc _).alloc _).alloc _).trans hg).setCell (by simp <;> omega) _).setCell (by simp <;> omega) _).setCell (by simp <;> omega) _).setCell (by simp <;> omega) _).setCell (by simp <;> omega) _).setCell (by simp <;> omega) _).setCell (by simp <;> omega) _)⟩
    rfl
  · have hd : decide (r.frm = -1) = false := by simp [hm]
    simp only [hd] at hD
    by_cases hf : r.frm = n.frm
    · have hv : rwHeard r n = rwRetold r n := by unfold rwHeard; rw [if_neg hm, if_pos hf]
      rw [hv]
      have he : (r.frm == n.frm) = true := by simp [hf]
      have hL := fun W => retold_any r n W
      generalize rwRetold r n = r2 at hL ⊢
      clear hm hv hf hd
      go_enter Tryz.func148, Tryz.ntmps148
      go_wp2_with (first | (go_at_call 150; refine (hD _).mono ?_; rintro e w1 ⟨rfl, hg⟩; have bR1 := (unhide bR).grows hg; have bN1 := (unhide bN).grows hg; have bO1 := (unhide HO).grows hg; have a0 := bR1.cell 0; have a1 := bR1.cell 1; have a2 := bR1.cell 2; have a3 := bR1.cell 3; have a4 := bR1.cell 4; have a5 := bR1.cell 5; have a6 := bR1.cell 6; have n0 := bN1.cell 0; have n1 := bN1.cell 1; have n2 := bN1.cell 2; have n3 := bN1.cell 3; have n4 := bN1.cell 4) | (go_at_call 192; refine (hL _).mono ?_; rintro e w2 ⟨rfl, hg2⟩; have bO2 := bO1.grows hg2; have s0 := bO2.cell 0; have s1 := bO2.cell 1; have s2 := bO2.cell 2; have s3 := bO2.cell 3; have s4 := bO2.cell 4; have s5 := bO2.cell 5; have s6 := bO2.cell 6; have z0 := bO2.frozen 0; have z1 := bO2.frozen 1; have z2 := bO2.frozen 2; have z3 := bO2.frozen 3; have z4 := bO2.frozen 4; have z5 := bO2.frozen 5; have z6 := bO2.frozen 6))
      have bF := (((((((bO2.set 0 (.int .u32 r2.addr)).set 1 (.int .i64 r2.len)).set 2 (.int .i64 r2.tag)).set 3 (.int .i64 r2.met)).set 4 (.int .i64 r2.frm)).set 5 (.int .i64 r2.age)).set 6 (.bool r2.chg))
      have t0 := bF.cell 0
      have t1 := bF.cell 1
      have t2 := bF.cell 2
      have t3 := bF.cell 3
      have t4 := bF.cell 4
      have t5 := bF.cell 5
      have t6 := bF.cell 6
      simp at t0 t1 t2 t3 t4 t5 t6
      refine bodyPost_ret (v := .agg #[.int .u32 r2.addr, .int .i64 r2.len, .int .i64 r2.tag, .int .i64 r2.met, .int .i64 r2.frm, .int .i64 r2.age, .bool r2.chg]) (by simp [results, Tryz.results148, go_sem, t0, t1, t2, t3, t4, t5, t6]) rfl ⟨?_, (((((((((((((Grows.refl w).alloc _).alloc _).alloc _).trans hg).trans hg2).setCell (by simp <;> omega) _).setCell (by simp <;> omega) _).setCell (by simp <;> omega) _).setCell (by simp <;> omega) _).setCell (by simp <;> omega) _).setCell (by simp <;> omega) _).setCell (by simp <;> omega) _)⟩
      rfl
    · have he : (r.frm == n.frm) = false := by simp [hf]
      have hW := fun W => worse_any r n W
      cases hq : rwWorse r n with
      | true =>
        have hv : rwHeard r n = rwFresh n := by simp only [rwHeard, hm, if_false, hf, hq, if_true]
        rw [hv]
        simp only [hq] at hW
        have hL := fun W => fresh_any n.addr n.len n.tag n.met n.frm W
        clear hm hv hf hd hq
        go_enter Tryz.func148, Tryz.ntmps148
        go_wp2_with (first | (go_at_call 150; refine (hD _).mono ?_; rintro e w1 ⟨rfl, hg⟩; have bR1 := (unhide bR).grows hg; have bN1 := (unhide bN).grows hg; have bO1 := (unhide HO).grows hg; have a0 := bR1.cell 0; have a1 := bR1.cell 1; have a2 := bR1.cell 2; have a3 := bR1.cell 3; have a4 := bR1.cell 4; have a5 := bR1.cell 5; have a6 := bR1.cell 6; have n0 := bN1.cell 0; have n1 := bN1.cell 1; have n2 := bN1.cell 2; have n3 := bN1.cell 3; have n4 := bN1.cell 4) | (go_at_call 193; refine (hW _).mono ?_; rintro e w2 ⟨rfl, hg2⟩; have bO2 := bO1.grows hg2; have bN2 := bN1.grows hg2; have m0 := bN2.cell 0; have m1 := bN2.cell 1; have m2 := bN2.cell 2; have m3 := bN2.cell 3; have m4 := bN2.cell 4) | (go_at_call 135; refine (hL _).mono ?_; rintro e w3 ⟨rfl, hg3⟩; have bO3 := bO2.grows hg3; have s0 := bO3.cell 0; have s1 := bO3.cell 1; have s2 := bO3.cell 2; have s3 := bO3.cell 3; have s4 := bO3.cell 4; have s5 := bO3.cell 5; have s6 := bO3.cell 6; have z0 := bO3.frozen 0; have z1 := bO3.frozen 1; have z2 := bO3.frozen 2; have z3 := bO3.frozen 3; have z4 := bO3.frozen 4; have z5 := bO3.frozen 5; have z6 := bO3.frozen 6))
        have bF := (((((((bO3.set 0 (.int .u32 n.addr)).set 1 (.int .i64 n.len)).set 2 (.int .i64 n.tag)).set 3 (.int .i64 n.met)).set 4 (.int .i64 n.frm)).set 5 (.int .i64 0)).set 6 (.bool true))
        have t0 := bF.cell 0
        have t1 := bF.cell 1
        have t2 := bF.cell 2
        have t3 := bF.cell 3
        have t4 := bF.cell 4
        have t5 := bF.cell 5
        have t6 := bF.cell 6
        simp at t0 t1 t2 t3 t4 t5 t6
        refine bodyPost_ret (v := .agg #[.int .u32 n.addr, .int .i64 n.len, .int .i64 n.tag, .int .i64 n.met, .int .i64 n.frm, .int .i64 0, .bool true]) (by simp [results, Tryz.results148, go_sem, t0, t1, t2, t3, t4, t5, t6]) rfl ⟨?_, ((((((((((((((Grows.refl w).alloc _).alloc _).alloc _).trans hg).trans hg2).trans hg3).setCell (by simp <;> omega) _).setCell (by simp <;> omega) _).setCell (by simp <;> omega) _).setCell (by simp <;> omega) _).setCell (by simp <;> omega) _).setCell (by simp <;> omega) _).setCell (by simp <;> omega) _)⟩
        rfl
      | false =>
        have hv : rwHeard r n = r := by simp [rwHeard, hm, hf, hq]
        rw [hv]
        simp only [hq] at hW
        clear hm hv hf hd hq
        go_enter Tryz.func148, Tryz.ntmps148
        go_wp2_with (first | (go_at_call 150; refine (hD _).mono ?_; rintro e w1 ⟨rfl, hg⟩; have bR1 := (unhide bR).grows hg; have bN1 := (unhide bN).grows hg; have bO1 := (unhide HO).grows hg; have a0 := bR1.cell 0; have a1 := bR1.cell 1; have a2 := bR1.cell 2; have a3 := bR1.cell 3; have a4 := bR1.cell 4; have a5 := bR1.cell 5; have a6 := bR1.cell 6; have n0 := bN1.cell 0; have n1 := bN1.cell 1; have n2 := bN1.cell 2; have n3 := bN1.cell 3; have n4 := bN1.cell 4) | (go_at_call 193; refine (hW _).mono ?_; rintro e w2 ⟨rfl, hg2⟩; have bO2 := bO1.grows hg2; have bR2 := bR1.grows hg2; have c0 := bR2.cell 0; have c1 := bR2.cell 1; have c2 := bR2.cell 2; have c3 := bR2.cell 3; have c4 := bR2.cell 4; have c5 := bR2.cell 5; have c6 := bR2.cell 6; have s0 := bO2.cell 0; have s1 := bO2.cell 1; have s2 := bO2.cell 2; have s3 := bO2.cell 3; have s4 := bO2.cell 4; have s5 := bO2.cell 5; have s6 := bO2.cell 6; have z0 := bO2.frozen 0; have z1 := bO2.frozen 1; have z2 := bO2.frozen 2; have z3 := bO2.frozen 3; have z4 := bO2.frozen 4; have z5 := bO2.frozen 5; have z6 := bO2.frozen 6))
        have bF := (((((((bO2.set 0 (.int .u32 r.addr)).set 1 (.int .i64 r.len)).set 2 (.int .i64 r.tag)).set 3 (.int .i64 r.met)).set 4 (.int .i64 r.frm)).set 5 (.int .i64 r.age)).set 6 (.bool r.chg))
        have t0 := bF.cell 0
        have t1 := bF.cell 1
        have t2 := bF.cell 2
        have t3 := bF.cell 3
        have t4 := bF.cell 4
        have t5 := bF.cell 5
        have t6 := bF.cell 6
        simp at t0 t1 t2 t3 t4 t5 t6
        refine bodyPost_ret (v := .agg #[.int .u32 r.addr, .int .i64 r.len, .int .i64 r.tag, .int .i64 r.met, .int .i64 r.frm, .int .i64 r.age, .bool r.chg]) (by simp [results, Tryz.results148, go_sem, t0, t1, t2, t3, t4, t5, t6]) rfl ⟨?_, (((((((((((((Grows.refl w).alloc _).alloc _).alloc _).trans hg).trans hg2).setCell (by simp <;> omega) _).setCell (by simp <;> omega) _).setCell (by simp <;> omega) _).setCell (by simp <;> omega) _).setCell (by simp <;> omega) _).setCell (by simp <;> omega) _).setCell (by simp <;> omega) _)⟩
        rfl

end Go.Proofs.YtdnpeefnobjfaaaGreatDoor

/- The place of a prefix in a table: slices.BinarySearchFunc over rows. -/
namespace Go.Proofs.YtdnpeefnobjfaaaGreatDoor
open Go.RowKit Go.Shelf Go.Sort
attribute [local go_sem ↓] Go.wp_at_zero Go.wp_at_succ

def rwPf (r : Rw) : Pf := ⟨r.addr, r.len⟩
/-- Rows in the order of their prefixes, each prefix once. -/
def rwSorted (L : List Rw) : Prop := L.Pairwise fun a b => pfLt (rwPf a) (rwPf b)
theorem pfLt_trans {a b c : Pf} (h : pfLt a b) (k : pfLt b c) : pfLt a c := by unfold pfLt at *; omega
theorem pfLt_irrefl (a : Pf) : ¬ pfLt a a := by unfold pfLt; omega
theorem rwSorted_lt {L : List Rw} (h : rwSorted L) {i j : Nat} (hi : i < L.length) (hj : j < L.length) (hij : i < j) : pfLt (rwPf L[i]) (rwPf L[j]) := List.pairwise_iff_getElem.1 h i j hi hj hij
/-- Where a prefix stands, or would. -/
def placeOf (L : List Rw) (p : Pf) (i : Nat) : Prop := i ≤ L.length ∧ (∀ j, (hj : j < L.length) → j < i → pfLt (rwPf L[j]) p) ∧ (∀ j, (hj : j < L.length) → i ≤ j → ¬ pfLt (rwPf L[j]) p)

theorem cmpP_zero (a b : Pf) : cmpP a b = 0 ↔ a = b := by
  rw [Pf.beq_iff]
  unfold cmpP cmpI
  by_cases h1 : a.addr < b.addr
  · simp [h1]; omega
  · by_cases h2 : b.addr < a.addr
    · simp [h1, h2]; omega
    · have h3 : a.addr = b.addr := by omega
      by_cases h4 : a.len < b.len
      · simp [h3, h4]; omega
      · by_cases h5 : b.len < a.len
        · simp [h3, h4, h5]; omega
        · simp [h3, h4, h5]; omega

set_option maxRecDepth 100000 in
set_option maxHeartbeats 4000000 in
theorem search_some (b off n cap : Nat) (L : List Rw) (p : Pf) (w : World) (hL : L.length = n) (hn : n ≤ 1000000) (hso : rwSorted L) (hB : b < w.heap.size) (hc : rwCells w b off L) :
    Calls Tryz.prog 146 #[.slice (some ⟨b, off, none⟩) n cap, .agg #[.int .u32 p.addr, .int .i64 p.len], .func (.func 147) #[] #[]] w fun e w' =>
      ∃ i : Nat, placeOf L p i ∧ e = .returned (.tuple #[.int .i64 i, .bool ((L[i]?.map rwPf) == some p)]) ∧ Grows w w' := by
  have HL := hide hL
  have HS := hide hso
  have hC := fun r W => rowCompare_any r p W
  have hfol := prog_follows
  have bP := Blk.new w #[.int .u32 p.addr, .int .i64 p.len] 32
  have hcW := rwCells_below hc (below_new w (.cells #[.int .u32 p.addr, .int .i64 p.len] 32)) hB
  have hG0 := (Grows.refl w).alloc (.cells #[.int .u32 p.addr, .int .i64 p.len] 32)
  have hBW : b < (w.alloc (.cells #[.int .u32 p.addr, .int .i64 p.len] 32)).heap.size := by simp; omega
  clear hL hso hc
  go_enter Tryz.func146, Tryz.ntmps146
  go_wp2_with fail
  generalize w.alloc (.cells #[.int .u32 p.addr, .int .i64 p.len] 32) = W at *
  have HP := hide bP
  have HC := hide hcW
  have HG := hide hG0
  clear bP hcW hG0
  go_loopw [9, 10] (fun vi vj wr => ∃ i j : Nat, i ≤ j ∧ j ≤ n ∧ vi = .int .i64 i ∧ vj = .int .i64 j ∧ Grows W wr ∧ (∀ k, (hk : k < L.length) → k < i → pfLt (rwPf L[k]) p) ∧ (∀ k, (hk : k < L.length) → j ≤ k → ¬ pfLt (rwPf L[k]) p)) (fun vi vj _ => (intOf vj - intOf vi).toNat)
  case atStart => exact ⟨0, n, by omega, by omega, rfl, rfl, Grows.refl _, fun k hk h => by omega, fun k hk h => by rw [unhide HL] at hk; omega⟩
  case round =>
    obtain ⟨i, j, hij, hjn, rfl, rfl, hg, hlo, hhi⟩ := hrel
    have HLO := hide hlo
    have HHI := hide hhi
    have HGR := hide hg
    clear hlo hhi
    by_cases hlt : i < j
    · have hlti : (i : Int) < (j : Int) := by omega
      have hw1 : IntKind.i64.wrap ((i : Int) + (j : Int)) = (i : Int) + (j : Int) := wrap_small _ (by omega) (by omega)
      go_wp2_with fail
      obtain ⟨h, hh⟩ : ∃ h : Nat, h = (i + j) / 2 := ⟨_, rfl⟩
      have hhI : ((i : Int) + (j : Int)) / 2 = (h : Int) := by omega
      have hhn : h < n := by omega
      have hhL : h < L.length := by rw [unhide HL]; exact hhn
      have hhi1 : i ≤ h := by omega
      have hhj : h < j := by omega
      rw [hhI]
      have j0 : (0 : Int) ≤ (h : Int) := by omega
      have j1 : (h : Int) < (n : Int) := by omega
      clear hh hhI
      have hBr : b < wr.heap.size := Nat.lt_of_lt_of_le hBW hg.below.size
      obtain ⟨c0, c1, c2, c3, c4, c5, c6⟩ := rwCells_below (unhide HC) hg.below hBW h hhL
      have bP1 := (unhide HP).grows hg
      have g0 := (bP1.cell 0).trans (show _ = some (.int .u32 p.addr) from rfl)
      have g1 := (bP1.cell 1).trans (show _ = some (.int .i64 p.len) from rfl)
      have G0 := fun m os => cell_grown hBr c0 m os
      have G1 := fun m os => cell_grown hBr c1 m os
      have G2 := fun m os => cell_grown hBr c2 m os
      have G3 := fun m os => cell_grown hBr c3 m os
      have G4 := fun m os => cell_grown hBr c4 m os
      have G5 := fun m os => cell_grown hBr c5 m os
      have G6 := fun m os => cell_grown hBr c6 m os
      have P0 := fun m os => cell_grown bP1.lt g0 m os
      have P1 := fun m os => cell_grown bP1.lt g1 m os
      have HLE := hide (show ∀ q, cmpP (rwPf L[h]) p = q → (q < 0 ↔ pfLt (rwPf L[h]) p) from fun q hq => by rw [← hq]; exact cmpP_neg _ _)
      have hCE := hC L[h]
      have HE := hide (show rwPf L[h] = ⟨L[h].addr, L[h].len⟩ from rfl)
      rw [← unhide HE] at hCE
      clear bP1 g0 g1 c0 c1 c2 c3 c4 c5 c6 hg
      obtain ⟨q, hq⟩ : ∃ q, cmpP (rwPf L[h]) p = q := ⟨_, rfl⟩
      rw [hq] at hCE
      have hqlt := unhide HLE q hq
      clear hq HLE HE
      by_cases hqn : q < 0
      · have HPL := hide (hqlt.1 hqn)
        clear hqlt
        generalize L[h] = E at G0 G1 G2 G3 G4 G5 G6 hCE
        go_quiet_grown (first | (go_at_call 147; refine Grows.quiet (hCE _)))
        go_wp2
        go_roundw
        case rel =>
          refine ⟨h + 1, j, by omega, hjn, by go_num, rfl, (unhide HGR).grow _ _, fun k hk hkh => ?_, unhide HHI⟩
          by_cases hkh' : k = h
          · subst hkh'; exact unhide HPL
          · exact pfLt_trans (rwSorted_lt (unhide HS) hk hhL (by omega)) (unhide HPL)
        case measure => simp [intOf]; omega
      · have HPL := hide (fun hx => hqn (hqlt.2 hx))
        clear hqlt
        have hqd : decide (q < 0) = false := by simp; omega
        clear hqn
        generalize L[h] = E at G0 G1 G2 G3 G4 G5 G6 hCE
        go_quiet_grown (first | (go_at_call 147; refine Grows.quiet (hCE _)))
        go_wp2
        go_roundw
        case rel =>
          refine ⟨i, h, by omega, by omega, rfl, rfl, (unhide HGR).grow _ _, unhide HLO, fun k hk hkh => ?_⟩
          by_cases hkh' : k = h
          · subst hkh'; exact unhide HPL
          · exact fun hx => unhide HPL (pfLt_trans (rwSorted_lt (unhide HS) hhL hk (by omega)) hx)
        case measure => simp [intOf]; omega
    · have hji : j = i := by omega
      subst hji
      have hlti : decide ((j : Int) < (j : Int)) = false := by simp
      have HPO := hide (show placeOf L p j from ⟨by rw [unhide HL]; exact hjn, unhide HLO, unhide HHI⟩)
      by_cases hin : j < n
      · have hjL : j < L.length := by rw [unhide HL]; exact hin
        have j0 : (0 : Int) ≤ (j : Int) := by omega
        have j1 : (j : Int) < (n : Int) := by omega
        have hBr : b < wr.heap.size := Nat.lt_of_lt_of_le hBW hg.below.size
        obtain ⟨c0, c1, c2, c3, c4, c5, c6⟩ := rwCells_below (unhide HC) hg.below hBW j hjL
        have bP1 := (unhide HP).grows hg
        have g0 := (bP1.cell 0).trans (show _ = some (.int .u32 p.addr) from rfl)
        have g1 := (bP1.cell 1).trans (show _ = some (.int .i64 p.len) from rfl)
        have G0 := fun m os => cell_grown hBr c0 m os
        have G1 := fun m os => cell_grown hBr c1 m os
        have G2 := fun m os => cell_grown hBr c2 m os
        have G3 := fun m os => cell_grown hBr c3 m os
        have G4 := fun m os => cell_grown hBr c4 m os
        have G5 := fun m os => cell_grown hBr c5 m os
        have G6 := fun m os => cell_grown hBr c6 m os
        have P0 := fun m os => cell_grown bP1.lt g0 m os
        have P1 := fun m os => cell_grown bP1.lt g1 m os
        have hval : (L[j]?.map rwPf == some p) = (cmpP (rwPf L[j]) p == 0) := by
          rw [List.getElem?_eq_getElem hjL, Bool.eq_iff_iff]
          simp [cmpP_zero]
        have HV := hide hval
        have hCE := hC L[j]
        have HE := hide (show rwPf L[j] = ⟨L[j].addr, L[j].len⟩ from rfl)
        rw [← unhide HE] at hCE
        clear bP1 g0 g1 c0 c1 c2 c3 c4 c5 c6 hg hval
        obtain ⟨q, hq⟩ : ∃ q, cmpP (rwPf L[j]) p = q := ⟨_, rfl⟩
        rw [hq] at hCE HV
        clear hq HE
        generalize L[j] = E at G0 G1 G2 G3 G4 G5 G6 hCE
        go_wp2_with fail
        go_quiet_grown (first | (go_at_call 147; refine Grows.quiet (hCE _)))
        go_wp2
        go_ret2
        exact ⟨j, unhide HPO, by rw [unhide HV]; rfl, (unhide HG).trans ((unhide HGR).grow _ _)⟩
      · have hjn' : j = n := by omega
        subst hjn'
        have HV := hide (show (L[j]?.map rwPf == some p) = false by rw [List.getElem?_eq_none (by rw [unhide HL]; exact Nat.le_refl _)]; rfl)
        clear hg
        go_wp2_with fail
        go_big_region_o
        go_wp2
        go_ret2
        exact ⟨j, unhide HPO, by rw [unhide HV]; rfl, (unhide HG).trans (unhide HGR).drew⟩

set_option maxRecDepth 100000 in
set_option maxHeartbeats 1000000 in
theorem search_none (ao : Option Addr) (cap : Nat) (p : Pf) (fv : Value) (w : World) :
    Calls Tryz.prog 146 #[.slice ao 0 cap, .agg #[.int .u32 p.addr, .int .i64 p.len], fv] w fun e w' => e = .returned (.tuple #[.int .i64 0, .bool false]) ∧ Grows w w' := by
  have hfol := prog_follows
  have hG0 := hide ((Grows.refl w).alloc (.cells #[.int .u32 p.addr, .int .i64 p.len] 32))
  go_enter Tryz.func146, Tryz.ntmps146
  go_wp2_with fail
  generalize w.alloc (.cells #[.int .u32 p.addr, .int .i64 p.len] 32) = W at *
  refine wp_loop_rounds 1 ?_
  rw [rounds_succ]
  go_wp2_with fail
  go_big_region_o
  go_wp2
  go_ret2
  exact ⟨rfl, (unhide hG0).drew⟩

theorem search_any (ao : Option Addr) (n cap : Nat) (L : List Rw) (p : Pf) (w : World) (hL : L.length = n) (hn : n ≤ 1000000) (hso : rwSorted L) (hs : rwSlice w ao L) :
    Calls Tryz.prog 146 #[.slice ao n cap, .agg #[.int .u32 p.addr, .int .i64 p.len], .func (.func 147) #[] #[]] w fun e w' =>
      ∃ i : Nat, placeOf L p i ∧ e = .returned (.tuple #[.int .i64 i, .bool ((L[i]?.map rwPf) == some p)]) ∧ Grows w w' := by
  by_cases h0 : n = 0
  · subst h0
    have : L = [] := List.eq_nil_of_length_eq_zero hL
    subst this
    refine (search_none ao cap p _ w).mono ?_
    rintro e w' ⟨rfl, hg⟩
    exact ⟨0, ⟨Nat.le_refl _, fun j hj => by simp at hj, fun j hj => by simp at hj⟩, rfl, hg⟩
  · rcases hs with rfl | ⟨b, off, rfl, hc⟩
    · simp at hL; omega
    · exact search_some b off n cap L p w hL hn hso (rwCells_lt hc (by omega)) hc

end Go.Proofs.YtdnpeefnobjfaaaGreatDoor
