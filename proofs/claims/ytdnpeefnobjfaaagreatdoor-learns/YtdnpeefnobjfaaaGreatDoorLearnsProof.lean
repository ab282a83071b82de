/- Proved here: called with any config and any script that can be read, milepostlaw.Learns returns true on every schedule, without a data race, and both read afterwards as they read before. The row's own conditions (the listed variable, a calm tape) stand; no condition is added. -/
import Derived.Test.YtdnpeefnobjfaaaGreatDoorCards
import Derived.Test.YtdnpeefnobjfaaaGreatDoorTie
import Derived.Test.YtdnpeefnobjfaaaGreatDoorLTie
import Derived.Test.YtdnpeefnobjfaaaGreatDoorLOpen
import Derived.ChangeMaps5
import Derived.SevenTiedAt
namespace Go.Proofs.YtdnpeefnobjfaaaGreatDoor
open Go.ChangeShapes Go.WideShapes Go.ChangeAt Go.RowKit Go.ChangeMaps Go.Conc

theorem Tryz.laidOutL : laidOutB Tryz.prog = true := by kernel_rfl

set_option maxRecDepth 100000 in
theorem laid_metL (os : Os) (args : Array Value) : laidMetH Tryz.prog [("errors.errorType", Rows.laid_errors_errorType)] (({ World.holding Tryz.prog os ⟨#[], #[], []⟩ with heap := (World.holding Tryz.prog os ⟨#[], #[], []⟩).heap.modify 0 fun
      | .cells _ t frozen => .cells #[.iface 288 (.agg #[.pointer (some ⟨1, 35, none⟩)])] t frozen
      | o => o } : World).forCall (fun _ _ => 0) ⟨#[], args, []⟩).memory :=
  laidMetH_of_parts (laidMet_nil _ _) (by kernel_rfl)

set_option maxRecDepth 100000 in
theorem Learns_lifted (os : Os) (started : os.Started) (H : Type) (enc : TypeId × Value → H) (F : Stop.Interp) :
    ReturnsInLeavingWide { calm := true } Tryz.checked os 3 .any (fun w args => (Rows.learnsSpec.pre enc Tryz.prog Tryz.f3 [] false w args ∧ laidMetH Tryz.prog [("errors.errorType", Rows.laid_errors_errorType)] w) ∧ sizedMet enc Tryz.prog Tryz.f3 (OpenSpec.ofChange Rows.learnsSpec) false w args) ((OpenSpec.ofChange Rows.learnsSpec).postWith enc Tryz.prog Tryz.f3 F (outsideKept [.timePasses]) false true false) := by
  refine lifted_of_good (C := Tryz.checked) (X := fun w _ => laidMetH Tryz.prog [("errors.errorType", Rows.laid_errors_errorType)] w) (fun _ _ _ hh h => h.of_heap hh) Tryz.ownK started Tryz.func3
    (witness_calm (enc := enc) (C := Tryz.checked) (os := os) (X := fun w _ => laidMetH Tryz.prog [("errors.errorType", Rows.laid_errors_errorType)] w) _ #[.agg #[.slice none 0 0, .slice none 0 0], .slice none 0 0] 8 rfl (by kernel_rfl) (by kernel_rfl) (by kernel_rfl) (by kernel_rfl) (by kernel_rfl) (laid_metL os _)) ?_
  intro W base args ds gs before hval0 hW hsz0 hL _
  have hval : ∀ (j : Nat) t v, Tryz.f3.params[j]? = some t → args[j]? = some v → Value.okWide Tryz.prog W .any base t v := hval0
  have hsz : (DataW.weightsEach Tryz.prog (Tryz.f3.params.toList ++ Rows.learnsSpec.plain.varTypes Tryz.prog) (ds ++ gs)).all (· ≤ reachBytes) = true := hsz0
  have hW' := hW
  obtain ⟨p, q, hA0, hV, rfl, hfz, hnd⟩ := hW
  have hA : DataW.TrodAll enc Tryz.prog W 0 (fun _ => true) true Tryz.f3.params.toList args.toList ds p := hA0
  rw [Tryz.params3] at hA hval hsz
  obtain ⟨v0, v1, d0, d1, p0, p1, hargs, rfl, rfl, h0, h1⟩ := trodAll_two hA
  obtain rfl : args = #[v0, v1] := hargs
  obtain ⟨rfl, rfl⟩ := trodVars_none hV
  have hw0 : ∀ k ∈ d0.weights Tryz.prog 25, k ≤ reachBytes := fun k hk => by
    have := List.all_eq_true.1 hsz k (DataW.weights_mem_each (j := 0) (t := 25) (d := d0) rfl rfl k hk)
    simpa using this
  have hw1 : ∀ k ∈ d1.weights Tryz.prog 26, k ≤ reachBytes := fun k hk => by
    have := List.all_eq_true.1 hsz k (DataW.weights_mem_each (j := 1) (t := 26) (d := d1) rfl rfl k hk)
    simpa using this
  obtain ⟨vc, vo, y0, y1, fu, hv0, hd0, hp0, hy0, hy1⟩ := Joins.open_agg2 Tryz.underlying25 (by kernel_rfl) Tryz.cellsO25 (hval 0 25 v0 rfl rfl) h0
  obtain ⟨ac, cc, lc, hvc, _, hrc, hbc⟩ := rows_open numV (fun _ => True) Tryz.underlying22 Tryz.cellsO3 (by decide) (fun _ => rfl) num_opened hy0 (fun _ => rfl)
  obtain ⟨ao, co, lo, hvo, hgo, hro, hbo⟩ := rows_open pfV (fun p => 0 ≤ p.addr ∧ p.addr < 4294967296) Tryz.underlying23 Tryz.cellsO32 (by decide) (fun _ => rfl) pf_opened hy1 (fun _ => rfl)
  obtain ⟨av, lv1, cv1, hvs⟩ := okWide_slice Tryz.underlying26 (hval 1 26 v1 rfl rfl)
  obtain ⟨fu1, hf1⟩ := id h1
  obtain ⟨sa, cap, ops, hops, hgood, hrow, hbs⟩ := rows_open (fun o => (opArr o).toList) (fun o => opFine W o) Tryz.underlying26 Tryz.cellsO93 (by decide) (fun _ => rfl) (op_opened (fun _ => rfl)) hf1 (fun _ => rfl)
  obtain rfl : vc = .slice ac lc.length cc := by simpa using hvc
  obtain rfl : vo = .slice ao lo.length co := by simpa using hvo
  have hv1 : v1 = .slice sa ops.length cap := by
    subst hvs
    simpa [Value.cells] using hops
  have hwc : ∀ k, k ∈ y0.1.weights Tryz.prog 22 ∨ k ∈ y1.1.weights Tryz.prog 23 → k ≤ reachBytes := fun k hk => hw0 k (by
    rw [hd0]
    simp only [DataW.weights, Tryz.underlying25, DataW.weightsEach, List.map_cons, List.map_nil, List.append_nil, List.mem_append]
    exact hk)
  have bc := hbc reachBytes (fun k hk => hwc k (.inl hk))
  have bo := hbo reachBytes (fun k hk => hwc k (.inr hk))
  have bs := hbs reachBytes hw1
  rw [Tryz.bytesO3] at bc
  rw [Tryz.bytesO32] at bo
  rw [Tryz.bytesO93] at bs
  have lt0 : ∀ x ∈ p0, x.block < W.heap.size := fun x hx => hW'.lt x (by simp [hx])
  have lt1 : ∀ x ∈ p1, x.block < W.heap.size := fun x hx => hW'.lt x (by simp [hx])
  simp only [List.append_nil] at hW'
  have hopsC : opsC W sa ops := by
    rcases hrow with h | ⟨b, off, h1, h2, h3⟩
    · exact .inl h
    · exact .inr ⟨b, off, h1, h2, fun i hi j u hu => h3 i hi j u (by simpa using hu)⟩
  subst hv0 hv1
  refine good_of_calls ((learns_any cc co cap ac ao sa lc lo ops W (nums_slice hrc) (pfs_slice hro) hgo bc bo bs hopsC hgood (et_laid hL)).mono fun e W' ⟨he, bel⟩ => ?_) (by kernel_rfl)
  subst he
  exact ⟨⟨_, _, _, _, _, [], hW', trodAll_mk1 (shut_bool Tryz.underlying4 _), trodAll_mk2 (Below.trod Tryz.laidOutL (by kernel_rfl) (of_decide_eq_true (by kernel_rfl)) h0 bel lt0) (Below.trod Tryz.laidOutL (by kernel_rfl) (of_decide_eq_true (by kernel_rfl)) h1 bel lt1), rfl, bel.frame _, fun h => by cases h⟩, bel.os⟩

theorem Learns_row : Rows.LearnsSaid :=
  OpenClaim.holds_of_wide_leaving_time 3 Tryz.f3 rfl rfl rfl rfl rfl rfl rfl ⟨rfl, rfl, rfl, rfl, rfl⟩ rfl rfl rfl rfl rfl (by kernel_rfl) Tryz.func3 (by kernel_rfl)
    (of_decide_eq_true (by kernel_rfl)) (by unfold Func.isWrapper; rw [if_neg (of_decide_eq_false (by kernel_rfl))]; exact ⟨rfl, rfl⟩)
    (fun os started H enc _ F => Learns_lifted os started H enc F)

theorem Learns_holds : Rows.LearnsCardSaid :=
  card_goes .later true [.handle] true Rows.learnsCard.stood.harness true
    Learns_row (by kernel_rfl) learns_row_tie rfl ⟨rfl, rfl⟩ (by kernel_rfl) rfl
    (fun f fn hf hfn => by
      obtain rfl : f = 3 := Option.some.inj ((show Tryz.prog.funcNamed Rows.learnsRow.func = some 3 by kernel_rfl).symm.trans hf) |>.symm
      obtain rfl : fn = Tryz.f3 := (Option.some.inj (Tryz.func3.symm.trans hfn)).symm
      exact ⟨by kernel_rfl, fun j t ht => by
        rw [Tryz.params3] at ht
        rcases j with _ | _ | j
        · obtain rfl : 25 = t := by simpa using ht
          exact (show Tryz.prog.wantsStandIn 25 = false by kernel_rfl)
        · obtain rfl : 26 = t := by simpa using ht
          exact (show Tryz.prog.wantsStandIn 26 = false by kernel_rfl)
        · simp at ht⟩)
    (by kernel_rfl)

end Go.Proofs.YtdnpeefnobjfaaaGreatDoor
