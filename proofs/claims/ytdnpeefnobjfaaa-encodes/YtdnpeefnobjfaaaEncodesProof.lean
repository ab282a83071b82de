/- Proved here: called with any two packets that can be read, milepostlaw.Encodes returns true, and each packet reads afterwards as it read before. No condition is added. -/
import Derived.Test.YtdnpeefnobjfaaaRows
import Derived.Test.YtdnpeefnobjfaaaPkOpen
namespace Go.Proofs.Ytdnpeefnobjfaaa
open Go.ChangeShapes Go.WideShapes Go.ChangeAt Go.RowKit

set_option maxRecDepth 100000 in
theorem Encodes_lifted (os : Os) (started : os.Started) (H : Type) (enc : TypeId × Value → H) :
    ReturnsInHanded {} Try.checked os 4 .any (Rows.encodesSpec.pre6 enc Try.prog Try.f4 Rows.encodesRow.domain false) (Rows.encodesSpec.post enc Try.prog Try.f4 false true false false) := by
  refine returnsInHanded_of_change_sized (C := Try.checked) Try.own started (by kernel_rfl) Try.func4
    (ChangeSpec.witness6 (enc := enc) (C := Try.checked) false ⟨#[], #[.agg #[.int .i64 0, .slice none 0 0], .agg #[.int .i64 0, .slice none 0 0]], []⟩ 8 (by kernel_rfl) (by kernel_rfl) (by kernel_rfl) (by kernel_rfl)) ?_
  intro W base args ds gs before hval0 hW _ hsz0 _
  have hval : ∀ (j : Nat) t v, Try.f4.params[j]? = some t → args[j]? = some v → Value.okWide Try.prog W .any base t v := hval0
  have hsz : (DataW.weightsEach Try.prog (Try.f4.params.toList ++ Rows.encodesSpec.plain.varTypes Try.prog) (ds ++ gs)).all (· ≤ reachBytes) = true := hsz0
  have hW' := hW
  obtain ⟨p, q, hA0, hV, rfl, hfz, hnd⟩ := hW
  have hA : DataW.TrodAll enc Try.prog W 0 (fun _ => true) true Try.f4.params.toList args.toList ds p := hA0
  rw [Try.params4] at hA hval hsz
  have hAk := hA
  obtain ⟨v0, v1, d0, d1, p0, p1, rfl, rfl, rfl, h0, h1⟩ := trodAll_two hA
  obtain ⟨rfl, rfl⟩ := trodVars_none hV
  have hw : ∀ (j : Nat) (d : DataW H), [d0, d1][j]? = some d → ∀ k ∈ d.weights Try.prog 33, k ≤ reachBytes := fun j d hd k hk => by
    have hj : j = 0 ∨ j = 1 := by
      match j, hd with
      | 0, _ => exact .inl rfl
      | 1, _ => exact .inr rfl
    have := List.all_eq_true.1 hsz k (DataW.weights_mem_each (j := j) (t := 33) (d := d) (by rcases hj with rfl | rfl <;> rfl) (by rcases hj with rfl | rfl <;> exact hd) k hk)
    simpa using this
  obtain ⟨m1, a1, n1, c1, l1, hv0, k1⟩ := pk_open (hval 0 33 v0 rfl rfl) h0 (fun _ => rfl) (hw 0 d0 rfl)
  obtain ⟨m2, a2, n2, c2, l2, hv1, k2⟩ := pk_open (hval 1 33 v1 rfl rfl) h1 (fun _ => rfl) (hw 1 d1 rfl)
  subst hv0 hv1
  have lt0 : ∀ x ∈ p0, x.block < W.heap.size := fun x hx => hW'.lt x (by simp [hx])
  have lt1 : ∀ x ∈ p1, x.block < W.heap.size := fun x hx => hW'.lt x (by simp [hx])
  simp only [List.append_nil] at hW'
  refine (Encodes_any m1 m2 a1 a2 n1 c1 n2 c2 l1 l2 W k1 k2).mono fun e W' ⟨he, bel⟩ => ?_
  subst he
  exact ⟨_, rfl, _, _, _, [], _, [], hW', trodAll_mk1 (shut_bool Try.underlying4 _), trodAll_mk2 (Below.trod Try.laidOut (by kernel_rfl) (of_decide_eq_true (by kernel_rfl)) h0 bel lt0) (Below.trod Try.laidOut (by kernel_rfl) (of_decide_eq_true (by kernel_rfl)) h1 bel lt1), rfl, bel.frame _, fun h => by cases h⟩

theorem Encodes_holds : Rows.EncodesSaid :=
  OpenClaim.holds_of_wide 4 Try.f4 rfl rfl rfl rfl rfl rfl rfl ⟨rfl, rfl, rfl, rfl, rfl⟩ rfl rfl rfl rfl rfl (by kernel_rfl) Try.func4 (by kernel_rfl)
    (of_decide_eq_true (by kernel_rfl)) (by unfold Func.isWrapper; rw [if_neg (of_decide_eq_false (by kernel_rfl))]; exact ⟨rfl, rfl⟩)
    (fun os started H enc _ => Encodes_lifted os started H enc)

end Go.Proofs.Ytdnpeefnobjfaaa
