/- How a packet that is handed in lies in memory. -/
import Derived.Test.YtdnpeefnobjfaaaChecked
import Derived.Test.YtdnpeefnobjfaaaEncs
import Derived.ProofKit
import Derived.SizedLaws
import Derived.Deep.Strs
import Derived.Lib.SmallJoins
import Derived.OpenShut
namespace Go.Proofs.Ytdnpeefnobjfaaa
open Go.ChangeShapes Go.WideShapes Go.ChangeAt Go.RowKit

theorem Try.own : ownKnob Try.prog.godebug = none := by kernel_rfl
theorem Try.laidOut : laidOutB Try.prog = true := by kernel_rfl
theorem Try.cells42 : Try.prog.cellsOf 42 = 4 := by kernel_rfl
theorem Try.cells40 : Try.prog.cellsOf 40 = 2 := by kernel_rfl
theorem Try.cells33 : Try.prog.cellsOf 33 = 2 := by kernel_rfl
theorem Try.cells3 : Try.prog.cellsOf 3 = 1 := by kernel_rfl
theorem Try.cells38 : Try.prog.cellsOf 38 = 1 := by kernel_rfl
theorem Try.bytes42 : Try.prog.bytesOf 42 = 32 := by kernel_rfl

theorem list4 {α : Type} {l : List α} (h : l.length = 4) : ∃ a b c d, l = [a, b, c, d] := by
  match l, h with
  | [a, b, c, d], _ => exact ⟨a, b, c, d, rfl⟩

section
variable {H : Type} {enc : TypeId × Value → H} {W : World} {base : Nat} {sp : Nat → Bool} {hd : Bool}

theorem ent_open {n : Nat} {cs : List Value} {x : DataW H × List MemPlace} (h : DataW.trod enc Try.prog W base sp hd n 42 cs = some x) : ∃ E : Ent, cs = entVals E ∧ 0 ≤ E.addr ∧ E.addr < 4294967296 := by
  obtain ⟨y0, y1, y2, m, _, hl, t0, t1, t2⟩ := Deep.trod_struct3 Try.underlying42 h
  rw [Try.cells42] at hl
  obtain ⟨c0, c1, c2, c3, rfl⟩ := list4 hl
  simp only [Try.cells40, Try.cells3] at t0 t1 t2
  obtain ⟨z0, z1, k, _, _, u0, u1⟩ := trod_struct2 Try.underlying40 t0
  simp only [Try.cells38, Try.cells3] at u0 u1
  obtain ⟨a, ha, _, wa⟩ := DataW.trod_int Try.underlying38 u0
  obtain ⟨b, hb, _, _⟩ := DataW.trod_int Try.underlying3 u1
  obtain ⟨t, ht, _, _⟩ := DataW.trod_int Try.underlying3 t1
  obtain ⟨q, hq, _, _⟩ := DataW.trod_int Try.underlying3 t2
  have hbd := bounds_u32 wa
  simp at ha hb ht hq
  subst ha hb ht hq
  exact ⟨⟨a, b, t, q⟩, rfl, hbd.1, by show a < _; omega⟩

set_option maxRecDepth 100000 in
theorem pk_open {r : Reach} {b0 : Nat} {v : Value} {d : DataW H} {p : List MemPlace} (hv : Value.okWide Try.prog W r b0 33 v) (h : DataW.Trod enc Try.prog W base sp hd 33 v d p) (hsp : ∀ b, sp b = true)
    (hw : ∀ k ∈ d.weights Try.prog 33, k ≤ reachBytes) : ∃ (cmd : Int) (ao : Option Addr) (n cap : Nat) (l : List Ent), v = .agg #[.int .i64 cmd, .slice ao n cap] ∧ Pk W ao n cap l := by
  obtain ⟨v0, v1, y0, y1, m, rfl, rfl, rfl, hy0, hy1⟩ := Joins.open_agg2 Try.underlying33 (by kernel_rfl) Try.cells33 hv h
  obtain ⟨cmd, e0, _, _⟩ := DataW.trod_int Try.underlying3 hy0
  simp at e0
  subst e0
  rcases Deep.open_slice Try.underlying31 hy1 with ⟨e1, _⟩ | ⟨a, len, cap, mm, k, D, Pl, e1, _, hl, hm, hmm, hx, hel⟩
  · simp at e1
    subst e1
    exact ⟨cmd, none, 0, 0, [], rfl, ⟨by intro e he; simp at he, rfl, by omega, fun _ => ⟨rfl, rfl⟩, .inl rfl, by intro a ha; simp at ha⟩⟩
  · simp at e1
    subst e1
    rw [Try.cells42] at hel
    rw [hsp, if_pos rfl] at hmm
    subst hmm
    have hE : ∀ i, i < len → ∃ E : Ent, (∀ j, j < 4 → W.cell? ((a.add (i * 4)).add j) = (entVals E)[j]?) ∧ 0 ≤ E.addr ∧ E.addr < 4294967296 := fun i hi => by
      obtain ⟨cs', h1, h2⟩ := hel i (by omega)
      obtain ⟨E, rfl, hE⟩ := ent_open h2
      exact ⟨E, (World.cells?_some h1).2.2, hE⟩
    obtain ⟨f, hf⟩ : ∃ f : Nat → Ent, ∀ i, i < len → (∀ j, j < 4 → W.cell? ((a.add (i * 4)).add j) = (entVals (f i))[j]?) ∧ 0 ≤ (f i).addr ∧ (f i).addr < 4294967296 := by
      refine ⟨fun i => if hi : i < len then Classical.choose (hE i hi) else ⟨0, 0, 0, 0⟩, fun i hi => ?_⟩
      simp only [hi, dif_pos]
      exact Classical.choose_spec (hE i hi)
    have hbig : mm * 32 ≤ reachBytes := by
      have hmem : ((List.range len).map D).length + ((List.range (mm - len)).map fun j => D (len + j)).length = mm := by simp; omega
      have := hw (mm * 32) (by
        rw [hx]
        simp only [DataW.weights, Try.underlying33, Try.underlying31, DataW.weightsEach, List.map_cons, List.map_nil, List.append_nil, List.mem_append, List.mem_cons]
        right; left
        rw [hmem, Try.bytes42])
      exact this
    refine ⟨cmd, some a, len, mm, (List.range len).map f, rfl, ⟨?_, by simp, ?_, by intro h; simp at h, ?_, ?_⟩⟩
    · intro e he
      simp at he
      obtain ⟨i, hi, rfl⟩ := he
      exact (hf i hi).2
    · unfold reachBytes at hbig; omega
    · by_cases h0 : len = 0
      · left; simp [h0]
      · right
        have hc0 := (hf 0 (by omega)).1 0 (by omega)
        obtain ⟨b, off, spot⟩ := a
        have hsn : spot = none := by
          cases spot with
          | none => rfl
          | some z =>
            exfalso
            simp only [entVals, List.getElem?_cons_zero, Nat.zero_mul, Addr.add, if_pos, World.cell?] at hc0
            split at hc0 <;> simp at hc0
        subst hsn
        refine ⟨b, off, rfl, fun i hi => ?_⟩
        have hi' : i < len := by simpa using hi
        have hadd : ∀ j, ((⟨b, off, none⟩ : Addr).add (i * 4)).add j = ⟨b, off + i * 4 + j, none⟩ := fun j => by
          unfold Addr.add; split <;> split <;> simp_all
        have hh := (hf i hi').1
        have e0 := hh 0 (by omega)
        have e1 := hh 1 (by omega)
        have e2 := hh 2 (by omega)
        have e3 := hh 3 (by omega)
        rw [hadd] at e0 e1 e2 e3
        simp only [List.getElem_map, List.getElem_range]
        exact ⟨e0, e1, e2, e3⟩
    · intro a' ha' h0
      have ha' := Option.some.inj ha'
      subst ha'
      have hc0 := (hf 0 h0).1 0 (by omega)
      have := World.block_lt_of_cell? W _ hc0
      have hb : ((a.add (0 * 4)).add 0).block = a.block := by simp [Addr.add]
      omega
end

end Go.Proofs.Ytdnpeefnobjfaaa
