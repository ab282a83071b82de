/- How a config and a script that are handed in lie in memory; the listed variable. -/
import Derived.Test.YtdnpeefnobjfaaaGreatDoorRows
import Derived.Test.YtdnpeefnobjfaaaGreatDoorQLawUM
import Derived.ProofKit
import Derived.SizedLaws
import Derived.Deep.Strs
import Derived.Lib.SmallJoins
import Derived.OpenShut
import Derived.ChangeSlices
import Derived.LaidLaws
import Derived.LaidHandle
namespace Go.Proofs.YtdnpeefnobjfaaaGreatDoor
open Go.ChangeShapes Go.WideShapes Go.ChangeAt Go.RowKit

theorem Tryz.cellsO42 : Tryz.prog.cellsOf 42 = 4 := by kernel_rfl
theorem Tryz.cellsO32 : Tryz.prog.cellsOf 32 = 2 := by kernel_rfl
theorem Tryz.cellsO45 : Tryz.prog.cellsOf 45 = 2 := by kernel_rfl
theorem Tryz.cellsO25 : Tryz.prog.cellsOf 25 = 2 := by kernel_rfl
theorem Tryz.cellsO93 : Tryz.prog.cellsOf 93 = 8 := by kernel_rfl
theorem Tryz.cellsO3 : Tryz.prog.cellsOf 3 = 1 := by kernel_rfl
theorem Tryz.cellsO9 : Tryz.prog.cellsOf 9 = 1 := by kernel_rfl
theorem Tryz.cellsO43 : Tryz.prog.cellsOf 43 = 1 := by kernel_rfl
theorem Tryz.cellsO30 : Tryz.prog.cellsOf 30 = 1 := by kernel_rfl
theorem Tryz.bytesO93 : Tryz.prog.bytesOf 93 = 120 := by kernel_rfl
theorem Tryz.bytesO32 : Tryz.prog.bytesOf 32 = 16 := by kernel_rfl
theorem Tryz.bytesO3 : Tryz.prog.bytesOf 3 = 8 := by kernel_rfl
theorem list4o {α : Type} {l : List α} (h : l.length = 4) : ∃ a b c d, l = [a, b, c, d] := by
  match l, h with
  | [a, b, c, d], _ => exact ⟨a, b, c, d, rfl⟩
theorem list2o {α : Type} {l : List α} (h : l.length = 2) : ∃ a b, l = [a, b] := by
  match l, h with
  | [a, b], _ => exact ⟨a, b, rfl⟩
theorem list8o {α : Type} {l : List α} (h : l.length = 8) : ∃ a b c d e f g i, l = [a, b, c, d, e, f, g, i] := by
  match l, h with
  | [a, b, c, d, e, f, g, i], _ => exact ⟨a, b, c, d, e, f, g, i, rfl⟩

section
variable {H : Type} {enc : TypeId × Value → H} {W : World} {base : Nat} {sp : Nat → Bool} {hd : Bool}

theorem trod_struct6 {P : Program} {t : TypeId} {f0 f1 f2 f3 f4 f5 : Field} {fuel : Nat} {cs : List Value} {x : DataW H × List MemPlace} (ht : P.underlying t = some (.struct #[f0, f1, f2, f3, f4, f5])) (h : DataW.trod enc P W base sp hd fuel t cs = some x) :
    ∃ y0 y1 y2 y3 y4 y5 n, cs.length = P.cellsOf t ∧ DataW.trod enc P W base sp hd n f0.type ((cs.drop f0.offset).take (P.cellsOf f0.type)) = some y0 ∧ DataW.trod enc P W base sp hd n f1.type ((cs.drop f1.offset).take (P.cellsOf f1.type)) = some y1 ∧
      DataW.trod enc P W base sp hd n f2.type ((cs.drop f2.offset).take (P.cellsOf f2.type)) = some y2 ∧ DataW.trod enc P W base sp hd n f3.type ((cs.drop f3.offset).take (P.cellsOf f3.type)) = some y3 ∧
      DataW.trod enc P W base sp hd n f4.type ((cs.drop f4.offset).take (P.cellsOf f4.type)) = some y4 ∧ DataW.trod enc P W base sp hd n f5.type ((cs.drop f5.offset).take (P.cellsOf f5.type)) = some y5 := by
  obtain ⟨xs, n, _, rfl, hl, hlen, hf⟩ := DataW.trod_struct ht h
  match xs, hlen with
  | [y0, y1, y2, y3, y4, y5], _ => exact ⟨y0, y1, y2, y3, y4, y5, n, hl, by simpa using hf 0 f0 rfl, by simpa using hf 1 f1 rfl, by simpa using hf 2 f2 rfl, by simpa using hf 3 f3 rfl, by simpa using hf 4 f4 rfl, by simpa using hf 5 f5 rfl⟩

/-- A slice whose elements can be opened. -/
theorem rows_open {α : Type} [Inhabited α] (vals : α → List Value) (good : α → Prop) {t e : TypeId} {sz n : Nat} {cs : List Value} {x : DataW H × List MemPlace} (ht : Tryz.prog.underlying t = some (.slice e)) (hc : Tryz.prog.cellsOf e = sz) (hsz : 0 < sz) (hlen : ∀ E, (vals E).length = sz)
    (hone : ∀ (m : Nat) (cs' : List Value) (y : DataW H × List MemPlace), DataW.trod enc Tryz.prog W base sp hd m e cs' = some y → ∃ E, cs' = vals E ∧ good E) (h : DataW.trod enc Tryz.prog W base sp hd n t cs = some x) (hsp : ∀ b, sp b = true) :
    ∃ (ao : Option Addr) (cap : Nat) (l : List α), cs = [.slice ao l.length cap] ∧ (∀ E ∈ l, good E) ∧ (l = [] ∨ ∃ b off, ao = some ⟨b, off, none⟩ ∧ b < W.heap.size ∧ ∀ i, (hi : i < l.length) → ∀ j u, (vals l[i])[j]? = some u → W.cell? ⟨b, off + i * sz + j, none⟩ = some u) ∧
      ∀ lim, (∀ k ∈ x.1.weights Tryz.prog t, k ≤ lim) → l.length * Tryz.prog.bytesOf e ≤ lim := by
  rcases Deep.open_slice ht h with ⟨e1, _⟩ | ⟨a, len, cap, mm, k, D, Pl, e1, _, hl, hm, hmm, hx, hel⟩
  · exact ⟨none, 0, [], e1, by simp, .inl rfl, fun lim _ => by simp⟩
  · rw [hc] at hel
    rw [hsp, if_pos rfl] at hmm
    subst hmm
    have hE : ∀ i, i < len → ∃ E : α, (∀ j, j < sz → W.cell? ((a.add (i * sz)).add j) = (vals E)[j]?) ∧ good E := fun i hi => by
      obtain ⟨cs', h1, h2⟩ := hel i (by omega)
      obtain ⟨E, rfl, hE⟩ := hone _ _ _ h2
      exact ⟨E, (World.cells?_some h1).2.2, hE⟩
    obtain ⟨f, hf⟩ : ∃ f : Nat → α, ∀ i, i < len → (∀ j, j < sz → W.cell? ((a.add (i * sz)).add j) = (vals (f i))[j]?) ∧ good (f i) := by
      refine ⟨fun i => if hi : i < len then Classical.choose (hE i hi) else default, fun i hi => ?_⟩
      simp only [hi, dif_pos]
      exact Classical.choose_spec (hE i hi)
    refine ⟨some a, mm, (List.range len).map f, by simpa using e1, ?_, ?_, fun lim hw => ?_⟩
    · intro E hE'
      simp at hE'
      obtain ⟨i, hi, rfl⟩ := hE'
      exact (hf i hi).2
    · by_cases h0 : len = 0
      · left; simp [h0]
      · right
        have hlt : 0 < (vals (f 0)).length := by rw [hlen]; exact hsz
        have hc0 := (hf 0 (by omega)).1 0 hsz
        rw [List.getElem?_eq_getElem hlt] at hc0
        obtain ⟨b, off, spot⟩ := a
        have hsn : spot = none := by
          cases spot with
          | none => rfl
          | some z =>
            exfalso
            simp only [Nat.zero_mul, Addr.add, if_pos, World.cell?] at hc0
            split at hc0 <;> simp at hc0
        subst hsn
        have hadd : ∀ i j, ((⟨b, off, none⟩ : Addr).add (i * sz)).add j = ⟨b, off + i * sz + j, none⟩ := fun i j => by
          unfold Addr.add; split <;> split <;> simp_all
        refine ⟨b, off, rfl, ?_, fun i hi j u hu => ?_⟩
        · have := World.block_lt_of_cell? W _ hc0
          rw [hadd] at this
          exact this
        · have hi' : i < len := by simpa using hi
          simp only [List.getElem_map, List.getElem_range] at hu
          have hj : j < sz := by rw [← hlen (f i)]; exact (List.getElem?_eq_some_iff.1 hu).1
          rw [← hadd, (hf i hi').1 j hj]
          exact hu
    · have hmem : ((List.range len).map D).length + ((List.range (mm - len)).map fun j => D (len + j)).length = mm := by simp; omega
      have := hw (mm * Tryz.prog.bytesOf e) (by
        rw [hx]
        simp only [DataW.weights, ht, List.mem_cons]
        left
        rw [hmem])
      rw [List.length_map, List.length_range]
      exact Nat.le_trans (Nat.mul_le_mul_right _ hl) this

instance : Inhabited OpM := ⟨⟨0, 0, 0, ⟨#[]⟩, 0, none, 0, [], nl, nl⟩⟩
instance : Inhabited Ent := ⟨⟨0, 0, 0, 0⟩⟩
theorem ent_opened (m : Nat) (cs : List Value) (y : DataW H × List MemPlace) (h : DataW.trod enc Tryz.prog W base sp hd m 42 cs = some y) : ∃ E : Ent, cs = entVals E ∧ 0 ≤ E.addr ∧ E.addr < 4294967296 := by
  obtain ⟨y0, y1, y2, m, _, hl, t0, t1, t2⟩ := Deep.trod_struct3 Tryz.underlying42 h
  rw [Tryz.cellsO42] at hl
  obtain ⟨c0, c1, c2, c3, rfl⟩ := list4o hl
  simp only [Tryz.cellsO32, Tryz.cellsO3] at t0 t1 t2
  obtain ⟨z0, z1, k, _, _, u0, u1⟩ := trod_struct2 Tryz.underlying32 t0
  simp only [Tryz.cellsO30, Tryz.cellsO3] at u0 u1
  obtain ⟨a, ha, _, wa⟩ := DataW.trod_int Tryz.underlying30 u0
  obtain ⟨b, hb, _, _⟩ := DataW.trod_int Tryz.underlying3 u1
  obtain ⟨t, ht, _, _⟩ := DataW.trod_int Tryz.underlying3 t1
  obtain ⟨q, hq, _, _⟩ := DataW.trod_int Tryz.underlying3 t2
  have hbd := bounds_u32 wa
  simp at ha hb ht hq
  subst ha hb ht hq
  exact ⟨⟨a, b, t, q⟩, rfl, hbd.1, by show a < _; omega⟩
def pfV (p : Pf) : List Value := [.int .u32 p.addr, .int .i64 p.len]
theorem pf_opened (m : Nat) (cs : List Value) (y : DataW H × List MemPlace) (h : DataW.trod enc Tryz.prog W base sp hd m 32 cs = some y) : ∃ p : Pf, cs = pfV p ∧ 0 ≤ p.addr ∧ p.addr < 4294967296 := by
  obtain ⟨z0, z1, k, _, hl, u0, u1⟩ := trod_struct2 Tryz.underlying32 h
  rw [Tryz.cellsO32] at hl
  obtain ⟨c0, c1, rfl⟩ := list2o hl
  simp only [Tryz.cellsO30, Tryz.cellsO3] at u0 u1
  obtain ⟨a, ha, _, wa⟩ := DataW.trod_int Tryz.underlying30 u0
  obtain ⟨b, hb, _, _⟩ := DataW.trod_int Tryz.underlying3 u1
  have hbd := bounds_u32 wa
  simp at ha hb
  subst ha hb
  exact ⟨⟨a, b⟩, rfl, hbd.1, by show a < _; omega⟩
def numV (n : Int) : List Value := [.int .i64 n]
theorem num_opened (m : Nat) (cs : List Value) (y : DataW H × List MemPlace) (h : DataW.trod enc Tryz.prog W base sp hd m 3 cs = some y) : ∃ n : Int, cs = numV n ∧ True := by
  obtain ⟨b, hb, _, _⟩ := DataW.trod_int Tryz.underlying3 h
  exact ⟨b, hb, trivial⟩
theorem ents_slice {ao : Option Addr} {l : List Ent} (h : l = [] ∨ ∃ b off, ao = some ⟨b, off, none⟩ ∧ b < W.heap.size ∧ ∀ i, (hi : i < l.length) → ∀ j u, (entVals l[i])[j]? = some u → W.cell? ⟨b, off + i * 4 + j, none⟩ = some u) : entSlice W ao l := by
  rcases h with h | ⟨b, off, h1, _, h2⟩
  · exact .inl h
  · exact .inr ⟨b, off, h1, fun k hk => ⟨h2 k hk 0 _ rfl, h2 k hk 1 _ rfl, h2 k hk 2 _ rfl, h2 k hk 3 _ rfl⟩⟩
theorem pfs_slice {ao : Option Addr} {l : List Pf} (h : l = [] ∨ ∃ b off, ao = some ⟨b, off, none⟩ ∧ b < W.heap.size ∧ ∀ i, (hi : i < l.length) → ∀ j u, (pfV l[i])[j]? = some u → W.cell? ⟨b, off + i * 2 + j, none⟩ = some u) : pfSlice W ao l := by
  rcases h with h | ⟨b, off, h1, _, h2⟩
  · exact .inl h
  · exact .inr ⟨b, off, h1, fun k hk => ⟨h2 k hk 0 _ rfl, h2 k hk 1 _ rfl⟩⟩
theorem nums_slice {ao : Option Addr} {l : List Int} (h : l = [] ∨ ∃ b off, ao = some ⟨b, off, none⟩ ∧ b < W.heap.size ∧ ∀ i, (hi : i < l.length) → ∀ j u, (numV l[i])[j]? = some u → W.cell? ⟨b, off + i * 1 + j, none⟩ = some u) : numSlice W ao l := by
  rcases h with h | ⟨b, off, h1, _, h2⟩
  · exact .inl h
  · refine .inr ⟨b, off, h1, fun k hk => ?_⟩
    have := h2 k hk 0 _ rfl
    rwa [Nat.mul_one, Nat.add_zero] at this

theorem op_opened (hsp : ∀ b, sp b = true) (m : Nat) (cs : List Value) (y : DataW H × List MemPlace) (h : DataW.trod enc Tryz.prog W base sp hd m 93 cs = some y) : ∃ o : OpM, cs = (opArr o).toList ∧ opFine W o := by
  obtain ⟨y0, y1, y2, y3, y4, y5, m, hl, t0, t1, t2, t3, t4, t5⟩ := trod_struct6 Tryz.underlying93 h
  rw [Tryz.cellsO93] at hl
  obtain ⟨c0, c1, c2, c3, c4, c5, c6, c7, rfl⟩ := list8o hl
  simp only [Tryz.cellsO3, Tryz.cellsO9, Tryz.cellsO45] at t0 t1 t2 t3 t4
  obtain ⟨k, hk, _, _⟩ := DataW.trod_int Tryz.underlying3 t0
  obtain ⟨on, hon, _, won⟩ := DataW.trod_int Tryz.underlying3 t1
  obtain ⟨n, hn, _, _⟩ := DataW.trod_int Tryz.underlying3 t2
  obtain ⟨s, hs, _, hss⟩ := DataW.trod_string Tryz.underlying9 t3
  obtain ⟨z0, z1, q, _, _, u0, u1⟩ := trod_struct2 Tryz.underlying45 t4
  simp only [Tryz.cellsO3, Tryz.cellsO43] at u0 u1
  obtain ⟨cmd, hcmd, _, _⟩ := DataW.trod_int Tryz.underlying3 u0
  obtain ⟨ae, ce, l, hes, hgood, hrow, _⟩ := rows_open entVals (fun E => 0 ≤ E.addr ∧ E.addr < 4294967296) Tryz.underlying43 Tryz.cellsO42 (by decide) (fun _ => rfl) ent_opened u1 hsp
  simp at hk hon hn hs hcmd hes
  subst hk hon hn hs hcmd hes
  have hb := bounds_i64 won
  exact ⟨⟨k, on, n, s, cmd, ae, ce, l, c6, c7⟩, rfl, ⟨by show _ ≤ on ∧ on < _; omega, by show s.size ≤ _; unfold maxLen at hss; omega, hgood, ents_slice hrow⟩⟩
end

theorem Tryz.etO : Tryz.prog.globalNamed "errors.errorType" = some 0 := by kernel_rfl
theorem Tryz.rtO : (Tryz.prog.cutTypes.find? (·.1 == "internal/reflectlite.rtype")).map (·.2) = some 288 := by kernel_rfl
theorem Tryz.oneRowO : ((List.range Tryz.prog.types.size).filter fun t => Tryz.prog.rowNamed t [101, 114, 114, 111, 114]) = [35] := by kernel_rfl
/-- What the listed variable holds. -/
theorem et_laid {W : World} (h : laidMetH Tryz.prog [("errors.errorType", Rows.laid_errors_errorType)] W) : etHolds W := by
  have h' : laidMet Tryz.prog [] W ∧ handlesMet Tryz.prog [("errors.errorType", Rows.laid_errors_errorType)] W := h
  obtain ⟨name, u, ty, e1, e2, e3, e4, e5⟩ := h'.2 _ (List.mem_singleton.2 rfl)
  have en : name = [101, 114, 114, 111, 114] := (Option.some.inj e1).symm
  subst en
  obtain rfl := Option.some.inj (Tryz.rtO.symm.trans e2)
  have hm : ty ∈ (List.range Tryz.prog.types.size).filter fun t => Tryz.prog.rowNamed t [101, 114, 114, 111, 114] := List.mem_filter.2 ⟨List.mem_range.2 e3, e4⟩
  rw [Tryz.oneRowO] at hm
  obtain rfl := List.mem_singleton.1 hm
  have hh : typeHandle Tryz.prog 35 = .pointer (some ⟨1, 35, none⟩) := by kernel_rfl
  rw [hh] at e5
  unfold etHolds
  simpa using World.var?_cell Tryz.etO e5 0

end Go.Proofs.YtdnpeefnobjfaaaGreatDoor
