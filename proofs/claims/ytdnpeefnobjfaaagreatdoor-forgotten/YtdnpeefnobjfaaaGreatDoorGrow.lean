/- Worlds that have grown: what was there is as it was; some draws, some blocks more. -/
import Derived.Test.YtdnpeefnobjfaaaGreatDoorProg
import Derived.WalkKit
import Derived.Shelf.SlSortCmp.QuietGrown
namespace Go.Proofs.YtdnpeefnobjfaaaGreatDoor
open Go.RowKit Go.Sort

theorem prog_follows : Tryz.prog.follows .mixedOrders = true := by kernel_rfl

/-- What was there is as it was; some draws, some blocks more. -/
def Grows (w w' : World) : Prop := ∃ q os, w' = grow (w.drewN q) os
theorem Grows.refl (w : World) : Grows w w := ⟨0, #[], by simp [World.drewN]⟩
theorem Grows.alloc {w w' : World} (h : Grows w w') (o : Obj) : Grows w (w'.alloc o) := by
  obtain ⟨q, os, rfl⟩ := h
  exact ⟨q, os ++ #[o], by rw [alloc_eq_grow, grow_grow]⟩
theorem Grows.drew {w w' : World} (h : Grows w w') : Grows w w'.drew := by
  obtain ⟨q, os, rfl⟩ := h
  exact ⟨q + 1, os, rfl⟩
theorem Grows.drewN {w w' : World} (h : Grows w w') (n : Nat) : Grows w (w'.drewN n) := by
  obtain ⟨q, os, rfl⟩ := h
  exact ⟨q + n, os, by simp [grow, World.drewN, Nat.add_assoc]⟩
theorem Grows.below {w w' : World} (h : Grows w w') : Below w.heap.size w w' := by
  obtain ⟨q, os, rfl⟩ := h
  exact ⟨rfl, rfl, rfl, by simp [grow, World.drewN], fun k hk => by simp [grow, World.drewN, Array.getElem?_append, hk]⟩
theorem Grows.trans {a b c : World} (h : Grows a b) (k : Grows b c) : Grows a c := by
  obtain ⟨q, os, rfl⟩ := h
  obtain ⟨q', os', rfl⟩ := k
  exact ⟨q + q', os ++ os', by simp [grow, World.drewN, Array.append_assoc, Nat.add_assoc]⟩
theorem Grows.drawn {w w' : World} (h : Grows w w') : w.drawn ≤ w'.drawn := by
  obtain ⟨q, os, rfl⟩ := h
  exact Nat.le_add_right _ _
theorem Grows.of {w w' : World} (hb : Below w.heap.size w w') (hd : w.drawn ≤ w'.drawn) : Grows w w' := by
  refine ⟨w'.drawn - w.drawn, w'.heap.extract w.heap.size w'.heap.size, ?_⟩
  obtain ⟨h1, h2, h3, h4, h5⟩ := hb
  cases w with
  | mk hp tp dr os op =>
    cases w' with
    | mk hp' tp' dr' os' op' =>
      simp only at h1 h2 h3 h4 h5 hd
      subst h1 h2 h3
      simp only [Go.Sort.grow, World.drewN]
      congr 1
      · apply Array.ext_getElem?
        intro k
        rw [Array.getElem?_append]
        by_cases hk : k < hp.size
        · rw [if_pos hk]; exact h5 k hk
        · rw [if_neg hk, Array.getElem?_extract]
          by_cases hk2 : k < hp'.size
          · rw [if_pos (by omega), show hp.size + (k - hp.size) = k by omega]
          · rw [if_neg (by omega)]; simp; omega
      · omega
theorem Grows.setCell {w w' : World} (h : Grows w w') {p : Addr} (hp : w.heap.size ≤ p.block) (v : Value) : Grows w (w'.setCell p v) := .of (h.below.setCell (p := p) hp v) h.drawn
/-- A contract in the form that go_quiet_grown asks. -/
theorem Grows.quiet {P : Program} {f : FuncId} {args : Array Value} {w : World} {n : Nat} {os : Array Obj} {v : Value}
    (h : Calls P f args (grow (w.drewN n) os) fun e w' => e = .returned v ∧ Grows (grow (w.drewN n) os) w') : Calls P f args (grow (w.drewN n) os) fun e w'' => e = .returned v ∧ ∃ p : GrownBy, w'' = grow (w.drewN p.n) p.os :=
  Calls.grown_of h
theorem Grows.grow {w w' : World} (h : Grows w w') (n : Nat) (os : Array Obj) : Grows w (grow (w'.drewN n) os) := h.trans ⟨n, os, rfl⟩
theorem Grows.cell {w w' : World} (h : Grows w w') {p : Addr} {v : Value} (hc : w.cell? p = some v) : w'.cell? p = some v :=
  (h.below.cell (p := p) (World.block_lt_of_cell? w _ hc)).trans hc

end Go.Proofs.YtdnpeefnobjfaaaGreatDoor
