/- The reference's New: own prefixes put in their places, in plain math; a cost more. -/
import Derived.Test.YtdnpeefnobjfaaaGreatDoorQRefM
import Derived.Test.YtdnpeefnobjfaaaGreatDoorTToM
import Derived.Test.YtdnpeefnobjfaaaGreatDoorQTickM
import Derived.Test.YtdnpeefnobjfaaaGreatDoorDecM
namespace Go.Proofs.YtdnpeefnobjfaaaGreatDoor
open Go.RowKit Go.Shelf

theorem ahead_own (p q : Pf) : aheadB p (ownRw q) = true ↔ pfLt p q := by
  show (decide (p.addr < q.addr) || decide (p.addr = q.addr) && decide (p.len < q.len)) = true ↔ _
  simp [pfLt]
theorem pfLt_of_not {p q : Pf} (h : ¬ pfLt p q) (hne : p ≠ q) : pfLt q p := by
  unfold pfLt at *
  have : ¬ (p.addr = q.addr ∧ p.len = q.len) := fun h2 => hne ((Pf.beq_iff _ _).2 h2)
  omega
theorem ins_own (Ls : List Pf) (p : Pf) (hso : Ls.Pairwise pfLt) (hnew : p ∉ Ls) :
    insL (Ls.map ownRw) (ownRw p) = (Ls.take (insAt (Ls.map ownRw) p) ++ p :: Ls.drop (insAt (Ls.map ownRw) p)).map ownRw ∧ (Ls.take (insAt (Ls.map ownRw) p) ++ p :: Ls.drop (insAt (Ls.map ownRw) p)).Perm (p :: Ls) ∧ (Ls.take (insAt (Ls.map ownRw) p) ++ p :: Ls.drop (insAt (Ls.map ownRw) p)).Pairwise pfLt := by
  have hpf : rwPf (ownRw p) = p := rfl
  refine ⟨?_, ?_, ?_⟩
  · unfold insL
    rw [hpf, List.map_append, List.map_cons, List.map_take, List.map_drop]
  · refine List.perm_middle.trans ?_
    rw [List.take_append_drop]
  · have hle := insAt_le (Ls.map ownRw) p
    rw [List.length_map] at hle
    have hnot : ∀ j, (hj : j < Ls.length) → j < insAt (Ls.map ownRw) p → pfLt Ls[j] p := fun j hj hji => by
      have := insAt_not (L := Ls.map ownRw) (p := p) hji (by simpa using hj)
      rw [List.getElem_map] at this
      refine pfLt_of_not (fun h => ?_) (fun e => hnew (e ▸ List.getElem_mem hj))
      rw [(ahead_own p Ls[j]).2 h] at this
      cases this
    have hyes : ∀ j, (hj : j < Ls.length) → insAt (Ls.map ownRw) p ≤ j → pfLt p Ls[j] := fun j hj hji => by
      have hil : insAt (Ls.map ownRw) p < Ls.length := by omega
      have := insAt_is (L := Ls.map ownRw) (p := p) (by simpa using hil)
      rw [List.getElem_map] at this
      have h1 := (ahead_own p _).1 this
      by_cases e : insAt (Ls.map ownRw) p = j
      · subst e; exact h1
      · exact pfLt_trans h1 (List.pairwise_iff_getElem.1 hso _ _ hil hj (by omega))
    rw [List.pairwise_append]
    refine ⟨hso.sublist (List.take_sublist _ _), List.pairwise_cons.2 ⟨fun q hq => ?_, hso.sublist (List.drop_sublist _ _)⟩, fun a ha b hb => ?_⟩
    · obtain ⟨j, hj, rfl⟩ := List.mem_iff_getElem.1 hq
      rw [List.getElem_drop]
      exact hyes _ _ (by omega)
    · obtain ⟨i, hi, rfl⟩ := List.mem_iff_getElem.1 ha
      rw [List.length_take] at hi
      rw [List.getElem_take]
      have h1 := hnot i (by omega) (by omega)
      rcases List.mem_cons.1 hb with rfl | hb
      · exact h1
      · obtain ⟨j, hj, rfl⟩ := List.mem_iff_getElem.1 hb
        rw [List.getElem_drop]
        exact pfLt_trans h1 (hyes _ _ (by omega))

/-- A cost more. -/
theorem newCost_step {wr w5 : World} {o : Obj} {base Q n g5 c5 : Nat} {l : List Int} {c : Int} {cv : Value} (hA : RefAt wr base Q l [] cv (.slice none 0 0)) (hn : n = l.length + 1) (hown5 : w5.ownsRow base 3 1 (.slice (some ⟨g5, 0, none⟩) n c5) n (numList l ++ [.int .i64 c])) (hg : (wr.alloc o).drew.grownBy w5 cv.ownBlock) :
    RefAt (w5.setCell ⟨Q, 0, none⟩ (.slice (some ⟨g5, 0, none⟩) n c5)) base Q (l ++ [c]) [] (.slice (some ⟨g5, 0, none⟩) n c5) (.slice none 0 0) ∧ (∀ B cs t, Blk wr B cs t → t ≠ 3 → B ≠ Q → Blk (w5.setCell ⟨Q, 0, none⟩ (.slice (some ⟨g5, 0, none⟩) n c5)) B cs t) := by
  have hk : ∀ B cs t, Blk wr B cs t → t ≠ 3 → Blk w5 B cs t := fun B cs t hB ht => by
    have hB2 : Blk (wr.alloc o).drew B cs t := (hB.alloc o).below (Below.refl (B + 1) _).drew (by omega)
    refine (hg.block B hB2.lt (fun e => ?_)).trans hB2
    rcases hA.costs.2 with ⟨hv, _⟩ | ⟨g, c', cur, hv, _, hgc, _⟩
    · rw [hv] at e; simp [Value.ownBlock] at e
    · rw [hv] at e
      simp [Value.ownBlock] at e
      subst e
      unfold Blk at hB
      rw [hB] at hgc
      simp at hgc
      exact ht hgc.2
  have hb := hk Q _ _ hA.blk (by decide)
  subst hn
  refine ⟨⟨hb.set 0 _, ?_, World.ownsRow_nil _ _ _ _, hA.new⟩, fun B cs t hB ht hne => (hk B cs t hB ht).other (p := ⟨Q, 0, none⟩) (Ne.symm hne) _⟩
  have := ownsRow_other (i := 0) (u := .slice (some ⟨g5, 0, none⟩) (l.length + 1) c5) hown5 hb (by decide)
  simpa [numList] using this

end Go.Proofs.YtdnpeefnobjfaaaGreatDoor

/- What a table keeps, whatever is done to it. -/
namespace Go.Proofs.YtdnpeefnobjfaaaGreatDoor
open Go.RowKit Go.Shelf

/-- A row that can be told. -/
def RwFine (r : Rw) : Prop := (0 ≤ r.addr ∧ r.addr < 4294967296) ∧ pfxB r.addr r.len = true ∧ tagB r.tag = true ∧ metB r.met = true
theorem met16 : metB 16 = true := by decide
theorem RwFine.lost {r : Rw} (h : RwFine r) : RwFine (rwLost r) := by
  unfold rwLost
  split
  · exact h
  · exact ⟨h.1, h.2.1, h.2.2.1, met16⟩
theorem RwFine.older {r : Rw} (h : RwFine r) : RwFine (rwOlder r) := by
  unfold rwOlder
  split
  · exact h
  · split
    · exact RwFine.lost (r := { r with age := r.age + 1 }) h
    · exact h
theorem RwFine.heard {r n : Rw} (h : RwFine r) (hn : RwFine n) : RwFine (rwHeard r n) := by
  unfold rwHeard
  split
  · exact h
  · split
    · unfold rwRetold
      split
      · exact h.lost
      · exact hn
    · split
      · exact hn
      · exact h
theorem takeL_all {P : Rw → Prop} {L : List Rw} {n : Rw} (h : ∀ r ∈ L, P r) (hf : P (rwFresh n)) (hh : ∀ r, P r → P (rwHeard r n)) : ∀ r ∈ takeL L n, P r := by
  have hins : ∀ i, ∀ r ∈ L.take i ++ rwFresh n :: L.drop i, P r := fun i r hr => by
    rcases List.mem_append.1 hr with h1 | h1
    · exact h r (List.mem_of_mem_take h1)
    · rcases List.mem_cons.1 h1 with rfl | h2
      · exact hf
      · exact h r (List.mem_of_mem_drop h2)
  unfold takeL takeAt
  split
  · rename_i x hx
    split
    · intro r hr
      rcases List.mem_or_eq_of_mem_set hr with h1 | rfl
      · exact h r h1
      · exact hh x (h x (List.mem_of_getElem? hx))
    · split
      · exact hins _
      · exact h
  · split
    · exact hins _
    · exact h
/-- An entry that was read. -/
def EntFine (e : Ent) : Prop := (0 ≤ e.addr ∧ e.addr < 4294967296) ∧ pfxB e.addr e.len = true ∧ tagB e.tag = true ∧ metB e.met = true
theorem firstErr_fine {l : List Ent} {k : Int} (h : firstErr l k = none) : ∀ e ∈ l, entErr e = 0 := by
  induction l generalizing k with
  | nil => simp
  | cons e l ih =>
    rw [firstErr] at h
    split at h
    · rename_i h0
      intro x hx
      rcases List.mem_cons.1 hx with rfl | h2
      · exact h0
      · exact ih h x h2
    · cases h
theorem entErr_fine {e : Ent} (h : entErr e = 0) : pfxB e.addr e.len = true ∧ tagB e.tag = true ∧ metB e.met = true := by
  unfold entErr at h
  cases h1 : pfxB e.addr e.len with
  | false => rw [h1] at h; simp at h
  | true =>
    cases h2 : tagB e.tag with
    | false => rw [h1, h2] at h; simp at h
    | true =>
      cases h3 : metB e.met with
      | false => rw [h1, h2, h3] at h; simp at h
      | true => exact ⟨rfl, rfl, rfl⟩
theorem read_fine {b : List UInt8} (h : decErr b = none) : ∀ e ∈ decEnts b, EntFine e := by
  obtain ⟨h1, _, h3⟩ := writes h
  intro e he
  refine ⟨h3 e he, ?_⟩
  unfold encErr at h1
  split at h1
  · cases h1
  · split at h1
    · cases h1
    · first
        | exact entErr_fine (firstErr_fine h1 e he)
        | (split at h1 <;> first | cases h1 | exact entErr_fine (firstErr_fine h1 e he))
theorem news_fine {e : Ent} (h : EntFine e) (frm : Int) {cost : Int} (h1 : 1 ≤ cost) : RwFine (newsRw e frm cost) := by
  obtain ⟨ha, hp, ht, hm⟩ := h
  refine ⟨ha, hp, ht, ?_⟩
  simp only [metB, Bool.and_eq_true, decide_eq_true_eq] at hm
  show metB (min (e.met + cost) 16) = true
  simp only [metB, Bool.and_eq_true, decide_eq_true_eq]
  omega
theorem sorted_map {L : List Rw} {f : Rw → Rw} (hf : ∀ r, rwPf (f r) = rwPf r) (h : rwSorted L) : rwSorted (L.map f) := by
  unfold rwSorted at h ⊢
  rw [List.pairwise_map]
  simpa only [hf] using h
theorem lost_pf (r : Rw) : rwPf (rwLost r) = rwPf r := by unfold rwLost; split <;> rfl
theorem older_pf (r : Rw) : rwPf (rwOlder r) = rwPf r := by
  unfold rwOlder
  split
  · rfl
  · split
    · exact lost_pf _
    · rfl

/-- A table as both routers keep it. -/
structure TabOk (L : List Rw) : Prop where
  sorted : rwSorted L
  len : L.length ≤ 60
  ok : ∀ r ∈ L, RwOk r
  fine : rowsFine L
theorem TabOk.lost {L : List Rw} (h : TabOk L) (nb : Int) : TabOk (lostL nb L) := by
  refine ⟨?_, by simp only [lostL, List.length_map]; exact h.len, RwOk.lost nb h.ok, fun r hr => ?_⟩
  · refine sorted_map (fun r => ?_) h.sorted
    split
    · exact lost_pf r
    · rfl
  · obtain ⟨q, hq, rfl⟩ := List.mem_map.1 hr
    split
    · exact RwFine.lost (h.fine q hq)
    · exact h.fine q hq
theorem TabOk.tick {L : List Rw} (h : TabOk L) : TabOk (tickL L) := by
  refine ⟨(sorted_map older_pf h.sorted).sublist List.filter_sublist, Nat.le_trans (tick_length L) h.len, RwOk.tick h.ok, fun r hr => ?_⟩
  obtain ⟨h1, _⟩ := List.mem_filter.1 hr
  obtain ⟨q, hq, rfl⟩ := List.mem_map.1 h1
  exact RwFine.older (h.fine q hq)
theorem TabOk.later {L : List Rw} (h : TabOk L) : ∀ n, TabOk (laterL n L)
  | 0 => h
  | n + 1 => (TabOk.later h n).tick
theorem TabOk.take {L : List Rw} (h : TabOk L) {e : Ent} (he : EntFine e) (frm : Nat) {cost : Int} (hc : 1 ≤ cost) : TabOk (takeL L (newsRw e frm cost)) :=
  ⟨takeL_sorted _ h.sorted, takeL_length _ _ h.len, RwOk.take h.ok (NewsOk.of e frm cost), takeL_all (P := RwFine) h.fine (news_fine he frm hc) (fun _ hr => hr.heard (news_fine he frm hc))⟩
theorem TabOk.heard {L : List Rw} (h : TabOk L) (frm : Nat) {cost : Int} (hc : 1 ≤ cost) {es : List Ent} (hes : ∀ e ∈ es, EntFine e) : TabOk (heardL L frm cost es) := by
  induction es generalizing L with
  | nil => exact h
  | cons e es ih => exact ih (h.take (hes e (List.mem_cons_self ..)) frm hc) (fun x hx => hes x (List.mem_cons_of_mem _ hx))
theorem TabOk.ages {L : List Rw} (h : TabOk L) : agesIn 10000 L := fun r hr => ⟨(h.ok r hr).age0, by have := (h.ok r hr).age; omega⟩
theorem TabOk.own {Ls : List Pf} (hs : Ls.Pairwise pfLt) (hl : Ls.length ≤ 60) (hf : ∀ p ∈ Ls, (0 ≤ p.addr ∧ p.addr < 4294967296) ∧ pfxB p.addr p.len = true) : TabOk (Ls.map ownRw) := by
  refine ⟨?_, by rw [List.length_map]; exact hl, fun r hr => ?_, fun r hr => ?_⟩
  · unfold rwSorted
    rw [List.pairwise_map]
    exact hs
  · obtain ⟨p, _, rfl⟩ := List.mem_map.1 hr
    exact ⟨show (1 : Int) ≤ 16 by decide, Int.le_refl _, Int.le_refl _, show (0 : Int) < 180 by decide, fun _ => show (0 : Int) < 120 by decide⟩
  · obtain ⟨p, hp, rfl⟩ := List.mem_map.1 hr
    exact ⟨(hf p hp).1, (hf p hp).2, show tagB 0 = true by decide, show metB 1 = true by decide⟩

end Go.Proofs.YtdnpeefnobjfaaaGreatDoor
