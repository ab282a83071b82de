/- Table.Heard: the rows behind what a neighbour told. -/
import Derived.Test.YtdnpeefnobjfaaaGreatDoorTTake
namespace Go.Proofs.YtdnpeefnobjfaaaGreatDoor
open Go.RowKit Go.Shelf Go.Lib
attribute [local go_sem ↓] Go.wp_at_zero Go.wp_at_succ

theorem heard_pf (r n : Rw) (h : rwPf r = rwPf n) : rwPf (rwHeard r n) = rwPf r := by
  unfold rwHeard rwRetold rwLost rwFresh
  split
  · rfl
  · split
    · split
      · split <;> rfl
      · exact h.symm
    · split
      · exact h.symm
      · rfl
theorem pfLt_total {a b : Pf} (h : ¬ pfLt a b) (hne : a ≠ b) : pfLt b a := by
  unfold pfLt at *
  have : ¬ (a.addr = b.addr ∧ a.len = b.len) := fun e => hne (by cases a; cases b; simp at e; simp [e])
  omega
theorem place_of_ix {L : List Rw} {p : Pf} (hso : rwSorted L) : placeOf L p (ixOf L p) := by
  induction L with
  | nil => exact ⟨Nat.le_refl _, fun j hj => by simp at hj, fun j hj => by simp at hj⟩
  | cons r R ih =>
    have hso' := List.pairwise_cons.1 hso
    obtain ⟨h1, h2, h3⟩ := ih hso'.2
    by_cases h : pfLt (rwPf r) p
    · have e : ixOf (r :: R) p = ixOf R p + 1 := by
        unfold ixOf
        rw [List.takeWhile_cons, if_pos (by simpa using (pfLt_rw r p).1 h)]
        rfl
      rw [e]
      refine ⟨by simpa using h1, fun j hj hji => ?_, fun j hj hji => ?_⟩
      · cases j with
        | zero => exact h
        | succ j => exact h2 j (by simpa using hj) (by omega)
      · cases j with
        | zero => omega
        | succ j => exact h3 j (by simpa using hj) (by omega)
    · have e : ixOf (r :: R) p = 0 := by
        unfold ixOf
        rw [List.takeWhile_cons, if_neg (by simpa using fun x => h ((pfLt_rw r p).2 x))]
        rfl
      rw [e]
      refine ⟨by simp, fun j hj hji => by omega, fun j hj hji => ?_⟩
      cases j with
      | zero => exact h
      | succ j =>
        have hj' : j < R.length := by simpa using hj
        exact fun hlt => h (pfLt_trans (hso'.1 R[j] (List.getElem_mem _)) hlt)
theorem takeL_sorted {L : List Rw} (n : Rw) (hso : rwSorted L) : rwSorted (takeL L n) := by
  have hp := place_of_ix (p := rwPf n) hso
  have hput : ∀ (_ : ((L[ixOf L (rwPf n)]?.map rwPf) == some (rwPf n)) = false), rwSorted (L.take (ixOf L (rwPf n)) ++ rwFresh n :: L.drop (ixOf L (rwPf n))) := fun hne => by
    generalize ixOf L (rwPf n) = i at *
    obtain ⟨h1, h2, h3⟩ := hp
    have hmore : ∀ j, (hj : j < L.length) → i ≤ j → pfLt (rwPf n) (rwPf L[j]) := fun j hj hij => by
      refine pfLt_total (h3 j hj hij) fun e => ?_
      by_cases hji : j = i
      · subst hji
        rw [List.getElem?_eq_getElem hj] at hne
        simp [e] at hne
      · have hi : i < L.length := by omega
        have := rwSorted_lt hso hi hj (by omega)
        rw [e] at this
        exact h3 i hi (Nat.le_refl _) this
    refine List.pairwise_append.2 ⟨hso.sublist (List.take_sublist _ _), List.pairwise_cons.2 ⟨fun b hb => ?_, hso.sublist (List.drop_sublist _ _)⟩, fun a ha b hb => ?_⟩
    · obtain ⟨k, hk, rfl⟩ := List.getElem_of_mem hb
      rw [List.getElem_drop]
      exact hmore _ _ (by omega)
    · obtain ⟨k, hk, rfl⟩ := List.getElem_of_mem ha
      rw [List.length_take] at hk
      rw [List.getElem_take]
      rcases List.mem_cons.1 hb with rfl | hb
      · exact h2 k (by omega) (by omega)
      · obtain ⟨m, hm, rfl⟩ := List.getElem_of_mem hb
        rw [List.length_drop] at hm
        rw [List.getElem_drop]
        exact rwSorted_lt hso (by omega) (by omega) (by omega)
  cases hq : ((L[ixOf L (rwPf n)]?.map rwPf) == some (rwPf n)) with
  | true =>
    have hi : ixOf L (rwPf n) < L.length := by
      refine Nat.lt_of_not_le fun h => ?_
      rw [List.getElem?_eq_none h] at hq
      simp at hq
    have hpf : rwPf L[ixOf L (rwPf n)] = rwPf n := by
      rw [List.getElem?_eq_getElem hi] at hq
      simpa using hq
    rw [takeL_found hi rfl hpf]
    refine List.pairwise_iff_getElem.2 fun a b ha hb hab => ?_
    rw [List.length_set] at ha hb
    have h0 := rwSorted_lt hso ha hb hab
    have hx : ∀ k, (hk : k < L.length) → rwPf ((L.set (ixOf L (rwPf n)) (rwHeard L[ixOf L (rwPf n)] n))[k]'(by rw [List.length_set]; exact hk)) = rwPf L[k] := fun k hk => by
      rw [List.getElem_set]
      split
      · rename_i e; subst e; exact heard_pf _ _ hpf
      · rfl
    rw [hx a ha, hx b hb]
    exact h0
  | false =>
    rw [takeL_other rfl hq]
    split
    · exact hput hq
    · exact hso
theorem takeL_length (L : List Rw) (n : Rw) (h : L.length ≤ 60) : (takeL L n).length ≤ 60 := by
  have hi := ixOf_le L (rwPf n)
  unfold takeL takeAt
  split
  · split
    · simpa using h
    · split
      · simp; omega
      · exact h
  · split
    · simp; omega
    · exact h

/-- A table behind all that a neighbour told. -/
def heardL (L : List Rw) (frm cost : Int) : List Ent → List Rw
  | [] => L
  | e :: es => heardL (takeL L (newsRw e frm cost)) frm cost es
theorem heardL_snoc (L : List Rw) (frm cost : Int) (es : List Ent) (e : Ent) : heardL L frm cost (es ++ [e]) = takeL (heardL L frm cost es) (newsRw e frm cost) := by
  induction es generalizing L with
  | nil => rfl
  | cons x es ih => exact ih _
theorem heardL_sorted {L : List Rw} (frm cost : Int) (es : List Ent) (hso : rwSorted L) : rwSorted (heardL L frm cost es) := by
  induction es generalizing L with
  | nil => exact hso
  | cons e es ih => exact ih (takeL_sorted _ hso)
theorem heardL_length {L : List Rw} (frm cost : Int) (es : List Ent) (h : L.length ≤ 60) : (heardL L frm cost es).length ≤ 60 := by
  induction es generalizing L with
  | nil => exact h
  | cons e es ih => exact ih (takeL_length _ _ h)

set_option maxRecDepth 100000 in
set_option maxHeartbeats 4000000 in
theorem tableHeard_any (base : Nat) (ao ae : Option Addr) (cap ne ce : Nat) (L : List Rw) (es : List Ent) (frm cost : Int) (w : World) (h60 : L.length ≤ 60) (hso : rwSorted L) (hne : es.length = ne) (hbig : ne ≤ 1000000) (hmet : ∀ e ∈ es, 0 ≤ e.met ∧ e.met ≤ 16) (hc0 : 0 ≤ cost) (hc1 : cost ≤ 15) (hes : entSlice w ae es) (hown : w.ownsRow base 137 7 (.slice ao L.length cap) L.length (rwList L)) :
    Calls Tryz.prog 46 #[.agg #[.slice ao L.length cap], .int .i64 frm, .int .i64 cost, .slice ae ne ce] w fun e w' => ∃ v, e = .returned (.agg #[v]) ∧ w'.ownsRow w.heap.size 137 7 v (heardL L frm cost es).length (rwList (heardL L frm cost es)) ∧ Below w.heap.size w w' := by
  have bT := outBlk w #[.slice ao L.length cap] 120 #[.slice none 0 0] 120
  have hb0 := (((Grows.refl w).alloc (.cells #[.slice ao L.length cap] 120)).alloc (.cells #[.slice none 0 0] 120)).below
  have hsz : ((w.alloc (.cells #[.slice ao L.length cap] 120)).alloc (.cells #[.slice none 0 0] 120)).heap.size = w.heap.size + 2 := by simp
  have hcl := cloneRow_any base (.slice ao L.length cap) L ((w.alloc (.cells #[.slice ao L.length cap] 120)).alloc (.cells #[.slice none 0 0] 120)) (by omega) (ownsRow_below hown hb0 (Nat.le_refl _))
  have HT := hide bT
  have HB0 := hide hb0
  have HSZ := hide hsz
  have HES := hide hes
  have HSO := hide hso
  have HMET := hide hmet
  have HNE := hide hne
  clear bT hb0 hown hsz hso hmet hes hne
  go_enter Tryz.func46, Tryz.ntmps46
  go_wp2_with fail
  refine hcl.mono ?_
  rintro e w1 ⟨v', rfl, hown1, hb1⟩
  rw [unhide HSZ] at hown1 hb1
  obtain ⟨ao', cap', rfl⟩ := ownsRow_slice hown1
  have HB1 := hide hb1
  have hs1 : w.heap.size + 2 ≤ w1.heap.size := by have := hb1.size; rw [unhide HSZ] at this; exact this
  have bT1 := (unhide HT).below hb1 (by omega)
  clear hcl hb1
  go_wp2_with fail
  go_loopw [9, 17] (fun d i wr => ∃ t : Nat, t ≤ ne ∧ i = .int .i64 t ∧ wr.ownsRow (w.heap.size + 2) 137 7 d (heardL L frm cost (es.take t)).length (rwList (heardL L frm cost (es.take t))) ∧ Below (w.heap.size + 2) w1 wr) (fun _ i _ => ne - (intOf i).toNat)
  case atStart => exact ⟨0, by omega, rfl, hown1, Below.refl _ _⟩
  case round =>
    obtain ⟨t, ht, rfl, hown, hb⟩ := hrel
    clear hown1
    by_cases hlt : t < ne
    · have hkL : t < es.length := by rw [unhide HNE]; exact hlt
      have hbw : Below w.heap.size w wr := (unhide HB0).trans (((unhide HB1).mono (by omega)).trans (hb.mono (by omega)))
      rcases unhide HES with h0 | ⟨b, off, rfl, hcw⟩
      · rw [h0] at hkL; simp at hkL
      · obtain ⟨d0, d1, d2, d3⟩ := entCells_below hcw hbw (entCells_lt hcw (by omega)) t hkL
        obtain ⟨hm0, hm1⟩ := unhide HMET es[t] (List.getElem_mem _)
        have HSN := hide (show heardL L frm cost (es.take (t + 1)) = takeL (heardL L frm cost (es.take t)) (newsRw es[t] frm cost) by rw [List.take_succ_eq_append_getElem hkL, heardL_snoc])
        have hM60 := heardL_length frm cost (es.take t) h60
        have hMso := heardL_sorted frm cost (es.take t) (unhide HSO)
        generalize heardL L frm cost (es.take t) = M at *
        generalize es[t] = E at *
        have j0 : (0 : Int) ≤ (t : Int) := by omega
        have j1 : (t : Int) < (ne : Int) := by omega
        have HO := hide hown
        have HB := hide hb
        have HSM := hide hMso
        clear hown hb hcw hbw hMso
        go_wp2_with (first | (go_at_call 97; refine (newsOf_any E frm cost _ hm0 hm1 hc0 hc1).mono ?_; rintro e w4 ⟨rfl, hg4⟩; have hg4' := ((Grows.refl wr).alloc _).trans hg4; have HO4 := hide (ownsRow_below (unhide HO) hg4'.below (Nat.le_refl _)); have HB4 := hide ((unhide HB).trans (hg4'.below.mono (by have := (unhide HB).size; omega))); clear hg4 hg4') | (go_at_call 96; refine (take_any (w.heap.size + 2) _ M (newsRw E frm cost) w4 (by omega) (unhide HSM) (by have := (unhide HB4).size; omega) (unhide HO4)).mono ?_; rintro e w5 ⟨v5, rfl, hown5, hb5⟩))
        go_roundw
        case rel =>
          exact ⟨t + 1, by omega, by go_num, by rw [unhide HSN]; exact hown5, (unhide HB4).trans hb5⟩
        case measure => simp [intOf]; omega
    · have htn : t = ne := by omega
      subst htn
      have bT2 := bT1.below hb (by omega)
      have s0 := bT2.cell 0
      have z0 := bT2.frozen 0
      have hall : es.take t = es := List.take_of_length_le (by rw [unhide HNE]; omega)
      rw [hall] at hown
      obtain ⟨ao2, cap2, hd⟩ := ownsRow_slice hown
      have HOWN := hide hown
      have HB := hide hb
      clear hown hb hall
      subst hd
      go_wp2
      have bT3 := bT2.set 0 (.slice ao2 (heardL L frm cost es).length cap2)
      have t0 := bT3.cell 0
      simp at t0
      refine bodyPost_ret (v := .agg #[.slice ao2 (heardL L frm cost es).length cap2]) (by simp [results, Tryz.results46, go_sem, t0]) rfl ⟨_, rfl, ?_, ?_⟩
      · exact ownsRow_mono (ownsRow_other (unhide HOWN) bT2 (by decide)) (by omega)
      · exact ((unhide HB0).trans (((unhide HB1).mono (by omega)).trans ((unhide HB).mono (by omega)))).setCell (p := ⟨w.heap.size + 1, 0, none⟩) (by simp) _

end Go.Proofs.YtdnpeefnobjfaaaGreatDoor
