/- table.take: a row of news taken into a table's rows. -/
import Derived.Test.YtdnpeefnobjfaaaGreatDoorTLaterM
namespace Go.Proofs.YtdnpeefnobjfaaaGreatDoor
open Go.RowKit Go.Shelf Go.Lib
attribute [local go_sem ↓] Go.wp_at_zero Go.wp_at_succ

theorem ownsRow_from {w : World} {base e sz n : Nat} {v : Value} {xs : List Value} (h : w.ownsRow base e sz v n xs) : ∀ q, v.ownBlock = some q → base ≤ q ∧ q < w.heap.size := fun q hq => by
  rcases h.2 with ⟨hv, _⟩ | ⟨g', c, cur, hv, hbg, hg, _⟩
  · rw [hv] at hq; simp [Value.ownBlock] at hq
  · rw [hv] at hq
    simp [Value.ownBlock] at hq
    subst hq
    exact ⟨hbg, (Array.getElem?_eq_some_iff.1 hg).1⟩

theorem insert_any (base : Nat) (v : Value) (i vb : Nat) (L : List Rw) (r : Rw) (w : World) (hn : L.length ≤ 1000000) (hi : i ≤ L.length) (hbase : base ≤ w.heap.size) (hvb : v.ownBlock ≠ some vb) (hown : w.ownsRow base 137 7 v L.length (rwList L)) (hv : Blk w vb (rwVals r).toArray 137) :
    Calls Tryz.prog 149 #[v, .int .i64 i, .slice (some ⟨vb, 0, none⟩) 1 1] w fun e w' => ∃ v', e = .returned v' ∧ w'.ownsRow base 137 7 v' (L.length + 1) (rwList (L.take i ++ r :: L.drop i)) ∧ w.grownBy w' v.ownBlock := by
  by_cases h : i = L.length
  · subst h
    refine (insert_end base v L.length vb (rwList L) r w hn hbase hown hv).mono ?_
    rintro e w' ⟨v', rfl, ho, hg⟩
    refine ⟨v', rfl, ?_, hg⟩
    rw [List.take_length, List.drop_length, rwList_snoc]
    exact ho
  · obtain ⟨ao, cap, rfl⟩ := ownsRow_slice hown
    obtain ⟨g, rfl⟩ : ∃ g, ao = some ⟨g, 0, none⟩ := by
      rcases hown.2 with ⟨_, h0⟩ | ⟨g, c, cur, hv, _⟩
      · omega
      · simp at hv; exact ⟨g, hv.1⟩
    have hvg : vb ≠ g := fun e => hvb (by simp [Value.ownBlock, e])
    by_cases hr : L.length + 1 ≤ cap
    · refine (insert_room base g L.length cap i vb L r w rfl hn (by omega) hr hvg hown hv).mono ?_
      rintro e w' ⟨rfl, ho, hg⟩
      exact ⟨_, rfl, ho, hg⟩
    · refine (insert_grow base g L.length cap i vb L r w rfl hn (by omega) (by omega) hbase hown hv).mono ?_
      rintro e w' ⟨G, rfl, ho, hg⟩
      exact ⟨_, rfl, ho, hg⟩

/-- The place of a prefix in a table. -/
def ixOf (L : List Rw) (p : Pf) : Nat := (L.takeWhile fun r => decide (r.addr < p.addr ∨ r.addr = p.addr ∧ r.len < p.len)).length
theorem pfLt_rw (r : Rw) (p : Pf) : pfLt (rwPf r) p ↔ (r.addr < p.addr ∨ r.addr = p.addr ∧ r.len < p.len) := by simp [pfLt, rwPf]
theorem ixOf_le (L : List Rw) (p : Pf) : ixOf L p ≤ L.length := by
  unfold ixOf
  exact (List.takeWhile_sublist _).length_le
theorem place_ix {L : List Rw} {p : Pf} {i : Nat} (h : placeOf L p i) : i = ixOf L p := by
  unfold ixOf
  induction L generalizing i with
  | nil => have := h.1; simp at this; simp [this]
  | cons r R ih =>
    obtain ⟨h1, h2, h3⟩ := h
    cases i with
    | zero =>
      have := h3 0 (by simp) (Nat.le_refl _)
      simp only [List.getElem_cons_zero, pfLt_rw] at this
      rw [List.takeWhile_cons, if_neg (by simpa using this)]
      rfl
    | succ i =>
      have h0 := h2 0 (by simp) (by omega)
      simp only [List.getElem_cons_zero, pfLt_rw] at h0
      have := ih (i := i) ⟨by simpa using h1, fun j hj hji => h2 (j + 1) (by simpa using hj) (by omega), fun j hj hji => h3 (j + 1) (by simpa using hj) (by omega)⟩
      rw [List.takeWhile_cons, if_pos (by simpa using h0), List.length_cons, ← this]
/-- A table behind one piece of news. -/
def takeAt (L : List Rw) (n : Rw) (i : Nat) : List Rw :=
  match L[i]? with
  | some r => if rwPf r = rwPf n then L.set i (rwHeard r n) else if n.met < 16 ∧ L.length < 60 then L.take i ++ rwFresh n :: L.drop i else L
  | none => if n.met < 16 ∧ L.length < 60 then L.take i ++ rwFresh n :: L.drop i else L
def takeL (L : List Rw) (n : Rw) : List Rw := takeAt L n (ixOf L (rwPf n))

theorem takeL_found {L : List Rw} {n : Rw} {i : Nat} (hi : i < L.length) (hix : i = ixOf L (rwPf n)) (h : rwPf L[i] = rwPf n) : takeL L n = L.set i (rwHeard L[i] n) := by
  unfold takeL takeAt
  rw [← hix, List.getElem?_eq_getElem hi]
  simp only [h, if_true]
theorem takeL_other {L : List Rw} {n : Rw} {i : Nat} (hix : i = ixOf L (rwPf n)) (h : ((L[i]?.map rwPf) == some (rwPf n)) = false) : takeL L n = if n.met < 16 ∧ L.length < 60 then L.take i ++ rwFresh n :: L.drop i else L := by
  unfold takeL takeAt
  rw [← hix]
  cases hq : L[i]? with
  | none => rfl
  | some r =>
    rw [hq] at h
    have h' : ¬ rwPf r = rwPf n := by simpa using h
    simp only [h', if_false]

set_option maxRecDepth 100000 in
set_option maxHeartbeats 4000000 in
theorem take_any (base : Nat) (v : Value) (L : List Rw) (nw : Rw) (w : World) (hn : L.length ≤ 100000) (hso : rwSorted L) (hbase : base ≤ w.heap.size) (hown : w.ownsRow base 137 7 v L.length (rwList L)) :
    Calls Tryz.prog 96 #[v, .agg #[.int .u32 nw.addr, .int .i64 nw.len, .int .i64 nw.tag, .int .i64 nw.met, .int .i64 nw.frm]] w fun e w' => ∃ v', e = .returned v' ∧ w'.ownsRow base 137 7 v' (takeL L nw).length (rwList (takeL L nw)) ∧ Below base w w' := by
  obtain ⟨ao, cap, rfl⟩ := ownsRow_slice hown
  have hg0 := (Grows.refl w).alloc (.cells #[.int .u32 nw.addr, .int .i64 nw.len, .int .i64 nw.tag, .int .i64 nw.met, .int .i64 nw.frm] 52)
  have hS := search_any ao L.length cap L (rwPf nw) (w.alloc (.cells #[.int .u32 nw.addr, .int .i64 nw.len, .int .i64 nw.tag, .int .i64 nw.met, .int .i64 nw.frm] 52)) rfl (by omega) hso (rwSlice_below (rwSlice_own hown) hg0.below)
  simp only [rwPf] at hS
  have bN := Blk.new w #[.int .u32 nw.addr, .int .i64 nw.len, .int .i64 nw.tag, .int .i64 nw.met, .int .i64 nw.frm] 52
  have HOWN := hide hown
  have HBN := hide bN
  have HG0 := hide hg0
  clear hown bN hg0 hso
  go_enter Tryz.func96, Tryz.ntmps96
  go_wp2_with fail
  refine hS.mono ?_
  rintro e w1 ⟨i, hpl, rfl, hg1⟩
  have hix : i = ixOf L (rwPf nw) := place_ix hpl
  have hile : i ≤ L.length := hpl.1
  have bN1 := (unhide HBN).grows hg1
  have hown1 : w1.ownsRow base 137 7 (.slice ao L.length cap) L.length (rwList L) := ownsRow_below (unhide HOWN) (((unhide HG0).trans hg1).below) (Nat.le_refl _)
  have HG1 := hide ((unhide HG0).trans hg1)
  have n0 := (bN1.cell 0).trans (show _ = some (.int .u32 nw.addr) from rfl)
  have n1 := (bN1.cell 1).trans (show _ = some (.int .i64 nw.len) from rfl)
  have n2 := (bN1.cell 2).trans (show _ = some (.int .i64 nw.tag) from rfl)
  have n3 := (bN1.cell 3).trans (show _ = some (.int .i64 nw.met) from rfl)
  have n4 := (bN1.cell 4).trans (show _ = some (.int .i64 nw.frm) from rfl)
  have hw1 : w.heap.size < w1.heap.size := bN1.lt
  have HBN1 := hide bN1
  clear hS hg1 hpl HG0 HOWN HBN bN1
  cases hq0 : (L[i]?.map rwPf == some (⟨nw.addr, nw.len⟩ : Pf)) with
  | true =>
    have hq : (L[i]?.map rwPf == some (rwPf nw)) = true := hq0
    clear hq0
    have hi : i < L.length := by
      refine Nat.lt_of_not_le fun h => ?_
      rw [List.getElem?_eq_none h] at hq
      simp at hq
    have hpf : rwPf L[i] = rwPf nw := by
      rw [List.getElem?_eq_getElem hi] at hq
      simpa using hq
    have HT := hide (takeL_found hi hix hpf)
    obtain ⟨g, rfl⟩ : ∃ g, ao = some ⟨g, 0, none⟩ := by
      rcases hown1.2 with ⟨_, h0⟩ | ⟨g, c, cur, hv, _⟩
      · omega
      · simp at hv; exact ⟨g, hv.1⟩
    have hgb : base ≤ g := (ownsRow_from hown1 g rfl).1
    obtain ⟨_, hce⟩ := ownsRow_cellsOf hown1 hi
    have hcek := hce i hi
    simp only [Nat.zero_add] at hcek
    obtain ⟨c0, c1, c2, c3, c4, c5, c6⟩ := hcek
    have HO1 := hide hown1
    have HIX := hide hix
    clear hown1 hce hix hpf hq
    have hH := fun W => heard_any L[i] nw W
    generalize rwHeard L[i] nw = r2 at hH HT
    generalize hE : L[i] = E at *
    clear hE
    have j0 : (0 : Int) ≤ (i : Int) := by omega
    have j1 : (i : Int) < (L.length : Int) := by omega
    go_wp2_with fail
    have hfol := prog_follows
    go_region_with_o (go_at_call 148; refine (hH _).mono ?_; rintro e w4 ⟨rfl, hg4⟩; have hg4' := (Grows.drew (Grows.refl w1)).trans hg4; have hown4 := ownsRow_block (unhide HO1) (hg4'.below.block _ (ownsRow_lt (unhide HO1))); obtain ⟨⟨cur, bG, hcur⟩, _⟩ := ownsRow_cellsOf hown4 hi; obtain ⟨u0, s0⟩ := cell_there bG hcur hi 0 (by decide); obtain ⟨u1, s1⟩ := cell_there bG hcur hi 1 (by decide); obtain ⟨u2, s2⟩ := cell_there bG hcur hi 2 (by decide); obtain ⟨u3, s3⟩ := cell_there bG hcur hi 3 (by decide); obtain ⟨u4, s4⟩ := cell_there bG hcur hi 4 (by decide); obtain ⟨u5, s5⟩ := cell_there bG hcur hi 5 (by decide); obtain ⟨u6, s6⟩ := cell_there bG hcur hi 6 (by decide); rw [Nat.add_zero] at s0; have z0 := bG.frozen (i * 7); have z1 := bG.frozen (i * 7 + 1); have z2 := bG.frozen (i * 7 + 2); have z3 := bG.frozen (i * 7 + 3); have z4 := bG.frozen (i * 7 + 4); have z5 := bG.frozen (i * 7 + 5); have z6 := bG.frozen (i * 7 + 6); have HO4 := hide hown4; have HG4 := hide hg4'; clear hown4 hg4 hg4' hcur bG)
    all_goals go_wp2
    all_goals go_ret
    all_goals
      refine ⟨_, rfl, ?_, ?_⟩
      · rw [unhide HT, List.length_set]
        exact ownsRow_put (unhide HO4) hi r2
      · have h4 := ((unhide HG1).trans (unhide HG4)).below.mono hbase
        exact ((((((h4.setCell (p := ⟨g, _, none⟩) hgb _).setCell (p := ⟨g, _, none⟩) hgb _).setCell (p := ⟨g, _, none⟩) hgb _).setCell (p := ⟨g, _, none⟩) hgb _).setCell (p := ⟨g, _, none⟩) hgb _).setCell (p := ⟨g, _, none⟩) hgb _).setCell (p := ⟨g, _, none⟩) hgb _
  | false =>
    have hq : (L[i]?.map rwPf == some (rwPf nw)) = false := hq0
    clear hq0
    have HT := hide (takeL_other hix hq)
    have HO1 := hide hown1
    have HIX := hide hix
    clear hown1 hix hq
    by_cases h16 : nw.met < 16
    · by_cases h60 : L.length < 60
      · have k60 : (L.length : Int) < 60 := by omega
        have hF := fun W => fresh_any nw.addr nw.len nw.tag nw.met nw.frm W
        go_wp2_with (first | (go_at_call 135; refine (hF _).mono ?_; rintro e w2 ⟨rfl, hg2⟩; have HG2 := hide ((unhide HG1).trans hg2); have HO2 := hide (ownsRow_below (unhide HO1) hg2.below (Nat.le_refl _)); have hsb : base ≤ w2.heap.size := Nat.le_trans hbase (unhide HG2).below.size; have hnb : (Value.slice ao L.length cap).ownBlock ≠ some w2.heap.size := fun e => Nat.lt_irrefl _ (ownsRow_from (unhide HO2) _ e).2; clear hg2) | (go_at_call 149; refine (insert_any base (.slice ao L.length cap) i w2.heap.size L (rwFresh nw) _ (by omega) hile (by rw [World.size_alloc]; exact Nat.le_succ_of_le hsb) hnb (ownsRow_below (unhide HO2) (below_new w2 _) (Nat.le_refl _)) (Blk.new w2 _ _)).mono ?_; rintro e w3 ⟨v3, rfl, hown3, hg3⟩))
        · go_ret
          refine ⟨v3, rfl, ?_, ?_⟩
          · rw [unhide HT, if_pos ⟨h16, h60⟩]
            have e1 : (L.take i ++ rwFresh nw :: L.drop i).length = L.length + 1 := by simp; omega
            rw [e1]
            exact hown3
          · have h2 := ((unhide HG2).alloc (.cells (rwVals (rwFresh nw)).toArray 137)).below.mono hbase
            exact h2.grown hg3 (by have := (unhide HG2).below.size; simp; omega) (fun q hq => (ownsRow_from (unhide HO2) q hq).1)
      · have k60 : ¬ (L.length : Int) < 60 := by omega
        go_wp2
        go_ret
        refine ⟨_, rfl, ?_, (unhide HG1).below.mono hbase⟩
        rw [unhide HT, if_neg (fun h => h60 h.2)]
        exact unhide HO1
    · go_wp2
      go_ret
      refine ⟨_, rfl, ?_, (unhide HG1).below.mono hbase⟩
      rw [unhide HT, if_neg (fun h => by have := h.1; omega)]
      exact unhide HO1

end Go.Proofs.YtdnpeefnobjfaaaGreatDoor

/- Table.Heard: the rows behind what a neighbour told. -/
namespace Go.Proofs.YtdnpeefnobjfaaaGreatDoor
open Go.RowKit Go.Shelf Go.Lib
attribute [local go_sem ↓] Go.wp_at_zero Go.wp_at_succ

theorem heard_pf (r n : Rw) (h : rwPf r = rwPf n) : rwPf (rwHeard r n) = rwPf r := by
  unfold rwHeard rwRetold rwLost rwFresh
  split
  · rfl
  · split
    · split
      · split <;> rfl
      · exact h.symm
    · split
      · exact h.symm
      · rfl
theorem pfLt_total {a b : Pf} (h : ¬ pfLt a b) (hne : a ≠ b) : pfLt b a := by
  unfold pfLt at *
  have : ¬ (a.addr = b.addr ∧ a.len = b.len) := fun e => hne (by cases a; cases b; simp at e; simp [e])
  omega
theorem place_of_ix {L : List Rw} {p : Pf} (hso : rwSorted L) : placeOf L p (ixOf L p) := by
  induction L with
  | nil => exact ⟨Nat.le_refl _, fun j hj => by simp at hj, fun j hj => by simp at hj⟩
  | cons r R ih =>
    have hso' := List.pairwise_cons.1 hso
    obtain ⟨h1, h2, h3⟩ := ih hso'.2
    by_cases h : pfLt (rwPf r) p
    · have e : ixOf (r :: R) p = ixOf R p + 1 := by
        unfold ixOf
        rw [List.takeWhile_cons, if_pos (by simpa using (pfLt_rw r p).1 h)]
        rfl
      rw [e]
      refine ⟨by simpa using h1, fun j hj hji => ?_, fun j hj hji => ?_⟩
      · cases j with
        | zero => exact h
        | succ j => exact h2 j (by simpa using hj) (by omega)
      · cases j with
        | zero => omega
        | succ j => exact h3 j (by simpa using hj) (by omega)
    · have e : ixOf (r :: R) p = 0 := by
        unfold ixOf
        rw [List.takeWhile_cons, if_neg (by simpa using fun x => h ((pfLt_rw r p).2 x))]
        rfl
      rw [e]
      refine ⟨by simp, fun j hj hji => by omega, fun j hj hji => ?_⟩
      cases j with
      | zero => exact h
      | succ j =>
        have hj' : j < R.length := by simpa using hj
        exact fun hlt => h (pfLt_trans (hso'.1 R[j] (List.getElem_mem _)) hlt)
theorem takeL_sorted {L : List Rw} (n : Rw) (hso : rwSorted L) : rwSorted (takeL L n) := by
  have hp := place_of_ix (p := rwPf n) hso
  have hput : ∀ (_ : ((L[ixOf L (rwPf n)]?.map rwPf) == some (rwPf n)) = false), rwSorted (L.take (ixOf L (rwPf n)) ++ rwFresh n :: L.drop (ixOf L (rwPf n))) := fun hne => by
    generalize ixOf L (rwPf n) = i at *
    obtain ⟨h1, h2, h3⟩ := hp
    have hmore : ∀ j, (hj : j < L.length) → i ≤ j → pfLt (rwPf n) (rwPf L[j]) := fun j hj hij => by
      refine pfLt_total (h3 j hj hij) fun e => ?_
      by_cases hji : j = i
      · subst hji
        rw [List.getElem?_eq_getElem hj] at hne
        simp [e] at hne
      · have hi : i < L.length := by omega
        have := rwSorted_lt hso hi hj (by omega)
        rw [e] at this
        exact h3 i hi (Nat.le_refl _) this
    refine List.pairwise_append.2 ⟨hso.sublist (List.take_sublist _ _), List.pairwise_cons.2 ⟨fun b hb => ?_, hso.sublist (List.drop_sublist _ _)⟩, fun a ha b hb => ?_⟩
    · obtain ⟨k, hk, rfl⟩ := List.getElem_of_mem hb
      rw [List.getElem_drop]
      exact hmore _ _ (by omega)
    · obtain ⟨k, hk, rfl⟩ := List.getElem_of_mem ha
      rw [List.length_take] at hk
      rw [List.getElem_take]
      rcases List.mem_cons.1 hb with rfl | hb
      · exact h2 k (by omega) (by omega)
      · obtain ⟨m, hm, rfl⟩ := List.getElem_of_mem hb
        rw [List.length_drop] at hm
        rw [List.getElem_drop]
        exact rwSorted_lt hso (by omega) (by omega) (by omega)
  cases hq : ((L[ixOf L (rwPf n)]?.map rwPf) == some (rwPf n)) with
  | true =>
    have hi : ixOf L (rwPf n) < L.length := by
      refine Nat.lt_of_not_le fun h => ?_
      rw [List.getElem?_eq_none h] at hq
      simp at hq
    have hpf : rwPf L[ixOf L (rwPf n)] = rwPf n := by
      rw [List.getElem?_eq_getElem hi] at hq
      simpa using hq
    rw [takeL_found hi rfl hpf]
    refine List.pairwise_iff_getElem.2 fun a b ha hb hab => ?_
    rw [List.length_set] at ha hb
    have h0 := rwSorted_lt hso ha hb hab
    have hx : ∀ k, (hk : k < L.length) → rwPf ((L.set (ixOf L (rwPf n)) (rwHeard L[ixOf L (rwPf n)] n))[k]'(by rw [List.length_set]; exact hk)) = rwPf L[k] := fun k hk => by
      rw [List.getElem_set]
      split
      · rename_i e; subst e; exact heard_pf _ _ hpf
      · rfl
    rw [hx a ha, hx b hb]
    exact h0
  | false =>
    rw [takeL_other rfl hq]
    split
    · exact hput hq
    · exact hso
theorem takeL_length (L : List Rw) (n : Rw) (h : L.length ≤ 60) : (takeL L n).length ≤ 60 := by
  have hi := ixOf_le L (rwPf n)
  unfold takeL takeAt
  split
  · split
    · simpa using h
    · split
      · simp; omega
      · exact h
  · split
    · simp; omega
    · exact h

/-- A table behind all that a neighbour told. -/
def heardL (L : List Rw) (frm cost : Int) : List Ent → List Rw
  | [] => L
  | e :: es => heardL (takeL L (newsRw e frm cost)) frm cost es
theorem heardL_snoc (L : List Rw) (frm cost : Int) (es : List Ent) (e : Ent) : heardL L frm cost (es ++ [e]) = takeL (heardL L frm cost es) (newsRw e frm cost) := by
  induction es generalizing L with
  | nil => rfl
  | cons x es ih => exact ih _
theorem heardL_sorted {L : List Rw} (frm cost : Int) (es : List Ent) (hso : rwSorted L) : rwSorted (heardL L frm cost es) := by
  induction es generalizing L with
  | nil => exact hso
  | cons e es ih => exact ih (takeL_sorted _ hso)
theorem heardL_length {L : List Rw} (frm cost : Int) (es : List Ent) (h : L.length ≤ 60) : (heardL L frm cost es).length ≤ 60 := by
  induction es generalizing L with
  | nil => exact h
  | cons e es ih => exact ih (takeL_length _ _ h)

set_option maxRecDepth 100000 in
set_option maxHeartbeats 4000000 in
theorem tableHeard_any (base : Nat) (ao ae : Option Addr) (cap ne ce : Nat) (L : List Rw) (es : List Ent) (frm cost : Int) (w : World) (h60 : L.length ≤ 60) (hso : rwSorted L) (hne : es.length = ne) (hbig : ne ≤ 1000000) (hmet : ∀ e ∈ es, 0 ≤ e.met ∧ e.met ≤ 16) (hc0 : 0 ≤ cost) (hc1 : cost ≤ 15) (hes : entSlice w ae es) (hown : w.ownsRow base 137 7 (.slice ao L.length cap) L.length (rwList L)) :
    Calls Tryz.prog 46 #[.agg #[.slice ao L.length cap], .int .i64 frm, .int .i64 cost, .slice ae ne ce] w fun e w' => ∃ v, e = .returned (.agg #[v]) ∧ w'.ownsRow w.heap.size 137 7 v (heardL L frm cost es).length (rwList (heardL L frm cost es)) ∧ Below w.heap.size w w' := by
  have bT := outBlk w #[.slice ao L.length cap] 120 #[.slice none 0 0] 120
  have hb0 := (((Grows.refl w).alloc (.cells #[.slice ao L.length cap] 120)).alloc (.cells #[.slice none 0 0] 120)).below
  have hsz : ((w.alloc (.cells #[.slice ao L.length cap] 120)).alloc (.cells #[.slice none 0 0] 120)).heap.size = w.heap.size + 2 := by simp
  have hcl := cloneRow_any base (.slice ao L.length cap) L ((w.alloc (.cells #[.slice ao L.length cap] 120)).alloc (.cells #[.slice none 0 0] 120)) (by omega) (ownsRow_below hown hb0 (Nat.le_refl _))
  have HT := hide bT
  have HB0 := hide hb0
  have HSZ := hide hsz
  have HES := hide hes
  have HSO := hide hso
  have HMET := hide hmet
  have HNE := hide hne
  clear bT hb0 hown hsz hso hmet hes hne
  go_enter Tryz.func46, Tryz.ntmps46
  go_wp2_with fail
  refine hcl.mono ?_
  rintro e w1 ⟨v', rfl, hown1, hb1⟩
  rw [unhide HSZ] at hown1 hb1
  obtain ⟨ao', cap', rfl⟩ := ownsRow_slice hown1
  have HB1 := hide hb1
  have hs1 : w.heap.size + 2 ≤ w1.heap.size := by have := hb1.size; rw [unhide HSZ] at this; exact this
  have bT1 := (unhide HT).below hb1 (by omega)
  clear hcl hb1
  go_wp2_with fail
  go_loopw [9, 17] (fun d i wr => ∃ t : Nat, t ≤ ne ∧ i = .int .i64 t ∧ wr.ownsRow (w.heap.size + 2) 137 7 d (heardL L frm cost (es.take t)).length (rwList (heardL L frm cost (es.take t))) ∧ Below (w.heap.size + 2) w1 wr) (fun _ i _ => ne - (intOf i).toNat)
  case atStart => exact ⟨0, by omega, rfl, hown1, Below.refl _ _⟩
  case round =>
    obtain ⟨t, ht, rfl, hown, hb⟩ := hrel
    clear hown1
    by_cases hlt : t < ne
    · have hkL : t < es.length := by rw [unhide HNE]; exact hlt
      have hbw : Below w.heap.size w wr := (unhide HB0).trans (((unhide HB1).mono (by omega)).trans (hb.mono (by omega)))
      rcases unhide HES with h0 | ⟨b, off, rfl, hcw⟩
      · rw [h0] at hkL; simp at hkL
      · obtain ⟨d0, d1, d2, d3⟩ := entCells_below hcw hbw (entCells_lt hcw (by omega)) t hkL
        obtain ⟨hm0, hm1⟩ := unhide HMET es[t] (List.getElem_mem _)
        have HSN := hide (show heardL L frm cost (es.take (t + 1)) = takeL (heardL L frm cost (es.take t)) (newsRw es[t] frm cost) by rw [List.take_succ_eq_append_getElem hkL, heardL_snoc])
        have hM60 := heardL_length frm cost (es.take t) h60
        have hMso := heardL_sorted frm cost (es.take t) (unhide HSO)
        generalize heardL L frm cost (es.take t) = M at *
        generalize es[t] = E at *
        have j0 : (0 : Int) ≤ (t : Int) := by omega
        have j1 : (t : Int) < (ne : Int) := by omega
        have HO := hide hown
        have HB := hide hb
        have HSM := hide hMso
        clear hown hb hcw hbw hMso
        go_wp2_with (first | (go_at_call 97; refine (newsOf_any E frm cost _ hm0 hm1 hc0 hc1).mono ?_; rintro e w4 ⟨rfl, hg4⟩; have hg4' := ((Grows.refl wr).alloc _).trans hg4; have HO4 := hide (ownsRow_below (unhide HO) hg4'.below (Nat.le_refl _)); have HB4 := hide ((unhide HB).trans (hg4'.below.mono (by have := (unhide HB).size; omega))); clear hg4 hg4') | (go_at_call 96; refine (take_any (w.heap.size + 2) _ M (newsRw E frm cost) w4 (by omega) (unhide HSM) (by have := (unhide HB4).size; omega) (unhide HO4)).mono ?_; rintro e w5 ⟨v5, rfl, hown5, hb5⟩))
        go_roundw
        case rel =>
          exact ⟨t + 1, by omega, by go_num, by rw [unhide HSN]; exact hown5, (unhide HB4).trans hb5⟩
        case measure => simp [intOf]; omega
    · have htn : t = ne := by omega
      subst htn
      have bT2 := bT1.below hb (by omega)
      have s0 := bT2.cell 0
      have z0 := bT2.frozen 0
      have hall : es.take t = es := List.take_of_length_le (by rw [unhide HNE]; omega)
      rw [hall] at hown
      obtain ⟨ao2, cap2, hd⟩ := ownsRow_slice hown
      have HOWN := hide hown
      have HB := hide hb
      clear hown hb hall
      subst hd
      go_wp2
      have bT3 := bT2.set 0 (.slice ao2 (heardL L frm cost es).length cap2)
      have t0 := bT3.cell 0
      simp at t0
      refine bodyPost_ret (v := .agg #[.slice ao2 (heardL L frm cost es).length cap2]) (by simp [results, Tryz.results46, go_sem, t0]) rfl ⟨_, rfl, ?_, ?_⟩
      · exact ownsRow_mono (ownsRow_other (unhide HOWN) bT2 (by decide)) (by omega)
      · exact ((unhide HB0).trans (((unhide HB1).mono (by omega)).trans ((unhide HB).mono (by omega)))).setCell (p := ⟨w.heap.size + 1, 0, none⟩) (by simp) _

end Go.Proofs.YtdnpeefnobjfaaaGreatDoor
