/- slices.SortFunc over prefixes, slices.Collect, slices.SortedFunc: a new list of the same prefixes, in their order. -/
import Derived.Test.YtdnpeefnobjfaaaGreatDoorRSort
namespace Go.Proofs.YtdnpeefnobjfaaaGreatDoor
open Go.RowKit Go.Shelf Go.Sort

/-- Stands a prefix ahead of another one? -/
def pfLt (p q : Pf) : Prop := p.addr < q.addr ∨ p.addr = q.addr ∧ p.len < q.len
theorem cmpP_neg (p q : Pf) : cmpP p q < 0 ↔ pfLt p q := by
  unfold cmpP cmpI pfLt
  by_cases h1 : p.addr < q.addr
  · simp [h1]
  · by_cases h2 : q.addr < p.addr
    · simp [h1, h2]; omega
    · have : p.addr = q.addr := by omega
      by_cases h3 : p.len < q.len
      · simp [this, h3]
      · by_cases h4 : q.len < p.len <;> simp [this, h3, h4]
theorem ltOf_cmpP (p q : Pf) : (Go.Proofs.ltOf cmpP p q = true) ↔ pfLt p q := by
  rw [← cmpP_neg]
  simp [Go.Proofs.ltOf]
theorem swoP : SWO (Go.Proofs.ltOf cmpP) where
  irrefl x := by rw [← Bool.not_eq_true, ltOf_cmpP]; unfold pfLt; omega
  trans x y z h1 h2 := by rw [ltOf_cmpP] at *; unfold pfLt at *; omega
  ntrans x y z h1 h2 := by rw [← Bool.not_eq_true, ltOf_cmpP] at *; unfold pfLt at *; omega

theorem cmpLaysP (blk off size : Nat) (w : World) : Go.Proofs.CmpLays Tryz.prog 82 #[] pfVals 2 cmpP blk off size w :=
  fun _ _ _ _ x y => compare_any x y _

/-- A row of prefixes that is owned, as the sort's kit says it. -/
theorem holds_pf {w : World} {base g n cap : Nat} {L : List Pf} (h : w.ownsRow base 32 2 (.slice (some ⟨g, 0, none⟩) n cap) n (pfList L)) : HoldsK pfVals 2 w g 0 L.toArray := by
  obtain ⟨hl, ⟨hv, _⟩ | ⟨g', c', cur, hv, _, hg, hnc, _, hcs, ht⟩⟩ := h
  · simp at hv
  · simp at hv
    obtain ⟨rfl, rfl⟩ := hv
    rw [pfList_length] at hl
    have hLn : L.length = n := by omega
    intro j hj
    rw [size_flatK] at hj
    have hj' : j < L.length * 2 := by simpa using hj
    rw [get_flatK _ _ _ _ hj]
    have hv : (pfList L)[j]? = some ((pfVals L.toArray[j / 2]!)[j % 2]!) := by
      clear ht hj hcs hl hLn
      induction L generalizing j with
      | nil => simp at hj'
      | cons p r ih =>
        rcases (by omega : j = 0 ∨ j = 1 ∨ 2 ≤ j) with rfl | rfl | h2
        · rfl
        · rfl
        · obtain ⟨i, rfl⟩ : ∃ i, j = i + 2 := ⟨j - 2, by omega⟩
          have := ih i (by simp at hj'; omega)
          have e1 : (i + 2) / 2 = i / 2 + 1 := by omega
          have e2 : (i + 2) % 2 = i % 2 := by omega
          rw [e1, e2]
          simpa [pfList] using this
    constructor
    · rw [Nat.zero_add, show w.cell? ⟨g, j, none⟩ = cur[j]? by simp [World.cell?, hg]]
      have : (cur.toList.take (n * 2))[j]? = (pfList L)[j]? := by rw [ht]
      rw [List.getElem?_take, if_pos (by omega)] at this
      simp at this
      rw [this, hv]
      rfl
    · simp [World.frozen?, hg]

theorem cells_of_holds {w : World} {g : Nat} {d : Array Pf} (h : HoldsK pfVals 2 w g 0 d) : pfCells w g 0 d.toList := fun k hk => by
  have hk' : k < d.size := by simpa using hk
  have c0 := (h.cell (i := k) (c := 0) hk' (by decide)).1
  have c1 := (h.cell (i := k) (c := 1) hk' (by decide)).1
  rw [getElem!_pos d k hk'] at c0 c1
  exact ⟨by simpa [pfVals] using c0, by simpa [pfVals] using c1⟩

theorem sortWorld_block (w : World) (g m : Nat) (d : Array Pf) (os : Array Obj) (k : Nat) (hk : k < w.heap.size) (hne : k ≠ g) : (Go.Proofs.sortWorldK pfVals 2 w g 0 m d os).heap[k]? = w.heap[k]? := by
  unfold Go.Proofs.sortWorldK putRowK putRow mapBlock Go.Sort.ahead Go.Sort.grow
  simp only [Array.getElem?_append, Array.size_modify, hk, if_true, Array.getElem?_modify]
  rw [if_neg (fun e => hne e.symm)]

/-- In their order: each stands ahead of the next ones, or is the same. -/
def pfSorted (L : List Pf) : Prop := L.Pairwise fun p q => ¬ pfLt q p

theorem sort_some (base g cap : Nat) (L : List Pf) (w : World) (hlen : L.length ≤ 1000000) (hg : base ≤ g) (h : w.ownsRow base 32 2 (.slice (some ⟨g, 0, none⟩) L.length cap) L.length (pfList L)) (hlt : g < w.heap.size) :
    Calls Tryz.prog 130 #[.slice (some ⟨g, 0, none⟩) L.length cap, .func (.func 82) #[] #[]] w fun e w' => e = .returned (.tuple #[]) ∧ ∃ Ls, Ls.Perm L ∧ pfSorted Ls ∧ pfCells w' g 0 Ls ∧ Below base w w' := by
  have hH := holds_pf h
  have eg : ∀ args w, (callFunc 82 args).run Tryz.prog w = .ok (.enter 82 args) w := enters_of Tryz.func82 (by kernel_rfl) rfl
  have hcon := Go.Proofs.AnyQ.slices_SortFunc Tryz.sortPf 2 Tryz.isAgg32 Tryz.sizeOf32 pfVals (fun _ => rfl) (fun x v hv => by simp [pfVals] at hv; rcases hv with rfl | rfl <;> rfl) cmpP swoP 82 #[] g 0 cap L.toArray w eg (cmpLaysP g 0 _ w) hH hlt (by simp; omega)
  change Calls Tryz.prog 130 _ _ _ at hcon
  simp only [List.size_toArray] at hcon
  refine hcon.mono ?_
  rintro e w' ⟨rfl, d', m, os, ⟨hsz, _, hperm⟩, hsort, rfl⟩
  have hsz' : d'.size = L.length := by simpa using hsz
  refine ⟨rfl, d'.toList, ?_, ?_, cells_of_holds (Go.Proofs.holdsK_sortWorldK_c pfVals 2 w g 0 L.toArray d' m os hH hlt hsz), ?_⟩
  · have e1 : d'.extract 0 L.length = d' := by rw [← hsz']; simp
    have e2 : L.toArray.extract 0 L.length = L.toArray := by simp
    rw [e1, e2] at hperm
    simpa using hperm
  · unfold pfSorted
    rw [List.pairwise_iff_getElem]
    intro i j hi hj hij
    have hi' : i < d'.size := by simpa using hi
    have hj' : j < d'.size := by simpa using hj
    have := hsort i j (Nat.zero_le _) hij (by omega)
    rw [getElem!_pos d' i hi', getElem!_pos d' j hj', ← Bool.not_eq_true, ltOf_cmpP] at this
    simpa using this
  · exact ⟨rfl, rfl, rfl, Go.Proofs.size_sortWorldK_c pfVals 2 w g 0 m d' os, fun k hk => sortWorld_block w g m d' os k (by omega) (by omega)⟩

set_option maxHeartbeats 1000000 in
theorem insertionNone (p : Option Addr) (cap : Nat) (fv : Value) (w : World) :
    Calls Tryz.prog 215 #[.slice p 0 cap, .int .i64 0, .int .i64 0, fv] w fun e w' => e = .returned (.tuple #[]) ∧ w' = w := by
  go_enter Tryz.func215, Tryz.ntmps215
  go_wp2
  refine wp_loop_rounds 1 ?_
  rw [rounds_succ]
  go_wp2
  go_end0
  exact ⟨rfl, rfl⟩

set_option maxRecDepth 100000 in
set_option maxHeartbeats 1000000 in
theorem pdqNone (p : Option Addr) (cap : Nat) (lim : Int) (fv : Value) (w : World) :
    Calls Tryz.prog 169 #[.slice p 0 cap, .int .i64 0, .int .i64 0, .int .i64 lim, fv] w fun e w' => e = .returned (.tuple #[]) ∧ w' = w := by
  have hi := insertionNone p cap fv w
  go_enter Tryz.func169, Tryz.ntmps169
  go_wp2_with fail
  refine wp_loop_rounds 1 ?_
  rw [rounds_succ]
  go_wp2_with (go_at_call 215; refine hi.mono ?_; rintro e w1 ⟨rfl, rfl⟩)
  refine bodyPost_ret (results_none rfl _ _ _) rfl ?_
  exact ⟨rfl, rfl⟩

set_option maxHeartbeats 1000000 in
theorem sort_none (p : Option Addr) (cap : Nat) (fv : Value) (w : World) :
    Calls Tryz.prog 130 #[.slice p 0 cap, fv] w fun e w' => e = .returned (.tuple #[]) ∧ w' = w := by
  have hl : Calls Tryz.prog 170 #[.int .u64 0] w fun e w' => e = .returned (.int .i64 (Lib.bitLen 0 : Nat)) ∧ w' = w :=
    Go.Proofs.Any.bits_Len (Go.Proofs.SlLaysF0.n15.bits (P := Tryz.prog) (ρ := Tryz.sortPf_ren) { Tryz.sortPf with }) 0 w (by omega) (by omega)
  have hp := fun lim => pdqNone p cap lim fv w
  go_enter Tryz.func130, Tryz.ntmps130
  go_wp2_with (first | (go_at_call 170; refine hl.mono ?_; rintro e w' ⟨rfl, rfl⟩) | (go_at_call 169; refine (hp _).mono ?_; rintro e w' ⟨rfl, rfl⟩))
  go_end0
  exact ⟨rfl, rfl⟩

set_option maxHeartbeats 1000000 in
theorem collect_any (Bs cap : Nat) (ao : Option Addr) (L : List Pf) (hlen : L.length ≤ 1000000) (w : World) (hBs : Bs < w.heap.size) (hc : w.cell? ⟨Bs, 0, none⟩ = some (.slice ao L.length cap)) (hs : pfSlice w ao L) :
    Calls Tryz.prog 129 #[.func (.func 131) #[] #[.pointer (some ⟨Bs, 0, none⟩)]] w fun e w' => ∃ v, e = .returned v ∧ w'.ownsRow w.heap.size 32 2 v L.length (pfList L) ∧ Below w.heap.size w w' := by
  have hA := appendSeq_any Bs cap ao L hlen w hBs hc hs
  go_enter Tryz.func129, Tryz.ntmps129
  go_wp2_with (go_at_call 168; refine hA.mono ?_; rintro e w1 ⟨v, rfl, hown, hb⟩)
  go_ret
  exact ⟨v, rfl, hown, hb⟩

set_option maxHeartbeats 1000000 in
theorem sortedFunc_any (Bs cap : Nat) (ao : Option Addr) (L : List Pf) (hlen : L.length ≤ 1000000) (w : World) (hBs : Bs < w.heap.size) (hc : w.cell? ⟨Bs, 0, none⟩ = some (.slice ao L.length cap)) (hs : pfSlice w ao L) :
    Calls Tryz.prog 80 #[.func (.func 131) #[] #[.pointer (some ⟨Bs, 0, none⟩)], .func (.func 82) #[] #[]] w fun e w' => ∃ ao' cap' Ls, e = .returned (.slice ao' L.length cap') ∧ Ls.Perm L ∧ pfSorted Ls ∧ (Ls = [] ∨ ∃ g, ao' = some ⟨g, 0, none⟩ ∧ w.heap.size ≤ g ∧ pfCells w' g 0 Ls) ∧ Below w.heap.size w w' := by
  have hC := collect_any Bs cap ao L hlen w hBs hc hs
  have HC := hide hc
  have HS := hide hs
  clear hc hs
  by_cases h0 : L.length = 0
  · have hL : L = [] := List.eq_nil_of_length_eq_zero h0
    subst hL
    go_enter Tryz.func80, Tryz.ntmps80
    go_wp2_with fail
    refine hC.mono ?_
    rintro e w1 ⟨v, rfl, hown, hb⟩
    obtain ⟨ao', cap', rfl⟩ : ∃ ao' cap', v = .slice ao' 0 cap' := by
      rcases hown.2 with ⟨hv, _⟩ | ⟨g, c, cur, hv, _⟩
      · exact ⟨_, _, hv⟩
      · exact ⟨_, _, hv⟩
    have hsn := sort_none ao' cap' (.func (.func 82) #[] #[]) w1
    clear hown
    go_wp2_with (go_at_call 130; refine hsn.mono ?_; rintro e w' ⟨rfl, rfl⟩)
    go_ret
    exact ⟨ao', cap', [], rfl, List.Perm.refl _, List.Pairwise.nil, .inl rfl, hb⟩
  · go_enter Tryz.func80, Tryz.ntmps80
    go_wp2_with fail
    refine hC.mono ?_
    rintro e w1 ⟨v, rfl, hown, hb⟩
    have hown0 := hown
    obtain ⟨_, ⟨_, hz⟩ | ⟨g, cap', cur, rfl, hbg, hgb, _⟩⟩ := hown0
    · exact absurd hz h0
    · have hs1 := sort_some w.heap.size g cap' L w1 hlen hbg hown (Array.getElem?_eq_some_iff.1 hgb).1
      clear hown hgb
      go_wp2_with (go_at_call 130; refine hs1.mono ?_; rintro e w' ⟨rfl, Ls, hp, hso, hce, hbe⟩)
      go_ret
      exact ⟨_, cap', Ls, rfl, hp, hso, .inr ⟨g, rfl, hbg, hce⟩, hb.trans hbe⟩

end Go.Proofs.YtdnpeefnobjfaaaGreatDoor
