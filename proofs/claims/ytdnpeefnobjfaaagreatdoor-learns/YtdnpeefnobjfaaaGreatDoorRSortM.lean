/- slices.Values, slices.AppendSeq, slices.Collect and slices.SortedFunc over prefixes. -/
import Derived.Test.YtdnpeefnobjfaaaGreatDoorRRowM
import Derived.Test.YtdnpeefnobjfaaaGreatDoorBookM
import Derived.Test.YtdnpeefnobjfaaaGreatDoorShelf
import Derived.Maps.AppendAt
namespace Go.Proofs.YtdnpeefnobjfaaaGreatDoor
open Go.RowKit Go.Shelf
attribute [local go_sem] Oper.semAt_some

def pfEncs (p : Pf) : Array Value := #[.agg #[.int .u32 p.addr, .int .i64 p.len]]

set_option maxRecDepth 100000 in
set_option maxHeartbeats 2000000 in
theorem values1_in (F : Fence) (n : Nat) (h7 : F.fn 131) (hro : F.round = none) (hn : 1 ≤ n) (l Bs n₀ b off len cap : Nat) (L : List Pf) (hL : L.length = len) (hlen : len ≤ 1000000) (hb : b < n₀) (J Jx : List Pf → World → Prop) (W : World) (hW0 : n₀ ≤ W.heap.size) (hJa : AbidesFrom W.heap.size J)
    (hY : ∀ pre x W, J pre W → pre.length < len → YieldAt F (n - 1) Tryz.prog l (pfEncs x) W fun e W' =>
      (e = .returned (.bool true) ∧ J (pre ++ [x]) W' ∧ Below n₀ W W') ∨ (e = .returned (.bool false) ∧ Jx (pre ++ [x]) W'))
    (hBs : W.cell? ⟨Bs, 0, none⟩ = some (.slice (some ⟨b, off, none⟩) len cap)) (hc : pfCells W b off L) (h0 : J [] W) :
    CallsIn F n Tryz.prog 131 #[.func (.yield l) #[] #[], .pointer (some ⟨Bs, 0, none⟩)] W fun e W' => (∃ v, e = .returned v) ∧
      ((∃ ys, ys = L ∧ J ys W') ∨ (∃ pre, pre <+: L ∧ Jx pre W')) := by
  refine callsIn_of_wp Tryz.func131 rfl h7 ?_ hro
  simp only [Tryz.ntmps131, List.size_toArray, List.length_cons, List.length_nil, Nat.reduceAdd, Nat.reduceSub, Array.replicate_succ, Array.replicate_zero, List.push_toArray, List.append_toArray, List.nil_append, List.cons_append]
  have HL := hide hL
  have HC := hide hc
  clear hL hc
  gi_wp2
  gi_loopw [7] (fun i wr => ∃ k : Nat, k ≤ len ∧ i = .int .i64 k ∧ J (L.take k) wr ∧ Below n₀ W wr)
    (fun i _ => len - (intOf i).toNat)
  case atStart => exact ⟨0, Nat.zero_le _, rfl, by simpa using h0, Below.refl _ _⟩
  case round =>
    obtain ⟨k, hk, rfl, hJs, hnx⟩ := hrel
    by_cases hlt : k < len
    · have hm : k < L.length := by rw [unhide HL]; exact hlt
      obtain ⟨c0, c1⟩ := pfCells_below (unhide HC) hnx hb k hm
      have j0 : (0 : Int) ≤ (k : Int) := by omega
      have j1 : (k : Int) < (len : Int) := by omega
      have hsz : n₀ ≤ wr.heap.size := Nat.le_trans hW0 hnx.size
      have hJ1 := hJa _ _ _ _ hJs (World.grownBy_alloc wr (.cells #[.int .u32 L[k].addr, .int .i64 L[k].len] 32) none) (fun r e => by cases e)
      obtain ⟨fn, tmps, assign, body, hy, hR⟩ := hY _ L[k] _ hJ1 (by rw [List.length_take]; omega)
      rw [← List.take_succ_eq_append_getElem hm] at hR
      simp only [pfEncs] at hy
      generalize L[k] = E at *
      gi_wp2
      refine hR.mono ?_
      rintro e W3 (⟨rfl, hJ3, hk3⟩ | ⟨rfl, hJx3⟩)
      · gi_wp2
        go_roundw
        case rel => exact ⟨k + 1, by omega, by go_num, hJ3, (hnx.alloc hsz _).trans hk3⟩
        case measure => simp [intOf]; omega
      · gi_wp2
        refine bodyPost_ret (results_none rfl _ _ _) rfl ?_
        exact ⟨⟨_, rfl⟩, .inr ⟨_, List.take_prefix _ _, hJx3⟩⟩
    · obtain rfl : k = len := by omega
      gi_wp2
      go_end0
      exact ⟨⟨_, rfl⟩, .inl ⟨_, by rw [← unhide HL, List.take_length], hJs⟩⟩

set_option maxRecDepth 100000 in
set_option maxHeartbeats 1000000 in
theorem values1_nil_in (F : Fence) (n : Nat) (h7 : F.fn 131) (hro : F.round = none) (l Bs cap : Nat) (ao : Option Addr) (J : List Pf → World → Prop) (W : World) (hBs : W.cell? ⟨Bs, 0, none⟩ = some (.slice ao 0 cap)) (h0 : J [] W) :
    CallsIn F n Tryz.prog 131 #[.func (.yield l) #[] #[], .pointer (some ⟨Bs, 0, none⟩)] W fun e W' => (∃ v, e = .returned v) ∧ J [] W' := by
  refine callsIn_of_wp Tryz.func131 rfl h7 ?_ hro
  simp only [Tryz.ntmps131, List.size_toArray, List.length_cons, List.length_nil, Nat.reduceAdd, Nat.reduceSub, Array.replicate_succ, Array.replicate_zero, List.push_toArray, List.append_toArray, List.nil_append, List.cons_append]
  gi_wp2
  gi_loopw [7] (fun i wr => i = .int .i64 0 ∧ J [] wr) (fun _ _ => 0)
  case atStart => exact ⟨rfl, h0⟩
  case round =>
    obtain ⟨rfl, hJs⟩ := hrel
    gi_wp2
    go_end0
    exact ⟨⟨_, rfl⟩, hJs⟩

theorem values_stops (F : Fence) (n : Nat) (h7 : F.fn 131) (hro : F.round = none) (hn : 1 ≤ n) (Bs n₀ cap : Nat) (ao : Option Addr) (L : List Pf) (hlen : L.length ≤ 1000000) (w : World) (hBs : Bs < n₀) (hn₀ : n₀ ≤ w.heap.size)
    (hc : w.cell? ⟨Bs, 0, none⟩ = some (.slice ao L.length cap)) (hI : L = [] ∨ ∃ b off, ao = some ⟨b, off, none⟩ ∧ b < n₀ ∧ pfCells w b off L) :
    SeqStopsK F n Tryz.prog 131 #[.pointer (some ⟨Bs, 0, none⟩)] pfEncs (Below n₀) (fun ys => ys = L) (fun pre => pre <+: L) L.length w := fun l J Jx W hW hJ _ hY h0 => by
  have hc' := (hW.cell (p := ⟨Bs, 0, none⟩) (Nat.lt_of_lt_of_le hBs hn₀)).trans hc
  rcases hI with rfl | ⟨b, off, rfl, hb, hcs⟩
  · exact (values1_nil_in F n h7 hro l Bs cap ao J W hc' h0).mono fun e W' ⟨he, hj⟩ => ⟨he, .inl ⟨_, rfl, hj⟩⟩
  · exact values1_in F n h7 hro hn l Bs n₀ b off L.length cap L rfl hlen hb J Jx W (Nat.le_trans hn₀ hW.size) hJ hY hc' (pfCells_below hcs hW (Nat.lt_of_lt_of_le hb hn₀)) h0

set_option maxHeartbeats 1000000 in
theorem values_any (a : Option Addr) (len cap : Nat) (w : World) :
    Calls Tryz.prog 81 #[.slice a len cap] w fun e w' => e = .returned (.func (.func 131) #[] #[.pointer (some ⟨w.heap.size, 0, none⟩)]) ∧ w' = w.alloc (.cells #[.slice a len cap] 23) := by
  refine (callsIn_wide (n := 3)).1 ?_
  refine callsIn_of_wp Tryz.func81 rfl trivial ?_ rfl
  simp only [Tryz.ntmps81, List.size_toArray, List.length_cons, List.length_nil, Nat.reduceAdd, Nat.reduceSub, Array.replicate_succ, Array.replicate_zero, List.push_toArray, List.append_toArray, List.nil_append, List.cons_append]
  gi_wp2
  go_ret
  exact ⟨rfl, rfl⟩

def pfList (L : List Pf) : List Value := L.flatMap fun p => [.int .u32 p.addr, .int .i64 p.len]
theorem pfList_length (L : List Pf) : (pfList L).length = L.length * 2 := by
  induction L with
  | nil => rfl
  | cons p r ih => simp only [pfList, List.flatMap_cons, List.length_append, List.length_cons, List.length_nil] at ih ⊢; omega
theorem pfList_snoc (L : List Pf) (p : Pf) : pfList (L ++ [p]) = pfList L ++ [.int .u32 p.addr, .int .i64 p.len] := by simp [pfList]
theorem Tryz.info32 : (Tryz.prog.info? 32).map (fun i => (i.zero, i.size, i.bytes)) = some (some (.agg #[.int .u32 0, .int .i64 0]), 2, 16) := by kernel_rfl

set_option maxRecDepth 100000 in
set_option maxHeartbeats 4000000 in
theorem appendSeq_any (Bs cap : Nat) (ao : Option Addr) (L : List Pf) (hlen : L.length ≤ 1000000) (w : World) (hBs : Bs < w.heap.size) (hc : w.cell? ⟨Bs, 0, none⟩ = some (.slice ao L.length cap)) (hs : pfSlice w ao L) :
    Calls Tryz.prog 168 #[.slice none 0 0, .func (.func 131) #[] #[.pointer (some ⟨Bs, 0, none⟩)]] w fun e w' => ∃ v, e = .returned v ∧ w'.ownsRow w.heap.size 32 2 v L.length (pfList L) ∧ Below w.heap.size w w' := by
  obtain ⟨i0, hi, hz0, hz1, hz2⟩ := info_parts Tryz.info32
  have hI0 : L = [] ∨ ∃ b off, ao = some ⟨b, off, none⟩ ∧ b < w.heap.size ∧ pfCells w b off L := by
    rcases hs with h | ⟨b, off, ha, hc⟩
    · exact .inl h
    · by_cases h0 : 0 < L.length
      · exact .inr ⟨b, off, ha, pfCells_lt hc h0, hc⟩
      · exact .inl (List.eq_nil_of_length_eq_zero (by omega))
  refine (callsIn_wide (n := 6)).1 ?_
  refine callsIn_of_wp_marks Tryz.func168 rfl trivial ?_ rfl
  simp only [Tryz.ntmps168, List.size_toArray, List.length_cons, List.length_nil, Nat.reduceAdd, Nat.reduceSub, Array.replicate_succ, Array.replicate_zero, List.push_toArray, List.append_toArray, List.nil_append, List.cons_append]
  gi_wp2
  have bO := Boxed.new w 23 (.slice none 0 0)
  have hB0 : Below w.heap.size w (w.alloc (.cells #[.slice none 0 0] 23)) := (Below.refl _ w).alloc (Nat.le_refl _) _
  have hsz : (w.alloc (.cells #[.slice none 0 0] 23)).heap.size = w.heap.size + 1 := by simp
  obtain ⟨W0, hW0⟩ : ∃ W0, w.alloc (.cells #[.slice none 0 0] 23) = W0 := ⟨_, rfl⟩
  rw [hW0] at bO hB0 hsz ⊢
  clear hW0
  have hI1 : L = [] ∨ ∃ b off, ao = some ⟨b, off, none⟩ ∧ b < w.heap.size ∧ pfCells W0 b off L := by
    rcases hI0 with h | ⟨b, off, ha, hb, hc⟩
    · exact .inl h
    · exact .inr ⟨b, off, ha, hb, pfCells_below hc hB0 hb⟩
  refine wpIn_rangeFunc_ownH rfl (by decide) (gf := 131) (lb := #[.pointer (some ⟨Bs, 0, none⟩)]) rfl trivial (enters_of Tryz.func131 (by kernel_rfl) rfl)
    (values_stops Fence.wide (6 - 1) trivial rfl (by decide) Bs w.heap.size cap ao L hlen W0 hBs (by omega) ((hB0.cell (p := ⟨Bs, 0, none⟩) hBs).trans hc) hI1) belowK_t (belowK_b (by omega)) (Below.refl _ _) (fun _ => rfl)
    (fun pre W => (∃ v, Boxed W w.heap.size 23 v ∧ W.ownsRow w.heap.size 32 2 v pre.length (pfList pre) ∧ True) ∧ Below w.heap.size w W)
    (fun _ _ _ => False)
    (OwnFrom.and (Own.from (holdsRow_own w.heap.size w.heap.size 23 32 2 (fun (pre : List Pf) => pre.length) (fun (pre : List Pf) => pfList pre) (fun _ _ => True)) _) (ownFrom_below (Nat.le_refl _) (by omega)))
    (fun _ _ _ _ _ hs _ _ => hs)
    ⟨⟨_, bO, World.ownsRow_nil _ _ _ _, trivial⟩, hB0⟩
    (fun y a' W => ∃ Bx, w.heap.size < Bx ∧ Blk W Bx #[.int .u32 y.addr, .int .i64 y.len] 32 ∧ a' = { tmps := #[.slice none 0 0, .func (.func 131) #[] #[.pointer (some ⟨Bs, 0, none⟩)], .pointer (some ⟨w.heap.size, 0, none⟩), undef, .slice none 0 0, .pointer (some ⟨Bx, 0, none⟩), .func (.func 131) #[] #[.pointer (some ⟨Bs, 0, none⟩)], .agg #[.int .u32 y.addr, .int .i64 y.len], undef, undef, undef, undef, undef], defers := [] })
    ?hAx ?assign ?body ?done ?stop
  case hAx =>
    intro y a' _ X Y row hs hg hr
    obtain ⟨Bx, h1, h2, h3⟩ := hs
    exact ⟨Bx, h1, Blk.own (β := Unit) _ (fun _ => _) _ () X Y row h2 hg (fun r e => (hr r e).2), h3⟩
  case assign =>
    rintro l pre y W K ⟨⟨v, hv, hrow, _⟩, hB1⟩ hK
    simp only [pfEncs]
    gi_wp2
    exact hK _ _ ((KeepsOthers.alloc _ _).from _) ((Below.refl _ W).alloc hB1.size _) ⟨⟨v, hv.alloc _, hrow.alloc _, trivial⟩, hB1.alloc hB1.size _⟩ ⟨W.heap.size, hv.lt, Blk.new W _ _, rfl⟩
  case body =>
    rintro l pre y a' W hl ⟨r, hr⟩ ⟨⟨v, hv, hrow, _⟩, hB1⟩ ⟨Bx, hBx, bX1, rfl⟩ hlt
    have hcv := hv.cell
    have c0 : W.cell? ⟨Bx, 0, none⟩ = some (.int .u32 y.addr) := bX1.cell 0
    have c1 : W.cell? ⟨Bx, 1, none⟩ = some (.int .i64 y.len) := bX1.cell 1
    have hpl : pre.length < 1000000 := by omega
    gi_wp2_with (gi_at_builtin; go_loud (refine wpListIn_append_own _ rfl _ _ 23 rfl w.heap.size 32 i0 (.agg #[.int .u32 0, .int .i64 0]) 2 16 Tryz.underlying23 hi hz0 hz1 hz2 rfl (by decide) _ _ _ rfl (hrow.alloc _) ⟨W.heap.size, 0, none⟩ 1 1 [.int .u32 y.addr, .int .i64 y.len] rfl rfl (by exact World.news_of_block (heap_alloc_new W _)) (by simp [Value.oneCell']) (by unfold maxLen; omega) (by omega) (by have := hB1.size; simp; omega) ?_; intro v' w1 hown' hgrow _; obtain ⟨g', cap', rfl⟩ := ownsRow_succ hown'; obtain ⟨hv1, hv2, hr2, hk2, hb2⟩ := hv.appended (by decide) hrow hB1.size (Nat.le_refl _) hown' hgrow; have hc1 := hv1.cell; have hf1 := hv1.frozen))
    exact ⟨hk2.from _, hb2, ⟨_, hv2, by rw [pfList_snoc, List.length_append]; exact hr2, trivial⟩, hB1.trans hb2⟩
  case done =>
    rintro D ys W hD rfl ⟨⟨v, hv, hrow, _⟩, hB⟩ hK
    have hc := hv.cell
    gi_wp2
    refine ⟨by simp, .inl ⟨_, _, rfl, run_takeDeferred hK, ?_⟩⟩
    exact ⟨_, results_tmp rfl _ _ _, v, rfl, ownsRow_putObj hrow _ hK rfl, hB.trans (belowK_b (w := w) (Nat.le_refl _) W D _ _ (by omega) hK rfl rfl)⟩
  case stop =>
    rintro D c pre W _ _ h _
    exact h.elim

end Go.Proofs.YtdnpeefnobjfaaaGreatDoor

/- slices.SortFunc over prefixes, slices.Collect, slices.SortedFunc: a new list of the same prefixes, in their order. -/
namespace Go.Proofs.YtdnpeefnobjfaaaGreatDoor
open Go.RowKit Go.Shelf Go.Sort

/-- Stands a prefix ahead of another one? -/
def pfLt (p q : Pf) : Prop := p.addr < q.addr ∨ p.addr = q.addr ∧ p.len < q.len
theorem cmpP_neg (p q : Pf) : cmpP p q < 0 ↔ pfLt p q := by
  unfold cmpP cmpI pfLt
  by_cases h1 : p.addr < q.addr
  · simp [h1]
  · by_cases h2 : q.addr < p.addr
    · simp [h1, h2]; omega
    · have : p.addr = q.addr := by omega
      by_cases h3 : p.len < q.len
      · simp [this, h3]
      · by_cases h4 : q.len < p.len <;> simp [this, h3, h4]
theorem ltOf_cmpP (p q : Pf) : (Go.Proofs.ltOf cmpP p q = true) ↔ pfLt p q := by
  rw [← cmpP_neg]
  simp [Go.Proofs.ltOf]
theorem swoP : SWO (Go.Proofs.ltOf cmpP) where
  irrefl x := by rw [← Bool.not_eq_true, ltOf_cmpP]; unfold pfLt; omega
  trans x y z h1 h2 := by rw [ltOf_cmpP] at *; unfold pfLt at *; omega
  ntrans x y z h1 h2 := by rw [← Bool.not_eq_true, ltOf_cmpP] at *; unfold pfLt at *; omega

theorem cmpLaysP (blk off size : Nat) (w : World) : Go.Proofs.CmpLays Tryz.prog 82 #[] pfVals 2 cmpP blk off size w :=
  fun _ _ _ _ x y => compare_any x y _

/-- A row of prefixes that is owned, as the sort's kit says it. -/
theorem holds_pf {w : World} {base g n cap : Nat} {L : List Pf} (h : w.ownsRow base 32 2 (.slice (some ⟨g, 0, none⟩) n cap) n (pfList L)) : HoldsK pfVals 2 w g 0 L.toArray := by
  obtain ⟨hl, ⟨hv, _⟩ | ⟨g', c', cur, hv, _, hg, hnc, _, hcs, ht⟩⟩ := h
  · simp at hv
  · simp at hv
    obtain ⟨rfl, rfl⟩ := hv
    rw [pfList_length] at hl
    have hLn : L.length = n := by omega
    intro j hj
    rw [size_flatK] at hj
    have hj' : j < L.length * 2 := by simpa using hj
    rw [get_flatK _ _ _ _ hj]
    have hv : (pfList L)[j]? = some ((pfVals L.toArray[j / 2]!)[j % 2]!) := by
      clear ht hj hcs hl hLn
      induction L generalizing j with
      | nil => simp at hj'
      | cons p r ih =>
        rcases (by omega : j = 0 ∨ j = 1 ∨ 2 ≤ j) with rfl | rfl | h2
        · rfl
        · rfl
        · obtain ⟨i, rfl⟩ : ∃ i, j = i + 2 := ⟨j - 2, by omega⟩
          have := ih i (by simp at hj'; omega)
          have e1 : (i + 2) / 2 = i / 2 + 1 := by omega
          have e2 : (i + 2) % 2 = i % 2 := by omega
          rw [e1, e2]
          simpa [pfList] using this
    constructor
    · rw [Nat.zero_add, show w.cell? ⟨g, j, none⟩ = cur[j]? by simp [World.cell?, hg]]
      have : (cur.toList.take (n * 2))[j]? = (pfList L)[j]? := by rw [ht]
      rw [List.getElem?_take, if_pos (by omega)] at this
      simp at this
      rw [this, hv]
      rfl
    · simp [World.frozen?, hg]

theorem cells_of_holds {w : World} {g : Nat} {d : Array Pf} (h : HoldsK pfVals 2 w g 0 d) : pfCells w g 0 d.toList := fun k hk => by
  have hk' : k < d.size := by simpa using hk
  have c0 := (h.cell (i := k) (c := 0) hk' (by decide)).1
  have c1 := (h.cell (i := k) (c := 1) hk' (by decide)).1
  rw [getElem!_pos d k hk'] at c0 c1
  exact ⟨by simpa [pfVals] using c0, by simpa [pfVals] using c1⟩

theorem sortWorld_block (w : World) (g m : Nat) (d : Array Pf) (os : Array Obj) (k : Nat) (hk : k < w.heap.size) (hne : k ≠ g) : (Go.Proofs.sortWorldK pfVals 2 w g 0 m d os).heap[k]? = w.heap[k]? := by
  unfold Go.Proofs.sortWorldK putRowK putRow mapBlock Go.Sort.ahead Go.Sort.grow
  simp only [Array.getElem?_append, Array.size_modify, hk, if_true, Array.getElem?_modify]
  rw [if_neg (fun e => hne e.symm)]

/-- In their order: each stands ahead of the next ones, or is the same. -/
def pfSorted (L : List Pf) : Prop := L.Pairwise fun p q => ¬ pfLt q p

theorem sort_some (base g cap : Nat) (L : List Pf) (w : World) (hlen : L.length ≤ 1000000) (hg : base ≤ g) (h : w.ownsRow base 32 2 (.slice (some ⟨g, 0, none⟩) L.length cap) L.length (pfList L)) (hlt : g < w.heap.size) :
    Calls Tryz.prog 130 #[.slice (some ⟨g, 0, none⟩) L.length cap, .func (.func 82) #[] #[]] w fun e w' => e = .returned (.tuple #[]) ∧ ∃ Ls, Ls.Perm L ∧ pfSorted Ls ∧ pfCells w' g 0 Ls ∧ Below base w w' := by
  have hH := holds_pf h
  have eg : ∀ args w, (callFunc 82 args).run Tryz.prog w = .ok (.enter 82 args) w := enters_of Tryz.func82 (by kernel_rfl) rfl
  have hcon := Go.Proofs.AnyQ.slices_SortFunc Tryz.sortPf 2 Tryz.isAgg32 Tryz.sizeOf32 pfVals (fun _ => rfl) (fun x v hv => by simp [pfVals] at hv; rcases hv with rfl | rfl <;> rfl) cmpP swoP 82 #[] g 0 cap L.toArray w eg (cmpLaysP g 0 _ w) hH hlt (by simp; omega)
  change Calls Tryz.prog 130 _ _ _ at hcon
  simp only [List.size_toArray] at hcon
  refine hcon.mono ?_
  rintro e w' ⟨rfl, d', m, os, ⟨hsz, _, hperm⟩, hsort, rfl⟩
  have hsz' : d'.size = L.length := by simpa using hsz
  refine ⟨rfl, d'.toList, ?_, ?_, cells_of_holds (Go.Proofs.holdsK_sortWorldK_c pfVals 2 w g 0 L.toArray d' m os hH hlt hsz), ?_⟩
  · have e1 : d'.extract 0 L.length = d' := by rw [← hsz']; simp
    have e2 : L.toArray.extract 0 L.length = L.toArray := by simp
    rw [e1, e2] at hperm
    simpa using hperm
  · unfold pfSorted
    rw [List.pairwise_iff_getElem]
    intro i j hi hj hij
    have hi' : i < d'.size := by simpa using hi
    have hj' : j < d'.size := by simpa using hj
    have := hsort i j (Nat.zero_le _) hij (by omega)
    rw [getElem!_pos d' i hi', getElem!_pos d' j hj', ← Bool.not_eq_true, ltOf_cmpP] at this
    simpa using this
  · exact ⟨rfl, rfl, rfl, Go.Proofs.size_sortWorldK_c pfVals 2 w g 0 m d' os, fun k hk => sortWorld_block w g m d' os k (by omega) (by omega)⟩

set_option maxHeartbeats 1000000 in
theorem insertionNone (p : Option Addr) (cap : Nat) (fv : Value) (w : World) :
    Calls Tryz.prog 215 #[.slice p 0 cap, .int .i64 0, .int .i64 0, fv] w fun e w' => e = .returned (.tuple #[]) ∧ w' = w := by
  go_enter Tryz.func215, Tryz.ntmps215
  go_wp2
  refine wp_loop_rounds 1 ?_
  rw [rounds_succ]
  go_wp2
  go_end0
  exact ⟨rfl, rfl⟩

set_option maxRecDepth 100000 in
set_option maxHeartbeats 1000000 in
theorem pdqNone (p : Option Addr) (cap : Nat) (lim : Int) (fv : Value) (w : World) :
    Calls Tryz.prog 169 #[.slice p 0 cap, .int .i64 0, .int .i64 0, .int .i64 lim, fv] w fun e w' => e = .returned (.tuple #[]) ∧ w' = w := by
  have hi := insertionNone p cap fv w
  go_enter Tryz.func169, Tryz.ntmps169
  go_wp2_with fail
  refine wp_loop_rounds 1 ?_
  rw [rounds_succ]
  go_wp2_with (go_at_call 215; refine hi.mono ?_; rintro e w1 ⟨rfl, rfl⟩)
  refine bodyPost_ret (results_none rfl _ _ _) rfl ?_
  exact ⟨rfl, rfl⟩

set_option maxHeartbeats 1000000 in
theorem sort_none (p : Option Addr) (cap : Nat) (fv : Value) (w : World) :
    Calls Tryz.prog 130 #[.slice p 0 cap, fv] w fun e w' => e = .returned (.tuple #[]) ∧ w' = w := by
  have hl : Calls Tryz.prog 170 #[.int .u64 0] w fun e w' => e = .returned (.int .i64 (Lib.bitLen 0 : Nat)) ∧ w' = w :=
    Go.Proofs.Any.bits_Len (Go.Proofs.SlLaysF0.n15.bits (P := Tryz.prog) (ρ := Tryz.sortPf_ren) { Tryz.sortPf with }) 0 w (by omega) (by omega)
  have hp := fun lim => pdqNone p cap lim fv w
  go_enter Tryz.func130, Tryz.ntmps130
  go_wp2_with (first | (go_at_call 170; refine hl.mono ?_; rintro e w' ⟨rfl, rfl⟩) | (go_at_call 169; refine (hp _).mono ?_; rintro e w' ⟨rfl, rfl⟩))
  go_end0
  exact ⟨rfl, rfl⟩

set_option maxHeartbeats 1000000 in
theorem collect_any (Bs cap : Nat) (ao : Option Addr) (L : List Pf) (hlen : L.length ≤ 1000000) (w : World) (hBs : Bs < w.heap.size) (hc : w.cell? ⟨Bs, 0, none⟩ = some (.slice ao L.length cap)) (hs : pfSlice w ao L) :
    Calls Tryz.prog 129 #[.func (.func 131) #[] #[.pointer (some ⟨Bs, 0, none⟩)]] w fun e w' => ∃ v, e = .returned v ∧ w'.ownsRow w.heap.size 32 2 v L.length (pfList L) ∧ Below w.heap.size w w' := by
  have hA := appendSeq_any Bs cap ao L hlen w hBs hc hs
  go_enter Tryz.func129, Tryz.ntmps129
  go_wp2_with (go_at_call 168; refine hA.mono ?_; rintro e w1 ⟨v, rfl, hown, hb⟩)
  go_ret
  exact ⟨v, rfl, hown, hb⟩

set_option maxHeartbeats 1000000 in
theorem sortedFunc_any (Bs cap : Nat) (ao : Option Addr) (L : List Pf) (hlen : L.length ≤ 1000000) (w : World) (hBs : Bs < w.heap.size) (hc : w.cell? ⟨Bs, 0, none⟩ = some (.slice ao L.length cap)) (hs : pfSlice w ao L) :
    Calls Tryz.prog 80 #[.func (.func 131) #[] #[.pointer (some ⟨Bs, 0, none⟩)], .func (.func 82) #[] #[]] w fun e w' => ∃ ao' cap' Ls, e = .returned (.slice ao' L.length cap') ∧ Ls.Perm L ∧ pfSorted Ls ∧ (Ls = [] ∨ ∃ g, ao' = some ⟨g, 0, none⟩ ∧ w.heap.size ≤ g ∧ pfCells w' g 0 Ls) ∧ Below w.heap.size w w' := by
  have hC := collect_any Bs cap ao L hlen w hBs hc hs
  have HC := hide hc
  have HS := hide hs
  clear hc hs
  by_cases h0 : L.length = 0
  · have hL : L = [] := List.eq_nil_of_length_eq_zero h0
    subst hL
    go_enter Tryz.func80, Tryz.ntmps80
    go_wp2_with fail
    refine hC.mono ?_
    rintro e w1 ⟨v, rfl, hown, hb⟩
    obtain ⟨ao', cap', rfl⟩ : ∃ ao' cap', v = .slice ao' 0 cap' := by
      rcases hown.2 with ⟨hv, _⟩ | ⟨g, c, cur, hv, _⟩
      · exact ⟨_, _, hv⟩
      · exact ⟨_, _, hv⟩
    have hsn := sort_none ao' cap' (.func (.func 82) #[] #[]) w1
    clear hown
    go_wp2_with (go_at_call 130; refine hsn.mono ?_; rintro e w' ⟨rfl, rfl⟩)
    go_ret
    exact ⟨ao', cap', [], rfl, List.Perm.refl _, List.Pairwise.nil, .inl rfl, hb⟩
  · go_enter Tryz.func80, Tryz.ntmps80
    go_wp2_with fail
    refine hC.mono ?_
    rintro e w1 ⟨v, rfl, hown, hb⟩
    have hown0 := hown
    obtain ⟨_, ⟨_, hz⟩ | ⟨g, cap', cur, rfl, hbg, hgb, _⟩⟩ := hown0
    · exact absurd hz h0
    · have hs1 := sort_some w.heap.size g cap' L w1 hlen hbg hown (Array.getElem?_eq_some_iff.1 hgb).1
      clear hown hgb
      go_wp2_with (go_at_call 130; refine hs1.mono ?_; rintro e w' ⟨rfl, Ls, hp, hso, hce, hbe⟩)
      go_ret
      exact ⟨_, cap', Ls, rfl, hp, hso, .inr ⟨g, rfl, hbg, hce⟩, hb.trans hbe⟩

end Go.Proofs.YtdnpeefnobjfaaaGreatDoor
