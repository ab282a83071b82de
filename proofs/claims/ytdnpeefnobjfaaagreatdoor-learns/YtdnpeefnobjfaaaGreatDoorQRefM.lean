/- The reference's router in memory; its where, insert, dies. -/
import Derived.Test.YtdnpeefnobjfaaaGreatDoorTTakeM
import Derived.Test.YtdnpeefnobjfaaaGreatDoorRefM
import Derived.Test.YtdnpeefnobjfaaaGreatDoorLockM
import Derived.BigQuiet
namespace Go.Proofs.YtdnpeefnobjfaaaGreatDoor
open Go.RowKit Go.Shelf
attribute [local go_sem ↓] Go.wp_at_zero Go.wp_at_succ

/-- The reference's router in memory. -/
structure RefAt (w : World) (base Q : Nat) (costs : List Int) (L : List Rw) (cv lv : Value) : Prop where
  blk : Blk w Q #[cv, lv] 160
  costs : w.ownsRow base 3 1 cv costs.length (numList costs)
  rows : w.ownsRow base 162 7 lv L.length (rwList L)
  new : base ≤ Q
theorem RefAt.below {w w' : World} {base Q : Nat} {costs : List Int} {L : List Rw} {cv lv : Value} (h : RefAt w base Q costs L cv lv) (hb : Below w.heap.size w w') : RefAt w' base Q costs L cv lv :=
  ⟨h.blk.below hb h.blk.lt, ownsRow_below h.costs hb (Nat.le_refl _), ownsRow_below h.rows hb (Nat.le_refl _), h.new⟩

/-- Rows that are owned, of whatever type, as a slice. -/
theorem rwSlice_ownT {t : TypeId} {w : World} {base n cap : Nat} {ao : Option Addr} {L : List Rw} (h : w.ownsRow base t 7 (.slice ao n cap) n (rwList L)) : rwSlice w ao L := by
  obtain ⟨hl, ⟨hv, h0⟩ | ⟨g, c, cur, hv, _, hg, _, _, _, ht⟩⟩ := h
  · subst h0
    rw [rwList_length] at hl
    exact .inl (List.eq_nil_of_length_eq_zero (by omega))
  · simp at hv
    obtain ⟨rfl, rfl⟩ := hv
    rw [rwList_length] at hl
    have hn : L.length = n := by omega
    refine .inr ⟨g, 0, rfl, fun k hk => ?_⟩
    have hc : ∀ j, j < n * 7 → w.cell? ⟨g, j, none⟩ = (rwList L)[j]? := fun j hj => by
      rw [show w.cell? ⟨g, j, none⟩ = cur[j]? by simp [World.cell?, hg], ← ht, List.getElem?_take, if_pos hj]
      simp
    have hv : ∀ i, i < 7 → (rwList L)[k * 7 + i]? = (rwVals L[k])[i]? := fun i hi => by
      clear hc ht hl hn
      induction L generalizing k with
      | nil => simp at hk
      | cons r R ih =>
        cases k with
        | zero =>
          simp only [Nat.zero_mul, Nat.zero_add, rwList, List.flatMap_cons, List.getElem_cons_zero]
          rw [List.getElem?_append_left (by simp [rwVals]; omega)]
        | succ k =>
          have := ih k (by simpa using hk)
          simp only [rwList, List.flatMap_cons, List.getElem_cons_succ] at this ⊢
          rw [List.getElem?_append_right (by simp [rwVals]; omega), ← this]
          congr 1
          simp [rwVals]; omega
    have hlt : k * 7 + 6 < n * 7 := by omega
    simp only [Nat.zero_add]
    refine ⟨?_, ?_, ?_, ?_, ?_, ?_, ?_⟩
    · have := hv 0 (by decide); rw [Nat.add_zero] at this; rw [hc _ (by omega), this]; rfl
    · rw [hc _ (by omega), hv 1 (by decide)]; rfl
    · rw [hc _ (by omega), hv 2 (by decide)]; rfl
    · rw [hc _ (by omega), hv 3 (by decide)]; rfl
    · rw [hc _ (by omega), hv 4 (by decide)]; rfl
    · rw [hc _ (by omega), hv 5 (by decide)]; rfl
    · rw [hc _ (by omega), hv 6 (by decide)]; rfl

theorem eqPf_run (a l a' l' : Int) (w : World) : (binOp .eql 32 (.agg #[.int .u32 a, .int .i64 l]) (.agg #[.int .u32 a', .int .i64 l'])).run Tryz.prog w = .ok (.bool (decide (a = a') && decide (l = l'))) w := by
  rw [run_eql_struct, show (10000 : Nat) = 9998 + 1 + 1 from rfl, eqPf_in]
  rfl

/-- The place of a prefix among rows; -1: there is none. -/
def isAt (L : List Rw) (p : Pf) (z : Int) : Prop := (z = -1 ∧ ∀ r ∈ L, rwPf r ≠ p) ∨ ∃ i, ∃ h : i < L.length, z = i ∧ rwPf L[i] = p

set_option maxRecDepth 100000 in
set_option maxHeartbeats 2000000 in
theorem where_any (Q : Nat) (p : Pf) (ao : Option Addr) (cap : Nat) (L : List Rw) (cv : Value) (w : World) (hn : L.length ≤ 1000000) (hq : Blk w Q #[cv, .slice ao L.length cap] 160) (hs : rwSlice w ao L) :
    Calls Tryz.prog 111 #[.pointer (some ⟨Q, 0, none⟩), .agg #[.int .u32 p.addr, .int .i64 p.len]] w fun e w' => ∃ z, e = .returned (.int .i64 z) ∧ isAt L p z ∧ Grows w w' := by
  have hb0 := below_new w (.cells #[.int .u32 p.addr, .int .i64 p.len] 32)
  have bP := Blk.new w #[.int .u32 p.addr, .int .i64 p.len] 32
  have c1 := ((hq.below hb0 hq.lt).cell 1).trans (show _ = some (.slice ao L.length cap) from rfl)
  have b0 := (bP.cell 0).trans (show _ = some (.int .u32 p.addr) from rfl)
  have b1 := (bP.cell 1).trans (show _ = some (.int .i64 p.len) from rfl)
  have HS := hide (rwSlice_below hs hb0)
  have HG := hide ((Grows.refl w).alloc (.cells #[.int .u32 p.addr, .int .i64 p.len] 32))
  clear hs hq hb0 bP
  go_enter Tryz.func111, Tryz.ntmps111
  go_wp2_with fail
  generalize w.alloc (.cells #[.int .u32 p.addr, .int .i64 p.len] 32) = W at *
  generalize w.heap.size = P at *
  go_loopw [5] (fun i wr => ∃ (k d : Nat), k ≤ L.length ∧ i = .int .i64 k ∧ (∀ j, (hj : j < L.length) → j < k → rwPf L[j] ≠ p) ∧ wr = W.drewN d) (fun i _ => L.length - (intOf i).toNat)
  case atStart => exact ⟨0, 0, by omega, rfl, fun j _ h => by omega, rfl⟩
  case round =>
    obtain ⟨k, d, hk, rfl, hpre, rfl⟩ := hrel
    have HP := hide hpre
    clear hpre
    by_cases hlt : k < L.length
    · rcases unhide HS with h0 | ⟨g, off, rfl, hce⟩
      · rw [h0] at hlt; simp at hlt
      · obtain ⟨r0, r1, _, _, _, _, _⟩ := hce k hlt
        have j0 : (0 : Int) ≤ (k : Int) := by omega
        have j1 : (k : Int) < (L.length : Int) := by omega
        have hEq := eqPf_run L[k].addr L[k].len p.addr p.len
        by_cases he : rwPf L[k] = p
        · have he' := he
          simp only [rwPf, Pf.beq_iff] at he'
          obtain ⟨e1, e2⟩ := he'
          rw [e1, e2] at hEq
          rw [e1] at r0
          rw [e2] at r1
          simp only [decide_true, Bool.and_self] at hEq
          have HE := hide he
          clear hce he e1 e2
          go_wp2_with fail
          go_quiet (fail)
          go_wp2
          go_ret
          refine ⟨_, rfl, .inr ⟨k, hlt, rfl, unhide HE⟩, ?_⟩
          exact ((unhide HG).drewN _).drewN _
        · have hb : (decide (L[k].addr = p.addr) && decide (L[k].len = p.len)) = false := by
            cases hq : (decide (L[k].addr = p.addr) && decide (L[k].len = p.len)) with
            | false => rfl
            | true => simp at hq; exact absurd ((Pf.beq_iff _ _).2 hq) he
          rw [hb] at hEq
          have HE := hide he
          clear hce he hb
          generalize L[k].addr = xa at *
          generalize L[k].len = xl at *
          go_wp2_with fail
          go_quiet (fail)
          go_wp2
          go_roundw
          case rel =>
            refine ⟨k + 1, d + _, by omega, by go_num, fun j hj hjk => ?_, rfl⟩
            by_cases e : j = k
            · subst e; exact unhide HE
            · exact unhide HP j hj (by omega)
          case measure => simp [intOf]; omega
    · have hkn : k = L.length := by omega
      subst hkn
      go_wp2
      go_ret
      refine ⟨_, rfl, .inl ⟨rfl, fun r hr => ?_⟩, (unhide HG).drewN _⟩
      obtain ⟨j, hj, rfl⟩ := List.mem_iff_getElem.1 hr
      exact unhide HP j hj hj

/-- Does a prefix stand ahead of a row's? -/
def aheadB (p : Pf) (r : Rw) : Bool := decide (p.addr < r.addr) || decide (p.addr = r.addr) && decide (p.len < r.len)
theorem ahead_any (p q : Pf) (w : World) :
    Calls Tryz.prog 160 #[.agg #[.int .u32 p.addr, .int .i64 p.len], .agg #[.int .u32 q.addr, .int .i64 q.len]] w fun e w' => e = .returned (.bool (decide (p.addr < q.addr) || decide (p.addr = q.addr) && decide (p.len < q.len))) ∧ Grows w w' := by
  by_cases h1 : p.addr < q.addr
  · go_enter Tryz.func160, Tryz.ntmps160
    go_wp2
    go_ret
    exact ⟨by simp [h1], ((Grows.refl w).alloc _).alloc _⟩
  · by_cases h2 : p.addr = q.addr
    · by_cases h3 : p.len < q.len
      · go_enter Tryz.func160, Tryz.ntmps160
        go_wp2
        go_ret
        exact ⟨by simp, ((Grows.refl w).alloc _).alloc _⟩
      · go_enter Tryz.func160, Tryz.ntmps160
        go_wp2
        go_ret
        exact ⟨by simp [h3], ((Grows.refl w).alloc _).alloc _⟩
    · go_enter Tryz.func160, Tryz.ntmps160
      go_wp2
      go_ret
      exact ⟨by simp [h1], ((Grows.refl w).alloc _).alloc _⟩

/-- Where a row is put: ahead of the first one that it stands ahead of. -/
def insAt (L : List Rw) (p : Pf) : Nat := (L.takeWhile fun r => !(aheadB p r)).length
def insL (L : List Rw) (x : Rw) : List Rw := L.take (insAt L (rwPf x)) ++ x :: L.drop (insAt L (rwPf x))
theorem insAt_le (L : List Rw) (p : Pf) : insAt L p ≤ L.length := (List.takeWhile_sublist _).length_le
theorem insAt_not {L : List Rw} {p : Pf} {j : Nat} (hj : j < insAt L p) (hl : j < L.length) : aheadB p L[j] = false := by
  unfold insAt at hj
  induction L generalizing j with
  | nil => simp at hl
  | cons r R ih =>
    rw [List.takeWhile_cons] at hj
    by_cases h : aheadB p r = true
    · simp [h] at hj
    · have h' : aheadB p r = false := by simpa using h
      simp only [h', Bool.not_false, if_true, List.length_cons] at hj
      cases j with
      | zero => exact h'
      | succ j => exact ih (by omega) (by simpa using hl)
theorem insAt_is {L : List Rw} {p : Pf} (hl : insAt L p < L.length) : aheadB p L[insAt L p] = true := by
  unfold insAt at hl ⊢
  induction L with
  | nil => simp at hl
  | cons r R ih =>
    by_cases h : aheadB p r = true
    · simp [h]
    · have h' : aheadB p r = false := by simpa using h
      simp only [List.takeWhile_cons, h', Bool.not_false, if_true, List.length_cons] at hl ⊢
      exact ih (by omega)
/-- Behind k rows. -/
def insK (L : List Rw) (x : Rw) (k : Nat) : List Rw := if insAt L (rwPf x) < k then L.take (insAt L (rwPf x)) ++ x :: (L.take k).drop (insAt L (rwPf x)) else L.take k
theorem insK_zero (L : List Rw) (x : Rw) : insK L x 0 = [] := by simp [insK]
theorem insK_end (L : List Rw) (x : Rw) (h : insAt L (rwPf x) < L.length) : insK L x L.length = insL L x := by
  simp [insK, insL, h]
theorem insK_end' (L : List Rw) (x : Rw) (h : ¬ insAt L (rwPf x) < L.length) : insK L x L.length ++ [x] = insL L x := by
  have := insAt_le L (rwPf x)
  have e : insAt L (rwPf x) = L.length := by omega
  simp [insK, insL, e]
theorem insK_put (L : List Rw) (x : Rw) (h : insAt L (rwPf x) < L.length) : insK L x (insAt L (rwPf x) + 1) = insK L x (insAt L (rwPf x)) ++ [x] ++ [L[insAt L (rwPf x)]] := by
  unfold insK
  have hc : (L.take (insAt L (rwPf x))).length = insAt L (rwPf x) := by simp; omega
  rw [if_pos (Nat.lt_succ_self _), if_neg (Nat.lt_irrefl _), List.take_succ_eq_append_getElem h, List.drop_left' hc]
  simp
theorem insK_go (L : List Rw) (x : Rw) (k : Nat) (hk : k < L.length) (h : insAt L (rwPf x) ≠ k) : insK L x (k + 1) = insK L x k ++ [L[k]] := by
  unfold insK
  by_cases h1 : insAt L (rwPf x) < k
  · rw [if_pos (by omega), if_pos h1, List.take_succ_eq_append_getElem hk, List.drop_append_of_le_length (by simp; omega)]
    simp
  · rw [if_neg (by omega), if_neg h1, List.take_succ_eq_append_getElem hk]
theorem insK_length (L : List Rw) (x : Rw) (k : Nat) (hk : k ≤ L.length) : (insK L x k).length = if insAt L (rwPf x) < k then k + 1 else k := by
  unfold insK
  split
  · simp; omega
  · simp; omega

end Go.Proofs.YtdnpeefnobjfaaaGreatDoor

/- The reference's insert, dies. -/
namespace Go.Proofs.YtdnpeefnobjfaaaGreatDoor
open Go.RowKit Go.Shelf
attribute [local go_sem ↓] Go.wp_at_zero Go.wp_at_succ

theorem Tryz.info162 : (Tryz.prog.info? 162).map (fun i => (i.zero, i.size, i.bytes)) = some (some (.agg #[.int .u32 0, .int .i64 0, .int .i64 0, .int .i64 0, .int .i64 0, .int .i64 0, .bool false]), 7, 56) := by kernel_rfl
theorem own_grown {w w' : World} {base e sz n m : Nat} {v : Value} {xs : List Value} {o : Obj} {B : Nat} {w0 : World} (hb : Below B w0 w) (ho : w.ownsRow base e sz v n xs) (hB : B ≤ base) (hg : (w.alloc o).grownBy w' v.ownBlock) (hs : B ≤ w.heap.size) (_ : m = m) : Below B w0 w' :=
  (hb.alloc hs o).grown hg (by simp; omega) (fun q hq => Nat.le_trans hB (ownsRow_from ho q hq).1)

set_option maxRecDepth 100000 in
set_option maxHeartbeats 4000000 in
theorem insert_ref (base Q : Nat) (costs : List Int) (L : List Rw) (x : Rw) (cv lv : Value) (w : World) (hQ : RefAt w base Q costs L cv lv) (hn : L.length ≤ 1000000) :
    Calls Tryz.prog 112 #[.pointer (some ⟨Q, 0, none⟩), .agg #[.int .u32 x.addr, .int .i64 x.len, .int .i64 x.tag, .int .i64 x.met, .int .i64 x.frm, .int .i64 x.age, .bool x.chg]] w fun e w' => e = .returned (.tuple #[]) ∧ ∃ lv', RefAt w' base Q costs (insL L x) cv lv' ∧ w.grownBy w' (some Q) ∧ w'.ownsRow w.heap.size 162 7 lv' (insL L x).length (rwList (insL L x)) := by
  obtain ⟨iR, hiR, hR0, hR1, hR2⟩ := info_parts Tryz.info162
  obtain ⟨ao, cap, rfl⟩ := ownsRow_slice hQ.rows
  have hb0 := below_new w (.cells #[.int .u32 x.addr, .int .i64 x.len, .int .i64 x.tag, .int .i64 x.met, .int .i64 x.frm, .int .i64 x.age, .bool x.chg] 162)
  have bX := hide (Blk.new w #[.int .u32 x.addr, .int .i64 x.len, .int .i64 x.tag, .int .i64 x.met, .int .i64 x.frm, .int .i64 x.age, .bool x.chg] 162)
  have hsz : (w.alloc (.cells #[.int .u32 x.addr, .int .i64 x.len, .int .i64 x.tag, .int .i64 x.met, .int .i64 x.frm, .int .i64 x.age, .bool x.chg] 162)).heap.size = w.heap.size + 1 := by simp
  have HQ := hide (hQ.below hb0)
  have HS := hide (rwSlice_below (rwSlice_ownT hQ.rows) hb0)
  have hQl := hQ.blk.lt
  have hQb := hQ.new
  have HG0 := hide (World.grownBy_alloc w (.cells #[.int .u32 x.addr, .int .i64 x.len, .int .i64 x.tag, .int .i64 x.met, .int .i64 x.frm, .int .i64 x.age, .bool x.chg] 162) (some Q))
  clear hQ hb0
  go_enter Tryz.func112, Tryz.ntmps112
  go_wp2_with fail
  generalize w.alloc (.cells #[.int .u32 x.addr, .int .i64 x.len, .int .i64 x.tag, .int .i64 x.met, .int .i64 x.frm, .int .i64 x.age, .bool x.chg] 162) = W at *
  generalize hP : w.heap.size = P at *
  have hfol := prog_follows
  go_loopw [4, 5, 6] (fun d pt i wr => ∃ k : Nat, k ≤ L.length ∧ i = .int .i64 k ∧ pt = .bool (decide (insAt L (rwPf x) < k)) ∧ wr.ownsRow W.heap.size 162 7 d (insK L x k).length (rwList (insK L x k)) ∧ Below W.heap.size W wr) (fun _ _ i _ => L.length - (intOf i).toNat)
  case atStart => exact ⟨0, by omega, rfl, by simp, by rw [insK_zero]; exact World.ownsRow_nil _ _ _ _, Below.refl _ _⟩
  case round =>
    obtain ⟨k, hk, rfl, rfl, hown, hb⟩ := hrel
    have bX1 := (unhide bX).below hb (by rw [hsz]; omega)
    have x0 := (bX1.cell 0).trans (show _ = some (.int .u32 x.addr) from rfl)
    have x1 := (bX1.cell 1).trans (show _ = some (.int .i64 x.len) from rfl)
    have x2 := (bX1.cell 2).trans (show _ = some (.int .i64 x.tag) from rfl)
    have x3 := (bX1.cell 3).trans (show _ = some (.int .i64 x.met) from rfl)
    have x4 := (bX1.cell 4).trans (show _ = some (.int .i64 x.frm) from rfl)
    have x5 := (bX1.cell 5).trans (show _ = some (.int .i64 x.age) from rfl)
    have x6 := (bX1.cell 6).trans (show _ = some (.bool x.chg) from rfl)
    have q1 := (((unhide HQ).blk.below hb (unhide HQ).blk.lt).cell 1).trans (show _ = some (.slice ao L.length cap) from rfl)
    by_cases hlt : k < L.length
    · rcases unhide HS with h0 | ⟨g, off, rfl, hceW⟩
      · rw [h0] at hlt; simp at hlt
      · have hgW : g < W.heap.size := rwCells_lt hceW (by omega)
        have hce := rwCells_below hceW hb hgW
        obtain ⟨r0, r1, r2, r3, r4, r5, r6⟩ := hce k hlt
        have HZ := hide (hceW k hlt)
        have HZQ := hide (((unhide HQ).blk.cell 1).trans (show _ = some (.slice (some ⟨g, off, none⟩) L.length cap) from rfl))
        have hQW : Q < W.heap.size := (unhide HQ).blk.lt
        clear hceW
        have j0 : (0 : Int) ≤ (k : Int) := by omega
        have j1 : (k : Int) < (L.length : Int) := by omega
        have hlk : (insK L x k).length ≤ 1000001 := by rw [insK_length L x k hk]; split <;> omega
        obtain ⟨qa, hqa⟩ : ∃ q, aheadB (rwPf x) L[k] = q := ⟨_, rfl⟩
        have hA := fun W => ahead_any (rwPf x) (rwPf L[k]) W
        simp only [rwPf] at hA
        have hA' : ∀ W, Calls Tryz.prog 160 #[.agg #[.int .u32 x.addr, .int .i64 x.len], .agg #[.int .u32 L[k].addr, .int .i64 L[k].len]] W fun e w' => e = .returned (.bool qa) ∧ Grows W w' := fun W => by rw [← hqa]; exact hA W
        have hgk := hide (insK_go L x k hlt)
        have hpk := hide (insK_put L x)
        have hnot := hide (@insAt_not L (rwPf x) k)
        have his := hide (@insAt_is L (rwPf x))
        have HQA := hide hqa
        have HOWN := hide hown
        have HB := hide hb
        have hsw : W.heap.size ≤ wr.heap.size := hb.size
        have hEk := hide (rfl : L[k] = L[k])
        have HLK : Hid (L[k]? = some L[k]) := List.getElem?_eq_getElem hlt
        obtain ⟨E, hE⟩ : ∃ E, L[k] = E := ⟨_, rfl⟩
        rw [hE] at hA' r0 r1 r2 r3 r4 r5 r6 HZ
        have HE := hide hE
        clear hA hqa hown hb hce hE hEk HLK
        have G0 := fun n os => ((Grows.refl wr).grow n os).cell x0
        have G1 := fun n os => ((Grows.refl wr).grow n os).cell x1
        have G2 := fun n os => ((Grows.refl wr).grow n os).cell q1
        have G3 := fun n os => ((Grows.refl wr).grow n os).cell r0
        have G4 := fun n os => ((Grows.refl wr).grow n os).cell r1
        rcases Nat.lt_trichotomy (insAt L (rwPf x)) k with hc | hc | hc
        · skip
          rw [show decide (insAt L (rwPf x) < k) = true by simp; omega]
          go_wp2_with fail
          go_quiet_grown (first | (go_at_call 160; refine Grows.quiet (hA' _)))
          have hgq : Grows wr (Go.Sort.grow (wr.drewN nq) osq) := ⟨nq, osq, rfl⟩
          dsimp only
          generalize Go.Sort.grow (wr.drewN nq) osq = wq at *
          have y0 := hgq.cell x0
          have y1 := hgq.cell x1
          have y2 := hgq.cell x2
          have y3 := hgq.cell x3
          have y4 := hgq.cell x4
          have y5 := hgq.cell x5
          have y6 := hgq.cell x6
          have p1 := hgq.cell q1
          have s0 := hgq.cell r0
          have s1 := hgq.cell r1
          have s2 := hgq.cell r2
          have s3 := hgq.cell r3
          have s4 := hgq.cell r4
          have s5 := hgq.cell r5
          have s6 := hgq.cell r6
          have hownq := ownsRow_below (unhide HOWN) hgq.below (Nat.le_refl _)
          have hsq : wr.heap.size ≤ wq.heap.size := hgq.below.size
          have HOQ := hide hownq
          have HGQ := hide hgq
          clear hownq hgq G0 G1 G2 G3 G4 x0 x1 x2 x3 x4 x5 x6 q1 r0 r1 r2 r3 r4 r5 r6
          go_wp2_with (at_builtin; go_loud (refine wpList_append_own _ rfl (.tmp 39) (.tmp 47) 158 rfl W.heap.size 162 iR (.agg #[.int .u32 0, .int .i64 0, .int .i64 0, .int .i64 0, .int .i64 0, .int .i64 0, .bool false]) 7 56 Tryz.underlying158 hiR hR0 hR1 hR2 rfl (by decide) _ _ _ rfl ((unhide HOQ).alloc _) ⟨wq.heap.size, 0, none⟩ 1 1 (rwVals E) rfl rfl (by exact World.news_of_block (heap_alloc_new wq _)) (rwVals_one _) (by unfold maxLen; omega) (by omega) (by simp; omega) ?_; intro v5 w5 hown5 hg5 _))
          go_roundw
          case rel =>
            refine ⟨k + 1, by omega, by go_num, by rw [show decide (insAt L (rwPf x) < k + 1) = true by simp; omega], ?_, ?_⟩
            · rw [unhide hgk (by omega), unhide HE, List.length_append, rwList_append]
              simpa [rwList] using hown5
            · exact own_grown (m := 0) ((unhide HB).trans ((unhide HGQ).below.mono hsw)) (unhide HOQ) (Nat.le_refl _) hg5 (by omega) rfl
          case measure => simp [intOf]; omega
        · skip
          rw [show decide (insAt L (rwPf x) < k) = false by simp; omega]
          go_wp2_with fail
          go_quiet_grown (first | (go_at_call 160; refine Grows.quiet (hA' _)))
          have hgq : Grows wr (Go.Sort.grow (wr.drewN nq) osq) := ⟨nq, osq, rfl⟩
          dsimp only
          generalize Go.Sort.grow (wr.drewN nq) osq = wq at *
          have y0 := hgq.cell x0
          have y1 := hgq.cell x1
          have y2 := hgq.cell x2
          have y3 := hgq.cell x3
          have y4 := hgq.cell x4
          have y5 := hgq.cell x5
          have y6 := hgq.cell x6
          have p1 := hgq.cell q1
          have s0 := hgq.cell r0
          have s1 := hgq.cell r1
          have s2 := hgq.cell r2
          have s3 := hgq.cell r3
          have s4 := hgq.cell r4
          have s5 := hgq.cell r5
          have s6 := hgq.cell r6
          have hownq := ownsRow_below (unhide HOWN) hgq.below (Nat.le_refl _)
          have hsq : wr.heap.size ≤ wq.heap.size := hgq.below.size
          have HOQ := hide hownq
          have HGQ := hide hgq
          clear hownq hgq G0 G1 G2 G3 G4 x0 x1 x2 x3 x4 x5 x6 q1 r0 r1 r2 r3 r4 r5 r6
          obtain rfl : qa = true := by
            have h1 := unhide HQA
            have h2 := unhide his (by omega)
            simp only [hc] at h2
            rw [h2] at h1
            exact h1.symm
          go_wp2_with (first | (at_builtin; go_loud (refine wpList_append_own _ rfl (.tmp 35) (.tmp 37) 158 rfl W.heap.size 162 iR (.agg #[.int .u32 0, .int .i64 0, .int .i64 0, .int .i64 0, .int .i64 0, .int .i64 0, .bool false]) 7 56 Tryz.underlying158 hiR hR0 hR1 hR2 rfl (by decide) _ _ _ rfl ((unhide HOQ).alloc _) ⟨wq.heap.size, 0, none⟩ 1 1 (rwVals x) rfl rfl (by exact World.news_of_block (heap_alloc_new wq _)) (rwVals_one _) (by unfold maxLen; omega) (by omega) (by simp; omega) ?_; intro v5 w5 hown5 hg5 _; have hb5 := own_grown (m := 0) ((unhide HB).trans ((unhide HGQ).below.mono hsw)) (unhide HOQ) (Nat.le_refl _) hg5 (by omega) rfl; have HO5 := hide hown5; have HB5 := hide hb5; have hz5 : wq.heap.size + 1 ≤ w5.heap.size := (by have := hg5.size; simpa using this); have t1 := ((unhide HB5).cell (p := ⟨Q, 1, none⟩) hQW).trans (unhide HZQ); obtain ⟨z0, z1, z2, z3, z4, z5, z6⟩ := unhide HZ; have u0 := ((unhide HB5).cell (p := ⟨g, _, none⟩) hgW).trans z0; have u1 := ((unhide HB5).cell (p := ⟨g, _, none⟩) hgW).trans z1; have u2 := ((unhide HB5).cell (p := ⟨g, _, none⟩) hgW).trans z2; have u3 := ((unhide HB5).cell (p := ⟨g, _, none⟩) hgW).trans z3; have u4 := ((unhide HB5).cell (p := ⟨g, _, none⟩) hgW).trans z4; have u5 := ((unhide HB5).cell (p := ⟨g, _, none⟩) hgW).trans z5; have u6 := ((unhide HB5).cell (p := ⟨g, _, none⟩) hgW).trans z6; clear hown5 hg5 hb5 z0 z1 z2 z3 z4 z5 z6)) | (at_builtin; go_loud (refine wpList_append_own _ rfl (.tmp 39) (.tmp 47) 158 rfl W.heap.size 162 iR (.agg #[.int .u32 0, .int .i64 0, .int .i64 0, .int .i64 0, .int .i64 0, .int .i64 0, .bool false]) 7 56 Tryz.underlying158 hiR hR0 hR1 hR2 rfl (by decide) _ _ _ rfl ((unhide HO5).alloc _) ⟨w5.heap.size, 0, none⟩ 1 1 (rwVals E) rfl rfl (by exact World.news_of_block (heap_alloc_new w5 _)) (rwVals_one _) (by unfold maxLen; omega) (by omega) (by simp; omega) ?_; intro v6 w6 hown6 hg6 _)))
          go_roundw
          case rel =>
            refine ⟨k + 1, by omega, by go_num, by rw [show decide (insAt L (rwPf x) < k + 1) = true by simp; omega], ?_, ?_⟩
            · have h3 := unhide hpk (by omega)
              simp only [hc] at h3
              rw [h3, unhide HE, List.length_append, List.length_append, rwList_append, rwList_append]
              simpa [rwList] using hown6
            · exact own_grown (m := 0) (unhide HB5) (unhide HO5) (Nat.le_refl _) hg6 (by omega) rfl
          case measure => simp [intOf]; omega
        · obtain rfl : qa = false := by
            rw [← unhide HQA]
            exact unhide hnot hc hlt
          rw [show decide (insAt L (rwPf x) < k) = false by simp; omega]
          go_wp2_with fail
          go_quiet_grown (first | (go_at_call 160; refine Grows.quiet (hA' _)))
          have hgq : Grows wr (Go.Sort.grow (wr.drewN nq) osq) := ⟨nq, osq, rfl⟩
          dsimp only
          generalize Go.Sort.grow (wr.drewN nq) osq = wq at *
          have y0 := hgq.cell x0
          have y1 := hgq.cell x1
          have y2 := hgq.cell x2
          have y3 := hgq.cell x3
          have y4 := hgq.cell x4
          have y5 := hgq.cell x5
          have y6 := hgq.cell x6
          have p1 := hgq.cell q1
          have s0 := hgq.cell r0
          have s1 := hgq.cell r1
          have s2 := hgq.cell r2
          have s3 := hgq.cell r3
          have s4 := hgq.cell r4
          have s5 := hgq.cell r5
          have s6 := hgq.cell r6
          have hownq := ownsRow_below (unhide HOWN) hgq.below (Nat.le_refl _)
          have hsq : wr.heap.size ≤ wq.heap.size := hgq.below.size
          have HOQ := hide hownq
          have HGQ := hide hgq
          clear hownq hgq G0 G1 G2 G3 G4 x0 x1 x2 x3 x4 x5 x6 q1 r0 r1 r2 r3 r4 r5 r6
          go_wp2_with (at_builtin; go_loud (refine wpList_append_own _ rfl (.tmp 39) (.tmp 47) 158 rfl W.heap.size 162 iR (.agg #[.int .u32 0, .int .i64 0, .int .i64 0, .int .i64 0, .int .i64 0, .int .i64 0, .bool false]) 7 56 Tryz.underlying158 hiR hR0 hR1 hR2 rfl (by decide) _ _ _ rfl ((unhide HOQ).alloc _) ⟨wq.heap.size, 0, none⟩ 1 1 (rwVals E) rfl rfl (by exact World.news_of_block (heap_alloc_new wq _)) (rwVals_one _) (by unfold maxLen; omega) (by omega) (by simp; omega) ?_; intro v5 w5 hown5 hg5 _))
          go_roundw
          case rel =>
            refine ⟨k + 1, by omega, by go_num, by rw [show decide (insAt L (rwPf x) < k + 1) = false by simp; omega], ?_, ?_⟩
            · rw [unhide hgk (by omega), unhide HE, List.length_append, rwList_append]
              simpa [rwList] using hown5
            · exact own_grown (m := 0) ((unhide HB).trans ((unhide HGQ).below.mono hsw)) (unhide HOQ) (Nat.le_refl _) hg5 (by omega) rfl
          case measure => simp [intOf]; omega
    · have hkn : k = L.length := by omega
      subst hkn
      have hlk : (insK L x L.length).length ≤ 1000001 := by rw [insK_length L x L.length hk]; split <;> omega
      obtain ⟨ad, cd, rfl⟩ := ownsRow_slice hown
      have HOWN := hide hown
      have HB := hide hb
      have hsw : W.heap.size ≤ wr.heap.size := hb.size
      have hQW : Q < W.heap.size := (unhide HQ).blk.lt
      have fin : ∀ (w5 : World) (v5 : Value), w5.ownsRow W.heap.size 162 7 v5 (insL L x).length (rwList (insL L x)) → Below W.heap.size W w5 → RefAt (w5.setCell ⟨Q, 1, none⟩ v5) base Q costs (insL L x) cv v5 ∧ w.grownBy (w5.setCell ⟨Q, 1, none⟩ v5) (some Q) ∧ (w5.setCell ⟨Q, 1, none⟩ v5).ownsRow P 162 7 v5 (insL L x).length (rwList (insL L x)) := fun w5 v5 ho hb5 => by
        have hQ5 := (unhide HQ).below hb5
        have ho' := ownsRow_mono (ownsRow_other (i := 1) (u := v5) ho hQ5.blk (by decide)) (show P ≤ W.heap.size by omega)
        refine ⟨⟨hQ5.blk.set 1 v5, ownsRow_other hQ5.costs hQ5.blk (by decide), ownsRow_mono ho' (by omega), hQb⟩, ?_, ho'⟩
        exact grown_trans (unhide HG0) (grown_trans (grown_below hb5) (grown_set _ _ _ _))
      by_cases hc : insAt L (rwPf x) < L.length
      · rw [show decide (insAt L (rwPf x) < L.length) = true by simpa using hc]
        rw [insK_end L x hc] at hown ⊢
        have qf := ((unhide HQ).below hb).blk.frozen 1
        have HFIN := hide (fin wr _ hown hb)
        clear fin hown hb
        go_wp2
        go_end0
        have hf := unhide HFIN
        rw [← hP] at hf
        exact ⟨rfl, _, hf⟩
      · rw [show decide (insAt L (rwPf x) < L.length) = false by simpa using hc]
        have HEND := hide (insK_end' L x hc)
        have HFIN := hide fin
        clear fin hown hb
        go_wp2_with (at_builtin; go_loud (refine wpList_append_own _ rfl (.tmp 51) (.tmp 53) 158 rfl W.heap.size 162 iR (.agg #[.int .u32 0, .int .i64 0, .int .i64 0, .int .i64 0, .int .i64 0, .int .i64 0, .bool false]) 7 56 Tryz.underlying158 hiR hR0 hR1 hR2 rfl (by decide) _ _ _ rfl ((unhide HOWN).alloc _) ⟨wr.heap.size, 0, none⟩ 1 1 (rwVals x) rfl rfl (by exact World.news_of_block (heap_alloc_new wr _)) (rwVals_one _) (by unfold maxLen; omega) (by omega) (by simp; omega) ?_; intro v5 w5 hown5 hg5 _; have hb5 := own_grown (m := 0) (unhide HB) (unhide HOWN) (Nat.le_refl _) hg5 (by omega) rfl; obtain ⟨a5, c5, rfl⟩ := ownsRow_slice hown5; have bQ5 := ((unhide HQ).below hb5).blk; have s1 := (bQ5.cell 1).trans (show _ = some (.slice ao L.length cap) from rfl); have sf := bQ5.frozen 1; have HF5 := hide (unhide HFIN w5 _ (by rw [← unhide HEND, List.length_append, rwList_append]; simpa [rwList] using hown5) hb5); clear hown5 hg5 hb5))
        go_end0
        have hf := unhide HF5
        rw [← hP] at hf
        exact ⟨rfl, _, hf⟩

end Go.Proofs.YtdnpeefnobjfaaaGreatDoor

/- The reference's dies, takes. -/
namespace Go.Proofs.YtdnpeefnobjfaaaGreatDoor
open Go.RowKit Go.Shelf
attribute [local go_sem ↓] Go.wp_at_zero Go.wp_at_succ

/-- Only the router's block and that of its rows turn; the rows' block is the old one, or new. -/
structure RefTurn (w w' : World) (Q : Nat) (lv lv' : Value) : Prop where
  os : w'.os = w.os
  tape : w'.tape = w.tape
  output : w'.output = w.output
  size : w.heap.size ≤ w'.heap.size
  block : ∀ k, k < w.heap.size → k ≠ Q → lv.ownBlock ≠ some k → w'.heap[k]? = w.heap[k]?
  at' : ∀ k, lv'.ownBlock = some k → lv.ownBlock = some k ∨ w.heap.size ≤ k
theorem RefTurn.trans {w w1 w2 : World} {Q : Nat} {a b c : Value} (h : RefTurn w w1 Q a b) (k : RefTurn w1 w2 Q b c) : RefTurn w w2 Q a c :=
  ⟨k.os.trans h.os, k.tape.trans h.tape, k.output.trans h.output, Nat.le_trans h.size k.size, fun j hj h1 h2 => (k.block j (Nat.lt_of_lt_of_le hj h.size) h1 (fun e => by
    rcases h.at' j e with e' | e'
    · exact h2 e'
    · omega)).trans (h.block j hj h1 h2), fun j hj => by
    rcases k.at' j hj with e | e
    · exact h.at' j e
    · exact .inr (Nat.le_trans h.size e)⟩
theorem RefTurn.of_below {w w' : World} (Q : Nat) (a : Value) (h : Below w.heap.size w w') : RefTurn w w' Q a a := ⟨h.os, h.tape, h.output, h.size, fun k hk _ _ => h.block k hk, fun _ hk => .inl hk⟩
theorem RefTurn.of_rows {w w' : World} {Q g n n' c c' : Nat} (h : w.grownBy w' (some g)) : RefTurn w w' Q (.slice (some ⟨g, 0, none⟩) n c) (.slice (some ⟨g, 0, none⟩) n' c') :=
  ⟨h.os, h.tape, h.output, h.size, fun k hk _ h2 => h.block k hk (fun e => h2 (by simp [Value.ownBlock] at e ⊢; exact e.symm)), fun _ hk => .inl hk⟩
theorem RefTurn.of_new {w w' : World} {Q : Nat} {a b : Value} (h : w.grownBy w' (some Q)) (hb : ∀ k, b.ownBlock = some k → w.heap.size ≤ k) : RefTurn w w' Q a b :=
  ⟨h.os, h.tape, h.output, h.size, fun k hk h1 _ => h.block k hk (fun e => h1 (by simpa using e)), fun k hk => .inr (hb k hk)⟩

/-- A row among rows that are owned, of whatever type, is written. -/
theorem ownsRow_putT {t : TypeId} {w : World} {base g n cap k : Nat} {L : List Rw} (h : w.ownsRow base t 7 (.slice (some ⟨g, 0, none⟩) n cap) n (rwList L)) (hk : k < L.length) (r : Rw) :
    (((((((w.setCell ⟨g, k * 7, none⟩ (.int .u32 r.addr)).setCell ⟨g, k * 7 + 1, none⟩ (.int .i64 r.len)).setCell ⟨g, k * 7 + 2, none⟩ (.int .i64 r.tag)).setCell ⟨g, k * 7 + 3, none⟩ (.int .i64 r.met)).setCell ⟨g, k * 7 + 4, none⟩ (.int .i64 r.frm)).setCell ⟨g, k * 7 + 5, none⟩ (.int .i64 r.age)).setCell ⟨g, k * 7 + 6, none⟩ (.bool r.chg)).ownsRow base t 7 (.slice (some ⟨g, 0, none⟩) n cap) n (rwList (L.set k r)) := by
  obtain ⟨hl, ⟨hv, _⟩ | ⟨g', c', cur, hv, hbg, hg, hnc, hcm, hcs, ht⟩⟩ := h
  · simp at hv
  · simp at hv
    obtain ⟨rfl, rfl⟩ := hv
    refine ⟨by rw [rwList_length] at hl ⊢; rw [List.length_set]; exact hl, .inr ⟨g, cap, (((((((cur.setIfInBounds (k * 7) (.int .u32 r.addr)).setIfInBounds (k * 7 + 1) (.int .i64 r.len)).setIfInBounds (k * 7 + 2) (.int .i64 r.tag)).setIfInBounds (k * 7 + 3) (.int .i64 r.met)).setIfInBounds (k * 7 + 4) (.int .i64 r.frm)).setIfInBounds (k * 7 + 5) (.int .i64 r.age)).setIfInBounds (k * 7 + 6) (.bool r.chg)), rfl, hbg, ?_, hnc, hcm, by simpa using hcs, ?_⟩⟩
    · exact (((((((show Blk w g cur t from hg).set _ _).set _ _).set _ _).set _ _).set _ _).set _ _).set _ _
    · rw [← rwList_set L k hk r, ← ht]
      simp only [Array.toList_setIfInBounds, List.take_set]
theorem ownsRow_blkT {t : TypeId} {w : World} {base g n cap : Nat} {L : List Rw} (h : w.ownsRow base t 7 (.slice (some ⟨g, 0, none⟩) n cap) n (rwList L)) : ∃ cur, Blk w g cur t ∧ n * 7 ≤ cur.size := by
  obtain ⟨hl, ⟨hv, _⟩ | ⟨g', c', cur, hv, hbg, hg, hnc, hcm, hcs, ht⟩⟩ := h
  · simp at hv
  · simp at hv
    obtain ⟨rfl, rfl⟩ := hv
    exact ⟨cur, hg, by rw [hcs]; exact Nat.mul_le_mul_right 7 hnc⟩
/-- Three cells of a row: how far, how old, changed. -/
theorem ownsRow_put3 {t : TypeId} {w : World} {base g n cap k : Nat} {L : List Rw} (h : w.ownsRow base t 7 (.slice (some ⟨g, 0, none⟩) n cap) n (rwList L)) (hk : k < L.length) (m a : Int) (c : Bool) :
    (((w.setCell ⟨g, k * 7 + 3, none⟩ (.int .i64 m)).setCell ⟨g, k * 7 + 5, none⟩ (.int .i64 a)).setCell ⟨g, k * 7 + 6, none⟩ (.bool c)).ownsRow base t 7 (.slice (some ⟨g, 0, none⟩) n cap) n (rwList (L.set k { L[k] with met := m, age := a, chg := c })) := by
  obtain ⟨hl, ⟨hv, _⟩ | ⟨g', c', cur, hv, hbg, hg, hnc, hcm, hcs, ht⟩⟩ := h
  · simp at hv
  · simp at hv
    obtain ⟨rfl, rfl⟩ := hv
    refine ⟨by rw [rwList_length] at hl ⊢; rw [List.length_set]; exact hl, .inr ⟨g, cap, (((cur.setIfInBounds (k * 7 + 3) (.int .i64 m)).setIfInBounds (k * 7 + 5) (.int .i64 a)).setIfInBounds (k * 7 + 6) (.bool c)), rfl, hbg, ?_, hnc, hcm, by simpa using hcs, ?_⟩⟩
    · exact (((show Blk w g cur t from hg).set _ _).set _ _).set _ _
    · simp only [Array.toList_setIfInBounds, List.take_set, ht]
      rw [← rwList_set L k hk]
      have hv : ∀ i, i < 7 → (rwList L)[k * 7 + i]? = (rwVals L[k])[i]? := fun i hi => by
        clear hl ht hcs hnc hcm hg hbg
        induction L generalizing k with
        | nil => simp at hk
        | cons r R ih =>
          cases k with
          | zero =>
            simp only [Nat.zero_mul, Nat.zero_add, rwList, List.flatMap_cons, List.getElem_cons_zero]
            rw [List.getElem?_append_left (by simp [rwVals]; omega)]
          | succ k =>
            have := ih (k := k) (by simpa using hk)
            simp only [rwList, List.flatMap_cons, List.getElem_cons_succ] at this ⊢
            rw [List.getElem?_append_right (by simp [rwVals]; omega), ← this]
            congr 1
            simp [rwVals]; omega
      have e0 := hv 0 (by decide)
      have e1 := hv 1 (by decide)
      have e2 := hv 2 (by decide)
      have e4 := hv 4 (by decide)
      simp only [Nat.add_zero, rwVals, List.getElem?_cons_zero, List.getElem?_cons_succ] at e0 e1 e2 e4
      have same : ∀ (l : List Value) (j : Nat) (u : Value), l[j]? = some u → l.set j u = l := fun l j u h => by
        obtain ⟨hj, hu⟩ := List.getElem?_eq_some_iff.1 h
        rw [← hu]; exact List.set_getElem_self hj
      rw [same _ _ _ e0, same _ _ _ e1, same _ _ _ e2]
      have e4' : ((rwList L).set (k * 7 + 3) (.int .i64 m))[k * 7 + 4]? = some (.int .i64 L[k].frm) := by
        rw [List.getElem?_set_ne (by omega)]; exact e4
      rw [same _ _ _ e4']

set_option maxRecDepth 100000 in
set_option maxHeartbeats 2000000 in
theorem dies_ref (base Q i : Nat) (costs : List Int) (L : List Rw) (cv lv : Value) (w : World) (hQ : RefAt w base Q costs L cv lv) (hi : i < L.length) :
    Calls Tryz.prog 164 #[.pointer (some ⟨Q, 0, none⟩), .int .i64 i] w fun e w' => e = .returned (.tuple #[]) ∧ RefAt w' base Q costs (L.set i { L[i] with met := 16, age := 0, chg := true }) cv lv ∧ RefTurn w w' Q lv lv := by
  obtain ⟨ao, cap, rfl⟩ := ownsRow_slice hQ.rows
  obtain ⟨g, rfl⟩ : ∃ g, ao = some ⟨g, 0, none⟩ := by
    rcases hQ.rows.2 with ⟨_, h0⟩ | ⟨g, c, cur, hv, _⟩
    · omega
    · simp at hv; exact ⟨g, hv.1⟩
  obtain ⟨cur, hB, hcs⟩ := ownsRow_blkT hQ.rows
  have hne : g ≠ Q := fun e => by
    subst e
    have h1 := hQ.blk
    unfold Blk at h1 hB
    rw [h1] at hB
    simp at hB
  have hput := ownsRow_put3 hQ.rows hi 16 0 true
  have hrow := rwSlice_ownT hQ.rows
  rcases hrow with h0 | ⟨b, off, hb, hce⟩
  · rw [h0] at hi; simp at hi
  · simp at hb
    obtain ⟨rfl, rfl⟩ := hb
    obtain ⟨_, _, _, r3, _, r5, r6⟩ := hce i hi
    simp only [Nat.zero_add] at r3 r5 r6
    have f3 := hB.frozen (i * 7 + 3)
    have f5 := hB.frozen (i * 7 + 5)
    have f6 := hB.frozen (i * 7 + 6)
    have q1 := (hQ.blk.cell 1).trans (show _ = some (.slice (some ⟨g, 0, none⟩) L.length cap) from rfl)
    have j0 : (0 : Int) ≤ (i : Int) := by omega
    have j1 : (i : Int) < (L.length : Int) := by omega
    have b1 := (hQ.blk.other (p := ⟨g, i * 7 + 3, none⟩) hne (.int .i64 16))
    have b2 := (b1.other (p := ⟨g, i * 7 + 5, none⟩) hne (.int .i64 0))
    have q2 := (b1.cell 1).trans (show _ = some (.slice (some ⟨g, 0, none⟩) L.length cap) from rfl)
    have q3 := (b2.cell 1).trans (show _ = some (.slice (some ⟨g, 0, none⟩) L.length cap) from rfl)
    have b3 := (b2.other (p := ⟨g, i * 7 + 6, none⟩) hne (.bool true))
    have hco := hQ.costs
    have hnew := hQ.new
    have hg : w.grownBy (((w.setCell ⟨g, i * 7 + 3, none⟩ (.int .i64 16)).setCell ⟨g, i * 7 + 5, none⟩ (.int .i64 0)).setCell ⟨g, i * 7 + 6, none⟩ (.bool true)) (some g) := grown_trans (grown_trans (grown_set _ _ _ _) (grown_set _ _ _ _)) (grown_set _ _ _ _)
    have hco3 := ownsRow_other (i := i * 7 + 6) (u := .bool true) (ownsRow_other (i := i * 7 + 5) (u := .int .i64 0) (ownsRow_other (i := i * 7 + 3) (u := .int .i64 16) hco hB (by decide)) (hB.set _ _) (by decide)) ((hB.set _ _).set _ _) (by decide)
    have HFIN := hide (show RefAt (((w.setCell ⟨g, i * 7 + 3, none⟩ (.int .i64 16)).setCell ⟨g, i * 7 + 5, none⟩ (.int .i64 0)).setCell ⟨g, i * 7 + 6, none⟩ (.bool true)) base Q costs (L.set i { L[i] with met := 16, age := 0, chg := true }) cv (.slice (some ⟨g, 0, none⟩) L.length cap) from ⟨b3, hco3, by rw [List.length_set]; exact hput, hnew⟩)
    have HG := hide hg
    clear hQ hB hput hce hco hco3 hg b1 b2 b3 hcs
    go_enter Tryz.func164, Tryz.ntmps164
    go_wp2
    go_end0
    exact ⟨rfl, unhide HFIN, RefTurn.of_rows (unhide HG)⟩

end Go.Proofs.YtdnpeefnobjfaaaGreatDoor
