/- Which costs and own prefixes a router may have: what milepost.areCosts and milepost.areOwn answer. -/
import Derived.Test.YtdnpeefnobjfaaaGreatDoorPfxM
namespace Go.Proofs.YtdnpeefnobjfaaaGreatDoor
open Go.RowKit
attribute [local go_sem ↓] Go.wp_at_zero Go.wp_at_succ

def numCells (w : World) (b off : Nat) (l : List Int) : Prop := ∀ k, (h : k < l.length) → w.cell? ⟨b, off + k, none⟩ = some (.int .i64 l[k])
theorem numCells_below {w w1 : World} {b off B : Nat} {l : List Int} (h : numCells w b off l) (hb : Below B w w1) (hB : b < B) : numCells w1 b off l := fun k hk => (hb.cell (p := ⟨b, _, none⟩) hB).trans (h k hk)
theorem numCells_lt {w : World} {b off : Nat} {l : List Int} (h : numCells w b off l) (h0 : 0 < l.length) : b < w.heap.size := World.block_lt_of_cell? w _ (h 0 h0)
/-- A slice that holds these numbers. -/
def numSlice (w : World) (ao : Option Addr) (l : List Int) : Prop := l = [] ∨ ∃ b off, ao = some ⟨b, off, none⟩ ∧ numCells w b off l
theorem numSlice_below {w w1 : World} {ao : Option Addr} {l : List Int} (h : numSlice w ao l) (hb : Below w.heap.size w w1) : numSlice w1 ao l := by
  rcases h with h | ⟨b, off, ha, hc⟩
  · exact .inl h
  · by_cases h0 : 0 < l.length
    · exact .inr ⟨b, off, ha, numCells_below hc hb (numCells_lt hc h0)⟩
    · exact .inl (List.eq_nil_of_length_eq_zero (by omega))

def pfCells (w : World) (b off : Nat) (l : List Pf) : Prop := ∀ k, (h : k < l.length) → w.cell? ⟨b, off + k * 2, none⟩ = some (.int .u32 l[k].addr) ∧ w.cell? ⟨b, off + k * 2 + 1, none⟩ = some (.int .i64 l[k].len)
theorem pfCells_below {w w1 : World} {b off B : Nat} {l : List Pf} (h : pfCells w b off l) (hb : Below B w w1) (hB : b < B) : pfCells w1 b off l := fun k hk =>
  ⟨(hb.cell (p := ⟨b, _, none⟩) hB).trans (h k hk).1, (hb.cell (p := ⟨b, _, none⟩) hB).trans (h k hk).2⟩
theorem pfCells_lt {w : World} {b off : Nat} {l : List Pf} (h : pfCells w b off l) (h0 : 0 < l.length) : b < w.heap.size := World.block_lt_of_cell? w _ (h 0 h0).1
/-- A slice that holds these prefixes. -/
def pfSlice (w : World) (ao : Option Addr) (l : List Pf) : Prop := l = [] ∨ ∃ b off, ao = some ⟨b, off, none⟩ ∧ pfCells w b off l
theorem pfSlice_below {w w1 : World} {ao : Option Addr} {l : List Pf} (h : pfSlice w ao l) (hb : Below w.heap.size w w1) : pfSlice w1 ao l := by
  rcases h with h | ⟨b, off, ha, hc⟩
  · exact .inl h
  · by_cases h0 : 0 < l.length
    · exact .inr ⟨b, off, ha, pfCells_below hc hb (pfCells_lt hc h0)⟩
    · exact .inl (List.eq_nil_of_length_eq_zero (by omega))
def pfsOk (l : List Pf) : Prop := ∀ p ∈ l, 0 ≤ p.addr ∧ p.addr < 4294967296

/-- No cost. -/
def noCost (n : Int) : Bool := decide (n < 1) || decide (15 < n)

set_option maxHeartbeats 400000 in
theorem isNoCost_any (n : Int) (w : World) : Calls Tryz.prog 76 #[.int .i64 n] w fun e w' => e = .returned (.bool (noCost n)) ∧ w' = w := by
  go_enter Tryz.func76, Tryz.ntmps76
  go_wp2
  · go_ret
    exact ⟨ret_bool (by have h : ¬ n < 1 := by omega
                        simp [noCost, h]), rfl⟩
  · go_ret
    exact ⟨ret_bool (by have h : n < 1 := by assumption
                        simp [noCost, h]), rfl⟩

set_option maxHeartbeats 400000 in
theorem indexCost_any (ao : Option Addr) (n cap : Nat) (l : List Int) (w : World) (hn : l.length = n) (h8 : n ≤ 8) (hs : numSlice w ao l) :
    Calls Tryz.prog 126 #[.slice ao n cap, .func (.func 76) #[] #[]] w fun e w' => (∃ r : Int, e = .returned (.int .i64 r) ∧ decide (0 ≤ r) = l.any noCost) ∧ w' = w := by
  have HN := hide hn
  have HS := hide hs
  clear hn hs
  go_enter Tryz.func126, Tryz.ntmps126
  go_wp2
  go_loop [8] (fun i => ∃ k : Nat, k ≤ n ∧ i = .int .i64 k ∧ ∀ j, (hj : j < l.length) → j < k → noCost l[j] = false) (fun i => n - (intOf i).toNat)
  case atStart => exact ⟨0, by omega, rfl, fun j hj h => by omega⟩
  case round =>
    obtain ⟨k, hk, rfl, hgood⟩ := hrel
    have HG := hide hgood
    clear hgood
    by_cases hlt : k < n
    · have hlt' : k < l.length := by rw [unhide HN]; exact hlt
      rcases unhide HS with h0 | ⟨b, off, rfl, hc⟩
      · rw [h0] at hlt'; simp at hlt'
      · have hcx := hc k hlt'
        generalize hE : l[k] = E at *
        have HE := hide hE
        clear hE hc
        cases hq : noCost E with
        | true =>
          have HQ := hide hq
          clear hq
          go_wp2_with (go_at_call 76; refine (isNoCost_any E _).mono ?_; rintro e w1 ⟨rfl, rfl⟩; rw [unhide HQ])
          go_ret
          refine ⟨⟨_, rfl, ?_⟩, rfl⟩
          rw [show l.any noCost = true from List.any_eq_true.2 ⟨l[k], List.getElem_mem _, by rw [unhide HE]; exact unhide HQ⟩]
          simp
        | false =>
          have HQ := hide hq
          clear hq
          go_wp2_with (go_at_call 76; refine (isNoCost_any E _).mono ?_; rintro e w1 ⟨rfl, rfl⟩; rw [unhide HQ])
          go_round
          case rel =>
            refine ⟨k + 1, by omega, by go_num, fun j hj hjk => ?_⟩
            by_cases hjk' : j = k
            · subst hjk'; rw [unhide HE]; exact unhide HQ
            · exact unhide HG j hj (by omega)
          case measure => simp [intOf]; omega
    · have hkn : k = n := by omega
      subst hkn
      go_wp2
      go_ret
      refine ⟨⟨-1, rfl, ?_⟩, rfl⟩
      rw [show l.any noCost = false from ?_]
      · rfl
      · rw [List.any_eq_false]
        intro x hx
        obtain ⟨j, hj, rfl⟩ := List.getElem_of_mem hx
        simpa using unhide HG j hj (by rw [← unhide HN]; exact hj)

set_option maxHeartbeats 400000 in
theorem containsCost_any (ao : Option Addr) (n cap : Nat) (l : List Int) (w : World) (hn : l.length = n) (h8 : n ≤ 8) (hs : numSlice w ao l) :
    Calls Tryz.prog 75 #[.slice ao n cap, .func (.func 76) #[] #[]] w fun e w' => e = .returned (.bool (l.any noCost)) ∧ w' = w := by
  have hi := indexCost_any ao n cap l
  have HN := hide hn
  have HS := hide hs
  clear hn hs
  go_enter Tryz.func75, Tryz.ntmps75
  go_wp2_with (go_at_call 126; refine (hi _ (unhide HN) h8 (unhide HS)).mono ?_; rintro e w1 ⟨⟨r, rfl, hr⟩, rfl⟩; have HR := hide hr; clear hr)
  go_ret
  exact ⟨ret_bool (unhide HR), rfl⟩

/-- Costs that may be. -/
def costsB (l : List Int) : Bool := decide (l.length ≤ 8) && !(l.any noCost)

set_option maxHeartbeats 400000 in
theorem areCosts_any (ao : Option Addr) (n cap : Nat) (l : List Int) (w : World) (hn : l.length = n) (hs : numSlice w ao l) :
    Calls Tryz.prog 34 #[.slice ao n cap] w fun e w' => e = .returned (.bool (costsB l)) ∧ w' = w := by
  by_cases h8 : n ≤ 8
  · have hi := containsCost_any ao n cap l w hn h8 hs
    have hv : Hid (costsB l = !(l.any noCost)) := by show costsB l = _; simp [costsB, hn, h8]
    clear hn hs
    generalize l.any noCost = q at hi hv
    go_enter Tryz.func34, Tryz.ntmps34
    go_wp2_with (go_at_call 75; refine hi.mono ?_; rintro e w1 ⟨rfl, rfl⟩)
    go_ret
    exact ⟨ret_bool hv.out.symm, rfl⟩
  · have hv : Hid (costsB l = false) := by show costsB l = _; simp [costsB, hn, h8]
    have hd : decide ((n : Int) ≤ 8) = false := by simp; omega
    clear hn hs
    go_enter Tryz.func34, Tryz.ntmps34
    go_wp2
    go_ret
    exact ⟨ret_bool hv.out.symm, rfl⟩

end Go.Proofs.YtdnpeefnobjfaaaGreatDoor

/- Which own prefixes a router may have: what milepost.areOwn answers. -/
namespace Go.Proofs.YtdnpeefnobjfaaaGreatDoor
open Go.RowKit
attribute [local go_sem ↓] Go.wp_at_zero Go.wp_at_succ

theorem Pf.beq_iff (p q : Pf) : (p = q) ↔ (p.addr = q.addr ∧ p.len = q.len) := by
  cases p; cases q; simp

set_option maxRecDepth 100000 in
set_option maxHeartbeats 1000000 in
theorem indexPf_some (b off n cap : Nat) (l : List Pf) (p : Pf) (w : World) (hn : l.length = n) (h20 : n ≤ 20) (hB : b < w.heap.size) (hc : pfCells w b off l) :
    Calls Tryz.prog 128 #[.slice (some ⟨b, off, none⟩) n cap, .agg #[.int .u32 p.addr, .int .i64 p.len]] w fun e w' => (∃ r : Int, e = .returned (.int .i64 r) ∧ decide (0 ≤ r) = l.contains p) ∧ Grows w w' := by
  have HN := hide hn
  clear hn
  go_enter Tryz.func128, Tryz.ntmps128
  go_wp2
  have hc1 := hide (pfCells_below hc (below_new w (.cells #[.int .u32 p.addr, .int .i64 p.len] 32)) hB)
  clear hc
  have q0 : (w.alloc (.cells #[.int .u32 p.addr, .int .i64 p.len] 32)).cell? ⟨w.heap.size, 0, none⟩ = some (.int .u32 p.addr) := by simp
  have q1 : (w.alloc (.cells #[.int .u32 p.addr, .int .i64 p.len] 32)).cell? ⟨w.heap.size, 1, none⟩ = some (.int .i64 p.len) := by simp
  have HG0 := hide ((Grows.refl w).alloc (.cells #[.int .u32 p.addr, .int .i64 p.len] 32))
  generalize w.alloc (.cells #[.int .u32 p.addr, .int .i64 p.len] 32) = W at *
  go_loopw [8] (fun i wr => ∃ (k d : Nat), k ≤ n ∧ i = .int .i64 k ∧ wr = W.drewN d ∧ ∀ j, (hj : j < l.length) → j < k → l[j] ≠ p) (fun i _ => n - (intOf i).toNat)
  case atStart => exact ⟨0, 0, by omega, rfl, rfl, fun j hj h => by omega⟩
  case round =>
    obtain ⟨k, d, hk, rfl, rfl, hgood⟩ := hrel
    have HG := hide hgood
    clear hgood
    by_cases hlt : k < n
    · have hlt' : k < l.length := by rw [unhide HN]; exact hlt
      obtain ⟨c0, c1⟩ := unhide hc1 k hlt'
      have j0 : (0 : Int) ≤ (k : Int) := by omega
      have j1 : (k : Int) < (n : Int) := by omega
      generalize hE : l[k] = E at *
      have HE := hide hE
      clear hE
      by_cases hq : E = p
      · subst hq
        go_wp2_with fail
        go_quiet (fail)
        go_wp2
        go_ret
        refine ⟨⟨_, rfl, ?_⟩, ?_⟩
        · rw [show l.contains E = true from List.contains_iff_mem.2 (by rw [← unhide HE]; exact List.getElem_mem _)]
          simp
        · exact (unhide HG0).trans (((Grows.refl W).drewN _).drewN _)
      · have HQ := hide hq
        rw [Pf.beq_iff] at hq
        by_cases ha : E.addr = p.addr
        · have hb : (p.len == E.len) = false := by simp; omega
          have HA := hide ha
          rw [ha] at c0
          clear ha hq
          go_wp2_with fail
          go_quiet (fail)
          go_wp2
          go_roundw
          case rel =>
            refine ⟨k + 1, d + _, by omega, by go_num, rfl, fun j hj hjk => ?_⟩
            by_cases hjk' : j = k
            · subst hjk'; rw [unhide HE]; exact unhide HQ
            · exact unhide HG j hj (by omega)
          case measure => simp [intOf]; omega
        · have hb : (p.addr == E.addr) = false := by simp; omega
          clear ha hq
          go_wp2_with fail
          go_quiet (fail)
          go_wp2
          go_roundw
          case rel =>
            refine ⟨k + 1, d + _, by omega, by go_num, rfl, fun j hj hjk => ?_⟩
            by_cases hjk' : j = k
            · subst hjk'; rw [unhide HE]; exact unhide HQ
            · exact unhide HG j hj (by omega)
          case measure => simp [intOf]; omega
    · have hkn : k = n := by omega
      subst hkn
      go_wp2
      go_ret
      refine ⟨⟨-1, rfl, ?_⟩, ?_⟩
      · rw [show l.contains p = false from ?_]
        · rfl
        · rw [← Bool.not_eq_true, List.contains_iff_mem]
          intro hx
          obtain ⟨j, hj, e⟩ := List.getElem_of_mem hx
          exact unhide HG j hj (by rw [← unhide HN]; exact hj) e
      · exact (unhide HG0).trans ((Grows.refl W).drewN _)

set_option maxHeartbeats 400000 in
theorem indexPf_none (ao : Option Addr) (cap : Nat) (p : Pf) (w : World) :
    Calls Tryz.prog 128 #[.slice ao 0 cap, .agg #[.int .u32 p.addr, .int .i64 p.len]] w fun e w' => (∃ r : Int, e = .returned (.int .i64 r) ∧ decide (0 ≤ r) = false) ∧ Grows w w' := by
  go_enter Tryz.func128, Tryz.ntmps128
  go_wp2
  refine wp_loop_rounds 1 ?_
  rw [rounds_succ]
  go_wp2
  go_ret
  exact ⟨⟨-1, rfl, rfl⟩, (Grows.refl w).alloc _⟩

theorem indexPf_any (ao : Option Addr) (n cap : Nat) (l : List Pf) (p : Pf) (w : World) (hn : l.length = n) (h20 : n ≤ 20) (hs : pfSlice w ao l) :
    Calls Tryz.prog 128 #[.slice ao n cap, .agg #[.int .u32 p.addr, .int .i64 p.len]] w fun e w' => (∃ r : Int, e = .returned (.int .i64 r) ∧ decide (0 ≤ r) = l.contains p) ∧ Grows w w' := by
  by_cases h0 : n = 0
  · subst h0
    have : l = [] := List.eq_nil_of_length_eq_zero hn
    subst this
    exact indexPf_none ao cap p w
  · rcases hs with rfl | ⟨b, off, rfl, hc⟩
    · simp at hn; omega
    · exact indexPf_some b off n cap l p w hn h20 (pfCells_lt hc (by omega)) hc

set_option maxHeartbeats 400000 in
theorem containsPf_any (ao : Option Addr) (n cap : Nat) (l : List Pf) (p : Pf) (w : World) (hn : l.length = n) (h20 : n ≤ 20) (hs : pfSlice w ao l) :
    Calls Tryz.prog 78 #[.slice ao n cap, .agg #[.int .u32 p.addr, .int .i64 p.len]] w fun e w' => e = .returned (.bool (l.contains p)) ∧ Grows w w' := by
  have hi := indexPf_any ao n cap l p
  have HN := hide hn
  have HS := hide (pfSlice_below hs (below_new w (.cells #[.int .u32 p.addr, .int .i64 p.len] 32)))
  clear hn hs
  go_enter Tryz.func78, Tryz.ntmps78
  go_wp2_with (go_at_call 128; refine (hi _ (unhide HN) h20 (unhide HS)).mono ?_; rintro e w1 ⟨⟨r, rfl, hr⟩, hg⟩; have HR := hide hr; have HG := hide hg; clear hr hg)
  go_ret
  exact ⟨ret_bool (unhide HR), ((Grows.refl w).alloc _).trans (unhide HG)⟩

/-- Own prefixes that may be. -/
def ownAt : List Pf → List Pf → Bool
  | _, [] => true
  | pre, p :: r => pfxB p.addr p.len && !(pre.contains p) && ownAt (pre ++ [p]) r
def ownB (l : List Pf) : Bool := decide (l.length ≤ 20) && ownAt [] l
theorem ownAt_bad {l : List Pf} {k : Nat} (hk : k < l.length) (h : (pfxB l[k].addr l[k].len && !((l.take k).contains l[k])) = false) : ownAt (l.take k) (l.drop k) = false := by
  rw [List.drop_eq_getElem_cons hk, ownAt, h]
  rfl
theorem ownAt_good {l : List Pf} {k : Nat} (hk : k < l.length) (h : (pfxB l[k].addr l[k].len && !((l.take k).contains l[k])) = true) : ownAt (l.take k) (l.drop k) = ownAt (l.take (k + 1)) (l.drop (k + 1)) := by
  rw [List.drop_eq_getElem_cons hk, ownAt, h, List.take_succ_eq_append_getElem hk]
  rfl

theorem pfCells_take {w : World} {b off : Nat} {l : List Pf} (h : pfCells w b off l) (k : Nat) : pfCells w b off (l.take k) := fun j hj => by
  have h1 : j < l.length := by simp at hj; omega
  have := h j h1
  simpa using this

set_option maxRecDepth 100000 in
set_option maxHeartbeats 1600000 in
theorem areOwn_some (b off n cap : Nat) (l : List Pf) (w : World) (hok : pfsOk l) (hn : l.length = n) (hcap : n ≤ cap) (h20 : n ≤ 20) (hB : b < w.heap.size) (hc : pfCells w b off l) :
    Calls Tryz.prog 35 #[.slice (some ⟨b, off, none⟩) n cap] w fun e w' => e = .returned (.bool (ownAt [] l)) ∧ Below w.heap.size w w' := by
  have HN := hide hn
  have HC := hide hc
  have HO := hide hok
  clear hn hc hok
  have e1 : decide ((20 : Int) < n) = false := by simp; omega
  go_enter Tryz.func35, Tryz.ntmps35
  go_wp2
  go_loopw [10] (fun i wr => ∃ k : Nat, k ≤ n ∧ i = .int .i64 k ∧ Below w.heap.size w wr ∧ ownAt [] l = ownAt (l.take k) (l.drop k)) (fun i _ => n - (intOf i).toNat)
  case atStart => exact ⟨0, by omega, rfl, Below.refl _ _, by simp⟩
  case round =>
    obtain ⟨k, hk, rfl, hb, hgood⟩ := hrel
    have HG := hide hgood
    have HB := hide hb
    clear hgood e1
    by_cases hlt : k < n
    · have hlt' : k < l.length := by rw [unhide HN]; exact hlt
      have hcw := hide (pfCells_below (unhide HC) hb hB)
      obtain ⟨c0, c1⟩ := unhide hcw k hlt'
      have hBr : b < wr.heap.size := Nat.lt_of_lt_of_le hB hb.size
      have hoke := unhide HO l[k] (List.getElem_mem _)
      have j0 : (0 : Int) ≤ (k : Int) := by omega
      have j1 : (k : Int) < (n : Int) := by omega
      have hbad := hide (ownAt_bad hlt')
      have hfine := hide (ownAt_good hlt')
      generalize hE : l[k] = E at *
      clear hE hb
      obtain ⟨h0, h1⟩ := hoke
      go_wp2_with fail
      have g0 : (wr.alloc (.cells #[.int .u32 E.addr, .int .i64 E.len] 32)).cell? ⟨wr.heap.size, 0, none⟩ = some (.int .u32 E.addr) := by simp
      have g1 : (wr.alloc (.cells #[.int .u32 E.addr, .int .i64 E.len] 32)).cell? ⟨wr.heap.size, 1, none⟩ = some (.int .i64 E.len) := by simp
      have hbx := hide (below_new wr (.cells #[.int .u32 E.addr, .int .i64 E.len] 32))
      have hlast : wr.heap.size < (wr.alloc (.cells #[.int .u32 E.addr, .int .i64 E.len] 32)).heap.size := by simp
      generalize wr.alloc (.cells #[.int .u32 E.addr, .int .i64 E.len] 32) = W at *
      have j2 : (k : Int) ≤ (cap : Int) := by omega
      have j3 : (k : Int) ≤ (n : Int) := by omega
      have hcW := hide (pfCells_below (unhide hcw) (unhide hbx) hBr)
      have hBW : b < W.heap.size := by omega
      have hsz : w.heap.size ≤ wr.heap.size := (unhide HB).size
      have HBW := hide ((unhide HB).trans ((unhide hbx).mono hsz))
      have hfol := prog_follows
      have G0 := fun n os => cell_grown hlast g0 n os
      have G1 := fun n os => cell_grown hlast g1 n os
      have hwW : w.heap.size ≤ W.heap.size := by omega
      cases hp : pfxB E.addr E.len with
      | false =>
        have HP := hide hp
        have hI := Is_grows E.addr E.len
        rw [hp] at hbad hI
        clear hp
        go_quiet_grown (first | (go_at_call 77; refine Grows.quiet (hI _ h0 h1)))
        go_wp2
        go_ret
        exact ⟨ret_bool (by rw [unhide HG]; exact ((unhide hbad) (by simp)).symm), (unhide HBW).trans ((Grows.below ((Grows.refl W).grow _ _)).mono hwW)⟩
      | true =>
        have HP := hide hp
        have hI := Is_grows E.addr E.len
        have hC := fun n os => containsPf_any (some ⟨b, off, none⟩) k cap (l.take k) E (Go.Sort.grow (W.drewN n) os) (by rw [List.length_take]; omega) (by omega) (.inr ⟨b, off, rfl, pfCells_take (pfCells_below (unhide hcW) (Grows.below ((Grows.refl W).grow n os)) hBW) k⟩)
        rw [hp] at hbad hfine hI
        clear hp
        cases hq : (l.take k).contains E with
        | true =>
          have HQ := hide hq
          simp only [hq] at hC
          rw [hq] at hbad
          clear hq
          go_quiet_grown (first | (go_at_call 77; refine Grows.quiet (hI _ h0 h1)) | (go_at_call 78; refine Grows.quiet (hC _ _)))
          go_wp2
          go_ret
          exact ⟨ret_bool (by rw [unhide HG]; exact ((unhide hbad) (by simp)).symm), (unhide HBW).trans ((Grows.below ((Grows.refl W).grow _ _)).mono hwW)⟩
        | false =>
          have HQ := hide hq
          simp only [hq] at hC
          rw [hq] at hfine
          clear hq
          go_quiet_grown (first | (go_at_call 77; refine Grows.quiet (hI _ h0 h1)) | (go_at_call 78; refine Grows.quiet (hC _ _)))
          go_wp2
          go_roundw
          case rel => exact ⟨k + 1, by omega, by go_num, (unhide HBW).trans ((Grows.below ((Grows.refl W).grow _ _)).mono hwW), by rw [unhide HG]; exact (unhide hfine) (by simp)⟩
          case measure => simp [intOf]; omega
    · have hkn : k = n := by omega
      subst hkn
      go_wp2
      go_ret
      refine ⟨ret_bool ?_, unhide HB⟩
      rw [unhide HG, ← unhide HN, List.drop_length]
      cases List.take l.length l <;> rfl

set_option maxHeartbeats 400000 in
theorem areOwn_none (ao : Option Addr) (cap : Nat) (w : World) :
    Calls Tryz.prog 35 #[.slice ao 0 cap] w fun e w' => e = .returned (.bool true) ∧ Below w.heap.size w w' := by
  go_enter Tryz.func35, Tryz.ntmps35
  go_wp2
  refine wp_loop_rounds 1 ?_
  rw [rounds_succ]
  go_wp2
  go_ret
  exact ⟨rfl, Below.refl _ _⟩

set_option maxHeartbeats 400000 in
theorem areOwn_many (ao : Option Addr) (n cap : Nat) (w : World) (h : 20 < n) :
    Calls Tryz.prog 35 #[.slice ao n cap] w fun e w' => e = .returned (.bool false) ∧ Below w.heap.size w w' := by
  have e1 : decide ((20 : Int) < n) = true := by simp; omega
  go_enter Tryz.func35, Tryz.ntmps35
  go_wp2
  go_ret
  exact ⟨rfl, Below.refl _ _⟩

theorem areOwn_any (ao : Option Addr) (n cap : Nat) (l : List Pf) (w : World) (hok : pfsOk l) (hn : l.length = n) (hcap : n ≤ cap) (hs : pfSlice w ao l) :
    Calls Tryz.prog 35 #[.slice ao n cap] w fun e w' => e = .returned (.bool (ownB l)) ∧ Below w.heap.size w w' := by
  by_cases h20 : n ≤ 20
  · rw [show ownB l = ownAt [] l by simp [ownB, hn, h20]]
    by_cases h0 : n = 0
    · subst h0
      have : l = [] := List.eq_nil_of_length_eq_zero hn
      subst this
      exact areOwn_none ao cap w
    · rcases hs with rfl | ⟨b, off, rfl, hc⟩
      · simp at hn; omega
      · exact areOwn_some b off n cap l w hok hn hcap h20 (pfCells_lt hc (by omega)) hc
  · rw [show ownB l = false by simp [ownB, hn, h20]]
    exact areOwn_many ao n cap w (by omega)

end Go.Proofs.YtdnpeefnobjfaaaGreatDoor
