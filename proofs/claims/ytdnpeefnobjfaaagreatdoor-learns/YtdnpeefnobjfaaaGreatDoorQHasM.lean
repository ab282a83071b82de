/- The reference's Has; which row is the longest one. -/
import Derived.Test.YtdnpeefnobjfaaaGreatDoorRNewM
import Derived.Test.YtdnpeefnobjfaaaGreatDoorTHeardM
import Derived.Test.YtdnpeefnobjfaaaGreatDoorTCloneM
import Derived.Test.YtdnpeefnobjfaaaGreatDoorTToM
import Derived.BigQuiet
namespace Go.Proofs.YtdnpeefnobjfaaaGreatDoor
open Go.RowKit Go.Shelf
attribute [local go_sem ↓] Go.wp_at_zero Go.wp_at_succ

theorem hasB_is {a l x : Int} (h : a % 2 ^ (32 - l).toNat = 0) : (decide (a ≤ x) && decide (x < a + 2 ^ (32 - l).toNat)) = hasB a l x := by
  have hp := pow_pos' (32 - l).toNat
  unfold hasB
  generalize (2 : Int) ^ (32 - l).toNat = m at *
  obtain ⟨q, rfl⟩ := Int.dvd_of_emod_eq_zero h
  have h1 := Int.emod_nonneg x (show m ≠ 0 by omega)
  have h2 := Int.emod_lt_of_pos x hp
  rw [Bool.eq_iff_iff]
  simp only [Bool.and_eq_true, decide_eq_true_eq]
  constructor
  · rintro ⟨h3, h4⟩
    have e : x % m = (x - m * q) % m := by rw [Int.sub_mul_emod_self_left]
    rw [e, Int.emod_eq_of_lt (by omega) (by omega)]
    omega
  · intro h3
    omega
theorem emod_le_self {y m : Int} (hy : 0 ≤ y) (hm : 0 < m) : y % m ≤ y := by
  have h := Int.mul_ediv_add_emod y m
  have h2 := Int.mul_nonneg (Int.le_of_lt hm) (Int.ediv_nonneg hy (Int.le_of_lt hm))
  omega
theorem emod_pow_le (x : Int) {i j : Nat} (h : i ≤ j) : x % 2 ^ i ≤ x % 2 ^ j := by
  have hd : (2 : Int) ^ i ∣ 2 ^ j := ⟨2 ^ (j - i), by rw [← Int.pow_add, Nat.add_sub_cancel' h]⟩
  rw [← Int.emod_emod_of_dvd x hd]
  exact emod_le_self (Int.emod_nonneg _ (by have := pow_pos' j; omega)) (pow_pos' i)
/-- Of two prefixes that have an address, the later one is the longer one. -/
theorem has_longer {a l a' l' x : Int} (h : hasB a l x = true) (h' : hasB a' l' x = true) (hlt : a < a' ∨ a = a' ∧ l < l') : l < l' := by
  simp only [hasB, decide_eq_true_eq] at h h'
  by_cases hl : l < l'
  · exact hl
  · have := emod_pow_le x (show (32 - l).toNat ≤ (32 - l').toNat by omega)
    omega
theorem findR_step {L : List Rw} {k : Nat} (x : Int) (h : k < L.length) : findR (L.take (k + 1)) x = if findB x L[k] = true then some L[k] else findR (L.take k) x := by
  unfold findR
  rw [List.take_succ_eq_append_getElem h, List.reverse_append]
  simp only [List.reverse_cons, List.reverse_nil, List.nil_append, List.singleton_append, List.find?_cons]
  split <;> simp_all
theorem findR_shorter {L : List Rw} {k : Nat} {x : Int} {r : Rw} (hso : rwSorted L) (h : k < L.length) (hr : findR (L.take k) x = some r) (hb : findB x L[k] = true) : r.len < L[k].len := by
  have h1 := List.find?_some hr
  have h2 := List.mem_reverse.1 (List.mem_of_find?_eq_some hr)
  obtain ⟨j, hj, rfl⟩ := List.mem_iff_getElem.1 h2
  rw [List.length_take] at hj
  rw [List.getElem_take] at h1 ⊢
  simp only [findB, Bool.and_eq_true] at h1 hb
  exact has_longer h1.2 hb.2 (rwSorted_lt hso (by omega) h (by omega))
theorem findR_mem {L : List Rw} {x : Int} {r : Rw} (h : findR L x = some r) : r ∈ L := List.mem_reverse.1 (List.mem_of_find?_eq_some h)

set_option maxHeartbeats 1000000 in
theorem hasRef_any (a l x : Int) (w : World) (ha : 0 ≤ a ∧ a < 4294967296) (h0 : 0 ≤ l) (h1 : l ≤ 32) (hz : a % 2 ^ (32 - l).toNat = 0) :
    Calls Tryz.prog 125 #[.agg #[.int .u32 a, .int .i64 l], .int .i64 x] w fun e w' => e = .returned (.bool (hasB a l x)) ∧ Grows w w' := by
  have hblk := fun W => block_any l W h0 h1
  have HV := hide (hasB_is (x := x) hz)
  have hp := pow_pos' (32 - l).toNat
  have hp2 := pow_le32 (32 - l).toNat (by omega)
  obtain ⟨ha0, ha1⟩ := ha
  clear hz
  generalize (2 : Int) ^ (32 - l).toNat = m at *
  by_cases hc : a ≤ x
  · have hd : decide (a ≤ x) = true := by simpa using hc
    go_enter Tryz.func125, Tryz.ntmps125
    go_wp2_with (go_at_call 159; refine (hblk _).mono ?_; rintro e w' ⟨rfl, rfl⟩)
    go_ret
    refine ⟨?_, (Grows.refl w).alloc _⟩
    rw [← unhide HV]
    simp [hc]
  · have hd : decide (a ≤ x) = false := by simpa using hc
    go_enter Tryz.func125, Tryz.ntmps125
    go_wp2
    go_ret
    refine ⟨?_, (Grows.refl w).alloc _⟩
    rw [← unhide HV]
    simp
    omega

end Go.Proofs.YtdnpeefnobjfaaaGreatDoor

/- The reference's Lookup. -/
namespace Go.Proofs.YtdnpeefnobjfaaaGreatDoor
open Go.RowKit Go.Shelf
attribute [local go_sem ↓] Go.wp_at_zero Go.wp_at_succ

def bestV : Option Rw → Array Value
  | some r => routeVals r
  | none => #[.int .u32 0, .int .i64 (-1), .int .i64 0, .int .i64 0, .int .i64 0]
theorem bestV_form (o : Option Rw) : ∃ a l t m f, bestV o = #[.int .u32 a, .int .i64 l, .int .i64 t, .int .i64 m, .int .i64 f] ∧ ((o = none ∧ l = -1) ∨ ∃ r, o = some r ∧ l = r.len) := by
  cases o with
  | none => exact ⟨_, _, _, _, _, rfl, .inl ⟨rfl, rfl⟩⟩
  | some r => exact ⟨_, _, _, _, _, rfl, .inr ⟨r, rfl, rfl⟩⟩
theorem routeList_at (L : List Rw) (k : Nat) (hk : k < L.length) (i : Nat) (hi : i < 5) : (routeList L)[k * 5 + i]? = (routeL L[k])[i]? := by
  induction L generalizing k with
  | nil => simp at hk
  | cons r R ih =>
    cases k with
    | zero =>
      simp only [Nat.zero_mul, Nat.zero_add, routeList, List.flatMap_cons, List.getElem_cons_zero]
      rw [List.getElem?_append_left (by simp [routeL]; omega)]
    | succ k =>
      have := ih k (by simpa using hk)
      simp only [routeList, List.flatMap_cons, List.getElem_cons_succ] at this ⊢
      rw [List.getElem?_append_right (by simp [routeL]; omega), ← this]
      congr 1
      simp [routeL]; omega
theorem route_cells {w : World} {base g n cap : Nat} {L : List Rw} (h : w.ownsRow base 52 5 (.slice (some ⟨g, 0, none⟩) n cap) n (routeList L)) (k : Nat) (hk : k < L.length) :
    w.cell? ⟨g, k * 5, none⟩ = some (.int .u32 L[k].addr) ∧ w.cell? ⟨g, k * 5 + 1, none⟩ = some (.int .i64 L[k].len) ∧ w.cell? ⟨g, k * 5 + 2, none⟩ = some (.int .i64 L[k].tag) ∧ w.cell? ⟨g, k * 5 + 3, none⟩ = some (.int .i64 L[k].met) ∧ w.cell? ⟨g, k * 5 + 4, none⟩ = some (.int .i64 L[k].frm) := by
  have hc : ∀ i u, i < 5 → (routeL L[k])[i]? = some u → w.cell? ⟨g, k * 5 + i, none⟩ = some u := fun i u hi hu => by
    have := owned_cells h (k * 5 + i) u ((routeList_at L k hk i hi).trans hu)
    rwa [Addr.add_lit, Nat.zero_add] at this
  exact ⟨hc 0 _ (by decide) rfl, hc 1 _ (by decide) rfl, hc 2 _ (by decide) rfl, hc 3 _ (by decide) rfl, hc 4 _ (by decide) rfl⟩

set_option maxRecDepth 100000 in
set_option maxHeartbeats 4000000 in
theorem lookRef_any (base : Nat) (ao : Option Addr) (n cap : Nat) (L : List Rw) (x : Int) (w : World) (hown : w.ownsRow base 52 5 (.slice ao n cap) n (routeList L)) (hL : L.length = n) (hn : n ≤ 1000000) (hso : rwSorted L) (hfine : rowsFine L) :
    Calls Tryz.prog 74 #[.slice ao n cap, .int .i64 x] w fun e w' => e = .returned (findOut (findR L x)) ∧ Below w.heap.size w w' := by
  have HO := hide hown
  have HL := hide hL
  have HSO := hide hso
  have HF := hide hfine
  have bR := Blk.new w zeroRoute 52
  have bB := Blk.new (w.alloc (.cells zeroRoute 52)) (bestV none) 52
  simp only [zeroRoute, bestV, World.size_alloc] at bB bR
  have hb0 : Below w.heap.size w ((w.alloc (.cells #[.int .u32 0, .int .i64 0, .int .i64 0, .int .i64 0, .int .i64 0] 52)).alloc (.cells #[.int .u32 0, .int .i64 (-1), .int .i64 0, .int .i64 0, .int .i64 0] 52)) := (((Grows.refl w).alloc _).alloc _).below
  have bR := bR.alloc (.cells #[.int .u32 0, .int .i64 (-1), .int .i64 0, .int .i64 0, .int .i64 0] 52)
  have HR := hide bR
  have HB := hide bB
  have HB0 := hide hb0
  clear hown hL hso hfine bR bB hb0
  go_enter Tryz.func74, Tryz.ntmps74
  go_wp2_with fail
  generalize (w.alloc (.cells #[.int .u32 0, .int .i64 0, .int .i64 0, .int .i64 0, .int .i64 0] 52)).alloc (.cells #[.int .u32 0, .int .i64 (-1), .int .i64 0, .int .i64 0, .int .i64 0] 52) = W at *
  go_loopw [7] (fun i wr => ∃ k : Nat, k ≤ n ∧ i = .int .i64 k ∧ Blk wr (w.heap.size + 1) (bestV (findR (L.take k) x)) 52 ∧ Blk wr w.heap.size #[.int .u32 0, .int .i64 0, .int .i64 0, .int .i64 0, .int .i64 0] 52 ∧ Below w.heap.size w wr) (fun i _ => n - (intOf i).toNat)
  case atStart => exact ⟨0, by omega, rfl, unhide HB, unhide HR, unhide HB0⟩
  case round =>
    obtain ⟨k, hk, rfl, hB, hR, hb⟩ := hrel
    by_cases hlt : k < n
    · obtain ⟨g, cap', hge⟩ := own_some (unhide HO) (by omega)
      simp at hge
      obtain ⟨rfl, rfl⟩ := hge
      have hgl := (ownsRow_from (unhide HO) g rfl).2
      have hkL : k < L.length := by rw [unhide HL]; exact hlt
      obtain ⟨r0, r1, r2, r3, r4⟩ := route_cells (ownsRow_below (unhide HO) hb (Nat.le_refl _)) k hkL
      obtain ⟨hfa, hfp, _, hfm⟩ := unhide HF L[k] (List.getElem_mem hkL)
      simp only [pfxB, Bool.and_eq_true, decide_eq_true_eq] at hfp
      simp only [metB, Bool.and_eq_true, decide_eq_true_eq] at hfm
      have hH := fun W => hasRef_any L[k].addr L[k].len x W hfa hfp.1.1 hfp.1.2 hfp.2
      have hstep := findR_step x hkL
      have hsh := fun r => @findR_shorter L k x r (unhide HSO) hkL
      have hl0 : 0 ≤ L[k].len := hfp.1.1
      have hm16 : L[k].met ≤ 16 := hfm.2
      obtain ⟨ba, bl, bt', bm, bf, hbf, hbl⟩ := bestV_form (findR (L.take k) x)
      rw [hbf] at hB
      have HBF := hide hbf
      obtain ⟨E, hE⟩ : ∃ E, L[k] = E := ⟨_, rfl⟩
      rw [hE] at r0 r1 r2 r3 r4 hH hstep hsh hl0 hm16
      have j0 : (0 : Int) ≤ (k : Int) := by omega
      have j1 : (k : Int) < (n : Int) := by omega
      have HRR := hide hR
      have HBB := hide hB
      have HBW := hide hb
      have hsw : w.heap.size ≤ wr.heap.size := hb.size
      have hgw : g ≠ w.heap.size + 1 := by omega
      clear hE hfa hfp hfm hbf HO hB hR hb
      obtain ⟨hq, hhq⟩ : ∃ q, hasB E.addr E.len x = q := ⟨_, rfl⟩
      rw [hhq] at hH
      cases hq with
      | false =>
        have hs2 : findR (L.take (k + 1)) x = findR (L.take k) x := by rw [hstep, if_neg (by simp [findB, hhq])]
        have HS2 := hide hs2
        clear hstep hsh hbl hs2 hhq
        go_wp2_with (go_at_call 125; refine (hH _).mono ?_; rintro e w1 ⟨rfl, hg1⟩)
        go_quiet (fail)
        go_wp2
        go_roundw
        case rel => exact ⟨k + 1, by omega, by go_num, by rw [unhide HS2, unhide HBF]; exact ((unhide HBB).grows hg1).grows ((Grows.refl _).drewN _), ((unhide HRR).grows hg1).grows ((Grows.refl _).drewN _), (unhide HBW).trans (((hg1.drewN _).below).mono hsw)⟩
        case measure => simp [intOf]; omega
      | true =>
        by_cases hm : E.met = 16
        · have hs2 : findR (L.take (k + 1)) x = findR (L.take k) x := by rw [hstep, if_neg (by simp [findB, hm])]
          have HS2 := hide hs2
          have hd : decide (E.met < 16) = false := by simp; omega
          clear hstep hsh hbl hs2 hhq
          go_wp2_with (go_at_call 125; refine (hH _).mono ?_; rintro e w1 ⟨rfl, hg1⟩; have s3 := hg1.cell r3; have HG1 := hide hg1)
          go_quiet (fail)
          go_wp2
          go_roundw
          case rel => exact ⟨k + 1, by omega, by go_num, by rw [unhide HS2, unhide HBF]; exact ((unhide HBB).grows hg1).grows ((Grows.refl _).drewN _), ((unhide HRR).grows hg1).grows ((Grows.refl _).drewN _), (unhide HBW).trans (((hg1.drewN _).below).mono hsw)⟩
          case measure => simp [intOf]; omega
        · have hfb : findB x E = true := by simp [findB, hhq, hm]
          have hs2 : findR (L.take (k + 1)) x = some E := by rw [hstep, if_pos hfb]
          have HS2 := hide hs2
          have hd : decide (E.met < 16) = true := by simp; omega
          have hlen : bl < E.len := by
            rcases hbl with ⟨_, rfl⟩ | ⟨r, hr, rfl⟩
            · omega
            · exact hsh r hr hfb
          have hd2 : decide (bl < E.len) = true := by simpa using hlen
          clear hstep hsh hbl hs2 hhq hfb
          go_wp2_with (go_at_call 125; refine (hH _).mono ?_; rintro e w1 ⟨rfl, hg1⟩; have s0 := hg1.cell r0; have s1 := hg1.cell r1; have s2 := hg1.cell r2; have s3 := hg1.cell r3; have s4 := hg1.cell r4; have b1 := (unhide HBB).grows hg1; have y0 := b1.cell 0; have y1 := (b1.cell 1).trans (show _ = some (.int .i64 bl) from rfl); have y2 := b1.cell 2; have y3 := b1.cell 3; have y4 := b1.cell 4; have f0 := b1.frozen 0; have f1 := b1.frozen 1; have f2 := b1.frozen 2; have f3 := b1.frozen 3; have f4 := b1.frozen 4; have HB1 := hide b1; have HG1 := hide hg1; clear b1 hg1 r0 r1 r2 r3 r4)
          go_quiet (fail)
          go_wp2
          go_roundw
          case rel =>
            have b2 := (unhide HB1).grows ((Grows.refl w1).drewN nq)
            have c2 := ((unhide HRR).grows (unhide HG1)).grows ((Grows.refl w1).drewN nq)
            have d2 := (unhide HBW).trans ((((unhide HG1).drewN nq).below).mono hsw)
            refine ⟨k + 1, by omega, by go_num, ?_, ?_, ?_⟩
            · rw [unhide HS2]
              exact ((((b2.set 0 _).set 1 _).set 2 _).set 3 _).set 4 _
            · exact ((((c2.other (p := ⟨w.heap.size + 1, 0, none⟩) (by simp) _).other (p := ⟨w.heap.size + 1, 1, none⟩) (by simp) _).other (p := ⟨w.heap.size + 1, 2, none⟩) (by simp) _).other (p := ⟨w.heap.size + 1, 3, none⟩) (by simp) _).other (p := ⟨w.heap.size + 1, 4, none⟩) (by simp) _
            · exact ((((d2.setCell (p := ⟨w.heap.size + 1, 0, none⟩) (by simp) _).setCell (p := ⟨w.heap.size + 1, 1, none⟩) (by simp) _).setCell (p := ⟨w.heap.size + 1, 2, none⟩) (by simp) _).setCell (p := ⟨w.heap.size + 1, 3, none⟩) (by simp) _).setCell (p := ⟨w.heap.size + 1, 4, none⟩) (by simp) _
          case measure => simp [intOf]; omega
    · have hkn : k = n := by omega
      subst hkn
      rw [List.take_of_length_le (by rw [unhide HL]; omega)] at hB
      have a0 := hR.cell 0
      have a1 := hR.cell 1
      have a2 := hR.cell 2
      have a3 := hR.cell 3
      have a4 := hR.cell 4
      have f0 := hR.frozen 0
      have f1 := hR.frozen 1
      have f2 := hR.frozen 2
      have f3 := hR.frozen 3
      have f4 := hR.frozen 4
      have HLEN := hide (fun r (h : findR L x = some r) => unhide HF r (findR_mem h))
      clear HF HSO HO HL
      cases hfr : findR L x with
      | none =>
        rw [hfr] at hB
        simp only [bestV] at hB
        have b1 := (hB.cell 1).trans (show _ = some (.int .i64 (-1)) from rfl)
        have bR3 := ((((hR.set 0 (.int .u32 0)).set 1 (.int .i64 0)).set 2 (.int .i64 0)).set 3 (.int .i64 0)).set 4 (.int .i64 0)
        have t0 := (bR3.cell 0).trans (show _ = some (.int .u32 0) from rfl)
        have t1 := (bR3.cell 1).trans (show _ = some (.int .i64 0) from rfl)
        have t2 := (bR3.cell 2).trans (show _ = some (.int .i64 0) from rfl)
        have t3 := (bR3.cell 3).trans (show _ = some (.int .i64 0) from rfl)
        have t4 := (bR3.cell 4).trans (show _ = some (.int .i64 0) from rfl)
        have HFIN := hide (((((hb.setCell (p := ⟨w.heap.size, 0, none⟩) (by simp) (.int .u32 0)).setCell (p := ⟨w.heap.size, 1, none⟩) (by simp) (.int .i64 0)).setCell (p := ⟨w.heap.size, 2, none⟩) (by simp) (.int .i64 0)).setCell (p := ⟨w.heap.size, 3, none⟩) (by simp) (.int .i64 0)).setCell (p := ⟨w.heap.size, 4, none⟩) (by simp) (.int .i64 0))
        have HFR := hide hfr
        clear hB hR hb bR3 hfr
        go_wp2
        refine bodyPost_ret (v := .tuple #[.agg zeroRoute, .bool false]) (by simp [results, Tryz.results74, go_sem, zeroRoute, t0, t1, t2, t3, t4]) rfl ⟨by rw [unhide HFR]; rfl, unhide HFIN⟩
      | some r =>
        have hlen := (unhide HLEN r hfr).2.1
        simp only [pfxB, Bool.and_eq_true, decide_eq_true_eq] at hlen
        have hl0 : ¬ r.len < 0 := by omega
        rw [hfr] at hB
        simp only [bestV, routeVals] at hB
        have b0 := (hB.cell 0).trans (show _ = some (.int .u32 r.addr) from rfl)
        have b1 := (hB.cell 1).trans (show _ = some (.int .i64 r.len) from rfl)
        have b2 := (hB.cell 2).trans (show _ = some (.int .i64 r.tag) from rfl)
        have b3 := (hB.cell 3).trans (show _ = some (.int .i64 r.met) from rfl)
        have b4 := (hB.cell 4).trans (show _ = some (.int .i64 r.frm) from rfl)
        have bR3 := ((((hR.set 0 (.int .u32 r.addr)).set 1 (.int .i64 r.len)).set 2 (.int .i64 r.tag)).set 3 (.int .i64 r.met)).set 4 (.int .i64 r.frm)
        have t0 := (bR3.cell 0).trans (show _ = some (.int .u32 r.addr) from rfl)
        have t1 := (bR3.cell 1).trans (show _ = some (.int .i64 r.len) from rfl)
        have t2 := (bR3.cell 2).trans (show _ = some (.int .i64 r.tag) from rfl)
        have t3 := (bR3.cell 3).trans (show _ = some (.int .i64 r.met) from rfl)
        have t4 := (bR3.cell 4).trans (show _ = some (.int .i64 r.frm) from rfl)
        have HFIN := hide (((((hb.setCell (p := ⟨w.heap.size, 0, none⟩) (by simp) (.int .u32 r.addr)).setCell (p := ⟨w.heap.size, 1, none⟩) (by simp) (.int .i64 r.len)).setCell (p := ⟨w.heap.size, 2, none⟩) (by simp) (.int .i64 r.tag)).setCell (p := ⟨w.heap.size, 3, none⟩) (by simp) (.int .i64 r.met)).setCell (p := ⟨w.heap.size, 4, none⟩) (by simp) (.int .i64 r.frm))
        have HFR := hide hfr
        clear hB hR hb bR3 hfr hlen
        go_wp2
        all_goals refine bodyPost_ret (v := .tuple #[.agg (routeVals r), .bool true]) (by simp [results, Tryz.results74, go_sem, routeVals, t0, t1, t2, t3, t4]) rfl ⟨by rw [unhide HFR]; rfl, by first | exact unhide HFIN | exact (unhide HFIN).drew⟩

end Go.Proofs.YtdnpeefnobjfaaaGreatDoor
