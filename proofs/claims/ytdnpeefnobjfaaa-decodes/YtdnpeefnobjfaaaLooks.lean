/- The Book's looks: where every list that is kept reads as it was marked, it says yes. -/
import Derived.Test.YtdnpeefnobjfaaaBook
namespace Go.Proofs.Ytdnpeefnobjfaaa
open Go.RowKit

/-- A list that is kept: where it begins, its length and room, its mark. -/
structure Itm where
  a : Option Addr
  n : Nat
  cap : Nat
  m : Int
def Itm.val (t : Itm) : Value := .slice t.a t.n t.cap
/-- A list of entries reads as it was marked. -/
def Itm.okE (t : Itm) (w : World) : Prop := t.n = 0 ∨ ∃ g off cur, t.a = some ⟨g, off, none⟩ ∧ w.heap[g]? = some (.cells cur 42 (0, 0)) ∧
  ∀ k, k < t.n → cur[off + k * 4]? = some (.int .u32 0) ∧ cur[off + k * 4 + 1]? = some (.int .i64 0) ∧ cur[off + k * 4 + 2]? = some (.int .i64 t.m) ∧ cur[off + k * 4 + 3]? = some (.int .i64 0)
/-- The lists of entries that are kept, and their marks. -/
structure marksE (w : World) (B : Nat) (v vm : Value) (l : List Itm) : Prop where
  rows : w.ownsRow B 31 1 v l.length (l.map Itm.val)
  marks : w.ownsRow B 3 1 vm l.length (l.map fun t => .int .i64 t.m)
  each : ∀ t ∈ l, t.okE w
  small : ∀ t ∈ l, t.n ≤ 9223372036854775807

theorem row_form {w : World} {B e n : Nat} {v : Value} {xs : List Value} (h : w.ownsRow B e 1 v n xs) :
    ∃ ao cap g, v = .slice ao n cap ∧ n ≤ 9223372036854775807 ∧ (0 < n → ao = some ⟨g, 0, none⟩ ∧ ∀ i u, xs[i]? = some u → w.cell? ⟨g, i, none⟩ = some u) := by
  rcases h.2 with ⟨rfl, rfl⟩ | ⟨g, cap, cur, rfl, _, _, h1, h2, _⟩
  · exact ⟨none, 0, 0, rfl, by omega, fun h => by omega⟩
  · refine ⟨_, cap, g, rfl, by unfold maxLen at h2; omega, fun _ => ⟨rfl, fun i u hu => ?_⟩⟩
    have := h.cells (g := g) rfl i u hu
    rwa [show (⟨g, 0, none⟩ : Addr).add i = ⟨g, i, none⟩ by unfold Addr.add; split <;> simp_all] at this

set_option maxHeartbeats 400000 in
theorem lists_nil (Bk : Nat) (s : Bks) (w : World) (hs : s.lies w Bk) (h1 : s.i = nl) (h2 : s.p = nl) :
    Calls Try.prog 18 #[.pointer (some ⟨Bk, 0, none⟩)] w fun e w' => e = .returned (.bool true) ∧ w' = w := by
  have c9 : w.cell? ⟨Bk, 9, none⟩ = some (.slice none 0 0) := (Bks.cell hs 9).trans (congrArg some h1)
  have c11 : w.cell? ⟨Bk, 11, none⟩ = some (.slice none 0 0) := (Bks.cell hs 11).trans (congrArg some h2)
  clear hs h1 h2
  go_enter Try.func18, Try.ntmps18
  go_wp2
  refine wp_loop_rounds 1 ?_
  rw [rounds_succ]
  go_wp2
  refine wp_loop_rounds 1 ?_
  rw [rounds_succ]
  go_wp2
  go_ret
  exact ⟨rfl, rfl⟩

set_option maxHeartbeats 400000 in
theorem back_nil (Bk : Nat) (s : Bks) (w : World) (hs : s.lies w Bk) (h1 : s.l = nl) (h2 : s.wa = nl) :
    Calls Try.prog 17 #[.pointer (some ⟨Bk, 0, none⟩)] w fun e w' => e = .returned (.bool true) ∧ ({ s with l := nl, wa := nl } : Bks).lies w' Bk ∧ w.grownBy w' (some Bk) := by
  have c7 : w.cell? ⟨Bk, 7, none⟩ = some (.slice none 0 0) := (Bks.cell hs 7).trans (congrArg some h1)
  have c8 : w.cell? ⟨Bk, 8, none⟩ = some (.slice none 0 0) := (Bks.cell hs 8).trans (congrArg some h2)
  have f7 : w.frozen? ⟨Bk, 7, none⟩ = false := frozen_blk hs
  have f8 : w.frozen? ⟨Bk, 8, none⟩ = false := frozen_blk hs
  have HS := hide hs
  clear hs h1 h2
  go_enter Try.func17, Try.ntmps17
  go_wp2
  refine wp_loop_rounds 1 ?_
  rw [rounds_succ]
  go_wp2
  go_ret
  exact ⟨rfl, lies_wa (lies_l (unhide HS)), grown_trans (grown_set _ _ _ _) (grown_set _ _ _ _)⟩

set_option maxRecDepth 100000 in
set_option maxHeartbeats 2000000 in
theorem looks_of (Bk B : Nat) (w : World) (P : World → Prop)
    (hback : Calls Try.prog 17 #[.pointer (some ⟨Bk, 0, none⟩)] w fun e w' => e = .returned (.bool true) ∧ P w')
    (hP : ∀ w1, P w1 → ∃ (s : Bks) (l : List Itm), s.lies w1 Bk ∧ marksE w1 B s.e s.em l ∧ s.r = nl ∧ s.o = nl ∧ s.i = nl ∧ s.p = nl) :
    Calls Try.prog 8 #[.pointer (some ⟨Bk, 0, none⟩)] w fun e w' => e = .returned (.bool true) ∧ ∃ w1 nq, P w1 ∧ w' = w1.drewN nq := by
  have HB := hide hback
  have HP := hide hP
  clear hback hP
  go_enter Try.func8, Try.ntmps8
  go_wp2_with fail
  refine (unhide HB).mono ?_
  rintro e w1 ⟨rfl, hp1⟩
  obtain ⟨s, l, hs, hm, hr, ho, hi, hp⟩ := unhide HP w1 hp1
  have HR := hide hr
  have HO := hide ho
  have HI := hide hi
  have HPP := hide hp
  clear hr ho hi hp
  obtain ⟨ae, ce, ge, hve, hN, hrow⟩ := row_form hm.rows
  obtain ⟨am, cm, gm, hvm, _, hmrk⟩ := row_form hm.marks
  have c1 : w1.cell? ⟨Bk, 1, none⟩ = some (.slice ae l.length ce) := (Bks.cell hs 1).trans (congrArg some hve)
  have c2 : w1.cell? ⟨Bk, 2, none⟩ = some (.slice am l.length cm) := (Bks.cell hs 2).trans (congrArg some hvm)
  have c3 : w1.cell? ⟨Bk, 3, none⟩ = some (.slice none 0 0) := (Bks.cell hs 3).trans (congrArg some (unhide HR))
  have c5 : w1.cell? ⟨Bk, 5, none⟩ = some (.slice none 0 0) := (Bks.cell hs 5).trans (congrArg some (unhide HO))
  have HS := hide hs
  have HE := hide hm.each
  have HSM := hide hm.small
  have HROW := hide hrow
  have HMRK := hide hmrk
  have HP1 := hide hp1
  generalize hNN : l.length = N at *
  have HNN := hide hNN
  clear hs hm hve hvm hrow hmrk hp1 hNN
  go_wp2_with fail
  go_loopw [4] (fun i wr => ∃ k : Nat, k ≤ N ∧ i = .int .i64 k ∧ ∃ nq, wr = w1.drewN nq) (fun i _ => N - (intOf i).toNat)
  case atStart => exact ⟨0, by omega, rfl, 0, rfl⟩
  case round =>
    obtain ⟨k, hk, rfl, nq, rfl⟩ := hrel
    by_cases hlt : k < N
    · have hkl : k < l.length := by rw [unhide HNN]; exact hlt
      obtain ⟨rfl, hrow⟩ := unhide HROW (by omega)
      obtain ⟨rfl, hmrk⟩ := unhide HMRK (by omega)
      have cr : w1.cell? ⟨ge, k, none⟩ = some (.slice l[k].a l[k].n l[k].cap) := hrow k _ (by simp [List.getElem?_eq_getElem hkl, Itm.val])
      have cm : w1.cell? ⟨gm, k, none⟩ = some (.int .i64 l[k].m) := hmrk k _ (by simp [List.getElem?_eq_getElem hkl])
      have hok := unhide HE l[k] (List.getElem_mem _)
      have htn := unhide HSM l[k] (List.getElem_mem _)
      generalize l[k] = t at *
      obtain ⟨ta, tn, tc, tm⟩ := t
      have HOK := hide hok
      clear hrow hmrk hok
      simp only at cr cm htn
      have i0 : (0 : Int) ≤ (k : Int) := by omega
      have i1 : (k : Int) < (N : Int) := by omega
      go_wp2_with fail
      obtain ⟨n0, rfl⟩ : ∃ n0, n0 = nq := ⟨_, rfl⟩
      go_loopw [5] (fun j wr => ∃ q : Nat, q ≤ tn ∧ j = .int .i64 q ∧ ∃ nq, wr = w1.drewN nq) (fun j _ => tn - (intOf j).toNat)
      case atStart => exact ⟨0, by omega, rfl, _, rfl⟩
      case round =>
        obtain ⟨q, hq, rfl, n1, rfl⟩ := hrel
        by_cases hlq : q < tn
        · have hok := unhide HOK
          rcases hok with hok | ⟨g, off, cur, hta, hg, hcur⟩
          · simp at hok; omega
          · simp only at hta hcur
            subst hta
            obtain ⟨d0, d1, d2, d3⟩ := hcur q hlq
            rw [← cell_of_row w1 g _ cur _ _ hg] at d0 d1 d2 d3
            clear hcur
            have j0 : (0 : Int) ≤ (q : Int) := by omega
            have j1 : (q : Int) < (tn : Int) := by omega
            go_wp2_with fail
            go_quiet (fail)
            go_wp2
            go_roundw
            case rel => exact ⟨q + 1, by omega, by go_num, _, rfl⟩
            case measure => simp [intOf]; omega
        · go_wp2
          go_roundw
          case rel => exact ⟨k + 1, by omega, by go_num, _, rfl⟩
          case measure => simp [intOf]; omega
    · go_wp2
      refine wp_loop_rounds 1 ?_
      rw [rounds_succ]
      go_wp2
      refine wp_loop_rounds 1 ?_
      rw [rounds_succ]
      go_wp2_with fail
      refine (lists_nil Bk s _ (by exact unhide HS) (unhide HI) (unhide HPP)).mono ?_
      rintro e w3 ⟨rfl, rfl⟩
      go_wp2
      go_ret
      exact ⟨rfl, w1, nq, unhide HP1, rfl⟩

end Go.Proofs.Ytdnpeefnobjfaaa
