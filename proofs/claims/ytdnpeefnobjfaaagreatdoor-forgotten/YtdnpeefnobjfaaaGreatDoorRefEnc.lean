/- What the reference's Encode answers: just what the program's does. -/
import Derived.Test.YtdnpeefnobjfaaaGreatDoorRef
namespace Go.Proofs.YtdnpeefnobjfaaaGreatDoor
open Go.RowKit

/-- The reference's fault as a value. -/
def refF : Option (Int × Int) → Value
  | none => .agg #[.int .i64 0, .int .i64 0, .bool false]
  | some (e, n) => .agg #[.int .i64 e, .int .i64 n, .bool true]

set_option maxHeartbeats 400000 in
theorem rEncode_head (cmd : Int) (ao : Option Addr) (n cap : Nat) (w : World) (h1 : (cmd != 1) = true) (h2 : (cmd != 2) = true) :
    Calls Tryz.prog 114 #[.agg #[.int .i64 cmd, .slice ao n cap]] w fun e w' => e = .returned (.tuple #[.string (strB []), refF (some (4, -1))]) ∧ Below w.heap.size w w' := by
  go_enter Tryz.func114, Tryz.ntmps114
  go_wp2_with fail
  refine (of_any _ _ _).mono ?_
  rintro e w1 ⟨rfl, hb1⟩
  obtain ⟨hc1, hf1⟩ := bcell hb1
  have hs1 : w.heap.size + 1 < w1.heap.size := by have := hb1.size; simp at this; omega
  have hb : Below w.heap.size w w1 := below_box (below_box hb1)
  go_wp2
  exact bodyPost_ret (v := .tuple #[.string (strB []), refF (some (4, -1))]) (by simp [results, Tryz.results114, go_sem, refF, strB, hc1]) rfl ⟨rfl, ((hb.setCell (by simp) _).setCell (by simp) _).setCell (by simp) _⟩

set_option maxHeartbeats 400000 in
theorem rEncode_head1 (ao : Option Addr) (n cap : Nat) (w : World) (h0 : 0 < n) :
    Calls Tryz.prog 114 #[.agg #[.int .i64 1, .slice ao n cap]] w fun e w' => e = .returned (.tuple #[.string (strB []), refF (some (4, -1))]) ∧ Below w.heap.size w w' := by
  have e1 : decide ((0 : Int) < n) = true := by simp; omega
  go_enter Tryz.func114, Tryz.ntmps114
  go_wp2_with fail
  refine (of_any _ _ _).mono ?_
  rintro e w1 ⟨rfl, hb1⟩
  obtain ⟨hc1, hf1⟩ := bcell hb1
  have hs1 : w.heap.size + 1 < w1.heap.size := by have := hb1.size; simp at this; omega
  have hb : Below w.heap.size w w1 := below_box (below_box hb1)
  go_wp2
  exact bodyPost_ret (v := .tuple #[.string (strB []), refF (some (4, -1))]) (by simp [results, Tryz.results114, go_sem, refF, strB, hc1]) rfl ⟨rfl, ((hb.setCell (by simp) _).setCell (by simp) _).setCell (by simp) _⟩

set_option maxHeartbeats 400000 in
theorem rEncode_size (ao : Option Addr) (n cap : Nat) (w : World) (h25 : 25 < n) :
    Calls Tryz.prog 114 #[.agg #[.int .i64 2, .slice ao n cap]] w fun e w' => e = .returned (.tuple #[.string (strB []), refF (some (3, -1))]) ∧ Below w.heap.size w w' := by
  have e0 : ((n : Int) == 0) = false := by simp; omega
  have e1 : decide ((25 : Int) < n) = true := by simp; omega
  go_enter Tryz.func114, Tryz.ntmps114
  go_wp2_with fail
  refine (of_any _ _ _).mono ?_
  rintro e w1 ⟨rfl, hb1⟩
  obtain ⟨hc1, hf1⟩ := bcell hb1
  have hs1 : w.heap.size + 1 < w1.heap.size := by have := hb1.size; simp at this; omega
  have hb : Below w.heap.size w w1 := below_box (below_box hb1)
  go_wp2
  exact bodyPost_ret (v := .tuple #[.string (strB []), refF (some (3, -1))]) (by simp [results, Tryz.results114, go_sem, refF, strB, hc1]) rfl ⟨rfl, ((hb.setCell (by simp) _).setCell (by simp) _).setCell (by simp) _⟩

set_option maxHeartbeats 400000 in
theorem rEncode_none (ao : Option Addr) (cap : Nat) (w : World) :
    Calls Tryz.prog 114 #[.agg #[.int .i64 2, .slice ao 0 cap]] w fun e w' => e = .returned (.tuple #[.string (strB []), refF (some (3, -1))]) ∧ Below w.heap.size w w' := by
  go_enter Tryz.func114, Tryz.ntmps114
  go_wp2_with fail
  refine (of_any _ _ _).mono ?_
  rintro e w1 ⟨rfl, hb1⟩
  obtain ⟨hc1, hf1⟩ := bcell hb1
  have hs1 : w.heap.size + 1 < w1.heap.size := by have := hb1.size; simp at this; omega
  have hb : Below w.heap.size w w1 := below_box (below_box hb1)
  go_wp2
  exact bodyPost_ret (v := .tuple #[.string (strB []), refF (some (3, -1))]) (by simp [results, Tryz.results114, go_sem, refF, strB, hc1]) rfl ⟨rfl, ((hb.setCell (by simp) _).setCell (by simp) _).setCell (by simp) _⟩

set_option maxHeartbeats 400000 in
theorem rEncode_ask (ao : Option Addr) (cap : Nat) (w : World) :
    Calls Tryz.prog 114 #[.agg #[.int .i64 1, .slice ao 0 cap]] w fun e w' => e = .returned (.tuple #[.string (strB askAll), refF none]) ∧ Below w.heap.size w w' := by
  go_enter Tryz.func114, Tryz.ntmps114
  go_wp2
  refine wp_loop_rounds 1 ?_
  rw [rounds_succ]
  go_wp2_with fail
  refine (Bytes_ask _ _ _ _).mono ?_
  rintro e w1 ⟨rfl, hb1⟩
  obtain ⟨hc1, hf1⟩ := bcell hb1
  have hs1 : w.heap.size + 1 < w1.heap.size := by have := hb1.size; simp at this; omega
  have hb : Below w.heap.size w w1 := below_box (below_box hb1)
  go_wp2
  exact bodyPost_ret (v := .tuple #[.string (strB askAll), refF none]) (by simp [results, Tryz.results114, go_sem, refF, hc1]) rfl ⟨rfl, ((hb.setCell (by simp) _).setCell (by simp) _).setCell (by simp) _⟩

/-- The world at the loop: the packet's box, the result's box, and nothing older has turned. -/
abbrev rW (w : World) (b off n cap : Nat) : World := (w.alloc (.cells #[.int .i64 2, .slice (some ⟨b, off, none⟩) n cap] 45)).alloc (.cells #[.int .i64 0, .int .i64 0, .bool false] 150)
theorem rW_facts {w wr : World} {b off n cap : Nat} (hb : Below (w.heap.size + 2) (rW w b off n cap) wr) :
    wr.cell? ⟨w.heap.size, 0, none⟩ = some (.int .i64 2) ∧ wr.cell? ⟨w.heap.size, 1, none⟩ = some (.slice (some ⟨b, off, none⟩) n cap) ∧
    wr.cell? ⟨w.heap.size + 1, 0, none⟩ = some (.int .i64 0) ∧ wr.cell? ⟨w.heap.size + 1, 1, none⟩ = some (.int .i64 0) ∧ wr.cell? ⟨w.heap.size + 1, 2, none⟩ = some (.bool false) ∧
    wr.frozen? ⟨w.heap.size + 1, 0, none⟩ = false ∧ wr.frozen? ⟨w.heap.size + 1, 1, none⟩ = false ∧ wr.frozen? ⟨w.heap.size + 1, 2, none⟩ = false ∧ w.heap.size + 2 ≤ wr.heap.size ∧ Below w.heap.size w wr := by
  refine ⟨(hb.cell (p := ⟨w.heap.size, 0, none⟩) (by simp)).trans (by simp), (hb.cell (p := ⟨w.heap.size, 1, none⟩) (by simp)).trans (by simp),
    (hb.cell (p := ⟨w.heap.size + 1, 0, none⟩) (by simp)).trans (by simp), (hb.cell (p := ⟨w.heap.size + 1, 1, none⟩) (by simp)).trans (by simp), (hb.cell (p := ⟨w.heap.size + 1, 2, none⟩) (by simp)).trans (by simp),
    (hb.frozen (p := ⟨w.heap.size + 1, 0, none⟩) (by simp)).trans (by simp), (hb.frozen (p := ⟨w.heap.size + 1, 1, none⟩) (by simp)).trans (by simp), (hb.frozen (p := ⟨w.heap.size + 1, 2, none⟩) (by simp)).trans (by simp),
    by have := hb.size; simpa using this, ((below_new w _).trans ((below_new _ _).mono (by simp))).trans (hb.mono (by omega))⟩

set_option maxHeartbeats 1000000 in
theorem rEncode_loop (b off cap n : Nat) (l : List Ent) (w : World) (hok : entsOk l) (hn : l.length = n) (h0 : 0 < n) (h25 : n ≤ 25) (hB : b < w.heap.size) (hc : entCells w b off l) :
    Calls Tryz.prog 114 #[.agg #[.int .i64 2, .slice (some ⟨b, off, none⟩) n cap]] w fun e w' => e = .returned (.tuple #[.string (strB (encOut 2 l)), refF (firstErr l 0)]) ∧ Below w.heap.size w w' := by
  have HN := hide hn
  clear hn
  have e0 : ((n : Int) == 0) = false := by simp; omega
  have e1 : decide ((25 : Int) < n) = false := by simp; omega
  go_enter Tryz.func114, Tryz.ntmps114
  go_wp2
  go_loopw [5] (fun i wr => ∃ k : Nat, k ≤ n ∧ i = .int .i64 k ∧ Below (w.heap.size + 2) (rW w b off n cap) wr ∧ ∀ j, (hj : j < l.length) → j < k → entErr l[j] = 0) (fun i _ => n - (intOf i).toNat)
  case atStart => exact ⟨0, by omega, rfl, Below.refl _ _, fun j hj h => by omega⟩
  case round =>
    obtain ⟨k, hk, rfl, hb, hgood⟩ := hrel
    have HG := hide hgood
    clear hgood e0 e1
    obtain ⟨q0, q1, r0, r1, r2, f0, f1, f2, hsz, hbw⟩ := rW_facts hb
    by_cases hlt : k < n
    · have hlt' : k < l.length := by rw [unhide HN]; exact hlt
      have hcx := entCells_below hc hbw hB k hlt'
      have hoke := hok l[k] (List.getElem_mem _)
      generalize hE : l[k] = E at *
      have HE := hide hE
      clear hE
      obtain ⟨c0, c1, c2, c3⟩ := hcx
      go_wp2_with fail
      refine (IsPrefix_any _ _ _ hoke.1 hoke.2).mono ?_
      rintro e w1 ⟨rfl, hb1⟩
      have x1 := boxE_below (boxE_new wr E) hb1
      have hb2 : Below (w.heap.size + 2) (rW w b off n cap) w1 := (hb.alloc hsz _).trans (hb1.mono (by simp; omega))
      have hs3 : wr.heap.size < w1.heap.size := by have := hb1.size; simp at this; omega
      clear q0 q1 r0 r1 r2 f0 f1 f2 c0 c1 c2 c3 hb1 hb
      obtain ⟨q0, q1, r0, r1, r2, f0, f1, f2, hsz2, hbw2⟩ := rW_facts hb2
      obtain ⟨c0, c1, c2, c3⟩ := id x1
      by_cases hz : entErr E = 0
      · obtain ⟨hp, ht, hm⟩ := entErr_zero hz
        simp only [tagB, metB, Bool.and_eq_true, decide_eq_true_eq] at ht hm
        obtain ⟨ht0, ht1⟩ := ht
        obtain ⟨hm0, hm1⟩ := hm
        have HZ := hide hz
        clear hz
        go_wp2
        go_roundw
        case rel =>
          refine ⟨k + 1, by omega, by go_num, hb2, fun j hj hjk => ?_⟩
          by_cases hjk' : j = k
          · subst hjk'; rw [unhide HE]; exact unhide HZ
          · exact unhide HG j hj (by omega)
        case measure => simp [intOf]; omega
      · have hfe := firstErr_at (k := 0) k hlt' (fun j hj => unhide HG j (by omega) hj) (by rw [unhide HE]; exact hz)
        rw [unhide HE, Int.zero_add] at hfe
        have hout : encOut 2 l = [] := encOut_some ((encErr_two (by rw [unhide HN]; exact h0) (by rw [unhide HN]; exact h25)).trans hfe)
        have HOUT := hide hout
        clear hout
        cases hp : pfxB E.addr E.len
        · rw [show entErr E = 6 by simp [entErr, hp]] at hfe
          have HFE := hide hfe
          clear hz hfe
          go_wp2_with fail
          refine (of_any _ _ _).mono ?_
          rintro e w3 ⟨rfl, hb3⟩
          have hb4 : Below (w.heap.size + 2) (rW w b off n cap) w3 := hb2.trans (hb3.mono hsz2)
          clear q0 q1 r0 r1 r2 f0 f1 f2 c0 c1 c2 c3 hb3 hb2
          obtain ⟨q0, q1, r0, r1, r2, f0, f1, f2, hsz4, hbw4⟩ := rW_facts hb4
          go_wp2
          exact bodyPost_ret (v := .tuple #[.string (strB []), refF (some (6, k))]) (by simp [results, Tryz.results114, go_sem, refF, strB, r0, r1, r2]) rfl ⟨by rw [unhide HOUT, unhide HFE], ((hbw4.setCell (by simp) _).setCell (by simp) _).setCell (by simp) _⟩
        · cases ht : tagB E.tag
          · rw [show entErr E = 5 by simp [entErr, hp, ht]] at hfe
            have HFE := hide hfe
            have htd : (decide (E.tag < 0) = true) ∨ (decide (E.tag < 0) = false ∧ decide (65535 < E.tag) = true) := by
              simp only [tagB, Bool.and_eq_false_iff, decide_eq_false_iff_not] at ht
              simp only [decide_eq_true_eq, decide_eq_false_iff_not]; omega
            clear hz hfe ht
            rcases htd with htd | ⟨htd, htd'⟩
            all_goals
              go_wp2_with fail
              refine (of_any _ _ _).mono ?_
              rintro e w3 ⟨rfl, hb3⟩
              have hb4 : Below (w.heap.size + 2) (rW w b off n cap) w3 := hb2.trans (hb3.mono hsz2)
              clear q0 q1 r0 r1 r2 f0 f1 f2 c0 c1 c2 c3 hb3 hb2
              obtain ⟨q0, q1, r0, r1, r2, f0, f1, f2, hsz4, hbw4⟩ := rW_facts hb4
              go_wp2
              exact bodyPost_ret (v := .tuple #[.string (strB []), refF (some (5, k))]) (by simp [results, Tryz.results114, go_sem, refF, strB, r0, r1, r2]) rfl ⟨by rw [unhide HOUT, unhide HFE], ((hbw4.setCell (by simp) _).setCell (by simp) _).setCell (by simp) _⟩
          · have hm : metB E.met = false := by
              cases hm : metB E.met
              · rfl
              · exact absurd (by simp [entErr, hp, ht, hm]) hz
            rw [show entErr E = 8 by simp [entErr, hp, ht, hm]] at hfe
            have HFE := hide hfe
            have htd : (decide (E.met < 1) = true) ∨ (decide (E.met < 1) = false ∧ decide (16 < E.met) = true) := by
              simp only [metB, Bool.and_eq_false_iff, decide_eq_false_iff_not] at hm
              simp only [decide_eq_true_eq, decide_eq_false_iff_not]; omega
            simp only [tagB, Bool.and_eq_true, decide_eq_true_eq] at ht
            obtain ⟨ht0, ht1⟩ := ht
            clear hz hfe hm
            rcases htd with htd | ⟨htd, htd'⟩
            all_goals
              go_wp2_with fail
              refine (of_any _ _ _).mono ?_
              rintro e w3 ⟨rfl, hb3⟩
              have hb4 : Below (w.heap.size + 2) (rW w b off n cap) w3 := hb2.trans (hb3.mono hsz2)
              clear q0 q1 r0 r1 r2 f0 f1 f2 c0 c1 c2 c3 hb3 hb2
              obtain ⟨q0, q1, r0, r1, r2, f0, f1, f2, hsz4, hbw4⟩ := rW_facts hb4
              go_wp2
              exact bodyPost_ret (v := .tuple #[.string (strB []), refF (some (8, k))]) (by simp [results, Tryz.results114, go_sem, refF, strB, r0, r1, r2]) rfl ⟨by rw [unhide HOUT, unhide HFE], ((hbw4.setCell (by simp) _).setCell (by simp) _).setCell (by simp) _⟩
    · have hfe := firstErr_none (k := 0) (fun j hj => unhide HG j hj (by have := unhide HN; omega))
      have hout : encOut 2 l = encBytes 2 l := encOut_none ((encErr_two (by rw [unhide HN]; exact h0) (by rw [unhide HN]; exact h25)).trans hfe)
      have hall := firstErr_all hfe
      have HOUT := hide hout
      have HFE := hide hfe
      have HA := hide hall
      clear hfe hout hall
      go_wp2_with fail
      refine (Bytes_resp b off cap n l _ hok (unhide HN) (by omega) (fun _ => by omega) (unhide HA) (entCells_below hc hbw hB)).mono ?_
      rintro e w3 ⟨rfl, hb3⟩
      have hb4 : Below (w.heap.size + 2) (rW w b off n cap) w3 := hb.trans (hb3.mono hsz)
      clear q0 q1 r0 r1 r2 f0 f1 f2 hb3 hb
      obtain ⟨q0, q1, r0, r1, r2, f0, f1, f2, hsz4, hbw4⟩ := rW_facts hb4
      go_wp2
      exact bodyPost_ret (v := .tuple #[.string (strB (encBytes 2 l)), refF none]) (by simp [results, Tryz.results114, go_sem, refF, r0, r1, r2]) rfl ⟨by rw [unhide HOUT, unhide HFE], ((hbw4.setCell (by simp) _).setCell (by simp) _).setCell (by simp) _⟩

theorem rEncode_any (cmd : Int) (ao : Option Addr) (n cap : Nat) (l : List Ent) (w : World) (hok : entsOk l) (hn : l.length = n) (hs : entSlice w ao l) :
    Calls Tryz.prog 114 #[.agg #[.int .i64 cmd, .slice ao n cap]] w fun e w' => e = .returned (.tuple #[.string (strB (encOut cmd l)), refF (encErr cmd l)]) ∧ Below w.heap.size w w' := by
  by_cases h1 : cmd = 1
  · subst h1
    by_cases h0 : n = 0
    · subst h0
      obtain rfl : l = [] := List.eq_nil_of_length_eq_zero hn
      exact rEncode_ask ao cap w
    · have he : encErr 1 l = some (4, -1) := by unfold encErr; rw [if_pos (by omega)]
      rw [encOut_some he, he]
      exact rEncode_head1 ao n cap w (by omega)
  · by_cases h2 : cmd = 2
    · subst h2
      by_cases h0 : n = 0
      · subst h0
        have he : encErr 2 l = some (3, -1) := by unfold encErr; rw [if_neg (by omega), if_pos (by omega)]
        rw [encOut_some he, he]
        exact rEncode_none ao cap w
      · by_cases h25 : n ≤ 25
        · rw [encErr_two (by omega) (by omega)]
          rcases hs with rfl | ⟨b, off, rfl, hc⟩
          · simp at hn; omega
          · exact rEncode_loop b off cap n l w hok hn (by omega) h25 (entCells_lt hc (by omega)) hc
        · have he : encErr 2 l = some (3, -1) := by unfold encErr; rw [if_neg (by omega), if_pos (by omega)]
          rw [encOut_some he, he]
          exact rEncode_size ao n cap w (by omega)
    · have he : encErr cmd l = some (4, -1) := by unfold encErr; rw [if_pos (by omega)]
      rw [encOut_some he, he]
      exact rEncode_head cmd ao n cap w (by simp [h1]) (by simp [h2])

end Go.Proofs.YtdnpeefnobjfaaaGreatDoor
