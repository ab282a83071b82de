/- Proved in plain contracts: milepostkeep.Reread returns true of every packet and every text. -/
import Derived.Test.YtdnpeefnobjfaaaRBegin
import Derived.Test.YtdnpeefnobjfaaaRMath
import Derived.Test.YtdnpeefnobjfaaaSame
namespace Go.Proofs.Ytdnpeefnobjfaaa
open Go.RowKit
attribute [local go_sem ↓] Go.wp_at_zero Go.wp_at_succ

theorem strB_data (s : ByteArray) : strB s.data.toList = s := by
  cases s; simp [strB]
theorem dec_short {b : List UInt8} (h : decErr b = none) : b.length ≤ 504 := by
  unfold decErr at h
  split at h
  · cases h
  · rename_i h1
    simp [sizeB] at h1
    omega

set_option maxRecDepth 100000 in
set_option maxHeartbeats 4000000 in
theorem reread_bad (cmd : Int) (ao : Option Addr) (n cap : Nat) (l : List Ent) (s : ByteArray) (w : World) (hm : s.size ≤ 9223372036854775807) (x : Int × Int) (hx : encErr cmd l = some x) (hok : entsOk l) (hn : l.length = n) (hs : entSlice w ao l) :
    Calls Try.prog 5 #[.agg #[.int .i64 cmd, .slice ao n cap], .string s] w fun e w' => e = .returned (.bool true) ∧ Below w.heap.size w w' := by
  have bP := hide (Blk.new w #[.int .i64 cmd, .slice ao n cap] 33)
  have HX := hide hx
  have HN := hide hn
  have HS := hide hs
  clear hx hn hs
  go_enter Try.func5, Try.ntmps5
  go_wp2_with (first | (go_at_call 11; refine (begin_any _).mono ?_; rintro e w1 ⟨rfl, hb1⟩; have bP1 := (unhide bP).below hb1 (by simp); have c0 := (bP1.cell 0).trans (show _ = some (.int .i64 cmd) from rfl); have c1 := (bP1.cell 1).trans (show _ = some (.slice ao n cap) from rfl); have HB1 := hide (below_box hb1); clear hb1) | (go_at_call 9; refine (mEncode_any cmd ao n cap l w1 hok (unhide HN) (entSlice_below (unhide HS) (unhide HB1))).mono ?_; rintro e w2 ⟨ve, rfl, hve, hb2⟩; rw [unhide HX] at hve; obtain ⟨bf2, rfl, _, _⟩ := hve; rw [encOut_some (unhide HX), show strB [] = ⟨#[]⟩ from rfl]; have HB2 := hide ((unhide HB1).trans (hb2.mono (unhide HB1).size)); clear hb2))
  have hD := mDecode_any s w2 hm
  cases hx2 : decErr s.data.toList with
  | some y =>
    go_wp2_with (go_at_call 6; refine hD.mono ?_; rintro e w5 ⟨V, ve, rfl, ⟨ao5, n5, cap5, rfl, hn5, hown5, he5⟩, hb5⟩; rw [hx2] at he5; obtain ⟨bf, rfl, _, _⟩ := he5; have hcm : decCmd s.data.toList = 0 := (by simp [decCmd, hx2]); have hn0 : n5 = 0 := (by rw [← hn5]; simp [decEnts, hx2]); subst hn0; rw [hcm]; clear hown5 hn5)
    go_ret
    exact ⟨rfl, ((unhide HB2).trans (hb5.mono (unhide HB2).size)).alloc (by have := (unhide HB2).size; have := hb5.size; omega) _⟩
  | none =>
    obtain ⟨hw1, hw2, hw3⟩ := writes hx2
    have HW1 := hide hw1
    have HW2 := hide hw2
    clear hw1 hw2
    go_wp2_with fail
    refine hD.mono ?_
    rintro e w5 ⟨V, ve, rfl, ⟨ao5, n5, cap5, rfl, hn5, hown5, he5⟩, hb5⟩
    rw [hx2] at he5
    obtain rfl : ve = .nilIface := he5
    obtain ⟨hs5, _⟩ := own_slice hown5
    have hE := mEncode_any (decCmd s.data.toList) ao5 n5 cap5 (decEnts s.data.toList) (w5.alloc (.cells #[.int .i64 (decCmd s.data.toList), .slice ao5 n5 cap5] 33)) hw3 hn5 (entSlice_below hs5 (below_new _ _))
    rw [encOut_none (unhide HW1), unhide HW1, unhide HW2, strB_data] at hE
    have HB5 := hide (((unhide HB2).trans (hb5.mono (unhide HB2).size)).alloc (by have := (unhide HB2).size; have := hb5.size; omega) (.cells #[.int .i64 (decCmd s.data.toList), .slice ao5 n5 cap5] 33))
    clear hown5 hs5 hn5 hx2 hw3 hb5 hD
    generalize decCmd s.data.toList = c5 at *
    go_wp2_with (go_at_call 9; refine hE.mono ?_; rintro e w6 ⟨ve6, rfl, he6, hb6⟩; obtain rfl : ve6 = .nilIface := he6)
    go_ret
    exact ⟨rfl, (unhide HB5).trans (hb6.mono (unhide HB5).size)⟩

set_option maxRecDepth 100000 in
set_option maxHeartbeats 4000000 in
theorem reread_good (cmd : Int) (ao : Option Addr) (n cap : Nat) (l : List Ent) (s : ByteArray) (w : World) (hm : s.size ≤ 9223372036854775807) (hx : encErr cmd l = none) (hok : entsOk l) (hn : l.length = n) (h25 : n ≤ 25) (hs : entSlice w ao l) :
    Calls Try.prog 5 #[.agg #[.int .i64 cmd, .slice ao n cap], .string s] w fun e w' => e = .returned (.bool true) ∧ Below w.heap.size w w' := by
  have bP := hide (Blk.new w #[.int .i64 cmd, .slice ao n cap] 33)
  obtain ⟨hr1, hr2, hr3⟩ := reads hx hok
  have hsh := dec_short hr1
  have HX := hide hx
  have HN := hide hn
  have HS := hide hs
  clear hx hn hs
  go_enter Try.func5, Try.ntmps5
  go_wp2_with (first | (go_at_call 11; refine (begin_any _).mono ?_; rintro e w1 ⟨rfl, hb1⟩; have bP1 := (unhide bP).below hb1 (by simp); have c0 := (bP1.cell 0).trans (show _ = some (.int .i64 cmd) from rfl); have c1 := (bP1.cell 1).trans (show _ = some (.slice ao n cap) from rfl); have HB1 := hide (below_box hb1); clear hb1) | (go_at_call 9; refine (mEncode_any cmd ao n cap l w1 hok (unhide HN) (entSlice_below (unhide HS) (unhide HB1))).mono ?_; rintro e w2 ⟨ve, rfl, hve, hb2⟩; rw [unhide HX] at hve; obtain rfl : ve = .nilIface := hve; rw [encOut_none (unhide HX)]; have bP2 := bP1.below hb2 bP1.lt; have HB2 := hide ((unhide HB1).trans (hb2.mono (unhide HB1).size)); clear hb2))
  have hD1 := mDecode_any (strB (encBytes cmd l)) w2 (by rw [strB_size]; omega)
  refine hD1.mono ?_
  rintro e w3 ⟨V, ve, rfl, ⟨ao3, n3, cap3, rfl, hn3, hown3, he3⟩, hb3⟩
  rw [show (strB (encBytes cmd l)).data.toList = encBytes cmd l from rfl] at hn3 hown3 he3 ⊢
  rw [hr1] at he3
  rw [hr3] at hn3 hown3
  rw [hr2]
  obtain rfl : ve = .nilIface := he3
  obtain rfl : n = n3 := by rw [← hn3]; exact (unhide HN).symm
  obtain ⟨hs3, _⟩ := own_slice hown3
  have bP3 := (bP2.below hb3 bP2.lt).alloc (.cells #[.int .i64 cmd, .slice ao3 n cap3] 33)
  have bQ3 := Blk.new w3 #[.int .i64 cmd, .slice ao3 n cap3] 33
  have HB3 := hide (((unhide HB2).trans (hb3.mono (unhide HB2).size)).alloc (by have := (unhide HB2).size; have := hb3.size; omega) (.cells #[.int .i64 cmd, .slice ao3 n cap3] 33))
  have HSP := hide (entSlice_below (unhide HS) (unhide HB3))
  have HSQ := hide (entSlice_below hs3 (below_new w3 (.cells #[.int .i64 cmd, .slice ao3 n cap3] 33)))
  clear hown3 hs3 hn3 hD1 hb3 bP1 bP2 c0 c1 hr1 hr2 hr3 hsh
  have p0 := (bP3.cell 0).trans (show _ = some (.int .i64 cmd) from rfl)
  have p1 := (bP3.cell 1).trans (show _ = some (.slice ao n cap) from rfl)
  have q0 := (bQ3.cell 0).trans (show _ = some (.int .i64 cmd) from rfl)
  have q1 := (bQ3.cell 1).trans (show _ = some (.slice ao3 n cap3) from rfl)
  go_wp2_with fail
  generalize w3.heap.size = Q at *
  generalize w3.alloc (.cells #[.int .i64 cmd, .slice ao3 n cap3] 33) = W at *
  go_loopw [10] (fun i wr => ∃ (k d : Nat), k ≤ n ∧ i = .int .i64 k ∧ wr = W.drewN d) (fun i _ => n - (intOf i).toNat)
  case atStart => exact ⟨0, 0, by omega, rfl, rfl⟩
  case round =>
    obtain ⟨k, d, hk, rfl, rfl⟩ := hrel
    by_cases hlt : k < n
    · have hkL : k < l.length := by rw [unhide HN]; exact hlt
      rcases unhide HSP with h0 | ⟨b1, o1, rfl, h1⟩
      · rw [h0] at hkL; simp at hkL
      · rcases unhide HSQ with h0 | ⟨b2, o2, rfl, h2⟩
        · rw [h0] at hkL; simp at hkL
        · obtain ⟨d0, d1, d2, d3⟩ := h1 k hkL
          obtain ⟨y0, y1, y2, y3⟩ := h2 k hkL
          have j0 : (0 : Int) ≤ (k : Int) := by omega
          have j1 : (k : Int) < (n : Int) := by omega
          clear h1 h2
          generalize l[k] = E at *
          go_wp2_with fail
          go_quiet (fail)
          go_wp2
          go_roundw
          case rel => exact ⟨k + 1, d + _, by omega, by go_num, rfl⟩
          case measure => simp [intOf]; omega
    · have hkn : k = n := by omega
      subst hkn
      have HBd := hide (below_drewN (unhide HB3) d)
      go_wp2_with fail
      have hD := mDecode_any s (W.drewN d) hm
      cases hx2 : decErr s.data.toList with
      | some y =>
        go_wp2_with (go_at_call 6; refine hD.mono ?_; rintro e w5 ⟨V, ve, rfl, ⟨ao5, n5, cap5, rfl, hn5, hown5, he5⟩, hb5⟩; rw [hx2] at he5; obtain ⟨bf, rfl, _, _⟩ := he5; have hcm : decCmd s.data.toList = 0 := (by simp [decCmd, hx2]); have hn0 : n5 = 0 := (by rw [← hn5]; simp [decEnts, hx2]); subst hn0; rw [hcm]; clear hown5 hn5)
        go_ret
        exact ⟨rfl, ((unhide HBd).trans (hb5.mono (unhide HBd).size)).alloc (by have := (unhide HBd).size; have := hb5.size; omega) _⟩
      | none =>
        obtain ⟨hw1, hw2, hw3⟩ := writes hx2
        have HW1 := hide hw1
        have HW2 := hide hw2
        clear hw1 hw2
        go_wp2_with fail
        refine hD.mono ?_
        rintro e w5 ⟨V, ve, rfl, ⟨ao5, n5, cap5, rfl, hn5, hown5, he5⟩, hb5⟩
        rw [hx2] at he5
        obtain rfl : ve = .nilIface := he5
        obtain ⟨hs5, _⟩ := own_slice hown5
        have hE := mEncode_any (decCmd s.data.toList) ao5 n5 cap5 (decEnts s.data.toList) (w5.alloc (.cells #[.int .i64 (decCmd s.data.toList), .slice ao5 n5 cap5] 33)) hw3 hn5 (entSlice_below hs5 (below_new _ _))
        rw [encOut_none (unhide HW1), unhide HW1, unhide HW2, strB_data] at hE
        have HB5 := hide (((unhide HBd).trans (hb5.mono (unhide HBd).size)).alloc (by have := (unhide HBd).size; have := hb5.size; omega) (.cells #[.int .i64 (decCmd s.data.toList), .slice ao5 n5 cap5] 33))
        clear hown5 hs5 hn5 hx2 hw3 hb5 hD
        generalize decCmd s.data.toList = c5 at *
        go_wp2_with (go_at_call 9; refine hE.mono ?_; rintro e w6 ⟨ve6, rfl, he6, hb6⟩; obtain rfl : ve6 = .nilIface := he6)
        go_ret
        exact ⟨rfl, (unhide HB5).trans (hb6.mono (unhide HB5).size)⟩

theorem reread_any (cmd : Int) (ao : Option Addr) (n cap : Nat) (l : List Ent) (s : ByteArray) (w : World) (hm : s.size ≤ 9223372036854775807) (hok : entsOk l) (hn : l.length = n) (hs : entSlice w ao l) :
    Calls Try.prog 5 #[.agg #[.int .i64 cmd, .slice ao n cap], .string s] w fun e w' => e = .returned (.bool true) ∧ Below w.heap.size w w' := by
  cases hx : encErr cmd l with
  | some x => exact reread_bad cmd ao n cap l s w hm x hx hok hn hs
  | none =>
    refine reread_good cmd ao n cap l s w hm hx hok hn ?_ hs
    unfold encErr at hx
    split at hx
    · cases hx
    · split at hx
      · cases hx
      · omega

end Go.Proofs.Ytdnpeefnobjfaaa
