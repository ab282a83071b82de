/- The statement's function Decodes: it says yes at every two texts. -/
import Derived.Test.YtdnpeefnobjfaaaDecs
namespace Go.Proofs.Ytdnpeefnobjfaaa
open Go.RowKit
attribute [local go_sem ↓] Go.wp_at_zero Go.wp_at_succ

/-- The document's first packet. -/
def exB : List UInt8 := [2, 2, 0, 0, 0, 2, 0, 5, 10, 0, 0, 0, 255, 0, 0, 0, 0, 0, 0, 0, 0, 0, 0, 3]
theorem ex_err : decErr exB = none := by decide
theorem ex_cmd : decCmd exB = 2 := by decide
theorem ex_ent : entAt exB 4 = ⟨167772160, 8, 5, 3⟩ := by
  have h1 : wd exB (4 + 4) = 167772160 := by decide
  have h2 : maskLen (wd exB (4 + 8)) = 8 := by decide
  have h3 : sh exB (4 + 2) = 5 := by decide
  have h4 : wd exB (4 + 16) = 3 := by decide
  unfold entAt
  rw [h1, h2, h3, h4]
theorem ex_ents : decEnts exB = [⟨167772160, 8, 5, 3⟩] := by
  have h : ents exB = [entAt exB 4] := rfl
  have ha : exB ≠ askAll := by decide
  unfold decEnts
  rw [ex_err, if_neg (by simp), if_neg ha, h, ex_ent]

theorem mDecode_ex (w : World) : Calls Try.prog 6 #[.string ⟨#[2, 2, 0, 0, 0, 2, 0, 5, 10, 0, 0, 0, 255, 0, 0, 0, 0, 0, 0, 0, 0, 0, 0, 3]⟩] w fun e w' => ∃ g cap, e = .returned (.tuple #[.agg #[.int .i64 2, .slice (some ⟨g, 0, none⟩) 1 cap], .nilIface]) ∧ w'.cell? ⟨g, 0, none⟩ = some (.int .u32 167772160) ∧ w'.cell? ⟨g, 1, none⟩ = some (.int .i64 8) ∧ w'.cell? ⟨g, 2, none⟩ = some (.int .i64 5) ∧ w'.cell? ⟨g, 3, none⟩ = some (.int .i64 3) ∧ Below w.heap.size w w' := by
  refine (mDecode_any _ w (by decide)).mono ?_
  rintro e w' ⟨V, ve, rfl, ⟨ao, n, cap, rfl, hn, ho, he⟩, hb⟩
  have hx : decErr exB = none := ex_err
  change (decEnts exB).length = n at hn
  change w'.ownsRow w.heap.size 42 4 (.slice ao n cap) n (entList (decEnts exB)) at ho
  change errIs w' ve (decErr exB) at he
  rw [ex_ents] at hn ho
  rw [ex_err] at he
  obtain rfl : n = 1 := hn.symm
  obtain rfl : ve = .nilIface := he
  rcases (own_slice ho).1 with h0 | ⟨g, off, rfl, hc⟩
  · cases h0
  · obtain rfl : off = 0 := by
      rcases ho.2 with ⟨hv, _⟩ | ⟨g', c', cur, hv, _⟩
      · simp at hv
      · simp at hv; exact hv.1.2
    obtain ⟨c0, c1, c2, c3⟩ := hc 0 (by decide)
    refine ⟨g, cap, ?_, c0, c1, c2, c3, hb⟩
    show Ending.returned (.tuple #[.agg #[.int .i64 (decCmd exB), _], _]) = _
    rw [ex_cmd]

set_option maxRecDepth 100000 in
set_option maxHeartbeats 1000000 in
theorem Decodes_any (s t : ByteArray) (w : World) (hs : s.size ≤ 9223372036854775807) (ht : t.size ≤ 9223372036854775807) :
    Calls Try.prog 3 #[.string s, .string t] w fun e w' => e = .returned (.bool true) ∧ Below w.heap.size w w' := by
  go_enter Try.func3, Try.ntmps3
  go_wp2_with fail
  refine (mDecode_ex _).mono ?_
  rintro e w1 ⟨g, cap, rfl, c0, c1, c2, c3, hb1⟩
  have I1 := hide (Inv_below (Inv_below (Inv_start w) hb1) (below_new w1 (boxP 2 (some ⟨g, 0, none⟩) 1 cap)))
  have E1 := hide ((below_box hb1).trans ((below_new w1 (boxP 2 (some ⟨g, 0, none⟩) 1 cap)).mono (by have := hb1.size; simp at this; omega)))
  have hg := World.block_lt_of_cell? w1 _ c0
  have hg : g < w1.heap.size := hg
  clear hb1
  go_wp2_with fail
  refine (decodes_any w.heap.size w.heap.size 0 s _ (unhide I1) (Nat.le_refl _) (by omega) hs).mono ?_
  rintro e w2 ⟨rfl, i2, b2⟩
  have I2 := hide i2
  have E2 := hide ((unhide E1).trans b2)
  clear i2 b2 I1 E1 c0 c1 c2 c3 hg
  go_wp2_with fail
  refine (looks_any w.heap.size w.heap.size (0 + 8) _ (.inl (unhide I2)) (Nat.le_refl _) (by omega)).mono ?_
  rintro e w3 ⟨rfl, i3, b3⟩
  have I3 := hide i3
  have E3 := hide ((unhide E2).trans b3)
  clear i3 b3 I2 E2
  go_wp2_with fail
  refine (decodes_any w.heap.size w.heap.size (0 + 8 + 1) t _ (unhide I3) (Nat.le_refl _) (by omega) ht).mono ?_
  rintro e w4 ⟨rfl, i4, b4⟩
  have I4 := hide i4
  have E4 := hide ((unhide E3).trans b4)
  clear i4 b4 I3 E3
  go_wp2_with fail
  refine (looks_any w.heap.size w.heap.size (0 + 8 + 1 + 8) _ (.inl (unhide I4)) (Nat.le_refl _) (by omega)).mono ?_
  rintro e w5 ⟨rfl, i5, b5⟩
  have I5 := hide i5
  have E5 := hide ((unhide E4).trans b5)
  clear i5 b5 I4 E4
  go_wp2_with fail
  refine (decodes_any w.heap.size w.heap.size (0 + 8 + 1 + 8 + 1) s _ (unhide I5) (Nat.le_refl _) (by omega) hs).mono ?_
  rintro e w6 ⟨rfl, i6, b6⟩
  have I6 := hide i6
  have E6 := hide ((unhide E5).trans b6)
  clear i6 b6 I5 E5
  go_wp2_with fail
  refine (looks_any w.heap.size w.heap.size (0 + 8 + 1 + 8 + 1 + 8) _ (.inl (unhide I6)) (Nat.le_refl _) (by omega)).mono ?_
  rintro e w7 ⟨rfl, _, b7⟩
  have E7 := hide ((unhide E6).trans b7)
  clear b7 I6 E6
  go_wp2
  go_ret
  exact ⟨rfl, unhide E7⟩

end Go.Proofs.Ytdnpeefnobjfaaa
