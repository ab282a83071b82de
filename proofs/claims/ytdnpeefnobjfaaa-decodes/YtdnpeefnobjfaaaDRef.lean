/- What the reference's entry and Decode answer. -/
import Derived.Test.YtdnpeefnobjfaaaDec
import Derived.Test.YtdnpeefnobjfaaaRefEnc
namespace Go.Proofs.Ytdnpeefnobjfaaa
open Go.RowKit
attribute [local go_sem ↓] Go.wp_at_zero Go.wp_at_succ

theorem metB_out {m : Int} (h0 : 0 ≤ m) : metB m = false ↔ m = 0 ∨ 16 < m := by
  simp only [metB, Bool.and_eq_false_iff, decide_eq_false_iff_not]; omega

theorem number_off (s : ByteArray) (i n : Nat) (J K : Int) (w : World) (hJ : (i : Int) = J) (hK : (n : Int) = K) (h : i + n ≤ s.size) (hs : s.size ≤ 1000) (hn : n ≤ 4) :
    Calls Try.prog 29 #[.string s, .int .i64 J, .int .i64 K] w fun e w' => e = .returned (.int .i64 (numAt s.data.toList i n)) ∧ w' = w := by
  subst hJ hK; exact number_any s i n w h hs hn

set_option maxHeartbeats 1000000 in
theorem entry_any (s : ByteArray) (i : Nat) (w : World) (h : i + 20 ≤ s.size) (hs : s.size ≤ 1000) :
    Calls Try.prog 30 #[.string s, .int .i64 i] w fun e w' => e = .returned (.tuple #[.agg #[.int .u32 (entAt s.data.toList i).addr, .int .i64 (entAt s.data.toList i).len, .int .i64 (entAt s.data.toList i).tag, .int .i64 (entAt s.data.toList i).met], .int .i64 (errAt s.data.toList i)]) ∧ Below w.heap.size w w' := by
  have N2 := hide (fun W => number_off s (i + 2) 2 ((i : Int) + 2) 2 W (by omega) rfl (by omega) hs (by omega))
  have N16 := hide (fun W => number_off s (i + 16) 4 ((i : Int) + 16) 4 W (by omega) rfl (by omega) hs (by omega))
  have N4 := hide (fun W => number_off s (i + 4) 4 ((i : Int) + 4) 4 W (by omega) rfl (by omega) hs (by omega))
  have N8 := hide (fun W => number_off s (i + 8) 4 ((i : Int) + 8) 4 W (by omega) rfl (by omega) hs (by omega))
  have N12 := hide (fun W => number_off s (i + 12) 4 ((i : Int) + 12) 4 W (by omega) rfl (by omega) hs (by omega))
  have N0 := hide (fun W => number_off s i 2 (i : Int) 2 W rfl rfl (by omega) hs (by omega))
  have hib : i ≤ 1000 := by omega
  rw [numAt_two] at N2 N0
  rw [numAt_four] at N16 N4 N8 N12
  have r2 := sh_range s.data.toList (i + 2)
  have r4 := wd_range s.data.toList (i + 4)
  have r8 := wd_range s.data.toList (i + 8)
  have r16 := wd_range s.data.toList (i + 16)
  have HE := hide (show entAt s.data.toList i = ⟨wd s.data.toList (i + 4), maskLen (wd s.data.toList (i + 8)), sh s.data.toList (i + 2), wd s.data.toList (i + 16)⟩ from rfl)
  have HR := hide (show errAt s.data.toList i = if sh s.data.toList i ≠ 2 then 5 else if pfxB (wd s.data.toList (i + 4)) (maskLen (wd s.data.toList (i + 8))) = false then 6 else if wd s.data.toList (i + 12) ≠ 0 then 7 else if metB (wd s.data.toList (i + 16)) = false then 8 else 0 from rfl)
  generalize sh s.data.toList i = F at *
  generalize sh s.data.toList (i + 2) = T at *
  generalize wd s.data.toList (i + 4) = A at *
  generalize wd s.data.toList (i + 8) = M at *
  generalize wd s.data.toList (i + 12) = Hp at *
  generalize wd s.data.toList (i + 16) = Mt at *
  have HL := hide (fun W => length_any M W r8.1 r8.2)
  generalize hl : maskLen M = l at *
  have hlr : -1 ≤ l ∧ l ≤ 32 := by
    rw [← hl]
    rcases maskLen_cases M with ⟨k, hk, rfl⟩ | hn
    · rw [maskLen_at k hk]; omega
    · rw [maskLen_none hn]; omega
  have HP := hide (fun W => IsPrefix_any A l W r4.1 r4.2)
  generalize hp : pfxB A l = p at *
  have kA : IntKind.u32.wrap A = A := by rw [IntKind.wrap_u32']; omega
  clear hl hp h hs
  go_enter Try.func30, Try.ntmps30
  go_wp2_with fail
  refine (unhide N2 _).mono ?_
  rintro e w1 ⟨rfl, rfl⟩
  go_wp2_with fail
  refine (unhide N16 _).mono ?_
  rintro e w1 ⟨rfl, rfl⟩
  go_wp2_with fail
  refine (unhide N4 _).mono ?_
  rintro e w1 ⟨rfl, rfl⟩
  go_wp2_with fail
  refine (unhide N8 _).mono ?_
  rintro e w1 ⟨rfl, rfl⟩
  go_wp2_with fail
  refine (unhide HL _).mono ?_
  rintro e w1 ⟨rfl, rfl⟩
  go_wp2_with fail
  refine (unhide HP _).mono ?_
  rintro e w2 ⟨rfl, hb2⟩
  have q0 : w2.cell? ⟨w.heap.size, 0, none⟩ = some (.int .u32 0) := (hb2.cell (p := ⟨w.heap.size, 0, none⟩) (by simp; omega)).trans (by simp)
  have q1 : w2.cell? ⟨w.heap.size, 1, none⟩ = some (.int .i64 0) := (hb2.cell (p := ⟨w.heap.size, 1, none⟩) (by simp; omega)).trans (by simp)
  have q2 : w2.cell? ⟨w.heap.size, 2, none⟩ = some (.int .i64 0) := (hb2.cell (p := ⟨w.heap.size, 2, none⟩) (by simp; omega)).trans (by simp)
  have q3 : w2.cell? ⟨w.heap.size, 3, none⟩ = some (.int .i64 0) := (hb2.cell (p := ⟨w.heap.size, 3, none⟩) (by simp; omega)).trans (by simp)
  have f0 : w2.frozen? ⟨w.heap.size, 0, none⟩ = false := (hb2.frozen (p := ⟨w.heap.size, 0, none⟩) (by simp; omega)).trans (by simp)
  have f1 : w2.frozen? ⟨w.heap.size, 1, none⟩ = false := (hb2.frozen (p := ⟨w.heap.size, 1, none⟩) (by simp; omega)).trans (by simp)
  have f2 : w2.frozen? ⟨w.heap.size, 2, none⟩ = false := (hb2.frozen (p := ⟨w.heap.size, 2, none⟩) (by simp; omega)).trans (by simp)
  have f3 : w2.frozen? ⟨w.heap.size, 3, none⟩ = false := (hb2.frozen (p := ⟨w.heap.size, 3, none⟩) (by simp; omega)).trans (by simp)
  have e0 : w2.cell? ⟨w.heap.size + 1, 0, none⟩ = some (.int .u32 A) := (hb2.cell (p := ⟨w.heap.size + 1, 0, none⟩) (by simp)).trans (by simp)
  have e1 : w2.cell? ⟨w.heap.size + 1, 1, none⟩ = some (.int .i64 l) := (hb2.cell (p := ⟨w.heap.size + 1, 1, none⟩) (by simp)).trans (by simp)
  have e2 : w2.cell? ⟨w.heap.size + 1, 2, none⟩ = some (.int .i64 T) := (hb2.cell (p := ⟨w.heap.size + 1, 2, none⟩) (by simp)).trans (by simp)
  have e3 : w2.cell? ⟨w.heap.size + 1, 3, none⟩ = some (.int .i64 Mt) := (hb2.cell (p := ⟨w.heap.size + 1, 3, none⟩) (by simp)).trans (by simp)
  have hz : w.heap.size + 1 < w2.heap.size := by have := hb2.size; simp at this; omega
  have hb : Below w.heap.size w w2 := below_box (below_box hb2)
  have hc : ∃ c : Int, Hid (errAt s.data.toList i = c) ∧ (((F != 2) = true ∧ c = 5) ∨ ((F != 2) = false ∧ p = false ∧ c = 6) ∨ ((F != 2) = false ∧ p = true ∧ (Hp != 0) = true ∧ c = 7) ∨ ((F != 2) = false ∧ p = true ∧ (Hp != 0) = false ∧ (Mt == 0) = true ∧ c = 8) ∨ ((F != 2) = false ∧ p = true ∧ (Hp != 0) = false ∧ (Mt == 0) = false ∧ decide (16 < Mt) = true ∧ c = 8) ∨ ((F != 2) = false ∧ p = true ∧ (Hp != 0) = false ∧ (Mt == 0) = false ∧ decide (16 < Mt) = false ∧ c = 0)) := by
    refine ⟨_, unhide HR, ?_⟩
    by_cases h1 : F = 2
    · cases p
      · right; left; simp [h1]
      · by_cases h3 : Hp = 0
        · have hmo := metB_out r16.1
          by_cases h4 : Mt = 0
          · right; right; right; left
            have : metB Mt = false := hmo.2 (.inl h4)
            simp [h1, h3, h4, metB]
          · by_cases h5 : 16 < Mt
            · right; right; right; right; left
              have : metB Mt = false := hmo.2 (.inr h5)
              simp [h1, h3, h4, h5, this]
            · right; right; right; right; right
              have : metB Mt = true := by
                cases hm : metB Mt
                · rcases hmo.1 hm with h | h <;> omega
                · rfl
              simp [h1, h3, h4, this]; omega
        · right; right; left; simp [h1, h3]
    · left; simp [h1]
  obtain ⟨c, HCE, hcs⟩ := hc
  have HFIN : Hid (Value.tuple #[.agg #[.int .u32 A, .int .i64 l, .int .i64 T, .int .i64 Mt], .int .i64 c] = .tuple #[.agg #[.int .u32 (entAt s.data.toList i).addr, .int .i64 (entAt s.data.toList i).len, .int .i64 (entAt s.data.toList i).tag, .int .i64 (entAt s.data.toList i).met], .int .i64 (errAt s.data.toList i)]) := by
    rw [Hid, unhide HE, unhide HCE]
  clear hb2 HR HE HCE
  rcases hcs with ⟨h1, rfl⟩ | ⟨h1, rfl, rfl⟩ | ⟨h1, rfl, h3, rfl⟩ | ⟨h1, rfl, h3, h4, rfl⟩ | ⟨h1, rfl, h3, h4, h5, rfl⟩ | ⟨h1, rfl, h3, h4, h5, rfl⟩
  all_goals
    go_wp2_with fail
    refine (unhide N0 _).mono ?_
    rintro e w3 ⟨rfl, rfl⟩
    go_wp2_with (go_at_call 29; refine (unhide N12 _).mono ?_; rintro e w4 ⟨rfl, rfl⟩)
    refine bodyPost_ret (v := .tuple #[.agg #[.int .u32 A, .int .i64 l, .int .i64 T, .int .i64 Mt], .int .i64 _]) (by simp [results, Try.results30, go_sem, q0, q1, q2, q3]; rfl) rfl ⟨by rw [← unhide HFIN], (((hb.setCell (by simp) _).setCell (by simp) _).setCell (by simp) _).setCell (by simp) _⟩

end Go.Proofs.Ytdnpeefnobjfaaa
