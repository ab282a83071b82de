/- What the reference's entry and Decode answer. -/
import Derived.Test.YtdnpeefnobjfaaaGreatDoorDecM
import Derived.Test.YtdnpeefnobjfaaaGreatDoorRefM
import Derived.Test.YtdnpeefnobjfaaaGreatDoorBack
namespace Go.Proofs.YtdnpeefnobjfaaaGreatDoor
open Go.RowKit
attribute [local go_sem ↓] Go.wp_at_zero Go.wp_at_succ

theorem metB_out {m : Int} (h0 : 0 ≤ m) : metB m = false ↔ m = 0 ∨ 16 < m := by
  simp only [metB, Bool.and_eq_false_iff, decide_eq_false_iff_not]; omega

theorem number_off (s : ByteArray) (i n : Nat) (J K : Int) (w : World) (hJ : (i : Int) = J) (hK : (n : Int) = K) (h : i + n ≤ s.size) (hs : s.size ≤ 1000) (hn : n ≤ 4) :
    Calls Tryz.prog 166 #[.string s, .int .i64 J, .int .i64 K] w fun e w' => e = .returned (.int .i64 (numAt s.data.toList i n)) ∧ w' = w := by
  subst hJ hK; exact number_any s i n w h hs hn

set_option maxHeartbeats 1000000 in
theorem entry_any (s : ByteArray) (i : Nat) (w : World) (h : i + 20 ≤ s.size) (hs : s.size ≤ 1000) :
    Calls Tryz.prog 167 #[.string s, .int .i64 i] w fun e w' => e = .returned (.tuple #[.agg #[.int .u32 (entAt s.data.toList i).addr, .int .i64 (entAt s.data.toList i).len, .int .i64 (entAt s.data.toList i).tag, .int .i64 (entAt s.data.toList i).met], .int .i64 (errAt s.data.toList i)]) ∧ Below w.heap.size w w' := by
  have N2 := hide (fun W => number_off s (i + 2) 2 ((i : Int) + 2) 2 W (by omega) rfl (by omega) hs (by omega))
  have N16 := hide (fun W => number_off s (i + 16) 4 ((i : Int) + 16) 4 W (by omega) rfl (by omega) hs (by omega))
  have N4 := hide (fun W => number_off s (i + 4) 4 ((i : Int) + 4) 4 W (by omega) rfl (by omega) hs (by omega))
  have N8 := hide (fun W => number_off s (i + 8) 4 ((i : Int) + 8) 4 W (by omega) rfl (by omega) hs (by omega))
  have N12 := hide (fun W => number_off s (i + 12) 4 ((i : Int) + 12) 4 W (by omega) rfl (by omega) hs (by omega))
  have N0 := hide (fun W => number_off s i 2 (i : Int) 2 W rfl rfl (by omega) hs (by omega))
  have hib : i ≤ 1000 := by omega
  rw [numAt_two] at N2 N0
  rw [numAt_four] at N16 N4 N8 N12
  have r2 := sh_range s.data.toList (i + 2)
  have r4 := wd_range s.data.toList (i + 4)
  have r8 := wd_range s.data.toList (i + 8)
  have r16 := wd_range s.data.toList (i + 16)
  have HE := hide (show entAt s.data.toList i = ⟨wd s.data.toList (i + 4), maskLen (wd s.data.toList (i + 8)), sh s.data.toList (i + 2), wd s.data.toList (i + 16)⟩ from rfl)
  have HR := hide (show errAt s.data.toList i = if sh s.data.toList i ≠ 2 then 5 else if pfxB (wd s.data.toList (i + 4)) (maskLen (wd s.data.toList (i + 8))) = false then 6 else if wd s.data.toList (i + 12) ≠ 0 then 7 else if metB (wd s.data.toList (i + 16)) = false then 8 else 0 from rfl)
  generalize sh s.data.toList i = F at *
  generalize sh s.data.toList (i + 2) = T at *
  generalize wd s.data.toList (i + 4) = A at *
  generalize wd s.data.toList (i + 8) = M at *
  generalize wd s.data.toList (i + 12) = Hp at *
  generalize wd s.data.toList (i + 16) = Mt at *
  have HL := hide (fun W => length_any M W r8.1 r8.2)
  generalize hl : maskLen M = l at *
  have hlr : -1 ≤ l ∧ l ≤ 32 := by
    rw [← hl]
    rcases maskLen_cases M with ⟨k, hk, rfl⟩ | hn
    · rw [maskLen_at k hk]; omega
    · rw [maskLen_none hn]; omega
  have HP := hide (fun W => IsPrefix_any A l W r4.1 r4.2)
  generalize hp : pfxB A l = p at *
  have kA : IntKind.u32.wrap A = A := by rw [IntKind.wrap_u32']; omega
  clear hl hp h hs
  go_enter Tryz.func167, Tryz.ntmps167
  go_wp2_with fail
  refine (unhide N2 _).mono ?_
  rintro e w1 ⟨rfl, rfl⟩
  go_wp2_with fail
  refine (unhide N16 _).mono ?_
  rintro e w1 ⟨rfl, rfl⟩
  go_wp2_with fail
  refine (unhide N4 _).mono ?_
  rintro e w1 ⟨rfl, rfl⟩
  go_wp2_with fail
  refine (unhide N8 _).mono ?_
  rintro e w1 ⟨rfl, rfl⟩
  go_wp2_with fail
  refine (unhide HL _).mono ?_
  rintro e w1 ⟨rfl, rfl⟩
  go_wp2_with fail
  refine (unhide HP _).mono ?_
  rintro e w2 ⟨rfl, hb2⟩
  have q0 : w2.cell? ⟨w.heap.size, 0, none⟩ = some (.int .u32 0) := (hb2.cell (p := ⟨w.heap.size, 0, none⟩) (by simp; omega)).trans (by simp)
  have q1 : w2.cell? ⟨w.heap.size, 1, none⟩ = some (.int .i64 0) := (hb2.cell (p := ⟨w.heap.size, 1, none⟩) (by simp; omega)).trans (by simp)
  have q2 : w2.cell? ⟨w.heap.size, 2, none⟩ = some (.int .i64 0) := (hb2.cell (p := ⟨w.heap.size, 2, none⟩) (by simp; omega)).trans (by simp)
  have q3 : w2.cell? ⟨w.heap.size, 3, none⟩ = some (.int .i64 0) := (hb2.cell (p := ⟨w.heap.size, 3, none⟩) (by simp; omega)).trans (by simp)
  have f0 : w2.frozen? ⟨w.heap.size, 0, none⟩ = false := (hb2.frozen (p := ⟨w.heap.size, 0, none⟩) (by simp; omega)).trans (by simp)
  have f1 : w2.frozen? ⟨w.heap.size, 1, none⟩ = false := (hb2.frozen (p := ⟨w.heap.size, 1, none⟩) (by simp; omega)).trans (by simp)
  have f2 : w2.frozen? ⟨w.heap.size, 2, none⟩ = false := (hb2.frozen (p := ⟨w.heap.size, 2, none⟩) (by simp; omega)).trans (by simp)
  have f3 : w2.frozen? ⟨w.heap.size, 3, none⟩ = false := (hb2.frozen (p := ⟨w.heap.size, 3, none⟩) (by simp; omega)).trans (by simp)
  have e0 : w2.cell? ⟨w.heap.size + 1, 0, none⟩ = some (.int .u32 A) := (hb2.cell (p := ⟨w.heap.size + 1, 0, none⟩) (by simp)).trans (by simp)
  have e1 : w2.cell? ⟨w.heap.size + 1, 1, none⟩ = some (.int .i64 l) := (hb2.cell (p := ⟨w.heap.size + 1, 1, none⟩) (by simp)).trans (by simp)
  have e2 : w2.cell? ⟨w.heap.size + 1, 2, none⟩ = some (.int .i64 T) := (hb2.cell (p := ⟨w.heap.size + 1, 2, none⟩) (by simp)).trans (by simp)
  have e3 : w2.cell? ⟨w.heap.size + 1, 3, none⟩ = some (.int .i64 Mt) := (hb2.cell (p := ⟨w.heap.size + 1, 3, none⟩) (by simp)).trans (by simp)
  have hz : w.heap.size + 1 < w2.heap.size := by have := hb2.size; simp at this; omega
  have hb : Below w.heap.size w w2 := below_box (below_box hb2)
  have hc : ∃ c : Int, Hid (errAt s.data.toList i = c) ∧ (((F != 2) = true ∧ c = 5) ∨ ((F != 2) = false ∧ p = false ∧ c = 6) ∨ ((F != 2) = false ∧ p = true ∧ (Hp != 0) = true ∧ c = 7) ∨ ((F != 2) = false ∧ p = true ∧ (Hp != 0) = false ∧ (Mt == 0) = true ∧ c = 8) ∨ ((F != 2) = false ∧ p = true ∧ (Hp != 0) = false ∧ (Mt == 0) = false ∧ decide (16 < Mt) = true ∧ c = 8) ∨ ((F != 2) = false ∧ p = true ∧ (Hp != 0) = false ∧ (Mt == 0) = false ∧ decide (16 < Mt) = false ∧ c = 0)) := by
    refine ⟨_, unhide HR, ?_⟩
    by_cases h1 : F = 2
    · cases p
      · right; left; simp [h1]
      · by_cases h3 : Hp = 0
        · have hmo := metB_out r16.1
          by_cases h4 : Mt = 0
          · right; right; right; left
            have : metB Mt = false := hmo.2 (.inl h4)
            simp [h1, h3, h4, metB]
          · by_cases h5 : 16 < Mt
            · right; right; right; right; left
              have : metB Mt = false := hmo.2 (.inr h5)
              simp [h1, h3, h4, h5, this]
            · right; right; right; right; right
              have : metB Mt = true := by
                cases hm : metB Mt
                · rcases hmo.1 hm with h | h <;> omega
                · rfl
              simp [h1, h3, h4, this]; omega
        · right; right; left; simp [h1, h3]
    · left; simp [h1]
  obtain ⟨c, HCE, hcs⟩ := hc
  have HFIN : Hid (Value.tuple #[.agg #[.int .u32 A, .int .i64 l, .int .i64 T, .int .i64 Mt], .int .i64 c] = .tuple #[.agg #[.int .u32 (entAt s.data.toList i).addr, .int .i64 (entAt s.data.toList i).len, .int .i64 (entAt s.data.toList i).tag, .int .i64 (entAt s.data.toList i).met], .int .i64 (errAt s.data.toList i)]) := by
    rw [Hid, unhide HE, unhide HCE]
  clear hb2 HR HE HCE
  rcases hcs with ⟨h1, rfl⟩ | ⟨h1, rfl, rfl⟩ | ⟨h1, rfl, h3, rfl⟩ | ⟨h1, rfl, h3, h4, rfl⟩ | ⟨h1, rfl, h3, h4, h5, rfl⟩ | ⟨h1, rfl, h3, h4, h5, rfl⟩
  all_goals
    go_wp2_with fail
    refine (unhide N0 _).mono ?_
    rintro e w3 ⟨rfl, rfl⟩
    go_wp2_with (go_at_call 166; refine (unhide N12 _).mono ?_; rintro e w4 ⟨rfl, rfl⟩)
    refine bodyPost_ret (v := .tuple #[.agg #[.int .u32 A, .int .i64 l, .int .i64 T, .int .i64 Mt], .int .i64 _]) (by simp [results, Tryz.results167, go_sem, q0, q1, q2, q3]; rfl) rfl ⟨by rw [← unhide HFIN], (((hb.setCell (by simp) _).setCell (by simp) _).setCell (by simp) _).setCell (by simp) _⟩

end Go.Proofs.YtdnpeefnobjfaaaGreatDoor

/- What the reference's Decode answers: just what the program's does. -/
namespace Go.Proofs.YtdnpeefnobjfaaaGreatDoor
open Go.RowKit
attribute [local go_sem ↓] Go.wp_at_zero Go.wp_at_succ

abbrev zeroF : Obj := .cells #[.int .i64 0, .int .i64 0, .bool false] 150
abbrev dW (w : World) : World := ((w.alloc zeroP).alloc zeroF).alloc zeroP
theorem dW_size (w : World) : (dW w).heap.size = w.heap.size + 1 + 1 + 1 := by simp
structure DF (w wr : World) : Prop where
  a0 : wr.cell? ⟨w.heap.size, 0, none⟩ = some (.int .i64 0)
  a1 : wr.cell? ⟨w.heap.size, 1, none⟩ = some (.slice none 0 0)
  b0 : wr.cell? ⟨w.heap.size + 1, 0, none⟩ = some (.int .i64 0)
  b1 : wr.cell? ⟨w.heap.size + 1, 1, none⟩ = some (.int .i64 0)
  b2 : wr.cell? ⟨w.heap.size + 1, 2, none⟩ = some (.bool false)
  c0 : wr.cell? ⟨w.heap.size + 1 + 1, 0, none⟩ = some (.int .i64 0)
  c1 : wr.cell? ⟨w.heap.size + 1 + 1, 1, none⟩ = some (.slice none 0 0)
  f0 : wr.frozen? ⟨w.heap.size, 0, none⟩ = false
  f1 : wr.frozen? ⟨w.heap.size, 1, none⟩ = false
  g0 : wr.frozen? ⟨w.heap.size + 1, 0, none⟩ = false
  g1 : wr.frozen? ⟨w.heap.size + 1, 1, none⟩ = false
  g2 : wr.frozen? ⟨w.heap.size + 1, 2, none⟩ = false
  size : w.heap.size + 1 + 1 < wr.heap.size
  below : Below w.heap.size w wr
theorem dW_facts {w wr : World} (hb : Below (w.heap.size + 1 + 1 + 1) (dW w) wr) : DF w wr := by
  have h0 : (dW w).heap[w.heap.size]? = some zeroP := (Below.heap_alloc _ _ _ (by simp; omega)).trans ((Below.heap_alloc _ _ _ (by simp)).trans (heap_alloc_new w _))
  have h1 : (dW w).heap[w.heap.size + 1]? = some zeroF := (Below.heap_alloc _ _ _ (by simp)).trans (by have := heap_alloc_new (w.alloc zeroP) zeroF; rwa [show (w.alloc zeroP).heap.size = w.heap.size + 1 by simp] at this)
  have h2 : (dW w).heap[w.heap.size + 1 + 1]? = some zeroP := by have := heap_alloc_new ((w.alloc zeroP).alloc zeroF) zeroP; rwa [show ((w.alloc zeroP).alloc zeroF).heap.size = w.heap.size + 1 + 1 by simp] at this
  have k0 := (hb.block w.heap.size (by omega)).trans h0
  have k1 := (hb.block (w.heap.size + 1) (by omega)).trans h1
  have k2 := (hb.block (w.heap.size + 1 + 1) (by omega)).trans h2
  exact ⟨cell_of_row wr _ 0 _ _ _ k0, cell_of_row wr _ 1 _ _ _ k0, cell_of_row wr _ 0 _ _ _ k1, cell_of_row wr _ 1 _ _ _ k1, cell_of_row wr _ 2 _ _ _ k1, cell_of_row wr _ 0 _ _ _ k2, cell_of_row wr _ 1 _ _ _ k2,
    frozen_blk k0, frozen_blk k0, frozen_blk k1, frozen_blk k1, frozen_blk k1, by have := hb.size; simp at this; omega,
    (((below_new w _).trans ((below_new _ _).mono (by simp))).trans ((below_new _ _).mono (by simp; omega))).trans (hb.mono (by omega))⟩

theorem cell_set2 (w : World) {b g : Nat} (h : b ≠ g) (o o0 o1 : Nat) (v0 v1 : Value) : ((w.setCell ⟨g, o0, none⟩ v0).setCell ⟨g, o1, none⟩ v1).cell? ⟨b, o, none⟩ = w.cell? ⟨b, o, none⟩ :=
  World.cell?_of_block (a := ⟨b, o, none⟩) ((Below.heap_setCell _ _ _ _ h).trans (Below.heap_setCell _ _ _ _ h))
theorem cell_set3 (w : World) {b g : Nat} (h : b ≠ g) (o o0 o1 o2 : Nat) (v0 v1 v2 : Value) : (((w.setCell ⟨g, o0, none⟩ v0).setCell ⟨g, o1, none⟩ v1).setCell ⟨g, o2, none⟩ v2).cell? ⟨b, o, none⟩ = w.cell? ⟨b, o, none⟩ :=
  World.cell?_of_block (a := ⟨b, o, none⟩) (((Below.heap_setCell _ _ _ _ h).trans (Below.heap_setCell _ _ _ _ h)).trans (Below.heap_setCell _ _ _ _ h))

theorem rdB {w w2 : World} (h : Below w.heap.size w w2) {v0 v1 v2 v3 v4 : Value} : Below w.heap.size w (((((w2.setCell ⟨w.heap.size, 0, none⟩ v0).setCell ⟨w.heap.size, 1, none⟩ v1).setCell ⟨w.heap.size + 1, 0, none⟩ v2).setCell ⟨w.heap.size + 1, 1, none⟩ v3).setCell ⟨w.heap.size + 1, 2, none⟩ v4) :=
  ((((h.setCell (by simp) _).setCell (by simp) _).setCell (by simp) _).setCell (by simp) _).setCell (by simp) _

set_option maxHeartbeats 1000000 in
theorem rDecode_size (s : ByteArray) (w : World) (hm : s.size ≤ 9223372036854775807) (h : sizeB s.size = false) :
    Calls Tryz.prog 121 #[.string s] w fun e w' => e = .returned (.tuple #[.agg #[.int .i64 0, .slice none 0 0], refF (some (3, -1))]) ∧ Below w.heap.size w w' := by
  have hc : decide ((s.size : Int) < 24) = true ∨ (decide ((s.size : Int) < 24) = false ∧ decide (504 < (s.size : Int)) = true) ∨ (decide ((s.size : Int) < 24) = false ∧ decide (504 < (s.size : Int)) = false ∧ ((s.size : Int) % 20 != 4) = true) := by
    simp only [sizeB, Bool.and_eq_false_iff, decide_eq_false_iff_not] at h
    simp only [decide_eq_true_eq, decide_eq_false_iff_not, bne_iff_ne]
    omega
  have z1 : w.heap.size + 1 + 1 ≠ w.heap.size := by omega
  have z2 : w.heap.size + 1 + 1 ≠ w.heap.size + 1 := by omega
  clear h
  rcases hc with h1 | ⟨h1, h2⟩ | ⟨h1, h2, h3⟩
  all_goals
    go_enter Tryz.func121, Tryz.ntmps121
    go_wp2_with fail
    obtain ⟨W, hWd⟩ : ∃ W, W = ((w.alloc (.cells #[.int .i64 0, .slice none 0 0] 45)).alloc (.cells #[.int .i64 0, .int .i64 0, .bool false] 150)).alloc (.cells #[.int .i64 0, .slice none 0 0] 45) := ⟨_, rfl⟩
    rw [← hWd]
    have hbW : Below (w.heap.size + 1 + 1 + 1) (dW w) W := by rw [hWd]; exact Below.refl _ _
    obtain ⟨a0, a1, b0, b1, b2, c0, c1, f0, f1, g0, g1, g2, hz, hbw⟩ := dW_facts hbW
    have HBW := hide hbW
    clear hWd hbW a0 a1 b0 b1 b2 f0 f1 g0 g1 g2 hbw
    go_region_held3 (fun w' => w'.cell? ⟨w.heap.size + 1 + 1, 0, none⟩ = some (.int .i64 0) ∧ w'.cell? ⟨w.heap.size + 1 + 1, 1, none⟩ = some (.slice none 0 0)) (first | go_keep | exact ⟨(cell_set2 _ z1 _ _ _ _ _).trans d0, (cell_set2 _ z1 _ _ _ _ _).trans d1⟩ | exact ⟨(cell_set3 _ z2 _ _ _ _ _ _ _).trans d0, (cell_set3 _ z2 _ _ _ _ _ _ _).trans d1⟩ | exact ⟨(cell_set3 _ z2 _ _ _ _ _ _ _).trans ((cell_set2 _ z1 _ _ _ _ _).trans d0), (cell_set3 _ z2 _ _ _ _ _ _ _).trans ((cell_set2 _ z1 _ _ _ _ _).trans d1)⟩ | exact ⟨(cell_set2 _ z1 _ _ _ _ _).trans ((cell_set3 _ z2 _ _ _ _ _ _ _).trans d0), (cell_set2 _ z1 _ _ _ _ _).trans ((cell_set3 _ z2 _ _ _ _ _ _ _).trans d1)⟩)
      (first | (go_at_call 161; refine (of_any _ _ _).mono ?_; rintro e w2 ⟨rfl, hb2⟩; obtain ⟨a0, a1, b0, b1, b2, d0, d1, f0, f1, g0, g1, g2, hz2, hbw⟩ := dW_facts (w := w) (wr := w2) ((unhide HBW).trans (Below.trans ((Below.refl _ _).drew) (hb2.mono (by simp; omega)))); clear hb2))
    go_wp2
    refine bodyPost_ret (v := .tuple #[.agg #[.int .i64 0, .slice none 0 0], .agg #[.int .i64 3, .int .i64 (-1), .bool true]]) (by simp [results, Tryz.results121, go_sem, a0, a1, b0, b1, b2]) rfl ?_
    exact ⟨rfl, rdB hbw⟩

/-- A size that may be. -/
theorem sizeB_facts {n : Nat} (h : sizeB n = true) : decide ((n : Int) < 24) = false ∧ decide (504 < (n : Int)) = false ∧ ((n : Int) % 20 != 4) = false ∧ 24 ≤ n ∧ n ≤ 504 ∧ n % 20 = 4 := by
  simp [sizeB] at h
  refine ⟨by simp; omega, by simp; omega, by simp; omega, by omega, by omega, by omega⟩

set_option maxHeartbeats 1000000 in
theorem rDecode_head (s : ByteArray) (w : World) (h : sizeB s.size = true) (hh : (numAt s.data.toList 1 3 != 131072) = true ∨ ((numAt s.data.toList 1 3 != 131072) = false ∧ (bt s.data.toList 0 != 1) = true ∧ (bt s.data.toList 0 != 2) = true)) :
    Calls Tryz.prog 121 #[.string s] w fun e w' => e = .returned (.tuple #[.agg #[.int .i64 0, .slice none 0 0], refF (some (4, -1))]) ∧ Below w.heap.size w w' := by
  obtain ⟨s1, s2, s3, s4, s5, _⟩ := sizeB_facts h
  have e0 := bt_at s 0 (by omega)
  have hN := hide (fun W => number_any s 1 3 W (by omega) (by omega) (by omega))
  generalize numAt s.data.toList 1 3 = X at *
  generalize bt s.data.toList 0 = Y at *
  have z1 : w.heap.size + 1 + 1 ≠ w.heap.size := by omega
  have z2 : w.heap.size + 1 + 1 ≠ w.heap.size + 1 := by omega
  have hs0 : 0 < s.size := by omega
  clear h
  rcases hh with h1 | ⟨h1, h2, h3⟩
  all_goals
    go_enter Tryz.func121, Tryz.ntmps121
    go_wp2_with fail
    obtain ⟨W, hWd⟩ : ∃ W, W = ((w.alloc (.cells #[.int .i64 0, .slice none 0 0] 45)).alloc (.cells #[.int .i64 0, .int .i64 0, .bool false] 150)).alloc (.cells #[.int .i64 0, .slice none 0 0] 45) := ⟨_, rfl⟩
    rw [← hWd]
    have hbW : Below (w.heap.size + 1 + 1 + 1) (dW w) W := by rw [hWd]; exact Below.refl _ _
    obtain ⟨a0, a1, b0, b1, b2, c0, c1, f0, f1, g0, g1, g2, hz, hbw⟩ := dW_facts hbW
    have HBW := hide hbW
    clear hWd hbW a0 a1 b0 b1 b2 f0 f1 g0 g1 g2 hbw
    refine (unhide hN _).mono ?_
    rintro e w1 ⟨rfl, rfl⟩
    go_wp2_with fail
    go_region_held3 (fun w' => w'.cell? ⟨w.heap.size + 1 + 1, 0, none⟩ = some (.int .i64 0) ∧ w'.cell? ⟨w.heap.size + 1 + 1, 1, none⟩ = some (.slice none 0 0)) (first | go_keep | exact ⟨(cell_set2 _ z1 _ _ _ _ _).trans d0, (cell_set2 _ z1 _ _ _ _ _).trans d1⟩ | exact ⟨(cell_set3 _ z2 _ _ _ _ _ _ _).trans d0, (cell_set3 _ z2 _ _ _ _ _ _ _).trans d1⟩ | exact ⟨(cell_set3 _ z2 _ _ _ _ _ _ _).trans ((cell_set2 _ z1 _ _ _ _ _).trans d0), (cell_set3 _ z2 _ _ _ _ _ _ _).trans ((cell_set2 _ z1 _ _ _ _ _).trans d1)⟩ | exact ⟨(cell_set2 _ z1 _ _ _ _ _).trans ((cell_set3 _ z2 _ _ _ _ _ _ _).trans d0), (cell_set2 _ z1 _ _ _ _ _).trans ((cell_set3 _ z2 _ _ _ _ _ _ _).trans d1)⟩)
      (first | (go_at_call 161; refine (of_any _ _ _).mono ?_; rintro e w2 ⟨rfl, hb2⟩; obtain ⟨a0, a1, b0, b1, b2, d0, d1, f0, f1, g0, g1, g2, hz2, hbw⟩ := dW_facts (w := w) (wr := w2) ((unhide HBW).trans (Below.trans ((Below.refl _ _).drew) (hb2.mono (by simp; omega)))); clear hb2))
    go_wp2
    refine bodyPost_ret (v := .tuple #[.agg #[.int .i64 0, .slice none 0 0], .agg #[.int .i64 4, .int .i64 (-1), .bool true]]) (by simp [results, Tryz.results121, go_sem, a0, a1, b0, b1, b2]) rfl ?_
    exact ⟨rfl, rdB hbw⟩

theorem bt_inj {b c : List UInt8} (hl : b.length = c.length) (h : ∀ i, i < b.length → bt b i = bt c i) : b = c := List.ext_getElem hl fun i h1 h2 => by
  have := h i h1
  simp [bt, List.getD_eq_getElem?_getD, h1, h2] at this
  exact UInt8.toNat_inj.1 (by omega)
/-- A byte of the request for everything. -/
def askGood (b : List UInt8) (j : Nat) : Prop := (j < 23 ∧ bt b j = 0) ∨ (j = 23 ∧ bt b j = 16)
theorem ask_bytes : ∀ j, j < 24 → 4 ≤ j → askGood askAll j := by
  intro j h1 h2
  have : ∀ j, j < 24 → 4 ≤ j → (j < 23 ∧ askAll.getD j 0 = 0) ∨ (j = 23 ∧ askAll.getD j 0 = 16) := by decide
  rcases this j h1 h2 with ⟨h, e⟩ | ⟨h, e⟩
  · exact .inl ⟨h, by unfold bt; rw [e]; rfl⟩
  · exact .inr ⟨h, by unfold bt; rw [e]; rfl⟩
theorem ask_of {b : List UInt8} (hl : b.length = 24) (hn : numAt b 1 3 = 131072) (h0 : bt b 0 = 1) (h : ∀ j, 4 ≤ j → j < 24 → askGood b j) : b = askAll := by
  refine bt_inj (hl.trans rfl) fun i hi => ?_
  have r1 := bt_range b 1
  have r2 := bt_range b 2
  have r3 := bt_range b 3
  have hn' : 256 * (256 * (256 * 0 + bt b 1) + bt b 2) + bt b 3 = 131072 := hn
  clear hn
  have a0 : bt askAll 0 = 1 := rfl
  have a1 : bt askAll 1 = 2 := rfl
  have a2 : bt askAll 2 = 0 := rfl
  have a3 : bt askAll 3 = 0 := rfl
  have hc : i = 0 ∨ i = 1 ∨ i = 2 ∨ i = 3 ∨ 4 ≤ i := by omega
  rcases hc with rfl | rfl | rfl | rfl | hi4
  · omega
  · omega
  · omega
  · omega
  · rcases h i hi4 (by omega) with ⟨q, e⟩ | ⟨q, e⟩ <;> rcases ask_bytes i (by omega) hi4 with ⟨q', e'⟩ | ⟨q', e'⟩ <;> omega

def askRel (b : List UInt8) (z k : Nat) (a : Value) : Prop := ∃ q : Bool, a = .bool q ∧ (q = true ↔ z = 24 ∧ ∀ j, 4 ≤ j → j < k → askGood b j)
theorem ask_step {b : List UInt8} {z k : Nat} {q : Bool} (hk : 4 ≤ k) (hA : z = 24) (hj : ∀ j, 4 ≤ j → j < k → askGood b j) (hq : q = true ↔ askGood b k) : askRel b z (k + 1) (.bool q) := by
  refine ⟨q, rfl, fun e => ⟨hA, fun j h1 h2 => ?_⟩, fun e => hq.2 (e.2 k hk (by omega))⟩
  by_cases hjk : j = k
  · subst hjk; exact hq.1 e
  · exact hj j h1 (by omega)

set_option maxHeartbeats 1000000 in
theorem rDecode_ask (s : ByteArray) (w : World) (h : sizeB s.size = true) (hn : numAt s.data.toList 1 3 = 131072) (h0 : bt s.data.toList 0 = 1) :
    Calls Tryz.prog 121 #[.string s] w fun e w' => ((s.data.toList = askAll ∧ e = .returned (.tuple #[.agg #[.int .i64 1, .slice none 0 0], refF none])) ∨ (s.data.toList ≠ askAll ∧ e = .returned (.tuple #[.agg #[.int .i64 0, .slice none 0 0], refF (some (4, -1))]))) ∧ Below w.heap.size w w' := by
  obtain ⟨s1, s2, s3, s4, s5, _⟩ := sizeB_facts h
  have e0 := bt_at s 0 (by omega)
  have hN := hide (fun W => number_any s 1 3 W (by omega) (by omega) (by omega))
  rw [hn] at hN
  rw [h0] at e0
  have HN := hide hn
  have H0 := hide h0
  have z1 : w.heap.size + 1 + 1 ≠ w.heap.size := by omega
  have z2 : w.heap.size + 1 + 1 ≠ w.heap.size + 1 := by omega
  have hs0 : 0 < s.size := by omega
  clear h hn h0
  go_enter Tryz.func121, Tryz.ntmps121
  go_wp2_with fail
  obtain ⟨W, hWd⟩ : ∃ W, W = ((w.alloc (.cells #[.int .i64 0, .slice none 0 0] 45)).alloc (.cells #[.int .i64 0, .int .i64 0, .bool false] 150)).alloc (.cells #[.int .i64 0, .slice none 0 0] 45) := ⟨_, rfl⟩
  rw [← hWd]
  have hbW : Below (w.heap.size + 1 + 1 + 1) (dW w) W := by rw [hWd]; exact Below.refl _ _
  obtain ⟨a0, a1, b0, b1, b2, c0, c1, f0, f1, g0, g1, g2, hz, hbw⟩ := dW_facts hbW
  have HBW := hide hbW
  clear hWd hbW a0 a1 b0 b1 b2 f0 f1 g0 g1 g2 hbw
  refine (unhide hN _).mono ?_
  rintro e w1 ⟨rfl, rfl⟩
  go_wp2_with fail
  go_loop [5, 6] (fun a i => ∃ k : Nat, 4 ≤ k ∧ k ≤ 24 ∧ i = .int .i64 k ∧ askRel s.data.toList s.size k a) (fun _ i => 24 - (intOf i).toNat)
  case atStart => exact ⟨4, by omega, by omega, rfl, _, rfl, by
    rw [beq_iff_eq]
    exact ⟨fun e => ⟨by omega, fun j h1 h2 => by omega⟩, fun e => by omega⟩⟩
  case round =>
    obtain ⟨k, hk1, hk2, rfl, q, rfl, hq⟩ := hrel
    have HQ := hide hq
    have j0 : (0 : Int) ≤ (k : Int) := by omega
    clear hq
    cases q with
    | false =>
      have hne : s.data.toList ≠ askAll := fun e => by
        have hsz : s.size = 24 := by have := congrArg List.length e; simpa [askAll] using this
        have := (unhide HQ).2 ⟨hsz, fun j h1 h2 => by rw [e]; exact ask_bytes j (by omega) h1⟩
        cases this
      have HNE := hide hne
      clear hne
      by_cases hlt : k < 24
      all_goals
        go_wp2_with fail
        go_region_held3 (fun w' => w'.cell? ⟨w.heap.size + 1 + 1, 0, none⟩ = some (.int .i64 0) ∧ w'.cell? ⟨w.heap.size + 1 + 1, 1, none⟩ = some (.slice none 0 0)) (first | go_keep | exact ⟨(cell_set2 _ z1 _ _ _ _ _).trans d0, (cell_set2 _ z1 _ _ _ _ _).trans d1⟩ | exact ⟨(cell_set3 _ z2 _ _ _ _ _ _ _).trans d0, (cell_set3 _ z2 _ _ _ _ _ _ _).trans d1⟩ | exact ⟨(cell_set3 _ z2 _ _ _ _ _ _ _).trans ((cell_set2 _ z1 _ _ _ _ _).trans d0), (cell_set3 _ z2 _ _ _ _ _ _ _).trans ((cell_set2 _ z1 _ _ _ _ _).trans d1)⟩ | exact ⟨(cell_set2 _ z1 _ _ _ _ _).trans ((cell_set3 _ z2 _ _ _ _ _ _ _).trans d0), (cell_set2 _ z1 _ _ _ _ _).trans ((cell_set3 _ z2 _ _ _ _ _ _ _).trans d1)⟩)
          (first | (go_at_call 161; refine (of_any _ _ _).mono ?_; rintro e w2 ⟨rfl, hb2⟩; obtain ⟨a0, a1, b0, b1, b2, d0, d1, f0, f1, g0, g1, g2, hz2, hbw⟩ := dW_facts (w := w) (wr := w2) ((unhide HBW).trans (Below.trans ((Below.refl _ _).drew) (hb2.mono (by simp; omega)))); clear hb2))
        go_wp2
        refine bodyPost_ret (v := .tuple #[.agg #[.int .i64 0, .slice none 0 0], .agg #[.int .i64 4, .int .i64 (-1), .bool true]]) (by simp [results, Tryz.results121, go_sem, a0, a1, b0, b1, b2]) rfl ?_
        exact ⟨.inr ⟨unhide HNE, rfl⟩, rdB hbw⟩
    | true =>
      have hs24 := ((unhide HQ).1 rfl).1
      have HJ := hide ((unhide HQ).1 rfl).2
      clear HQ
      by_cases hlt : k < 24
      · have ek := bt_at s k (by omega)
        have j1 : (k : Int) < (s.size : Int) := by omega
        have hG : askGood s.data.toList k ↔ (k < 23 ∧ bt s.data.toList k = 0) ∨ (k = 23 ∧ bt s.data.toList k = 16) := Iff.rfl
        have HG := hide hG
        clear hG
        generalize bt s.data.toList k = X at *
        have hcs : ((X == 0) = true ∧ decide ((k : Int) < 23) = true) ∨ ((X == 0) = true ∧ decide ((k : Int) < 23) = false ∧ ((k : Int) == 23) = true ∧ (X == 16) = false) ∨ ((X == 0) = false ∧ ((k : Int) == 23) = false) ∨ ((X == 0) = false ∧ ((k : Int) == 23) = true ∧ (X == 16) = false) ∨ ((X == 0) = false ∧ ((k : Int) == 23) = true ∧ (X == 16) = true) := by
          simp only [beq_iff_eq, beq_eq_false_iff_ne, decide_eq_true_eq, decide_eq_false_iff_not]
          omega
        rcases hcs with ⟨x1, x2⟩ | ⟨x1, x2, x3, x4⟩ | ⟨x1, x2⟩ | ⟨x1, x2, x3⟩ | ⟨x1, x2, x3⟩
        all_goals
          go_wp2
          go_round
          case rel => exact ⟨k + 1, by omega, by omega, by go_num, ask_step hk1 rfl (unhide HJ) (by rw [unhide HG]; simp only [beq_iff_eq, beq_eq_false_iff_ne, decide_eq_true_eq, decide_eq_false_iff_not] at *; simp; omega)⟩
          case measure => simp [intOf]; omega
      · have hk24 : k = 24 := by omega
        subst hk24
        have hall := hide (ask_of (b := s.data.toList) (by simpa using hs24) (unhide HN) (unhide H0) (unhide HJ))
        obtain ⟨a0, a1, b0, b1, b2, d0, d1, f0, f1, g0, g1, g2, hz2, hbw⟩ := dW_facts (unhide HBW)
        clear HBW HJ HN H0 hN
        go_wp2
        exact bodyPost_ret (v := .tuple #[.agg #[.int .i64 1, .slice none 0 0], .agg #[.int .i64 0, .int .i64 0, .bool false]]) (by simp [results, Tryz.results121, go_sem, a0, a1, b0, b1, b2]) rfl ⟨.inl ⟨unhide hall, rfl⟩, rdB hbw⟩

end Go.Proofs.YtdnpeefnobjfaaaGreatDoor

/- The reference's Decode of a response; Decode whole. -/
namespace Go.Proofs.YtdnpeefnobjfaaaGreatDoor
open Go.RowKit
attribute [local go_sem ↓] Go.wp_at_zero Go.wp_at_succ

/-- The first k entries. -/
def firstE (b : List UInt8) (k : Nat) : List Ent := (List.range k).map fun j => entAt b (4 + j * 20)
theorem firstE_succ (b : List UInt8) (k : Nat) : firstE b (k + 1) = firstE b k ++ [entAt b (4 + k * 20)] := by simp [firstE, List.range_succ]
/-- The packet that grows. -/
def grows (P B : Nat) (wr : World) (b : List UInt8) (k : Nat) : Prop := ∃ ao cap, wr.heap[P]? = some (.cells #[.int .i64 2, .slice ao k cap] 45 (0, 0)) ∧ wr.ownsRow B 42 4 (.slice ao k cap) k (entList (firstE b k))
theorem grows_below {P B k : Nat} {w w1 : World} {b : List UInt8} (h : grows P B w b k) (hb : Below w.heap.size w w1) : grows P B w1 b k := by
  obtain ⟨ao, cap, hp, ho⟩ := h
  exact ⟨ao, cap, (hb.block P (lt_of_block hp)).trans hp, ho.kept (grown_below (r := none) hb) (by cases (Value.slice ao k cap).ownBlock <;> simp)⟩
theorem heap_alloc_new2 (w : World) (a b : Obj) : ((w.alloc a).alloc b).heap[w.heap.size + 1]? = some b := by
  have := heap_alloc_new (w.alloc a) b
  rwa [show (w.alloc a).heap.size = w.heap.size + 1 by simp] at this
theorem own_old {w : World} {B e size n : Nat} {v : Value} {xs : List Value} (h : w.ownsRow B e size v n xs) : ∀ q, v.ownBlock = some q → B ≤ q := by
  rcases h.2 with ⟨rfl, _⟩ | ⟨g, cap, cur, rfl, hb, _⟩
  · simp [Value.ownBlock]
  · intro q hq
    simp [Value.ownBlock] at hq
    omega
theorem own_set_low {w : World} {B e size n b o : Nat} {v u : Value} {xs : List Value} (h : w.ownsRow B e size v n xs) (hb : b < B) : (w.setCell ⟨b, o, none⟩ u).ownsRow B e size v n xs :=
  h.kept (grown_set _ _ _ _) (.inr (fun e => by have := own_old h _ e; omega))
/-- One entry more. -/
theorem grows_step {P B k c g : Nat} {w3 w2 : World} {ao : Option Addr} {cap : Nat} {b : List UInt8} {E : Ent} {o1 o2 : Obj} (hE : entAt b (4 + k * 20) = E) (hp : w2.heap[P]? = some (.cells #[.int .i64 2, .slice ao k cap] 45 (0, 0))) (ho : w2.ownsRow B 42 4 (.slice ao k cap) k (entList (firstE b k)))
    (hown : w3.ownsRow B 42 4 (.slice (some ⟨g, 0, none⟩) (k + 1) c) (k + 1) (entList (firstE b k) ++ entList [E])) (hg : ((w2.alloc o1).alloc o2).grownBy w3 (Value.slice ao k cap).ownBlock) (hB : B ≤ P) (hfr : ∀ q, (Value.slice ao k cap).ownBlock = some q → B ≤ q) :
    grows P B (w3.setCell ⟨P, 1, none⟩ (.slice (some ⟨g, 0, none⟩) (k + 1) c)) b (k + 1) ∧ w3.cell? ⟨P, 1, none⟩ = some (.slice ao k cap) ∧ w3.frozen? ⟨P, 1, none⟩ = false ∧ P < w3.heap.size ∧ Below B w2 (w3.setCell ⟨P, 1, none⟩ (.slice (some ⟨g, 0, none⟩) (k + 1) c)) := by
  have hlt := lt_of_block hp
  have hne := ownBlock_ne ho hp (by decide)
  have h0 : ((w2.alloc o1).alloc o2).heap[P]? = w2.heap[P]? := (Below.heap_alloc _ _ _ (by simp; omega)).trans (Below.heap_alloc _ _ _ hlt)
  have h3 : w3.heap[P]? = some (.cells #[.int .i64 2, .slice ao k cap] 45 (0, 0)) := (hg.block P (by simp; omega) (Ne.symm hne)).trans (h0.trans hp)
  rw [← entList_append, ← hE, ← firstE_succ] at hown
  have hl3 := lt_of_block h3
  refine ⟨⟨_, _, blk_setCell h3, hown.kept (grown_set w3 P 1 _) (.inr (ownBlock_ne hown h3 (by decide)))⟩, cell_of_row w3 P 1 _ _ _ h3, frozen_blk h3, hl3, ?_⟩
  have b1 : Below B w2 ((w2.alloc o1).alloc o2) := ((Below.refl _ _).alloc (by omega) _).alloc (by simp; omega) _
  exact (b1.grown hg (by simp; omega) hfr).setCell (by show B ≤ P; exact hB) _
theorem entry_off (s : ByteArray) (i : Nat) (J : Int) (w : World) (hJ : (i : Int) = J) (h : i + 20 ≤ s.size) (hs : s.size ≤ 1000) :
    Calls Tryz.prog 167 #[.string s, .int .i64 J] w fun e w' => e = .returned (.tuple #[.agg #[.int .u32 (entAt s.data.toList i).addr, .int .i64 (entAt s.data.toList i).len, .int .i64 (entAt s.data.toList i).tag, .int .i64 (entAt s.data.toList i).met], .int .i64 (errAt s.data.toList i)]) ∧ Below w.heap.size w w' := by
  subst hJ; exact entry_any s i w h hs

set_option maxRecDepth 100000 in
set_option maxHeartbeats 1000000 in
theorem rDecode_resp (s : ByteArray) (N : Nat) (w : World) (h : sizeB s.size = true) (hN : s.size = 4 + N * 20) (hn : numAt s.data.toList 1 3 = 131072) (h0 : bt s.data.toList 0 = 2) :
    Calls Tryz.prog 121 #[.string s] w fun e w' => ((scanErr s.data.toList N 0 = none ∧ ∃ ao cap, e = .returned (.tuple #[.agg #[.int .i64 2, .slice ao N cap], refF none]) ∧ w'.ownsRow w.heap.size 42 4 (.slice ao N cap) N (entList (firstE s.data.toList N))) ∨
      (∃ x, scanErr s.data.toList N 0 = some x ∧ e = .returned (.tuple #[.agg #[.int .i64 0, .slice none 0 0], refF (some x)]))) ∧ Below w.heap.size w w' := by
  obtain ⟨s1, s2, s3, s4, s5, _⟩ := sizeB_facts h
  have e0 := bt_at s 0 (by omega)
  have hNum := hide (fun W => number_any s 1 3 W (by omega) (by omega) (by omega))
  rw [hn] at hNum
  rw [h0] at e0
  have z1 : w.heap.size + 1 + 1 ≠ w.heap.size := by omega
  have z2 : w.heap.size + 1 + 1 ≠ w.heap.size + 1 := by omega
  have hs0 : 0 < s.size := by omega
  have hsi : (s.size : Int) = 4 + N * 20 := by omega
  clear h hn h0
  go_enter Tryz.func121, Tryz.ntmps121
  go_wp2_with fail
  obtain ⟨W, hWd⟩ : ∃ W, W = ((w.alloc (.cells #[.int .i64 0, .slice none 0 0] 45)).alloc (.cells #[.int .i64 0, .int .i64 0, .bool false] 150)).alloc (.cells #[.int .i64 0, .slice none 0 0] 45) := ⟨_, rfl⟩
  rw [← hWd]
  have hbW : Below (w.heap.size + 1 + 1 + 1) (dW w) W := by rw [hWd]; exact Below.refl _ _
  obtain ⟨a0, a1, b0, b1, b2, c0, c1, f0, f1, g0, g1, g2, hz, hbw⟩ := dW_facts hbW
  have HBW := hide hbW
  clear hWd hbW a0 a1 b0 b1 b2 f0 f1 g0 g1 g2 hbw
  refine (unhide hNum _).mono ?_
  rintro e w1 ⟨rfl, rfl⟩
  go_wp2_with fail
  have hP : w.heap.size + 1 + 1 + 1 ≤ w1.heap.size := by omega
  obtain ⟨P, hPd⟩ : ∃ P, P = w1.heap.size := ⟨_, rfl⟩
  rw [← hPd]
  have hg0 : grows P P (w1.alloc (.cells #[.int .i64 2, .slice none 0 0] 45)) s.data.toList 0 := ⟨none, 0, by rw [hPd]; exact heap_alloc_new _ _, World.ownsRow_nil _ _ _ _⟩
  have hb0 : Below P w1 (w1.alloc (.cells #[.int .i64 2, .slice none 0 0] 45)) := by rw [hPd]; exact below_new _ _
  have HG0 := hide hg0
  have HB0 := hide hb0
  obtain ⟨iE, hiE, hE0, hE1, hE2⟩ := info_parts Tryz.info42
  have hP' : w.heap.size + 1 + 1 + 1 ≤ P := by omega
  have HPD := hide hPd
  clear hg0 hb0 c0 c1 hz hPd hP
  go_loopw [8] (fun i wr => ∃ k : Nat, k ≤ N ∧ i = .int .i64 (4 + k * 20) ∧ grows P P wr s.data.toList k ∧ Below P w1 wr ∧ ∀ j, j < k → errAt s.data.toList (4 + j * 20) = 0) (fun i _ => 4 + N * 20 - (intOf i).toNat)
  case atStart => exact ⟨0, by omega, rfl, unhide HG0, unhide HB0, fun j hj => by omega⟩
  case round =>
    obtain ⟨k, hk, rfl, hg, hb, hgood⟩ := hrel
    have HG := hide hg
    have HB := hide hb
    have HGD := hide hgood
    clear hg hb hgood HG0 HB0
    by_cases hlt : k < N
    · have HC := hide (fun W => entry_off s (4 + k * 20) (4 + (k : Int) * 20) W (by omega) (by omega) (by omega))
      by_cases hz : errAt s.data.toList (4 + k * 20) = 0
      · rw [hz] at HC
        have HZ := hide hz
        clear hz
        obtain ⟨E, hE⟩ : ∃ E, entAt s.data.toList (4 + k * 20) = E := ⟨_, rfl⟩
        rw [hE] at HC
        have HE := hide hE
        clear hE
        go_wp2_with fail
        refine (unhide HC _).mono ?_
        rintro e w2 ⟨rfl, hb2⟩
        obtain ⟨ao, cap, hp, ho⟩ := grows_below (unhide HG) hb2
        have p1 : w2.cell? ⟨P, 1, none⟩ = some (.slice ao k cap) := cell_of_row w2 P 1 _ _ _ hp
        have hPlt : P < w2.heap.size := lt_of_block hp
        have HP := hide hp
        have HO := hide ho
        have HB2 := hide hb2
        clear hp ho hb2
        go_wp2_with (first | (at_builtin; refine wpList_append_lies _ rfl (.tmp 101) (.tmp 103) 43 rfl P 42 iE (.agg #[.int .u32 0, .int .i64 0, .int .i64 0, .int .i64 0]) 4 32 Tryz.underlying43 hiE hE0 hE1 hE2 rfl (by decide) (.slice ao k cap) k (entList (firstE s.data.toList k)) rfl (by exact ((unhide HO).alloc _).alloc _) ⟨w2.heap.size + 1, 0, none⟩ 1 1 (entList [E]) rfl rfl (by exact World.news_of_block (heap_alloc_new2 w2 _ _)) (entList_one _) (by decide) (by unfold maxLen; omega) (by omega) (by simp; omega) (w2.heap.size + 1 + 1) (by simp) ?_; intro g c w3 hown3 hg3 hat3 hlt3; obtain ⟨hgr, q1, q2, hPl, hbl⟩ := grows_step (unhide HE) (unhide HP) (unhide HO) hown3 hg3 (by omega) (own_old (unhide HO)); have HGR := hide hgr; have HBL := hide hbl; clear hown3 hg3 hat3 hgr hbl))
        go_roundw
        case rel =>
          refine ⟨k + 1, by omega, by go_num, unhide HGR, (unhide HB).trans (((unhide HB2).mono (by have := (unhide HB).size; have := unhide HPD; omega)).trans (unhide HBL)), fun j hj => ?_⟩
          by_cases hjk : j = k
          · subst hjk; exact unhide HZ
          · exact unhide HGD j (by omega)
        case measure => simp [intOf]; omega
      · have HX := hide (scanErr_at (b := s.data.toList) (n := N) (Nat.zero_le k) (by omega) (fun j _ hj => unhide HGD j hj) hz)
        obtain ⟨E, hE⟩ : ∃ E, entAt s.data.toList (4 + k * 20) = E := ⟨_, rfl⟩
        rw [hE] at HC
        clear hE
        generalize errAt s.data.toList (4 + k * 20) = f at *
        go_wp2_with fail
        refine (unhide HC _).mono ?_
        rintro e w2 ⟨rfl, hb2⟩
        have hbW3 := (unhide HBW).trans (((unhide HB).mono (by omega)).trans ((below_seq hb2 (below_new w2 (.cells #[.int .u32 E.addr, .int .i64 E.len, .int .i64 E.tag, .int .i64 E.met] 42))).mono (by have := (unhide HB).size; have := unhide HPD; omega)))
        have HBW3 := hide hbW3
        clear hb2 hbW3 HG HB
        go_wp2_with fail
        obtain ⟨W3, hW3⟩ : ∃ W3, W3 = w2.alloc (.cells #[.int .u32 E.addr, .int .i64 E.len, .int .i64 E.tag, .int .i64 E.met] 42) := ⟨_, rfl⟩
        rw [← hW3]
        have hbW := unhide HBW3
        rw [← hW3] at hbW
        clear HBW HBW3 hW3
        obtain ⟨a0, a1, b0, b1, b2, c0, c1, f0, f1, g0, g1, g2, hz, hbw⟩ := dW_facts hbW
        have HBW := hide hbW
        have hq := hide (show IntKind.i64.wrap ((4 + (k : Int) * 20).tdiv 20) = k by rw [Int.tdiv_eq_ediv_of_nonneg (by omega), show (4 + (k : Int) * 20) / 20 = k by omega, IntKind.wrap_i64]; omega)
        clear hbW a0 a1 b0 b1 b2 f0 f1 g0 g1 g2 hbw
        go_region_held3 (fun w' => w'.cell? ⟨w.heap.size + 1 + 1, 0, none⟩ = some (.int .i64 0) ∧ w'.cell? ⟨w.heap.size + 1 + 1, 1, none⟩ = some (.slice none 0 0)) (first | go_keep | exact ⟨(cell_set2 _ z1 _ _ _ _ _).trans d0, (cell_set2 _ z1 _ _ _ _ _).trans d1⟩ | exact ⟨(cell_set3 _ z2 _ _ _ _ _ _ _).trans d0, (cell_set3 _ z2 _ _ _ _ _ _ _).trans d1⟩ | exact ⟨(cell_set3 _ z2 _ _ _ _ _ _ _).trans ((cell_set2 _ z1 _ _ _ _ _).trans d0), (cell_set3 _ z2 _ _ _ _ _ _ _).trans ((cell_set2 _ z1 _ _ _ _ _).trans d1)⟩ | exact ⟨(cell_set2 _ z1 _ _ _ _ _).trans ((cell_set3 _ z2 _ _ _ _ _ _ _).trans d0), (cell_set2 _ z1 _ _ _ _ _).trans ((cell_set3 _ z2 _ _ _ _ _ _ _).trans d1)⟩)
          (first | (go_at_call 161; refine (of_any _ _ _).mono ?_; rintro e w2 ⟨rfl, hb2⟩; obtain ⟨a0, a1, b0, b1, b2, d0, d1, f0, f1, g0, g1, g2, hz2, hbw⟩ := dW_facts (w := w) (wr := w2) ((unhide HBW).trans (Below.trans ((Below.refl _ _).drew) (hb2.mono (by simp; omega)))); clear hb2))
        go_wp2
        refine bodyPost_ret (v := .tuple #[.agg #[.int .i64 0, .slice none 0 0], .agg #[.int .i64 f, .int .i64 (IntKind.i64.wrap ((4 + (k : Int) * 20).tdiv 20)), .bool true]]) (by simp [results, Tryz.results121, go_sem, a0, a1, b0, b1, b2]) rfl ?_
        exact ⟨.inr ⟨_, unhide HX, by rw [unhide hq]; rfl⟩, rdB hbw⟩
    · have hkN : k = N := by omega
      subst hkN
      obtain ⟨ao, cap, hp, ho⟩ := unhide HG
      have p0 : wr.cell? ⟨P, 0, none⟩ = some (.int .i64 2) := cell_of_row wr P 0 _ _ _ hp
      have p1 : wr.cell? ⟨P, 1, none⟩ = some (.slice ao k cap) := cell_of_row wr P 1 _ _ _ hp
      obtain ⟨a0, a1, b0, b1, b2, d0, d1, f0, f1, g0, g1, g2, hz2, hbw⟩ := dW_facts ((unhide HBW).trans ((unhide HB).mono (by omega)))
      have HP := hide hp
      have HO := hide ho
      have HX := hide (scanErr_none (b := s.data.toList) (n := k) (k := 0) (fun j _ hj => unhide HGD j (by omega)))
      clear hp ho HG HB HBW HGD
      go_wp2
      refine bodyPost_ret (v := .tuple #[.agg #[.int .i64 2, .slice ao k cap], .agg #[.int .i64 0, .int .i64 0, .bool false]]) (by simp [results, Tryz.results121, go_sem, a0, a1, b0, b1, b2]) rfl ⟨.inl ⟨unhide HX, ao, cap, rfl, ?_⟩, rdB hbw⟩
      exact own_base (own_set_low (own_set_low (own_set_low (own_set_low (own_set_low (unhide HO) (by omega)) (by omega)) (by omega)) (by omega)) (by omega)) (by omega)

theorem take4 {b : List UInt8} (hl : 4 ≤ b.length) : b.take 4 = [2, 2, 0, 0] ↔ numAt b 1 3 = 131072 ∧ bt b 0 = 2 := by
  match b, hl with
  | b0 :: b1 :: b2 :: b3 :: r, _ =>
    have r0 := b0.toNat_lt
    have r1 := b1.toNat_lt
    have r2 := b2.toNat_lt
    have r3 := b3.toNat_lt
    have e : numAt (b0 :: b1 :: b2 :: b3 :: r) 1 3 = 256 * (256 * (256 * 0 + (b1.toNat : Int)) + b2.toNat) + b3.toNat := rfl
    have e0 : bt (b0 :: b1 :: b2 :: b3 :: r) 0 = b0.toNat := rfl
    rw [e, e0]
    simp only [List.take_succ_cons, List.take_zero, List.cons.injEq, and_true, ← UInt8.toNat_inj]
    simp
    omega

/-- What the reference's Decode answers. -/
def refIs (w0 : World) (b : List UInt8) (w : World) (V : Value) : Prop := ∃ ao n cap, V = .agg #[.int .i64 (decCmd b), .slice ao n cap] ∧ w.ownsRow w0.heap.size 42 4 (.slice ao n cap) n (entList (decEnts b))

theorem refIs_err {w0 w : World} {b : List UInt8} {x : Int × Int} (hx : decErr b = some x) : refIs w0 b w (.agg #[.int .i64 0, .slice none 0 0]) := by
  have h1 : decCmd b = 0 := by simp [decCmd, hx]
  have h2 : decEnts b = [] := by simp [decEnts, hx]
  refine ⟨none, 0, 0, by rw [h1], ?_⟩
  rw [h2]; exact World.ownsRow_nil _ _ _ _

theorem rDecode_any (s : ByteArray) (w : World) (hm : s.size ≤ 9223372036854775807) :
    Calls Tryz.prog 121 #[.string s] w fun e w' => ∃ V, e = .returned (.tuple #[V, refF (decErr s.data.toList)]) ∧ refIs w s.data.toList w' V ∧ Below w.heap.size w w' := by
  have hlen : s.data.toList.length = s.size := by simp
  cases hsz : sizeB s.size with
  | false =>
    have hx : decErr s.data.toList = some (3, -1) := by simp only [decErr, hlen, hsz, if_pos]
    refine (rDecode_size s w hm hsz).mono ?_
    rintro e w' ⟨rfl, hb⟩
    exact ⟨_, by rw [hx], refIs_err hx, hb⟩
  | true =>
    obtain ⟨_, _, _, s4, s5, s6⟩ := sizeB_facts hsz
    have ht := take4 (b := s.data.toList) (by omega)
    by_cases hn : numAt s.data.toList 1 3 = 131072
    · by_cases h1 : bt s.data.toList 0 = 1
      · refine (rDecode_ask s w hsz hn h1).mono ?_
        rintro e w' ⟨⟨ha, rfl⟩ | ⟨ha, rfl⟩, hb⟩
        · have hx : decErr s.data.toList = none := by simp only [decErr, hlen, hsz]; simp [ha]
          have h1 : decCmd s.data.toList = 1 := by unfold decCmd; rw [hx, if_neg (by simp), if_pos ha]
          have h2 : decEnts s.data.toList = [] := by unfold decEnts; rw [hx, if_neg (by simp), if_pos ha]
          refine ⟨_, by rw [hx], ⟨none, 0, 0, by rw [h1], ?_⟩, hb⟩
          rw [h2]; exact World.ownsRow_nil _ _ _ _
        · have hx : decErr s.data.toList = some (4, -1) := by
            simp only [decErr, hlen, hsz]
            rw [if_neg (by simp), if_neg ha, if_pos (fun e => by have := (ht.1 e).2; omega)]
          exact ⟨_, by rw [hx], refIs_err hx, hb⟩
      · by_cases h2 : bt s.data.toList 0 = 2
        · obtain ⟨N, hN⟩ : ∃ N, s.size = 4 + N * 20 := ⟨(s.size - 4) / 20, by omega⟩
          have ha : s.data.toList ≠ askAll := fun e => by rw [e] at h2; revert h2; decide
          have hx : decErr s.data.toList = scanErr s.data.toList N 0 := by
            simp only [decErr, hlen, hsz]
            rw [if_neg (by simp), if_neg ha, if_neg (by simpa using ht.2 ⟨hn, h2⟩), show (s.size - 4) / 20 = N by omega]
          refine (rDecode_resp s N w hsz hN hn h2).mono ?_
          rintro e w' ⟨⟨hsc, ao, cap, rfl, ho⟩ | ⟨x, hsc, rfl⟩, hb⟩
          · have hxn : decErr s.data.toList = none := hx.trans hsc
            have h1 : decCmd s.data.toList = 2 := by simp [decCmd, hxn, ha]
            have h2 : decEnts s.data.toList = firstE s.data.toList N := by
              simp only [decEnts, hxn, ha, ents, hlen, firstE]
              rw [show (s.size - 4) / 20 = N by omega]; simp
            refine ⟨_, by rw [hxn], ⟨ao, N, cap, by rw [h1], ?_⟩, hb⟩
            rw [h2]; exact ho
          · exact ⟨_, by rw [hx, hsc], refIs_err (hx.trans hsc), hb⟩
        · have ha : s.data.toList ≠ askAll := fun e => by rw [e] at h1; revert h1; decide
          have hx : decErr s.data.toList = some (4, -1) := by
            simp only [decErr, hlen, hsz]
            rw [if_neg (by simp), if_neg ha, if_pos (fun e => h2 (ht.1 e).2)]
          refine (rDecode_head s w hsz (.inr ⟨by simp [hn], by simp [h1], by simp [h2]⟩)).mono ?_
          rintro e w' ⟨rfl, hb⟩
          exact ⟨_, by rw [hx], refIs_err hx, hb⟩
    · have ha : s.data.toList ≠ askAll := fun e => by rw [e] at hn; revert hn; decide
      have hx : decErr s.data.toList = some (4, -1) := by
        simp only [decErr, hlen, hsz]
        rw [if_neg (by simp), if_neg ha, if_pos (fun e => hn (ht.1 e).1)]
      refine (rDecode_head s w hsz (.inl (by simp [hn]))).mono ?_
      rintro e w' ⟨rfl, hb⟩
      exact ⟨_, by rw [hx], refIs_err hx, hb⟩

end Go.Proofs.YtdnpeefnobjfaaaGreatDoor
