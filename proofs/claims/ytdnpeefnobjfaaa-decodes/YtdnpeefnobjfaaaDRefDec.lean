/- What the reference's Decode answers: just what the program's does. -/
import Derived.Test.YtdnpeefnobjfaaaDRef
namespace Go.Proofs.Ytdnpeefnobjfaaa
open Go.RowKit
attribute [local go_sem ↓] Go.wp_at_zero Go.wp_at_succ

abbrev zeroF : Obj := .cells #[.int .i64 0, .int .i64 0, .bool false] 52
abbrev dW (w : World) : World := ((w.alloc zeroP).alloc zeroF).alloc zeroP
theorem dW_size (w : World) : (dW w).heap.size = w.heap.size + 1 + 1 + 1 := by simp
structure DF (w wr : World) : Prop where
  a0 : wr.cell? ⟨w.heap.size, 0, none⟩ = some (.int .i64 0)
  a1 : wr.cell? ⟨w.heap.size, 1, none⟩ = some (.slice none 0 0)
  b0 : wr.cell? ⟨w.heap.size + 1, 0, none⟩ = some (.int .i64 0)
  b1 : wr.cell? ⟨w.heap.size + 1, 1, none⟩ = some (.int .i64 0)
  b2 : wr.cell? ⟨w.heap.size + 1, 2, none⟩ = some (.bool false)
  c0 : wr.cell? ⟨w.heap.size + 1 + 1, 0, none⟩ = some (.int .i64 0)
  c1 : wr.cell? ⟨w.heap.size + 1 + 1, 1, none⟩ = some (.slice none 0 0)
  f0 : wr.frozen? ⟨w.heap.size, 0, none⟩ = false
  f1 : wr.frozen? ⟨w.heap.size, 1, none⟩ = false
  g0 : wr.frozen? ⟨w.heap.size + 1, 0, none⟩ = false
  g1 : wr.frozen? ⟨w.heap.size + 1, 1, none⟩ = false
  g2 : wr.frozen? ⟨w.heap.size + 1, 2, none⟩ = false
  size : w.heap.size + 1 + 1 < wr.heap.size
  below : Below w.heap.size w wr
theorem dW_facts {w wr : World} (hb : Below (w.heap.size + 1 + 1 + 1) (dW w) wr) : DF w wr := by
  have h0 : (dW w).heap[w.heap.size]? = some zeroP := (Below.heap_alloc _ _ _ (by simp; omega)).trans ((Below.heap_alloc _ _ _ (by simp)).trans (heap_alloc_new w _))
  have h1 : (dW w).heap[w.heap.size + 1]? = some zeroF := (Below.heap_alloc _ _ _ (by simp)).trans (by have := heap_alloc_new (w.alloc zeroP) zeroF; rwa [show (w.alloc zeroP).heap.size = w.heap.size + 1 by simp] at this)
  have h2 : (dW w).heap[w.heap.size + 1 + 1]? = some zeroP := by have := heap_alloc_new ((w.alloc zeroP).alloc zeroF) zeroP; rwa [show ((w.alloc zeroP).alloc zeroF).heap.size = w.heap.size + 1 + 1 by simp] at this
  have k0 := (hb.block w.heap.size (by omega)).trans h0
  have k1 := (hb.block (w.heap.size + 1) (by omega)).trans h1
  have k2 := (hb.block (w.heap.size + 1 + 1) (by omega)).trans h2
  exact ⟨cell_of_row wr _ 0 _ _ _ k0, cell_of_row wr _ 1 _ _ _ k0, cell_of_row wr _ 0 _ _ _ k1, cell_of_row wr _ 1 _ _ _ k1, cell_of_row wr _ 2 _ _ _ k1, cell_of_row wr _ 0 _ _ _ k2, cell_of_row wr _ 1 _ _ _ k2,
    frozen_blk k0, frozen_blk k0, frozen_blk k1, frozen_blk k1, frozen_blk k1, by have := hb.size; simp at this; omega,
    (((below_new w _).trans ((below_new _ _).mono (by simp))).trans ((below_new _ _).mono (by simp; omega))).trans (hb.mono (by omega))⟩

theorem cell_set2 (w : World) {b g : Nat} (h : b ≠ g) (o o0 o1 : Nat) (v0 v1 : Value) : ((w.setCell ⟨g, o0, none⟩ v0).setCell ⟨g, o1, none⟩ v1).cell? ⟨b, o, none⟩ = w.cell? ⟨b, o, none⟩ :=
  World.cell?_of_block (a := ⟨b, o, none⟩) ((Below.heap_setCell _ _ _ _ h).trans (Below.heap_setCell _ _ _ _ h))
theorem cell_set3 (w : World) {b g : Nat} (h : b ≠ g) (o o0 o1 o2 : Nat) (v0 v1 v2 : Value) : (((w.setCell ⟨g, o0, none⟩ v0).setCell ⟨g, o1, none⟩ v1).setCell ⟨g, o2, none⟩ v2).cell? ⟨b, o, none⟩ = w.cell? ⟨b, o, none⟩ :=
  World.cell?_of_block (a := ⟨b, o, none⟩) (((Below.heap_setCell _ _ _ _ h).trans (Below.heap_setCell _ _ _ _ h)).trans (Below.heap_setCell _ _ _ _ h))

theorem rdB {w w2 : World} (h : Below w.heap.size w w2) {v0 v1 v2 v3 v4 : Value} : Below w.heap.size w (((((w2.setCell ⟨w.heap.size, 0, none⟩ v0).setCell ⟨w.heap.size, 1, none⟩ v1).setCell ⟨w.heap.size + 1, 0, none⟩ v2).setCell ⟨w.heap.size + 1, 1, none⟩ v3).setCell ⟨w.heap.size + 1, 2, none⟩ v4) :=
  ((((h.setCell (by simp) _).setCell (by simp) _).setCell (by simp) _).setCell (by simp) _).setCell (by simp) _

set_option maxHeartbeats 1000000 in
theorem rDecode_size (s : ByteArray) (w : World) (hm : s.size ≤ 9223372036854775807) (h : sizeB s.size = false) :
    Calls Try.prog 13 #[.string s] w fun e w' => e = .returned (.tuple #[.agg #[.int .i64 0, .slice none 0 0], refF (some (3, -1))]) ∧ Below w.heap.size w w' := by
  have hc : decide ((s.size : Int) < 24) = true ∨ (decide ((s.size : Int) < 24) = false ∧ decide (504 < (s.size : Int)) = true) ∨ (decide ((s.size : Int) < 24) = false ∧ decide (504 < (s.size : Int)) = false ∧ ((s.size : Int) % 20 != 4) = true) := by
    simp only [sizeB, Bool.and_eq_false_iff, decide_eq_false_iff_not] at h
    simp only [decide_eq_true_eq, decide_eq_false_iff_not, bne_iff_ne]
    omega
  have z1 : w.heap.size + 1 + 1 ≠ w.heap.size := by omega
  have z2 : w.heap.size + 1 + 1 ≠ w.heap.size + 1 := by omega
  clear h
  rcases hc with h1 | ⟨h1, h2⟩ | ⟨h1, h2, h3⟩
  all_goals
    go_enter Try.func13, Try.ntmps13
    go_wp2_with fail
    obtain ⟨W, hWd⟩ : ∃ W, W = ((w.alloc (.cells #[.int .i64 0, .slice none 0 0] 33)).alloc (.cells #[.int .i64 0, .int .i64 0, .bool false] 52)).alloc (.cells #[.int .i64 0, .slice none 0 0] 33) := ⟨_, rfl⟩
    rw [← hWd]
    have hbW : Below (w.heap.size + 1 + 1 + 1) (dW w) W := by rw [hWd]; exact Below.refl _ _
    obtain ⟨a0, a1, b0, b1, b2, c0, c1, f0, f1, g0, g1, g2, hz, hbw⟩ := dW_facts hbW
    have HBW := hide hbW
    clear hWd hbW a0 a1 b0 b1 b2 f0 f1 g0 g1 g2 hbw
    go_region_held3 (fun w' => w'.cell? ⟨w.heap.size + 1 + 1, 0, none⟩ = some (.int .i64 0) ∧ w'.cell? ⟨w.heap.size + 1 + 1, 1, none⟩ = some (.slice none 0 0)) (first | go_keep | exact ⟨(cell_set2 _ z1 _ _ _ _ _).trans d0, (cell_set2 _ z1 _ _ _ _ _).trans d1⟩ | exact ⟨(cell_set3 _ z2 _ _ _ _ _ _ _).trans d0, (cell_set3 _ z2 _ _ _ _ _ _ _).trans d1⟩ | exact ⟨(cell_set3 _ z2 _ _ _ _ _ _ _).trans ((cell_set2 _ z1 _ _ _ _ _).trans d0), (cell_set3 _ z2 _ _ _ _ _ _ _).trans ((cell_set2 _ z1 _ _ _ _ _).trans d1)⟩ | exact ⟨(cell_set2 _ z1 _ _ _ _ _).trans ((cell_set3 _ z2 _ _ _ _ _ _ _).trans d0), (cell_set2 _ z1 _ _ _ _ _).trans ((cell_set3 _ z2 _ _ _ _ _ _ _).trans d1)⟩)
      (first | (go_at_call 28; refine (of_any _ _ _).mono ?_; rintro e w2 ⟨rfl, hb2⟩; obtain ⟨a0, a1, b0, b1, b2, d0, d1, f0, f1, g0, g1, g2, hz2, hbw⟩ := dW_facts (w := w) (wr := w2) ((unhide HBW).trans (Below.trans ((Below.refl _ _).drew) (hb2.mono (by simp; omega)))); clear hb2))
    go_wp2
    refine bodyPost_ret (v := .tuple #[.agg #[.int .i64 0, .slice none 0 0], .agg #[.int .i64 3, .int .i64 (-1), .bool true]]) (by simp [results, Try.results13, go_sem, a0, a1, b0, b1, b2]) rfl ?_
    exact ⟨rfl, rdB hbw⟩

/-- A size that may be. -/
theorem sizeB_facts {n : Nat} (h : sizeB n = true) : decide ((n : Int) < 24) = false ∧ decide (504 < (n : Int)) = false ∧ ((n : Int) % 20 != 4) = false ∧ 24 ≤ n ∧ n ≤ 504 ∧ n % 20 = 4 := by
  simp [sizeB] at h
  refine ⟨by simp; omega, by simp; omega, by simp; omega, by omega, by omega, by omega⟩

set_option maxHeartbeats 1000000 in
theorem rDecode_head (s : ByteArray) (w : World) (h : sizeB s.size = true) (hh : (numAt s.data.toList 1 3 != 131072) = true ∨ ((numAt s.data.toList 1 3 != 131072) = false ∧ (bt s.data.toList 0 != 1) = true ∧ (bt s.data.toList 0 != 2) = true)) :
    Calls Try.prog 13 #[.string s] w fun e w' => e = .returned (.tuple #[.agg #[.int .i64 0, .slice none 0 0], refF (some (4, -1))]) ∧ Below w.heap.size w w' := by
  obtain ⟨s1, s2, s3, s4, s5, _⟩ := sizeB_facts h
  have e0 := bt_at s 0 (by omega)
  have hN := hide (fun W => number_any s 1 3 W (by omega) (by omega) (by omega))
  generalize numAt s.data.toList 1 3 = X at *
  generalize bt s.data.toList 0 = Y at *
  have z1 : w.heap.size + 1 + 1 ≠ w.heap.size := by omega
  have z2 : w.heap.size + 1 + 1 ≠ w.heap.size + 1 := by omega
  have hs0 : 0 < s.size := by omega
  clear h
  rcases hh with h1 | ⟨h1, h2, h3⟩
  all_goals
    go_enter Try.func13, Try.ntmps13
    go_wp2_with fail
    obtain ⟨W, hWd⟩ : ∃ W, W = ((w.alloc (.cells #[.int .i64 0, .slice none 0 0] 33)).alloc (.cells #[.int .i64 0, .int .i64 0, .bool false] 52)).alloc (.cells #[.int .i64 0, .slice none 0 0] 33) := ⟨_, rfl⟩
    rw [← hWd]
    have hbW : Below (w.heap.size + 1 + 1 + 1) (dW w) W := by rw [hWd]; exact Below.refl _ _
    obtain ⟨a0, a1, b0, b1, b2, c0, c1, f0, f1, g0, g1, g2, hz, hbw⟩ := dW_facts hbW
    have HBW := hide hbW
    clear hWd hbW a0 a1 b0 b1 b2 f0 f1 g0 g1 g2 hbw
    refine (unhide hN _).mono ?_
    rintro e w1 ⟨rfl, rfl⟩
    go_wp2_with fail
    go_region_held3 (fun w' => w'.cell? ⟨w.heap.size + 1 + 1, 0, none⟩ = some (.int .i64 0) ∧ w'.cell? ⟨w.heap.size + 1 + 1, 1, none⟩ = some (.slice none 0 0)) (first | go_keep | exact ⟨(cell_set2 _ z1 _ _ _ _ _).trans d0, (cell_set2 _ z1 _ _ _ _ _).trans d1⟩ | exact ⟨(cell_set3 _ z2 _ _ _ _ _ _ _).trans d0, (cell_set3 _ z2 _ _ _ _ _ _ _).trans d1⟩ | exact ⟨(cell_set3 _ z2 _ _ _ _ _ _ _).trans ((cell_set2 _ z1 _ _ _ _ _).trans d0), (cell_set3 _ z2 _ _ _ _ _ _ _).trans ((cell_set2 _ z1 _ _ _ _ _).trans d1)⟩ | exact ⟨(cell_set2 _ z1 _ _ _ _ _).trans ((cell_set3 _ z2 _ _ _ _ _ _ _).trans d0), (cell_set2 _ z1 _ _ _ _ _).trans ((cell_set3 _ z2 _ _ _ _ _ _ _).trans d1)⟩)
      (first | (go_at_call 28; refine (of_any _ _ _).mono ?_; rintro e w2 ⟨rfl, hb2⟩; obtain ⟨a0, a1, b0, b1, b2, d0, d1, f0, f1, g0, g1, g2, hz2, hbw⟩ := dW_facts (w := w) (wr := w2) ((unhide HBW).trans (Below.trans ((Below.refl _ _).drew) (hb2.mono (by simp; omega)))); clear hb2))
    go_wp2
    refine bodyPost_ret (v := .tuple #[.agg #[.int .i64 0, .slice none 0 0], .agg #[.int .i64 4, .int .i64 (-1), .bool true]]) (by simp [results, Try.results13, go_sem, a0, a1, b0, b1, b2]) rfl ?_
    exact ⟨rfl, rdB hbw⟩

theorem bt_inj {b c : List UInt8} (hl : b.length = c.length) (h : ∀ i, i < b.length → bt b i = bt c i) : b = c := List.ext_getElem hl fun i h1 h2 => by
  have := h i h1
  simp [bt, List.getD_eq_getElem?_getD, h1, h2] at this
  exact UInt8.toNat_inj.1 (by omega)
/-- A byte of the request for everything. -/
def askGood (b : List UInt8) (j : Nat) : Prop := (j < 23 ∧ bt b j = 0) ∨ (j = 23 ∧ bt b j = 16)
theorem ask_bytes : ∀ j, j < 24 → 4 ≤ j → askGood askAll j := by
  intro j h1 h2
  have : ∀ j, j < 24 → 4 ≤ j → (j < 23 ∧ askAll.getD j 0 = 0) ∨ (j = 23 ∧ askAll.getD j 0 = 16) := by decide
  rcases this j h1 h2 with ⟨h, e⟩ | ⟨h, e⟩
  · exact .inl ⟨h, by unfold bt; rw [e]; rfl⟩
  · exact .inr ⟨h, by unfold bt; rw [e]; rfl⟩
theorem ask_of {b : List UInt8} (hl : b.length = 24) (hn : numAt b 1 3 = 131072) (h0 : bt b 0 = 1) (h : ∀ j, 4 ≤ j → j < 24 → askGood b j) : b = askAll := by
  refine bt_inj (hl.trans rfl) fun i hi => ?_
  have r1 := bt_range b 1
  have r2 := bt_range b 2
  have r3 := bt_range b 3
  have hn' : 256 * (256 * (256 * 0 + bt b 1) + bt b 2) + bt b 3 = 131072 := hn
  clear hn
  have a0 : bt askAll 0 = 1 := rfl
  have a1 : bt askAll 1 = 2 := rfl
  have a2 : bt askAll 2 = 0 := rfl
  have a3 : bt askAll 3 = 0 := rfl
  have hc : i = 0 ∨ i = 1 ∨ i = 2 ∨ i = 3 ∨ 4 ≤ i := by omega
  rcases hc with rfl | rfl | rfl | rfl | hi4
  · omega
  · omega
  · omega
  · omega
  · rcases h i hi4 (by omega) with ⟨q, e⟩ | ⟨q, e⟩ <;> rcases ask_bytes i (by omega) hi4 with ⟨q', e'⟩ | ⟨q', e'⟩ <;> omega

def askRel (b : List UInt8) (z k : Nat) (a : Value) : Prop := ∃ q : Bool, a = .bool q ∧ (q = true ↔ z = 24 ∧ ∀ j, 4 ≤ j → j < k → askGood b j)
theorem ask_step {b : List UInt8} {z k : Nat} {q : Bool} (hk : 4 ≤ k) (hA : z = 24) (hj : ∀ j, 4 ≤ j → j < k → askGood b j) (hq : q = true ↔ askGood b k) : askRel b z (k + 1) (.bool q) := by
  refine ⟨q, rfl, fun e => ⟨hA, fun j h1 h2 => ?_⟩, fun e => hq.2 (e.2 k hk (by omega))⟩
  by_cases hjk : j = k
  · subst hjk; exact hq.1 e
  · exact hj j h1 (by omega)

set_option maxHeartbeats 1000000 in
theorem rDecode_ask (s : ByteArray) (w : World) (h : sizeB s.size = true) (hn : numAt s.data.toList 1 3 = 131072) (h0 : bt s.data.toList 0 = 1) :
    Calls Try.prog 13 #[.string s] w fun e w' => ((s.data.toList = askAll ∧ e = .returned (.tuple #[.agg #[.int .i64 1, .slice none 0 0], refF none])) ∨ (s.data.toList ≠ askAll ∧ e = .returned (.tuple #[.agg #[.int .i64 0, .slice none 0 0], refF (some (4, -1))]))) ∧ Below w.heap.size w w' := by
  obtain ⟨s1, s2, s3, s4, s5, _⟩ := sizeB_facts h
  have e0 := bt_at s 0 (by omega)
  have hN := hide (fun W => number_any s 1 3 W (by omega) (by omega) (by omega))
  rw [hn] at hN
  rw [h0] at e0
  have HN := hide hn
  have H0 := hide h0
  have z1 : w.heap.size + 1 + 1 ≠ w.heap.size := by omega
  have z2 : w.heap.size + 1 + 1 ≠ w.heap.size + 1 := by omega
  have hs0 : 0 < s.size := by omega
  clear h hn h0
  go_enter Try.func13, Try.ntmps13
  go_wp2_with fail
  obtain ⟨W, hWd⟩ : ∃ W, W = ((w.alloc (.cells #[.int .i64 0, .slice none 0 0] 33)).alloc (.cells #[.int .i64 0, .int .i64 0, .bool false] 52)).alloc (.cells #[.int .i64 0, .slice none 0 0] 33) := ⟨_, rfl⟩
  rw [← hWd]
  have hbW : Below (w.heap.size + 1 + 1 + 1) (dW w) W := by rw [hWd]; exact Below.refl _ _
  obtain ⟨a0, a1, b0, b1, b2, c0, c1, f0, f1, g0, g1, g2, hz, hbw⟩ := dW_facts hbW
  have HBW := hide hbW
  clear hWd hbW a0 a1 b0 b1 b2 f0 f1 g0 g1 g2 hbw
  refine (unhide hN _).mono ?_
  rintro e w1 ⟨rfl, rfl⟩
  go_wp2_with fail
  go_loop [5, 6] (fun a i => ∃ k : Nat, 4 ≤ k ∧ k ≤ 24 ∧ i = .int .i64 k ∧ askRel s.data.toList s.size k a) (fun _ i => 24 - (intOf i).toNat)
  case atStart => exact ⟨4, by omega, by omega, rfl, _, rfl, by
    rw [beq_iff_eq]
    exact ⟨fun e => ⟨by omega, fun j h1 h2 => by omega⟩, fun e => by omega⟩⟩
  case round =>
    obtain ⟨k, hk1, hk2, rfl, q, rfl, hq⟩ := hrel
    have HQ := hide hq
    have j0 : (0 : Int) ≤ (k : Int) := by omega
    clear hq
    cases q with
    | false =>
      have hne : s.data.toList ≠ askAll := fun e => by
        have hsz : s.size = 24 := by have := congrArg List.length e; simpa [askAll] using this
        have := (unhide HQ).2 ⟨hsz, fun j h1 h2 => by rw [e]; exact ask_bytes j (by omega) h1⟩
        cases this
      have HNE := hide hne
      clear hne
      by_cases hlt : k < 24
      all_goals
        go_wp2_with fail
        go_region_held3 (fun w' => w'.cell? ⟨w.heap.size + 1 + 1, 0, none⟩ = some (.int .i64 0) ∧ w'.cell? ⟨w.heap.size + 1 + 1, 1, none⟩ = some (.slice none 0 0)) (first | go_keep | exact ⟨(cell_set2 _ z1 _ _ _ _ _).trans d0, (cell_set2 _ z1 _ _ _ _ _).trans d1⟩ | exact ⟨(cell_set3 _ z2 _ _ _ _ _ _ _).trans d0, (cell_set3 _ z2 _ _ _ _ _ _ _).trans d1⟩ | exact ⟨(cell_set3 _ z2 _ _ _ _ _ _ _).trans ((cell_set2 _ z1 _ _ _ _ _).trans d0), (cell_set3 _ z2 _ _ _ _ _ _ _).trans ((cell_set2 _ z1 _ _ _ _ _).trans d1)⟩ | exact ⟨(cell_set2 _ z1 _ _ _ _ _).trans ((cell_set3 _ z2 _ _ _ _ _ _ _).trans d0), (cell_set2 _ z1 _ _ _ _ _).trans ((cell_set3 _ z2 _ _ _ _ _ _ _).trans d1)⟩)
          (first | (go_at_call 28; refine (of_any _ _ _).mono ?_; rintro e w2 ⟨rfl, hb2⟩; obtain ⟨a0, a1, b0, b1, b2, d0, d1, f0, f1, g0, g1, g2, hz2, hbw⟩ := dW_facts (w := w) (wr := w2) ((unhide HBW).trans (Below.trans ((Below.refl _ _).drew) (hb2.mono (by simp; omega)))); clear hb2))
        go_wp2
        refine bodyPost_ret (v := .tuple #[.agg #[.int .i64 0, .slice none 0 0], .agg #[.int .i64 4, .int .i64 (-1), .bool true]]) (by simp [results, Try.results13, go_sem, a0, a1, b0, b1, b2]) rfl ?_
        exact ⟨.inr ⟨unhide HNE, rfl⟩, rdB hbw⟩
    | true =>
      have hs24 := ((unhide HQ).1 rfl).1
      have HJ := hide ((unhide HQ).1 rfl).2
      clear HQ
      by_cases hlt : k < 24
      · have ek := bt_at s k (by omega)
        have j1 : (k : Int) < (s.size : Int) := by omega
        have hG : askGood s.data.toList k ↔ (k < 23 ∧ bt s.data.toList k = 0) ∨ (k = 23 ∧ bt s.data.toList k = 16) := Iff.rfl
        have HG := hide hG
        clear hG
        generalize bt s.data.toList k = X at *
        have hcs : ((X == 0) = true ∧ decide ((k : Int) < 23) = true) ∨ ((X == 0) = true ∧ decide ((k : Int) < 23) = false ∧ ((k : Int) == 23) = true ∧ (X == 16) = false) ∨ ((X == 0) = false ∧ ((k : Int) == 23) = false) ∨ ((X == 0) = false ∧ ((k : Int) == 23) = true ∧ (X == 16) = false) ∨ ((X == 0) = false ∧ ((k : Int) == 23) = true ∧ (X == 16) = true) := by
          simp only [beq_iff_eq, beq_eq_false_iff_ne, decide_eq_true_eq, decide_eq_false_iff_not]
          omega
        rcases hcs with ⟨x1, x2⟩ | ⟨x1, x2, x3, x4⟩ | ⟨x1, x2⟩ | ⟨x1, x2, x3⟩ | ⟨x1, x2, x3⟩
        all_goals
          go_wp2
          go_round
          case rel => exact ⟨k + 1, by omega, by omega, by go_num, ask_step hk1 rfl (unhide HJ) (by rw [unhide HG]; simp only [beq_iff_eq, beq_eq_false_iff_ne, decide_eq_true_eq, decide_eq_false_iff_not] at *; simp; omega)⟩
          case measure => simp [intOf]; omega
      · have hk24 : k = 24 := by omega
        subst hk24
        have hall := hide (ask_of (b := s.data.toList) (by simpa using hs24) (unhide HN) (unhide H0) (unhide HJ))
        obtain ⟨a0, a1, b0, b1, b2, d0, d1, f0, f1, g0, g1, g2, hz2, hbw⟩ := dW_facts (unhide HBW)
        clear HBW HJ HN H0 hN
        go_wp2
        exact bodyPost_ret (v := .tuple #[.agg #[.int .i64 1, .slice none 0 0], .agg #[.int .i64 0, .int .i64 0, .bool false]]) (by simp [results, Try.results13, go_sem, a0, a1, b0, b1, b2]) rfl ⟨.inl ⟨unhide hall, rfl⟩, rdB hbw⟩

end Go.Proofs.Ytdnpeefnobjfaaa
