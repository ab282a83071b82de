/- milepostlaw's step at any operation up to KLook; the Book's looks by its counts; known. -/
import Derived.Test.YtdnpeefnobjfaaaGreatDoorQLawT
import Derived.Test.YtdnpeefnobjfaaaGreatDoorQLawM
namespace Go.Proofs.YtdnpeefnobjfaaaGreatDoor
open Go.RowKit Go.Shelf
attribute [local go_sem ↓] Go.wp_at_zero Go.wp_at_succ

/-- An operation. -/
structure OpM where
  k : Int
  on : Int
  n : Int
  d : ByteArray
  cmd : Int
  ae : Option Addr
  ce : Nat
  l : List Ent
  cs : Value
  os : Value
def opArr (o : OpM) : Array Value := #[.int .i64 o.k, .int .i64 o.on, .int .i64 o.n, .string o.d, .int .i64 o.cmd, .slice o.ae o.l.length o.ce, o.cs, o.os]
structure opFine (w : World) (o : OpM) : Prop where
  on : -9223372036854775808 ≤ o.on ∧ o.on < 9223372036854775808
  d : o.d.size ≤ 9223372036854775807
  ok : entsOk o.l
  es : entSlice w o.ae o.l
theorem Changed.of {i : Nat} {col : Col} {w w' : World} {Bk R Q : Nat} {costs : List Int} {m : Int} {nr no ni np : Nat} {e : Ending} (h : e = .returned (.bool true) ∧ Changed i col w Bk R Q costs m nr no ni np w') : e = .returned (.bool true) ∧ Changed i col w Bk R Q costs m nr no ni np w' := h
theorem step_any {o : OpM} {Wd Bk : Nat} {ps : List Pr} {m : Int} {nr no ni np : Nat} {col : Col} {w : World} (h : LawC col w Wd Bk ps m nr no ni np) (h1 : 0 < ps.length) (hk : o.k ≤ 5) (hf : opFine w o) (hm0 : 0 ≤ m) (hm1 : m ≤ 100000000000000000) (h8 : ((nr + 8) + (nr + 8) / 4 + 192) * 24 ≤ 281474976710656) (h4 : ((no + 4) + (no + 4) / 4 + 192) * 24 ≤ 281474976710656) :
    Calls Tryz.prog 30 #[.pointer (some ⟨Wd, 0, none⟩), .agg (opArr o)] w fun e w' => e = .returned (.bool true) ∧ Stepped col w Wd Bk ps m nr no ni np w' := by
  obtain ⟨k, on, n, d, cmd, ae, ce, l, cs, os⟩ := o
  dsimp only at hk
  have hon := hf.on
  dsimp only at hon
  have hfew := h.few
  have ht : ∀ W, Below w.heap.size w W → Turns (fun _ => False) col (paint col w.heap.size 0) w W := fun W hb => Turns.below 0 hb
  have hiL : ∀ {i : Nat} {P : Pr}, (∃ h : i < ps.length, ps[i] = P) → i ≤ 4 := fun ⟨h, _⟩ => by omega
  by_cases e1 : k = 1
  · subst e1
    refine stepC1 h h1 hon (fun _ _ _ _ _ W hpi hpr hb => ?_)
    have hl := h.turn (ht W hb) (fun _ => id)
    obtain ⟨pv, hwd, _⟩ := hl.wd
    cases hx : encErr cmd l with
    | some x => exact changeE_bad (hpr.turn (ht W hb) id id) hl.bk hf.ok (entSlice_below hf.es hb) hx
    | none => exact changeE_good hwd (hpr.turn (ht W hb) id id) hl.bk hl.et (hiL hpi) hm0 hm1 h4 hf.ok (entSlice_below hf.es hb) hx
  · by_cases e2 : k = 2
    · subst e2
      refine stepC2 h h1 hon (fun _ _ _ _ _ W hpi hpr hb => ?_)
      have hl := h.turn (ht W hb) (fun _ => id)
      obtain ⟨pv, hwd, _⟩ := hl.wd
      exact changeR_any hwd (hpr.turn (ht W hb) id id) hl.bk hl.et (hiL hpi) hm0 hm1 h4 hf.d
    · by_cases e3 : k = 3
      · subst e3
        exact stepC3 h h1 hon (fun _ _ _ _ _ W hpi hpr hb => changeT_any (hpr.turn (ht W hb) id id) (h.turn (ht W hb) (fun _ => id)).bk (hiL hpi))
      · by_cases e4 : k = 4
        · subst e4
          exact stepC4 h h1 hon (fun _ _ _ _ _ W hpi hpr hb => changeD_any (hpr.turn (ht W hb) id id) (h.turn (ht W hb) (fun _ => id)).bk (hiL hpi))
        · by_cases e5 : k = 5
          · subst e5
            exact stepLook h h1 hon hm0 hm1 h8
          · exact stepNone h h1 hon (fun j hj hj' => by simp; omega)

/-- The Book's looks: nothing is lent. -/
theorem bookLooks {Wd Bk : Nat} {ps : List Pr} {m : Int} {nr no ni np : Nat} {col : Col} {w : World} (h : LawC col w Wd Bk ps m nr no ni np) :
    Calls Tryz.prog 31 #[.pointer (some ⟨Bk, 0, none⟩)] w fun e w' => e = .returned (.bool true) ∧ ∃ col', LawC col' w' Wd Bk ps m nr no ni np ∧ Turns (· ≠ 0) col col' w w' := by
  obtain ⟨s, le, lr, lo, li, lp, hb, r⟩ := h.bk
  refine (looks_nil hb (fun x hx e => by have : 100 ≤ x := hx; omega)).mono fun e w' ⟨he, hb', ht⟩ => ⟨he, _, ?_, ht.mono (fun x hx => by omega)⟩
  obtain ⟨pv, h1, h2⟩ := h.wd
  exact ⟨⟨pv, h1.turn ht (by omega), h2.turn ht (by omega)⟩, fun i hi => (h.each i hi).turn ht (by omega) (by omega), ⟨s, le, lr, lo, li, lp, hb', r⟩, h.et.turn ht (by rw [h.e0]; omega), (ht.hue 0 (World.block_lt_of_cell? w _ h.et)).trans h.e0, h.few⟩

def ten8' : Pf := ⟨167772160, 8⟩
set_option maxRecDepth 100000 in
set_option maxHeartbeats 1000000 in
theorem known_any (w : World) : Calls Tryz.prog 29 #[] w fun e w' => ∃ g g', e = .returned (.agg #[.slice (some ⟨g, 0, none⟩) 2 2, .slice (some ⟨g', 0, none⟩) 1 1]) ∧ (w.heap.size ≤ g ∧ g < w'.heap.size ∧ w.heap.size ≤ g' ∧ g' < w'.heap.size) ∧ numCells w' g 0 [1, 5] ∧ pfCells w' g' 0 [ten8'] ∧ Below w.heap.size w w' := by
  go_enter Tryz.func29, Tryz.ntmps29
  go_wp2
  have b1 : Blk (((w.alloc (.cells #[.slice (some ⟨w.heap.size + 1, 0, none⟩) 2 2, .slice (some ⟨w.heap.size + 1 + 1, 0, none⟩) 1 1] 25)).alloc (.cells #[.int .i64 1, .int .i64 5] 3)).alloc (.cells #[.int .u32 167772160, .int .i64 8] 32)) (w.heap.size + 1) #[.int .i64 1, .int .i64 5] 3 := by
    have := (Blk.new (w.alloc (.cells #[.slice (some ⟨w.heap.size + 1, 0, none⟩) 2 2, .slice (some ⟨w.heap.size + 1 + 1, 0, none⟩) 1 1] 25)) #[.int .i64 1, .int .i64 5] 3).alloc (.cells #[.int .u32 167772160, .int .i64 8] 32)
    simpa only [World.size_alloc] using this
  have b2 : Blk (((w.alloc (.cells #[.slice (some ⟨w.heap.size + 1, 0, none⟩) 2 2, .slice (some ⟨w.heap.size + 1 + 1, 0, none⟩) 1 1] 25)).alloc (.cells #[.int .i64 1, .int .i64 5] 3)).alloc (.cells #[.int .u32 167772160, .int .i64 8] 32)) (w.heap.size + 1 + 1) #[.int .u32 167772160, .int .i64 8] 32 := by
    have := Blk.new ((w.alloc (.cells #[.slice (some ⟨w.heap.size + 1, 0, none⟩) 2 2, .slice (some ⟨w.heap.size + 1 + 1, 0, none⟩) 1 1] 25)).alloc (.cells #[.int .i64 1, .int .i64 5] 3)) #[.int .u32 167772160, .int .i64 8] 32
    simpa only [World.size_alloc] using this
  refine bodyPost_ret (v := .agg #[.slice (some ⟨w.heap.size + 1, 0, none⟩) 2 2, .slice (some ⟨w.heap.size + 1 + 1, 0, none⟩) 1 1]) (by simp [results, Tryz.results29, go_sem]) rfl ⟨w.heap.size + 1, w.heap.size + 1 + 1, rfl, ⟨by omega, b1.lt, by omega, b2.lt⟩, fun k hk => ?_, fun k hk => ?_, ((((Grows.refl w).alloc _).alloc _).alloc _).below⟩
  · have hk2 : k = 0 ∨ k = 1 := by simp at hk; omega
    rcases hk2 with rfl | rfl
    · exact b1.cell 0
    · exact b1.cell 1
  · obtain rfl : k = 0 := by simpa using hk
    exact ⟨b2.cell 0, b2.cell 1⟩

end Go.Proofs.YtdnpeefnobjfaaaGreatDoor

/- milepostlaw's plays up to KLook, and Learns. -/
namespace Go.Proofs.YtdnpeefnobjfaaaGreatDoor
open Go.RowKit Go.Shelf
attribute [local go_sem ↓] Go.wp_at_zero Go.wp_at_succ

theorem wide_all {K a : Nat} (hK : K * 120 ≤ 140737488351232) (ha : a ≤ 8 * K + 24) : (a + a / 4 + 192) * 24 ≤ 281474976710656 := by
  have hd : a / 4 ≤ 2 * K + 6 := by
    have h1 : a / 4 ≤ (8 * K + 24) / 4 := Nat.div_le_div_right ha
    have h2 : (8 * K + 24) / 4 = 2 * K + 6 := by
      rw [show 8 * K + 24 = 4 * (2 * K + 6) by omega]
      exact Nat.mul_div_cancel_left _ (by decide)
    rw [h2] at h1
    exact h1
  have h3 : (a + a / 4 + 192) * 24 ≤ (10 * K + 222) * 24 := Nat.mul_le_mul_right 24 (by omega)
  refine Nat.le_trans h3 ?_
  clear h3 hd ha
  omega
/-- How the script stands when t steps are done. -/
def PlayI (w1 : World) (col1 : Col) (Wd Bk P t : Nat) (wr : World) : Prop := ∃ col ps m nr no, LawC col wr Wd Bk ps m nr no 2 2 ∧ ps.length = P ∧ (0 ≤ m ∧ m ≤ 2 + 2 * t ∧ nr ≤ 8 * t ∧ no ≤ 4 * t) ∧ Turns (· ≠ 0) col1 col w1 wr
theorem PlayI.still {w1 : World} {col1 : Col} {Wd Bk P t : Nat} {w w' : World} (h : PlayI w1 col1 Wd Bk P t w) (hb : Below w.heap.size w w') : PlayI w1 col1 Wd Bk P t w' := by
  obtain ⟨col, ps, m, nr, no, h1, h2, h3, h4⟩ := h
  have ht : Turns (fun _ => False) col (paint col w.heap.size 0) w w' := Turns.below 0 hb
  exact ⟨_, ps, m, nr, no, h1.turn ht (fun _ => id), h2, h3, h4.trans (ht.mono (fun _ h => h.elim))⟩
theorem PlayI.more {w1 : World} {col1 : Col} {Wd Bk P t : Nat} {w : World} (h : PlayI w1 col1 Wd Bk P t w) : PlayI w1 col1 Wd Bk P (t + 1) w := by
  obtain ⟨col, ps, m, nr, no, h1, h2, h3, h4⟩ := h
  exact ⟨col, ps, m, nr, no, h1, h2, ⟨h3.1, by omega, by omega, by omega⟩, h4⟩
theorem PlayI.step {w1 : World} {col1 : Col} {Wd Bk P t K : Nat} {w : World} {o : OpM} (h : PlayI w1 col1 Wd Bk P t w) (hP : 0 < P) (hk : o.k ≤ 5) (hf : opFine w o) (hK : K * 120 ≤ 140737488351232) (ht : t ≤ K + 2) :
    Calls Tryz.prog 30 #[.pointer (some ⟨Wd, 0, none⟩), .agg (opArr o)] w fun e w' => e = .returned (.bool true) ∧ PlayI w1 col1 Wd Bk P (t + 1) w' := by
  obtain ⟨col, ps, m, nr, no, h1, h2, h3, h4⟩ := h
  refine (step_any h1 (by omega) hk hf h3.1 (by omega) (wide_all hK (by omega)) (wide_all hK (by omega))).mono fun e w' ⟨he, col', ps', m', nr', no', a1, a2, a3, a4⟩ => ⟨he, col', ps', m', nr', no', a1, by omega, ⟨by omega, by omega, by omega, by omega⟩, h4.trans a4⟩
theorem PlayI.books {w1 : World} {col1 : Col} {Wd Bk P t : Nat} {w : World} (h : PlayI w1 col1 Wd Bk P t w) :
    Calls Tryz.prog 31 #[.pointer (some ⟨Bk, 0, none⟩)] w fun e w' => e = .returned (.bool true) ∧ PlayI w1 col1 Wd Bk P t w' := by
  obtain ⟨col, ps, m, nr, no, h1, h2, h3, h4⟩ := h
  exact (bookLooks h1).mono fun e w' ⟨he, col', a1, a2⟩ => ⟨he, col', ps, m, nr, no, a1, h2, h3, h4.trans a2⟩
theorem PlayI.wd {w1 : World} {col1 : Col} {Wd Bk P t : Nat} {w : World} (h : PlayI w1 col1 Wd Bk P t w) : ∃ ap cp, Blk w Wd #[.pointer (some ⟨Bk, 0, none⟩), .slice ap P cp, .slice none 0 0] 88 := by
  obtain ⟨col, ps, m, nr, no, h1, h2, h3, h4⟩ := h
  obtain ⟨pv, a1, a2⟩ := h1.wd
  obtain ⟨ap, cp, rfl⟩ := ownsRow_slice a2.1
  subst h2
  exact ⟨ap, cp, a1.1⟩
/-- What one look at pair i leans on and leaves. -/
theorem PlayI.look {w1 : World} {col1 : Col} {Wd Bk P t K i : Nat} {w : World} (h : PlayI w1 col1 Wd Bk P t w) (hi : i < P) (hK : K * 120 ≤ 140737488351232) (ht : t ≤ K + 2) (x : Int) :
    ∃ gp cp R Q V rv cv, Blk w Wd #[.pointer (some ⟨Bk, 0, none⟩), .slice (some ⟨gp, 0, none⟩) P cp, .slice none 0 0] 88 ∧ w.cell? ⟨gp, i * 2, none⟩ = some (.pointer (some ⟨R, 0, none⟩)) ∧ w.cell? ⟨gp, i * 2 + 1, none⟩ = some (.pointer (some ⟨Q, 0, none⟩)) ∧
      (Blk w R #[cv, .int .i32 0, .int .u32 0, .pointer (some ⟨V, 0, none⟩)] 116 ∧ Blk w V #[rv] 122) ∧
      Calls Tryz.prog 33 #[.pointer (some ⟨Q, 0, none⟩)] w fun e wv => ∃ v, e = .returned v ∧ Below w.heap.size w wv ∧
        Calls Tryz.prog 32 #[.pointer (some ⟨Wd, 0, none⟩), .pointer (some ⟨V, 0, none⟩), v, .int .i64 x] wv fun e w' => e = .returned (.bool true) ∧ PlayI w1 col1 Wd Bk P (t + 1) w' ∧ Blk w' Wd #[.pointer (some ⟨Bk, 0, none⟩), .slice (some ⟨gp, 0, none⟩) P cp, .slice none 0 0] 88 ∧ w'.cell? ⟨gp, i * 2, none⟩ = some (.pointer (some ⟨R, 0, none⟩)) ∧ w'.cell? ⟨gp, i * 2 + 1, none⟩ = some (.pointer (some ⟨Q, 0, none⟩)) := by
  obtain ⟨col, ps, m, nr, no, h1, rfl, h3, h4⟩ := h
  obtain ⟨pv, hwd, hpv⟩ := h1.wd
  obtain ⟨gp, cp, rfl, _, hglt⟩ := hpv.1.form (by omega)
  obtain ⟨q0, q1⟩ := prCells_at ps i hi
  have g0 := owned_cells hpv.1 _ _ q0
  have g1 := owned_cells hpv.1 _ _ q1
  rw [Addr.add_lit, Nat.zero_add] at g0 g1
  obtain ⟨V, cv, rv, cv', lv, hrt, hrf, htab, hcost⟩ := h1.each i hi
  have hfew := h1.few
  refine ⟨gp, cp, _, _, V, rv, cv, hwd.1, g0, g1, ⟨hrt.blk.1, hrt.view.1⟩, ?_⟩
  refine (viewQ 4 hrf htab).mono fun e wv ⟨v, he, ho, htv⟩ => ⟨v, he, ⟨htv.os, htv.tape, htv.output, htv.size, fun k hk => htv.keep k hk id⟩, ?_⟩
  have hl := h1.turn htv (fun _ => id)
  refine (lookLaw_any x (c := 10 + 2 * i) (d := 4) (⟨hwd.turn htv id, hrt.view.turn htv id, hrt.rows.turn htv id, ho⟩ : LookS Wd Bk V (10 + 2 * i) 4 _ nl rv v _ _ wv) hl.bk htab (by omega) (by omega) h3.1 (by omega) (wide_all hK (by omega))).mono fun e w' ⟨he, hL⟩ => ?_
  obtain ⟨col9, hb9, ht9⟩ := id hL
  obtain ⟨col', ps', m', nr', no', a1, a2, a3, a4⟩ := hl.looked hL
  have hwd9 := (hwd.turn htv id).turn ht9 (by omega)
  have hpv9 := (hpv.turn htv id).turn ht9 (by omega)
  have z0 := owned_cells hpv9.1 _ _ q0
  have z1 := owned_cells hpv9.1 _ _ q1
  rw [Addr.add_lit, Nat.zero_add] at z0 z1
  exact ⟨he, ⟨col', ps', m', nr', no', a1, a2, ⟨by omega, by omega, by omega, by omega⟩, h4.trans ((htv.mono (fun _ h => h.elim)).trans a4)⟩, hwd9.1, z0, z1⟩

theorem PlayI.below {w w1 : World} {c1 : Col} {Wd Bk P t : Nat} {wr : World} (h : PlayI w1 c1 Wd Bk P t wr) (hb : Below w.heap.size w w1) (hc : ∀ k, k < w.heap.size → c1 k = 0) : Below w.heap.size w wr := by
  obtain ⟨col, ps, m, nr, no, _, _, _, h4⟩ := h
  exact hb.trans ⟨h4.os, h4.tape, h4.output, h4.size, fun k hk => h4.keep k (Nat.lt_of_lt_of_le hk hb.size) (by rw [hc k hk]; simp)⟩
theorem opFine.below {w w' : World} {o : OpM} (h : opFine w o) (hb : Below w.heap.size w w') : opFine w' o := ⟨h.on, h.d, h.ok, entSlice_below h.es hb⟩
/-- The script in memory. -/
def opsC (w : World) (sa : Option Addr) (ops : List OpM) : Prop := ops = [] ∨ ∃ b off, sa = some ⟨b, off, none⟩ ∧ b < w.heap.size ∧ ∀ i, (h : i < ops.length) → ∀ j u, (opArr ops[i])[j]? = some u → w.cell? ⟨b, off + i * 8 + j, none⟩ = some u
def bkZero : Array Value := #[.int .i64 0, .slice none 0 0, .slice none 0 0, .slice none 0 0, .slice none 0 0, .slice none 0 0, .slice none 0 0, .slice none 0 0, .slice none 0 0, .slice none 0 0, .slice none 0 0, .slice none 0 0, .slice none 0 0]
def bksZero : Bks := ⟨0, nl, nl, nl, nl, nl, nl, nl, nl, nl, nl, nl, nl⟩
/-- Colours at the beginning. -/
def col1 (n : Nat) : Col := fun k => if k = n + 1 then 1 else if k = n + 2 then 2 else 0
theorem begin_law {w : World} (h0 : 0 < w.heap.size) {W : World} {n : Nat} (hn : n = w.heap.size) (hB : Blk W (n + 1) bkZero 84) (hW : Blk W (n + 2) #[.pointer (some ⟨n + 1, 0, none⟩), .slice none 0 0, .slice none 0 0] 88) (het : etHolds W) : LawC (col1 n) W (n + 2) (n + 1) [] 0 0 0 0 0 := by
  refine ⟨⟨nl, ⟨hW, by simp [col1]⟩, ownC_nil _ _ _ _ _⟩, fun i hi => by simp at hi, ⟨bksZero, [], [], [], [], [], ⟨hB, by simp [col1], rfl, rfl, KeptC.none _ _ _ _ _ _, KeptC.none _ _ _ _ _ _, KeptC.none _ _ _ _ _ _, KeptC.none _ _ _ _ _ _, KeptC.none _ _ _ _ _ _⟩, rfl, rfl, rfl, rfl, rfl⟩, het, ?_, by simp⟩
  unfold col1
  rw [if_neg (by omega), if_neg (by omega)]
theorem num_colour {col : Col} {w : World} {ao : Option Addr} {l : List Int} (h : numSlice w ao l) (hc : ∀ k, k < w.heap.size → col k = 0) : numC col w ao l := by
  rcases h with h | ⟨b, off, h1, h2⟩
  · exact .inl h
  · by_cases h0 : 0 < l.length
    · have := numCells_lt h2 h0
      exact .inr ⟨b, off, h1, h2, this, hc b this⟩
    · exact .inl (List.eq_nil_of_length_eq_zero (by omega))
theorem pf_colour {col : Col} {w : World} {ao : Option Addr} {l : List Pf} (h : pfSlice w ao l) (hc : ∀ k, k < w.heap.size → col k = 0) : pfC col w ao l := by
  rcases h with h | ⟨b, off, h1, h2⟩
  · exact .inl h
  · by_cases h0 : 0 < l.length
    · have := pfCells_lt h2 h0
      exact .inr ⟨b, off, h1, h2, this, hc b this⟩
    · exact .inl (List.eq_nil_of_length_eq_zero (by omega))
/-- One more, whether it may be or not. -/
theorem more_any {Wd Bk cc co : Nat} {ac ao : Option Addr} {lc : List Int} {lo : List Pf} {ps : List Pr} {m : Int} {nr no ni np : Nat} {col : Col} {w : World} (h : LawC col w Wd Bk ps m nr no ni np) (h4 : ps.length ≤ 4) (hsc : numC col w ac lc) (hso : pfC col w ao lo) (hok : pfsOk lo) (bc : lc.length * 8 ≤ 140737488351232) (bo : lo.length * 16 ≤ 140737488351232) (hm0 : 0 ≤ m) (hm1 : m ≤ 100000000000000000) (hni : ni ≤ 1000) (hnp : np ≤ 1000) :
    Calls Tryz.prog 28 #[.pointer (some ⟨Wd, 0, none⟩), .agg #[.slice ac lc.length cc, .slice ao lo.length co]] w fun e w' => e = .returned (.bool true) ∧ ∃ q, q ≤ 1 ∧ Mored col w Wd Bk ps q m nr no ni np w' := by
  cases hg : (costsB lc && ownB lo) with
  | true => exact (moreGood h h4 hsc hso hok bc bo hm0 hm1 hni hnp hg).mono fun e w' ⟨he, h⟩ => ⟨he, 1, by omega, h⟩
  | false => exact (moreBad h h4 hsc hso hok bc bo hm0 hm1 hni hnp hg).mono fun e w' ⟨he, h⟩ => ⟨he, 0, by omega, h⟩

set_option maxRecDepth 100000 in
set_option maxHeartbeats 8000000 in
theorem plays_any (cc co cap : Nat) (ac ao sa : Option Addr) (lc : List Int) (lo : List Pf) (ops : List OpM) (w : World) (hsc : numSlice w ac lc) (hso : pfSlice w ao lo) (hok : pfsOk lo) (bc : lc.length * 8 ≤ 140737488351232) (bo : lo.length * 16 ≤ 140737488351232) (hK : ops.length * 120 ≤ 140737488351232) (hops : opsC w sa ops) (hfine : ∀ o ∈ ops, opFine w o) (het : etHolds w) :
    Calls Tryz.prog 9 #[.agg #[.slice ac lc.length cc, .slice ao lo.length co], .slice sa ops.length cap, .int .i64 5] w fun e w' => e = .returned (.bool true) ∧ Below w.heap.size w w' := by
  obtain ⟨X, hX⟩ : ∃ X, X = w.heap.size := ⟨_, rfl⟩
  have h0 : 0 < w.heap.size := World.block_lt_of_cell? w _ het
  obtain ⟨W1, hW1⟩ : ∃ W, W = ((w.alloc (.cells #[.slice ac lc.length cc, .slice ao lo.length co] 25)).alloc (.cells #[.int .i64 0, .slice none 0 0, .slice none 0 0, .slice none 0 0, .slice none 0 0, .slice none 0 0, .slice none 0 0, .slice none 0 0, .slice none 0 0, .slice none 0 0, .slice none 0 0, .slice none 0 0, .slice none 0 0] 84)).alloc (.cells #[.pointer (some ⟨X + 1, 0, none⟩), .slice none 0 0, .slice none 0 0] 88) := ⟨_, rfl⟩
  have hb1 : Below w.heap.size w W1 := by rw [hW1]; exact ((((Grows.refl w).alloc _).alloc _).alloc _).below
  have bX : Blk W1 X #[.slice ac lc.length cc, .slice ao lo.length co] 25 := by rw [hW1, hX]; exact ((Blk.new w _ _).alloc _).alloc _
  have bB : Blk W1 (X + 1) bkZero 84 := by
    rw [hW1, hX]
    have := (Blk.new (w.alloc (.cells #[.slice ac lc.length cc, .slice ao lo.length co] 25)) bkZero 84).alloc (.cells #[.pointer (some ⟨w.heap.size + 1, 0, none⟩), .slice none 0 0, .slice none 0 0] 88)
    simp only [World.size_alloc, bkZero] at this ⊢
    exact this
  have bW : Blk W1 (X + 2) #[.pointer (some ⟨X + 1, 0, none⟩), .slice none 0 0, .slice none 0 0] 88 := by
    rw [hW1, hX]
    have := Blk.new ((w.alloc (.cells #[.slice ac lc.length cc, .slice ao lo.length co] 25)).alloc (.cells bkZero 84)) #[.pointer (some ⟨w.heap.size + 1, 0, none⟩), .slice none 0 0, .slice none 0 0] 88
    simp only [World.size_alloc, bkZero] at this
    exact this
  obtain ⟨Bk, hBk⟩ : ∃ B, B = X + 1 := ⟨_, rfl⟩
  obtain ⟨Wd, hWd⟩ : ∃ B, B = X + 1 + 1 := ⟨_, rfl⟩
  have hlaw : LawC (col1 X) W1 Wd Bk [] 0 0 0 0 0 := by rw [hWd, hBk]; exact begin_law h0 hX bB bW (het.below hb1 h0)
  have hcol : ∀ k, k < w.heap.size → col1 X k = 0 := fun k hk => by unfold col1; rw [if_neg (by omega), if_neg (by omega)]
  have hcX : col1 X X = 0 := by unfold col1; rw [if_neg (by omega), if_neg (by omega)]
  have t01 : Turns (fun _ => False) (col1 X) (col1 X) w W1 := ⟨hb1.os, hb1.tape, hb1.output, hb1.size, fun k hk _ => hb1.block k hk, fun _ _ => rfl⟩
  have HSC := hide ((num_colour hsc hcol).turn t01 id)
  have HSO := hide ((pf_colour hso hcol).turn t01 id)
  have HBX := hide (show BlkC (col1 X) 0 W1 X _ _ from ⟨bX, hcX⟩)
  have HLAW := hide hlaw
  have HB1 := hide hb1
  have HFINE := hide hfine
  have HOPS := hide hops
  have HCOL := hide hcol
  have HOK := hide hok
  have HX := hide hX
  have hkn := known_any W1
  clear hsc hso hok hops hfine het hb1 bX bB bW hlaw hcol hcX t01 h0
  go_enter Tryz.func9, Tryz.ntmps9
  rw [hX] at hW1
  go_wp2_with (first | (go_at_call 29; rw [← hW1, ← hX, ← hWd, ← hBk]; refine hkn.mono ?_; rintro e wk ⟨g, g', rfl, ⟨l1, l2, l3, l4⟩, hnum, hpf, hbk⟩; have tk : Turns (fun _ => False) (col1 X) (paint (col1 X) W1.heap.size 0) W1 wk := Turns.below 0 hbk; have hm1 := moreGood (cc := 2) (co := 1) (lc := [1, 5]) (lo := [ten8']) ((unhide HLAW).turn tk (fun _ => id)) (by simp) (.inr ⟨g, 0, rfl, hnum, l2, paint_new l1⟩) (.inr ⟨g', 0, rfl, hpf, l4, paint_new l3⟩) (by intro p hp; simp at hp; subst hp; decide) (by decide) (by decide) (by omega) (by omega) (by omega) (by omega) (by decide); have HTK := hide tk; clear hkn l1 l2 l3 l4 hnum hpf hbk tk hW1 hX hWd hBk HLAW) | (go_at_call 28; refine hm1.mono ?_; rintro e w2 ⟨rfl, hmd⟩; obtain ⟨col2, ps2, law2, hp2, t2⟩ := hmd; have T02 := ((unhide HTK).mono (D := (· ≠ 0)) (fun _ h => h.elim)).trans t2; have bX2 := (unhide HBX).turn T02 (by simp); have x0 := (bX2.1.cell 0).trans (show _ = some (.slice ac lc.length cc) from rfl); have x1 := (bX2.1.cell 1).trans (show _ = some (.slice ao lo.length co) from rfl); have hm2 := more_any (cc := cc) (co := co) law2 (by rw [hp2]; simp) ((unhide HSC).turn T02 (by simp)) ((unhide HSO).turn T02 (by simp)) (unhide HOK) bc bo (by omega) (by omega) (by omega) (by omega); have HT02 := hide T02; have HP2 := hide hp2; clear hm1 law2 hp2 t2 T02 bX2 HTK) | (go_at_call 28; refine hm2.mono ?_; rintro e w3 ⟨rfl, q, hq, hmd⟩; obtain ⟨col3, ps3, law3, hp3, t3⟩ := hmd; have PI0 : PlayI W1 (col1 X) Wd Bk ps3.length 0 w3 := ⟨col3, ps3, _, _, _, law3, rfl, ⟨by omega, by omega, by omega, by omega⟩, (unhide HT02).trans t3⟩; have hP1 : 0 < ps3.length := (by have := unhide HP2; simp at this; omega); have hPle : ps3.length ≤ 2 := (by have := unhide HP2; simp at this; omega); have hst := PI0.step (o := ⟨5, 0, 167838211, ⟨#[]⟩, 0, none, 0, [], nl, nl⟩) hP1 (by decide) ⟨by decide, by decide, by intro e he; simp at he, .inl rfl⟩ hK (by omega); generalize ps3.length = P at *; clear hm2 law3 hp3 t3 x0 x1 HT02 HP2 PI0) | (go_at_call 30; refine hst.mono ?_; rintro e w4 ⟨rfl, hp4⟩; have HP4 := hide hp4; clear hp4 hst))
  have HBEL := hide (fun (wr : World) (t : Nat) (h : PlayI W1 (col1 X) Wd Bk P t wr) => h.below (unhide HB1) (unhide HCOL))
  obtain ⟨K, hKd⟩ : ∃ K, ops.length = K := ⟨_, rfl⟩
  rw [hKd] at hK ⊢
  have HKD := hide hKd
  clear hKd HSC HSO HBX HOK HB1 HCOL HX bc bo
  go_loopw [11] (fun i wr => ∃ k : Nat, k ≤ K ∧ i = .int .i64 k ∧ PlayI W1 (col1 X) Wd Bk P (k + 1) wr) (fun i _ => K - (intOf i).toNat)
  case atStart => exact ⟨0, by omega, rfl, unhide HP4⟩
  case round =>
    obtain ⟨k, hk, rfl, hp⟩ := hrel
    clear HP4
    by_cases hlt : k < K
    · have hkl : k < ops.length := by rw [unhide HKD]; exact hlt
      have hbw := unhide HBEL wr _ hp
      have hof := (unhide HFINE ops[k] (List.getElem_mem hkl)).below hbw
      rcases unhide HOPS with hnil | ⟨b, off, rfl, hbl, hall⟩
      · rw [hnil] at hkl; simp at hkl
      have hcell := hall k hkl
      generalize ops[k] = o at *
      obtain ⟨ok, on, n, d, cmd, ae, ce, l, cs, os⟩ := o
      have c0 : wr.cell? ⟨b, off + k * 8, none⟩ = some (.int .i64 ok) := (hbw.cell (p := ⟨b, _, none⟩) hbl).trans (hcell 0 _ rfl)
      have c1 : wr.cell? ⟨b, off + k * 8 + 1, none⟩ = some (.int .i64 on) := (hbw.cell (p := ⟨b, _, none⟩) hbl).trans (hcell 1 _ rfl)
      have c2 : wr.cell? ⟨b, off + k * 8 + 2, none⟩ = some (.int .i64 n) := (hbw.cell (p := ⟨b, _, none⟩) hbl).trans (hcell 2 _ rfl)
      have c3 : wr.cell? ⟨b, off + k * 8 + 3, none⟩ = some (.string d) := (hbw.cell (p := ⟨b, _, none⟩) hbl).trans (hcell 3 _ rfl)
      have c4 : wr.cell? ⟨b, off + k * 8 + 4, none⟩ = some (.int .i64 cmd) := (hbw.cell (p := ⟨b, _, none⟩) hbl).trans (hcell 4 _ rfl)
      have c5 : wr.cell? ⟨b, off + k * 8 + 5, none⟩ = some (.slice ae l.length ce) := (hbw.cell (p := ⟨b, _, none⟩) hbl).trans (hcell 5 _ rfl)
      have c6 : wr.cell? ⟨b, off + k * 8 + 6, none⟩ = some cs := (hbw.cell (p := ⟨b, _, none⟩) hbl).trans (hcell 6 _ rfl)
      have c7 : wr.cell? ⟨b, off + k * 8 + 7, none⟩ = some os := (hbw.cell (p := ⟨b, _, none⟩) hbl).trans (hcell 7 _ rfl)
      have j0 : (0 : Int) ≤ (k : Int) := by omega
      have j1 : (k : Int) < (K : Int) := by omega
      by_cases h5 : 5 < ok
      · have hd : decide (5 < ok) = true := by simp [h5]
        have HP := hide hp
        clear hp hof hcell hall hbw hbl hkl
        go_wp2
        go_roundw
        case rel => exact ⟨k + 1, by omega, by go_num, (unhide HP).more⟩
        case measure => simp [intOf]; omega
      · have hd : decide (5 < ok) = false := by simp; omega
        have hst := hp.step hP1 (show (⟨ok, on, n, d, cmd, ae, ce, l, cs, os⟩ : OpM).k ≤ 5 by show ok ≤ 5; omega) hof hK (by omega)
        simp only [opArr] at hst
        clear hp hof hcell hall hbw hbl hkl
        go_wp2_with (first | (go_at_call 30; refine hst.mono ?_; rintro e w5 ⟨rfl, hp5⟩; obtain ⟨ap5, cp5, bw5⟩ := hp5.wd; have z0 := (bw5.cell 0).trans (show _ = some (.pointer (some ⟨Bk, 0, none⟩)) from rfl); have hlk := hp5.books; clear hst hp5 bw5) | (go_at_call 31; refine hlk.mono ?_; rintro e w6 ⟨rfl, hp6⟩; have HP6 := hide hp6; clear hlk hp6 z0))
        go_roundw
        case rel => exact ⟨k + 1, by omega, by go_num, unhide HP6⟩
        case measure => simp [intOf]; omega
    · obtain rfl : K = k := by omega
      have HP := hide hp
      clear hp hk hlt
      go_wp2_with fail
      go_loopw [14] (fun i wr => ∃ k : Nat, k ≤ P ∧ i = .int .i64 k ∧ PlayI W1 (col1 X) Wd Bk P (K + 1 + k) wr) (fun i _ => P - (intOf i).toNat)
      case atStart => exact ⟨0, by omega, rfl, unhide HP⟩
      case round =>
        obtain ⟨k, hk, rfl, hp⟩ := hrel
        clear HP
        by_cases hlt : k < P
        · have hp' := hp.still (show Below wr.heap.size wr wr.drew from (Below.refl _ wr).drew)
          obtain ⟨gp, cp, R, Q, V, rv, cv, bw, g0, g1, ⟨hr, hv⟩, hvq⟩ := hp'.look (i := k) hlt hK (by omega) 167772161
          have z1 := (bw.cell 1).trans (show _ = some (.slice (some ⟨gp, 0, none⟩) P cp) from rfl)
          have z1' : wr.cell? ⟨Wd, 1, none⟩ = some (.slice (some ⟨gp, 0, none⟩) P cp) := z1
          have hVP := view_any R V rv cv 0 0 wr.drew hr hv
          have HV := hide (fun (wv : World) (h : Below wr.drew.heap.size wr.drew wv) => view_any R V rv cv 0 0 wv (hr.below h hr.lt) (hv.below h hv.lt))
          have lw : Wd < wr.drew.heap.size := bw.lt
          have lg : gp < wr.drew.heap.size := World.block_lt_of_cell? wr.drew _ g0
          have j0 : (0 : Int) ≤ (k : Int) := by omega
          have j1 : (k : Int) < (P : Int) := by omega
          have HVQ := hide hvq
          clear hp hp' hr hv bw hvq
          go_wp2_with fail
          have hvq := unhide HVQ
          go_region_held3 (fun w' => w'.cell? ⟨Wd, 1, none⟩ = some (.slice (some ⟨gp, 0, none⟩) P cp) ∧ w'.cell? ⟨gp, k * 2, none⟩ = some (.pointer (some ⟨R, 0, none⟩)) ∧ w'.cell? ⟨gp, k * 2 + 1, none⟩ = some (.pointer (some ⟨Q, 0, none⟩)))
            (first | exact ⟨z1, g0, g1⟩ | exact ⟨q1, q2, q3⟩ | exact ⟨y1, y2, y3⟩)
            (first | (go_at_call 17; refine hVP.mono ?_; rintro e wz ⟨rfl, rfl⟩) | (go_at_call 33; refine hvq.mono ?_; rintro e wv ⟨v, rfl, hbv, hlk⟩; have q1 := (hbv.cell (p := ⟨Wd, 1, none⟩) lw).trans z1; have q2 := (hbv.cell (p := ⟨gp, k * 2, none⟩) lg).trans g0; have q3 := (hbv.cell (p := ⟨gp, k * 2 + 1, none⟩) lg).trans g1; have hVP2 := unhide HV wv hbv; clear hbv) | (go_at_call 17; refine hVP2.mono ?_; rintro e wz ⟨rfl, rfl⟩) | (go_at_call 32; refine hlk.mono ?_; rintro e w9 ⟨rfl, hp9, bw9, y2, y3⟩; have y1 := (bw9.cell 1).trans (show _ = some (.slice (some ⟨gp, 0, none⟩) P cp) from rfl); have HP9 := hide hp9; clear hp9 bw9 hlk))
          all_goals
            go_wp2_with fail
            go_roundw
            case rel => exact ⟨k + 1, by omega, by go_num, unhide HP9⟩
            case measure => simp [intOf]; omega
        · obtain rfl : P = k := by omega
          obtain ⟨ap, cp, bw⟩ := hp.wd
          have z0 := (bw.cell 0).trans (show _ = some (.pointer (some ⟨Bk, 0, none⟩)) from rfl)
          have z1 := (bw.cell 1).trans (show _ = some (.slice ap P cp) from rfl)
          have z2 := (bw.cell 2).trans (show _ = some (.slice none 0 0) from rfl)
          have hlk := hp.books
          clear hp bw hk hlt
          go_wp2_with fail
          refine wp_loop_rounds 1 ?_
          rw [rounds_succ]
          go_wp2_with (go_at_call 31; refine hlk.mono ?_; rintro e w6 ⟨rfl, hp6⟩; have HP6 := hide hp6; clear hlk hp6)
          go_ret
          exact ⟨rfl, unhide HBEL _ _ (unhide HP6)⟩

set_option maxHeartbeats 1000000 in
theorem learns_any (cc co cap : Nat) (ac ao sa : Option Addr) (lc : List Int) (lo : List Pf) (ops : List OpM) (w : World) (hsc : numSlice w ac lc) (hso : pfSlice w ao lo) (hok : pfsOk lo) (bc : lc.length * 8 ≤ 140737488351232) (bo : lo.length * 16 ≤ 140737488351232) (hK : ops.length * 120 ≤ 140737488351232) (hops : opsC w sa ops) (hfine : ∀ o ∈ ops, opFine w o) (het : etHolds w) :
    Calls Tryz.prog 3 #[.agg #[.slice ac lc.length cc, .slice ao lo.length co], .slice sa ops.length cap] w fun e w' => e = .returned (.bool true) ∧ Below w.heap.size w w' := by
  have hb : Below w.heap.size w (w.alloc (.cells #[.slice ac lc.length cc, .slice ao lo.length co] 25)) := below_new _ _
  have h0 : 0 < w.heap.size := World.block_lt_of_cell? w _ het
  have hP := plays_any cc co cap ac ao sa lc lo ops _ (numSlice_below hsc hb) (pfSlice_below hso hb) hok bc bo hK (by
    rcases hops with h | ⟨b, off, h1, h2, h3⟩
    · exact .inl h
    · exact .inr ⟨b, off, h1, Nat.lt_of_lt_of_le h2 hb.size, fun i hi j u hu => (hb.cell (p := ⟨b, _, none⟩) h2).trans (h3 i hi j u hu)⟩) (fun o ho => (hfine o ho).below hb) (het.below hb h0)
  have HB := hide hb
  clear hsc hso hok bc bo hK hops hfine het hb h0
  go_enter Tryz.func3, Tryz.ntmps3
  go_wp2_with (go_at_call 9; refine hP.mono ?_; rintro e w1 ⟨rfl, hb1⟩)
  go_ret
  exact ⟨rfl, below_seq (unhide HB) hb1⟩

end Go.Proofs.YtdnpeefnobjfaaaGreatDoor
