/- The law Forgotten. -/
import Derived.Test.YtdnpeefnobjfaaaGreatDoorFWalk
namespace Go.Proofs.YtdnpeefnobjfaaaGreatDoor
open Go.RowKit Go.Shelf Go.Lib
attribute [local go_sem ↓] Go.wp_at_zero Go.wp_at_succ

/-- The law's state in memory, at the head of its loop. -/
structure FAt (w wr : World) (P base R : Nat) (cv : Value) (st : FSt) : Prop where
  below : Below w.heap.size w wr
  box : Blk wr P #[.int .u32 335544320, .int .i64 8] 32
  router : ∃ V rv, RouterAt wr base R [2] (fRows st) V cv rv
theorem FAt.step {w wr w' : World} {P base R : Nat} {cv : Value} {st : FSt} (h : FAt w wr P base R cv st) (hb : Below wr.heap.size wr w') : FAt w w' P base R cv st := by
  obtain ⟨h1, h2, V, rv, h3⟩ := h
  exact ⟨h1.trans (hb.mono h1.size), h2.below hb h2.lt, V, rv, h3.below hb⟩
theorem FAt.turn {w wr w' : World} {P base R V : Nat} {cv rv : Value} {st st' : FSt} (h : FAt w wr P base R cv st) (hw : w.heap.size ≤ base) (hg : wr.grownBy w' (some R)) (hR : RouterAt w' base R [2] (fRows st') V cv rv) : FAt w w' P base R cv st' := by
  obtain ⟨h1, h2, V0, rv0, h3⟩ := h
  refine ⟨h1.grown hg h1.size (fun k hk => by cases hk; exact Nat.le_trans hw h3.new.1), ?_, V, rv, hR⟩
  refine (hg.block P h2.lt ?_).trans h2
  intro e
  cases e
  have h4 := h3.blk
  unfold Blk at h2 h4
  rw [h4] at h2
  simp at h2
/-- What the law knows: behind so many pieces, the age and whether it is dead. -/
def fIs (k : Nat) : FSt → Int → Bool → Prop
  | .inl a, g, d => d = false ∧ g = a ∧ a < 180
  | .inr (some a), g, d => d = true ∧ g = a ∧ a < 120
  | .inr none, g, d => d = true ∧ 120 ≤ g ∧ g ≤ 60 * k + 200
theorem fIs_ok {k : Nat} {st : FSt} {g : Int} {d : Bool} (h : fIs k st g d) : fOk st := by
  cases st using FSt.parts with
  | live a => exact h.2.2
  | dead a => exact h.2.2
  | gone => trivial

def fEnt : Ent := ⟨335544320, 8, 9, 3⟩
def fText : ByteArray := strB (encBytes 2 [fEnt])
theorem fEnt_fine : encErr 2 [fEnt] = none := by decide
theorem fEnt_ok : ∀ e ∈ [fEnt], 0 ≤ e.addr ∧ e.addr < 4294967296 := by decide
theorem strB_back (b : List UInt8) : (strB b).data.toList = b := rfl
theorem fText_reads : decErr fText.data.toList = none ∧ decCmd fText.data.toList = 2 ∧ decEnts fText.data.toList = [fEnt] := by
  unfold fText
  rw [strB_back]
  exact reads fEnt_fine fEnt_ok
theorem fText_size : fText.size ≤ 9223372036854775807 := by decide

set_option maxRecDepth 100000 in
set_option maxHeartbeats 1000000 in
/-- The net is told. -/
theorem fTold (w : World) (R V base : Nat) (cv rv : Value) (st : FSt) (hst : st = .gone ∨ (∃ a, st = .live a) ∨ ∃ a, st = .dead a) (hR : RouterAt w base R [2] (fRows st) V cv rv) :
    Calls Tryz.prog 14 #[.pointer (some ⟨R, 0, none⟩), .int .i64 0, .string fText] w fun e w' => e = .returned (.tuple #[.slice none 0 0, .nilIface]) ∧ ∃ V' rv', RouterAt w' base R [2] (fRows (.live 0)) V' cv rv' ∧ w.grownBy w' (some R) := by
  obtain ⟨r1, r2, r3⟩ := fText_reads
  have h := receive_resp R V base 0 fText [2] (fRows st) cv rv w hR (by decide) (by decide) (Nat.le_trans (fRows_len st) (by decide)) (fRows_sorted st) fText_size r1 r2 (by rw [r3]; decide) (by rw [r3]; decide)
  have e : heardL (fRows st) ((0 : Nat) : Int) ([2] : List Int)[0] (decEnts fText.data.toList) = fRows (.live 0) := by
    rw [r3]
    show takeL (fRows st) fNews = _
    rcases hst with rfl | ⟨a, rfl⟩ | ⟨a, rfl⟩
    · exact take_first
    · exact take_live a
    · exact take_dead a
  rw [e] at h
  exact h

set_option maxRecDepth 100000 in
set_option maxHeartbeats 8000000 in
theorem forgotten_any (ao : Option Addr) (n cap : Nat) (l : List Int) (again : Int) (w : World) (hl : l.length = n) (hn : n ≤ 100000000000000) (hrng : ∀ x ∈ l, -9223372036854775808 ≤ x ∧ x < 9223372036854775808) (hs : numSlice w ao l) :
    Calls Tryz.prog 4 #[.slice ao n cap, .int .i64 again] w fun e w' => e = .returned (.bool true) ∧ Below w.heap.size w w' := by
  have hgood : (costsB [2] && ownB [⟨16777216, 8⟩]) = true := by decide
  have HRNG := hide hrng
  have HS := hide hs
  have HL := hide hl
  clear hrng hs hl
  go_enter Tryz.func4, Tryz.ntmps4
  go_wp2_with (go_at_call 10; refine (begin_any w).mono ?_; rintro e w1 ⟨rfl, hb1⟩)
  have bP1 := ((Blk.new w1 #[.int .u32 335544320, .int .i64 8] 32).alloc (.cells #[.int .i64 2] 3))
  have bC1 := outBlk w1 #[.int .u32 335544320, .int .i64 8] 32 #[.int .i64 2] 3
  have hb1' := hb1.trans ((((Grows.refl w1).alloc (.cells #[.int .u32 335544320, .int .i64 8] 32)).alloc (.cells #[.int .i64 2] 3)).below.mono hb1.size)
  refine (prefix0_any _).mono ?_
  rintro e w2 ⟨rfl, hg2⟩
  have bP2 := (bP1.grows hg2).alloc (.cells #[.int .u32 16777216, .int .i64 8] 32)
  have bC2 := (bC1.grows hg2).alloc (.cells #[.int .u32 16777216, .int .i64 8] 32)
  have bO2 := Blk.new w2 #[.int .u32 16777216, .int .i64 8] 32
  have hs2 : w1.heap.size + 2 ≤ w2.heap.size := by have := hg2.below.size; simp at this; omega
  have hb2 := (hb1'.trans (hg2.below.mono hb1'.size)).alloc (show w.heap.size ≤ w2.heap.size by have := hb1.size; omega) (.cells #[.int .u32 16777216, .int .i64 8] 32)
  have hnum : numCells (w2.alloc (.cells #[.int .u32 16777216, .int .i64 8] 32)) (w1.heap.size + 1) 0 [2] := fun k hk => by
    obtain rfl : k = 0 := by simpa using hk
    exact bC2.cell 0
  have hpf : pfCells (w2.alloc (.cells #[.int .u32 16777216, .int .i64 8] 32)) w2.heap.size 0 [⟨16777216, 8⟩] := fun k hk => by
    obtain rfl : k = 0 := by simpa using hk
    exact ⟨bO2.cell 0, bO2.cell 1⟩
  have hN := new_good (some ⟨w1.heap.size + 1, 0, none⟩) (some ⟨w2.heap.size, 0, none⟩) 1 1 [2] [⟨16777216, 8⟩] _ hgood (by intro p hp; simp at hp; subst hp; decide) (Nat.le_refl _) (by intro h; cases h) (.inr ⟨_, _, rfl, hnum⟩) (.inr ⟨_, _, rfl, hpf⟩)
  simp only [List.length_cons, List.length_nil, Nat.zero_add] at hN
  have hw2 : w.heap.size ≤ (w2.alloc (.cells #[.int .u32 16777216, .int .i64 8] 32)).heap.size := hb2.size
  have HB2 := hide hb2
  clear hnum hpf bC1 bC2 bO2 hb1 hb1' hg2 bP1
  go_wp2_with fail
  refine hN.mono ?_
  generalize (w2.alloc (.cells #[.int .u32 16777216, .int .i64 8] 32)) = W2 at *
  rintro e w3 ⟨R, V, cv, rv, Ls, rfl, hR3, hperm, _, hb3⟩
  obtain rfl : Ls = [⟨16777216, 8⟩] := List.perm_singleton.1 hperm
  have bP3 := bP2.below hb3 bP2.lt
  have c0 := (bP3.cell 0).trans (show _ = some (.int .u32 335544320) from rfl)
  have c1 := (bP3.cell 1).trans (show _ = some (.int .i64 8) from rfl)
  have hF3 : FAt w w3 w1.heap.size W2.heap.size R cv .gone := ⟨(unhide HB2).trans (hb3.mono hw2), bP3, V, rv, hR3⟩
  have HF3 := hide hF3
  clear hperm hb3 hR3 hF3 bP3 bP2 HB2 hN hs2
  generalize w1.heap.size = P at *
  generalize W2.heap.size = base at *
  have bE := Blk.new w3 #[.int .u32 335544320, .int .i64 8, .int .i64 9, .int .i64 3] 42
  have hE := mEncode_any 2 (some ⟨w3.heap.size, 0, none⟩) 1 1 [fEnt] (w3.alloc (.cells #[.int .u32 335544320, .int .i64 8, .int .i64 9, .int .i64 3] 42)) fEnt_ok rfl (.inr ⟨_, _, rfl, fun k hk => by
    obtain rfl : k = 0 := by simpa using hk
    exact ⟨bE.cell 0, bE.cell 1, bE.cell 2, bE.cell 3⟩⟩)
  rw [encOut_none fEnt_fine, fEnt_fine] at hE
  clear bE
  go_wp2_with fail
  refine hE.mono ?_
  rintro e w4 ⟨ve, rfl, hve, hb4⟩
  obtain rfl : ve = .nilIface := hve
  have hF4 := ((unhide HF3).step (below_new w3 _)).step hb4
  clear hE hb4 HF3 c0 c1
  have HF4 := hide hF4
  obtain ⟨_, _, V4, rv4, hR4⟩ := hF4
  have hT := fTold w4 R V4 base cv rv4 .gone (.inl rfl) hR4
  rw [show strB (encBytes 2 [fEnt]) = fText from rfl]
  clear hR4
  go_wp2_with (go_at_call 14; refine hT.mono ?_; rintro e w5 ⟨rfl, V5, rv5, hR5, hg5⟩; have HF5 := hide ((unhide HF4).turn hw2 hg5 hR5); clear hR5 hg5)
  have hF5 := unhide HF5
  clear hT HF4 HF5
  go_loopw [13, 14, 15] (fun ag de i wr => ∃ (k : Nat) (st : FSt) (g : Int) (d : Bool), k ≤ n ∧ i = .int .i64 k ∧ ag = .int .i64 g ∧ de = .bool d ∧ fIs k st g d ∧ FAt w wr P base R cv st) (fun _ _ i _ => n - (intOf i).toNat)
  case atStart => exact ⟨0, .live 0, 0, false, by omega, rfl, rfl, rfl, ⟨rfl, rfl, by omega⟩, hF5⟩
  case round =>
    obtain ⟨k, st, g, d, hk, rfl, rfl, rfl, hi, hF⟩ := hrel
    clear hF5
    by_cases hlt : k < n
    · have hkL : k < l.length := by rw [unhide HL]; exact hlt
      rcases unhide HS with h0 | ⟨b, off, rfl, hcw⟩
      · rw [h0] at hkL; simp at hkL
      · have q0 := numCells_below hcw hF.below (numCells_lt hcw (by omega)) k hkL
        obtain ⟨hx0, hx1⟩ := unhide HRNG l[k] (List.getElem_mem _)
        obtain ⟨p0, p1⟩ := pickI_range l[k] 60 (by decide)
        have hP := fun W => pick_any l[k] 60 W (by decide) (by decide) hx0 hx1
        obtain ⟨m, hm⟩ : ∃ m : Nat, pickI l[k] 60 = m := ⟨(pickI l[k] 60).toNat, by omega⟩
        rw [hm] at p0 p1 hP
        have hm59 : m ≤ 59 := by omega
        generalize l[k] = x at *
        have j0 : (0 : Int) ≤ (k : Int) := by omega
        have j1 : (k : Int) < (n : Int) := by omega
        have hok := fIs_ok hi
        have HF := hide hF
        obtain ⟨z, hz⟩ : ∃ z, pickI (wrap64 (again + (k : Int))) 5 = z := ⟨_, rfl⟩
        have hQ : ∀ W, Calls Tryz.prog 15 #[.int .i64 (wrap64 (again + (k : Int))), .int .i64 5] W fun e w' => e = .returned (.int .i64 z) ∧ w' = W := fun W => by
          rw [← hz]
          exact pick_any _ 5 W (by decide) (by decide) (by unfold wrap64; omega) (by unfold wrap64; omega)
        clear hz
        obtain ⟨_, _, V0, rv0, hR0⟩ := hF
        have hTk := tick_any R V0 base m [2] (fRows st) cv rv0 wr hR0 (Nat.le_trans (fRows_len st) (by decide)) (by omega) (fRows_ages st hok)
        rw [later_f st m hok (by omega)] at hTk
        clear hcw hR0 hm p0 p1 hx0 hx1
        cases st using FSt.parts with
        | live a =>
          obtain ⟨rfl, rfl, ha⟩ := hi
          have hw : IntKind.i64.wrap ((a : Int) + (m : Int)) = (a : Int) + (m : Int) := wrap_small _ (by omega) (by omega)
          by_cases h180 : a + m < 180
          · have efl : fLater (.live a) m = .live (a + m) := if_pos h180
            rw [efl] at hTk
            have hz1 : (a : Int) + (m : Int) < 180 := by omega
            have hne : ∀ W, (binOp .neq 52 (.agg #[.int .u32 335544320, .int .i64 8, .int .i64 9, .int .i64 5, .int .i64 0]) (.agg #[.int .u32 335544320, .int .i64 8, .int .i64 9, .int .i64 5, .int .i64 0])).run Tryz.prog W = .ok (.bool false) W := fun W => neqRoute_run (fRow 5 0) (fRow 5 0) W
            have hl2 := fRows_len (.live (a + m))
            go_wp2_with (first | (go_at_call 15; refine (hP _).mono ?_; rintro e wp ⟨rfl, rfl⟩) | (go_at_call 16; refine hTk.mono ?_; rintro e w5 ⟨rfl, V5, rv5, hR5, hg5⟩; have hF5 := (unhide HF).turn hw2 hg5 hR5; obtain ⟨ar5, cr5, hrv5⟩ := ownsRow_slice hR5.rows; subst hrv5; have hK1 := lookup_any V5 ar5 _ cr5 (fRows (.live (a + m))) 335610371 w5 hR5.view rfl (by omega) (fRows_ok _) (by decide) (by decide) (rwSlice_own hR5.rows); rw [find_live _] at hK1; simp only [lookOut, routeVals, fRow] at hK1; have bR5 := hR5.blk; have bV5 := hR5.view; have HF5 := hide hF5; have HR5 := hide hR5; clear hR5 hg5 hF5) | (go_at_call 17; refine (view_any R V5 _ _ 0 0 w5 bR5 bV5).mono ?_; rintro e wv ⟨rfl, rfl⟩))
            refine hK1.mono ?_
            rintro e w6 ⟨rfl, hb6⟩
            have hb6a := hb6.alloc hb6.size (.cells #[.int .u32 335544320, .int .i64 8, .int .i64 9, .int .i64 5, .int .i64 0] 52)
            have hR6 := (unhide HR5).below hb6a
            have bA6 := Blk.new w6 #[.int .u32 335544320, .int .i64 8, .int .i64 9, .int .i64 5, .int .i64 0] 52
            have hK2 := lookup_any V5 ar5 _ cr5 (fRows (.live (a + m))) 16777217 _ hR6.view rfl (by omega) (fRows_ok _) (by decide) (by decide) (rwSlice_own hR6.rows)
            rw [find_own] at hK2
            simp only [lookOut, routeVals, fOwn, ownRw, freshRw] at hK2
            have bR6 := hR6.blk
            have bV6 := hR6.view
            have HR6 := hide hR6
            have HF6 := hide ((unhide HF5).step hb6a)
            clear hR6 hb6 hb6a hK1 bR5 bV5 HR5 HF5 hTk
            go_wp2_with (go_at_call 17; refine (view_any R V5 _ _ 0 0 _ bR6 bV6).mono ?_; rintro e wv ⟨rfl, rfl⟩)
            refine hK2.mono ?_
            rintro e w7 ⟨rfl, hb7⟩
            have hb7a := hb7.alloc hb7.size (.cells #[.int .u32 16777216, .int .i64 8, .int .i64 0, .int .i64 1, .int .i64 (-1)] 52)
            have hR7 := (unhide HR6).below hb7a
            have bA7 := (bA6.below hb7 bA6.lt).alloc (.cells #[.int .u32 16777216, .int .i64 8, .int .i64 0, .int .i64 1, .int .i64 (-1)] 52)
            have bB7 := Blk.new w7 #[.int .u32 16777216, .int .i64 8, .int .i64 0, .int .i64 1, .int .i64 (-1)] 52
            have hK3 := routes_any V5 ar5 cr5 (fRows (.live (a + m))) _ (by omega) hR7.view (rwSlice_own hR7.rows)
            have bR7 := hR7.blk
            have bV7 := hR7.view
            have HR7 := hide hR7
            have HF7 := hide ((unhide HF6).step hb7a)
            clear hR7 hb7 hb7a hK2 bR6 bV6 HR6 HF6 bA6
            go_wp2_with (go_at_call 17; refine (view_any R V5 _ _ 0 0 _ bR7 bV7).mono ?_; rintro e wv ⟨rfl, rfl⟩)
            refine hK3.mono ?_
            rintro e w8 ⟨v8, rfl, ho8, hb8⟩
            have bA8 := bA7.below hb8 bA7.lt
            have bB8 := bB7.below hb8 bB7.lt
            have hR8 := (unhide HR7).below hb8
            have hF8 := (unhide HF7).step hb8
            have bP8 := hF8.box
            have c0 := (bP8.cell 0).trans (show _ = some (.int .u32 335544320) from rfl)
            have c1 := (bP8.cell 1).trans (show _ = some (.int .i64 8) from rfl)
            have d0 := bA8.cell 0
            have d1 := bA8.cell 1
            have d2 := bA8.cell 2
            have d3 := bA8.cell 3
            have d4 := bA8.cell 4
            have f3 := (bB8.cell 3).trans (show _ = some (.int .i64 1) from rfl)
            simp at d0 d1 d2 d3 d4
            obtain ⟨a8, c8, hv8⟩ := ownsRow_slice ho8
            subst hv8
            have HF8 := hide hF8
            have HR8 := hide hR8
            rw [show (fRows (.live (a + m))).length = 2 from rfl] at ho8 ⊢
            clear hK3 hb8 bR7 bV7 HR7 HF7 bA7 bB7 bA8 bB8 bP8 hF8 hR8
            have hT := fTold w8 R V5 base cv _ (.live (a + m)) (.inr (.inl ⟨_, rfl⟩)) (unhide HR8)
            go_wp2_with fail
            refine (hQ _).mono ?_
            rintro e wp ⟨rfl, rfl⟩
            clear hQ
            by_cases hz0 : z = 0
            · subst hz0
              go_wp2_with (go_at_call 14; refine hT.mono ?_; rintro e w9 ⟨rfl, V9, rv9, hR9, hg9⟩)
              go_roundw
              case rel => exact ⟨k + 1, .live 0, 0, false, by omega, by go_num, rfl, rfl, ⟨rfl, rfl, by omega⟩, (unhide HF8).turn hw2 hg9 hR9⟩
              case measure => simp [intOf]; omega
            · clear hT
              go_wp2_with fail
              go_roundw
              case rel => exact ⟨k + 1, .live (a + m), _, _, by omega, by go_num, rfl, rfl, ⟨rfl, by omega, by omega⟩, unhide HF8⟩
              case measure => simp [intOf]; omega
          · have efl : fLater (.live a) m = .dead (a + m - 180) := if_neg h180
            rw [efl] at hTk
            have hz1 : (180 : Int) ≤ (a : Int) + (m : Int) := by omega
            have hz2 : (a : Int) + (m : Int) - 180 < 120 := by omega
            have hw3 : IntKind.i64.wrap ((a : Int) + (m : Int) - 180) = (a : Int) + (m : Int) - 180 := wrap_small _ (by omega) (by omega)
            have hl2 := fRows_len (.dead (a + m - 180))
            go_wp2_with (first | (go_at_call 15; refine (hP _).mono ?_; rintro e wp ⟨rfl, rfl⟩) | (go_at_call 16; refine hTk.mono ?_; rintro e w5 ⟨rfl, V5, rv5, hR5, hg5⟩; have hF5 := (unhide HF).turn hw2 hg5 hR5; obtain ⟨ar5, cr5, hrv5⟩ := ownsRow_slice hR5.rows; subst hrv5; have hK1 := lookup_any V5 ar5 _ cr5 (fRows (.dead (a + m - 180))) 335610371 w5 hR5.view rfl (by omega) (fRows_ok _) (by decide) (by decide) (rwSlice_own hR5.rows); rw [find_dead _] at hK1; simp only [lookOut, zeroRoute] at hK1; have bR5 := hR5.blk; have bV5 := hR5.view; have HF5 := hide hF5; have HR5 := hide hR5; clear hR5 hg5 hF5) | (go_at_call 17; refine (view_any R V5 _ _ 0 0 w5 bR5 bV5).mono ?_; rintro e wv ⟨rfl, rfl⟩))
            refine hK1.mono ?_
            rintro e w6 ⟨rfl, hb6⟩
            have hb6a := hb6.alloc hb6.size (.cells #[.int .u32 0, .int .i64 0, .int .i64 0, .int .i64 0, .int .i64 0] 52)
            have hR6 := (unhide HR5).below hb6a
            have bA6 := Blk.new w6 #[.int .u32 0, .int .i64 0, .int .i64 0, .int .i64 0, .int .i64 0] 52
            have hK2 := lookup_any V5 ar5 _ cr5 (fRows (.dead (a + m - 180))) 16777217 _ hR6.view rfl (by omega) (fRows_ok _) (by decide) (by decide) (rwSlice_own hR6.rows)
            rw [find_own] at hK2
            simp only [lookOut, routeVals, fOwn, ownRw, freshRw] at hK2
            have bR6 := hR6.blk
            have bV6 := hR6.view
            have HR6 := hide hR6
            have HF6 := hide ((unhide HF5).step hb6a)
            clear hR6 hb6 hb6a hK1 bR5 bV5 HR5 HF5 hTk
            go_wp2_with (go_at_call 17; refine (view_any R V5 _ _ 0 0 _ bR6 bV6).mono ?_; rintro e wv ⟨rfl, rfl⟩)
            refine hK2.mono ?_
            rintro e w7 ⟨rfl, hb7⟩
            have hb7a := hb7.alloc hb7.size (.cells #[.int .u32 16777216, .int .i64 8, .int .i64 0, .int .i64 1, .int .i64 (-1)] 52)
            have hR7 := (unhide HR6).below hb7a
            have bA7 := (bA6.below hb7 bA6.lt).alloc (.cells #[.int .u32 16777216, .int .i64 8, .int .i64 0, .int .i64 1, .int .i64 (-1)] 52)
            have bB7 := Blk.new w7 #[.int .u32 16777216, .int .i64 8, .int .i64 0, .int .i64 1, .int .i64 (-1)] 52
            have hK3 := routes_any V5 ar5 cr5 (fRows (.dead (a + m - 180))) _ (by omega) hR7.view (rwSlice_own hR7.rows)
            have bR7 := hR7.blk
            have bV7 := hR7.view
            have HR7 := hide hR7
            have HF7 := hide ((unhide HF6).step hb7a)
            clear hR7 hb7 hb7a hK2 bR6 bV6 HR6 HF6 bA6
            go_wp2_with (go_at_call 17; refine (view_any R V5 _ _ 0 0 _ bR7 bV7).mono ?_; rintro e wv ⟨rfl, rfl⟩)
            refine hK3.mono ?_
            rintro e w8 ⟨v8, rfl, ho8, hb8⟩
            have bA8 := bA7.below hb8 bA7.lt
            have bB8 := bB7.below hb8 bB7.lt
            have hR8 := (unhide HR7).below hb8
            have hF8 := (unhide HF7).step hb8
            have bP8 := hF8.box
            have c0 := (bP8.cell 0).trans (show _ = some (.int .u32 335544320) from rfl)
            have c1 := (bP8.cell 1).trans (show _ = some (.int .i64 8) from rfl)
            have d0 := bA8.cell 0
            have d1 := bA8.cell 1
            have d2 := bA8.cell 2
            have d3 := bA8.cell 3
            have d4 := bA8.cell 4
            have f3 := (bB8.cell 3).trans (show _ = some (.int .i64 1) from rfl)
            simp at d0 d1 d2 d3 d4
            obtain ⟨a8, c8, hv8⟩ := ownsRow_slice ho8
            subst hv8
            have HF8 := hide hF8
            have HR8 := hide hR8
            rw [show (fRows (.dead (a + m - 180))).length = 2 from rfl] at ho8 ⊢
            clear hK3 hb8 bR7 bV7 HR7 HF7 bA7 bB7 bA8 bB8 bP8 hF8 hR8
            obtain ⟨g8, rfl⟩ : ∃ g, a8 = some ⟨g, 0, none⟩ := by
              rcases ho8.2 with ⟨_, h0⟩ | ⟨g, c, cur, hv, _⟩
              · omega
              · simp at hv; exact ⟨g, hv.1⟩
            have m8 := owned_cells ho8 8 (.int .i64 16) (by rfl)
            rw [Addr.add_lit, Nat.zero_add] at m8
            clear ho8
            have hT := fTold w8 R V5 base cv _ (.dead (a + m - 180)) (.inr (.inr ⟨_, rfl⟩)) (unhide HR8)
            go_wp2_with fail
            refine (hQ _).mono ?_
            rintro e wp ⟨rfl, rfl⟩
            clear hQ
            by_cases hz0 : z = 0
            · subst hz0
              go_wp2_with (go_at_call 14; refine hT.mono ?_; rintro e w9 ⟨rfl, V9, rv9, hR9, hg9⟩)
              go_roundw
              case rel => exact ⟨k + 1, .live 0, 0, false, by omega, by go_num, rfl, rfl, ⟨rfl, rfl, by omega⟩, (unhide HF8).turn hw2 hg9 hR9⟩
              case measure => simp [intOf]; omega
            · clear hT
              go_wp2_with fail
              go_roundw
              case rel => exact ⟨k + 1, .dead (a + m - 180), _, _, by omega, by go_num, rfl, rfl, ⟨rfl, by omega, by omega⟩, unhide HF8⟩
              case measure => simp [intOf]; omega
        | dead a =>
          obtain ⟨rfl, rfl, ha⟩ := hi
          have hw : IntKind.i64.wrap ((a : Int) + (m : Int)) = (a : Int) + (m : Int) := wrap_small _ (by omega) (by omega)
          by_cases h120 : a + m < 120
          · have efl : fLater (.dead a) m = .dead (a + m) := if_pos h120
            rw [efl] at hTk
            have hz1 : (a : Int) + (m : Int) < 120 := by omega
            have hl2 := fRows_len (.dead (a + m))
            go_wp2_with (first | (go_at_call 15; refine (hP _).mono ?_; rintro e wp ⟨rfl, rfl⟩) | (go_at_call 16; refine hTk.mono ?_; rintro e w5 ⟨rfl, V5, rv5, hR5, hg5⟩; have hF5 := (unhide HF).turn hw2 hg5 hR5; obtain ⟨ar5, cr5, hrv5⟩ := ownsRow_slice hR5.rows; subst hrv5; have hK1 := lookup_any V5 ar5 _ cr5 (fRows (.dead (a + m))) 335610371 w5 hR5.view rfl (by omega) (fRows_ok _) (by decide) (by decide) (rwSlice_own hR5.rows); rw [find_dead _] at hK1; simp only [lookOut, zeroRoute] at hK1; have bR5 := hR5.blk; have bV5 := hR5.view; have HF5 := hide hF5; have HR5 := hide hR5; clear hR5 hg5 hF5) | (go_at_call 17; refine (view_any R V5 _ _ 0 0 w5 bR5 bV5).mono ?_; rintro e wv ⟨rfl, rfl⟩))
            refine hK1.mono ?_
            rintro e w6 ⟨rfl, hb6⟩
            have hb6a := hb6.alloc hb6.size (.cells #[.int .u32 0, .int .i64 0, .int .i64 0, .int .i64 0, .int .i64 0] 52)
            have hR6 := (unhide HR5).below hb6a
            have bA6 := Blk.new w6 #[.int .u32 0, .int .i64 0, .int .i64 0, .int .i64 0, .int .i64 0] 52
            have hK2 := lookup_any V5 ar5 _ cr5 (fRows (.dead (a + m))) 16777217 _ hR6.view rfl (by omega) (fRows_ok _) (by decide) (by decide) (rwSlice_own hR6.rows)
            rw [find_own] at hK2
            simp only [lookOut, routeVals, fOwn, ownRw, freshRw] at hK2
            have bR6 := hR6.blk
            have bV6 := hR6.view
            have HR6 := hide hR6
            have HF6 := hide ((unhide HF5).step hb6a)
            clear hR6 hb6 hb6a hK1 bR5 bV5 HR5 HF5 hTk
            go_wp2_with (go_at_call 17; refine (view_any R V5 _ _ 0 0 _ bR6 bV6).mono ?_; rintro e wv ⟨rfl, rfl⟩)
            refine hK2.mono ?_
            rintro e w7 ⟨rfl, hb7⟩
            have hb7a := hb7.alloc hb7.size (.cells #[.int .u32 16777216, .int .i64 8, .int .i64 0, .int .i64 1, .int .i64 (-1)] 52)
            have hR7 := (unhide HR6).below hb7a
            have bA7 := (bA6.below hb7 bA6.lt).alloc (.cells #[.int .u32 16777216, .int .i64 8, .int .i64 0, .int .i64 1, .int .i64 (-1)] 52)
            have bB7 := Blk.new w7 #[.int .u32 16777216, .int .i64 8, .int .i64 0, .int .i64 1, .int .i64 (-1)] 52
            have hK3 := routes_any V5 ar5 cr5 (fRows (.dead (a + m))) _ (by omega) hR7.view (rwSlice_own hR7.rows)
            have bR7 := hR7.blk
            have bV7 := hR7.view
            have HR7 := hide hR7
            have HF7 := hide ((unhide HF6).step hb7a)
            clear hR7 hb7 hb7a hK2 bR6 bV6 HR6 HF6 bA6
            go_wp2_with (go_at_call 17; refine (view_any R V5 _ _ 0 0 _ bR7 bV7).mono ?_; rintro e wv ⟨rfl, rfl⟩)
            refine hK3.mono ?_
            rintro e w8 ⟨v8, rfl, ho8, hb8⟩
            have bA8 := bA7.below hb8 bA7.lt
            have bB8 := bB7.below hb8 bB7.lt
            have hR8 := (unhide HR7).below hb8
            have hF8 := (unhide HF7).step hb8
            have bP8 := hF8.box
            have c0 := (bP8.cell 0).trans (show _ = some (.int .u32 335544320) from rfl)
            have c1 := (bP8.cell 1).trans (show _ = some (.int .i64 8) from rfl)
            have d0 := bA8.cell 0
            have d1 := bA8.cell 1
            have d2 := bA8.cell 2
            have d3 := bA8.cell 3
            have d4 := bA8.cell 4
            have f3 := (bB8.cell 3).trans (show _ = some (.int .i64 1) from rfl)
            simp at d0 d1 d2 d3 d4
            obtain ⟨a8, c8, hv8⟩ := ownsRow_slice ho8
            subst hv8
            have HF8 := hide hF8
            have HR8 := hide hR8
            rw [show (fRows (.dead (a + m))).length = 2 from rfl] at ho8 ⊢
            clear hK3 hb8 bR7 bV7 HR7 HF7 bA7 bB7 bA8 bB8 bP8 hF8 hR8
            obtain ⟨g8, rfl⟩ : ∃ g, a8 = some ⟨g, 0, none⟩ := by
              rcases ho8.2 with ⟨_, h0⟩ | ⟨g, c, cur, hv, _⟩
              · omega
              · simp at hv; exact ⟨g, hv.1⟩
            have m8 := owned_cells ho8 8 (.int .i64 16) (by rfl)
            rw [Addr.add_lit, Nat.zero_add] at m8
            clear ho8
            have hT := fTold w8 R V5 base cv _ (.dead (a + m)) (.inr (.inr ⟨_, rfl⟩)) (unhide HR8)
            go_wp2_with fail
            refine (hQ _).mono ?_
            rintro e wp ⟨rfl, rfl⟩
            clear hQ
            by_cases hz0 : z = 0
            · subst hz0
              go_wp2_with (go_at_call 14; refine hT.mono ?_; rintro e w9 ⟨rfl, V9, rv9, hR9, hg9⟩)
              go_roundw
              case rel => exact ⟨k + 1, .live 0, 0, false, by omega, by go_num, rfl, rfl, ⟨rfl, rfl, by omega⟩, (unhide HF8).turn hw2 hg9 hR9⟩
              case measure => simp [intOf]; omega
            · clear hT
              go_wp2_with fail
              go_roundw
              case rel => exact ⟨k + 1, .dead (a + m), _, _, by omega, by go_num, rfl, rfl, ⟨rfl, by omega, by omega⟩, unhide HF8⟩
              case measure => simp [intOf]; omega
          · have efl : fLater (.dead a) m = .gone := if_neg h120
            rw [efl] at hTk
            have hz1 : (120 : Int) ≤ (a : Int) + (m : Int) := by omega
            have hl2 := fRows_len (.gone)
            go_wp2_with (first | (go_at_call 15; refine (hP _).mono ?_; rintro e wp ⟨rfl, rfl⟩) | (go_at_call 16; refine hTk.mono ?_; rintro e w5 ⟨rfl, V5, rv5, hR5, hg5⟩; have hF5 := (unhide HF).turn hw2 hg5 hR5; obtain ⟨ar5, cr5, hrv5⟩ := ownsRow_slice hR5.rows; subst hrv5; have hK1 := lookup_any V5 ar5 _ cr5 (fRows (.gone)) 335610371 w5 hR5.view rfl (by omega) (fRows_ok _) (by decide) (by decide) (rwSlice_own hR5.rows); rw [find_gone] at hK1; simp only [lookOut, zeroRoute] at hK1; have bR5 := hR5.blk; have bV5 := hR5.view; have HF5 := hide hF5; have HR5 := hide hR5; clear hR5 hg5 hF5) | (go_at_call 17; refine (view_any R V5 _ _ 0 0 w5 bR5 bV5).mono ?_; rintro e wv ⟨rfl, rfl⟩))
            refine hK1.mono ?_
            rintro e w6 ⟨rfl, hb6⟩
            have hb6a := hb6.alloc hb6.size (.cells #[.int .u32 0, .int .i64 0, .int .i64 0, .int .i64 0, .int .i64 0] 52)
            have hR6 := (unhide HR5).below hb6a
            have bA6 := Blk.new w6 #[.int .u32 0, .int .i64 0, .int .i64 0, .int .i64 0, .int .i64 0] 52
            have hK2 := lookup_any V5 ar5 _ cr5 (fRows (.gone)) 16777217 _ hR6.view rfl (by omega) (fRows_ok _) (by decide) (by decide) (rwSlice_own hR6.rows)
            rw [find_own] at hK2
            simp only [lookOut, routeVals, fOwn, ownRw, freshRw] at hK2
            have bR6 := hR6.blk
            have bV6 := hR6.view
            have HR6 := hide hR6
            have HF6 := hide ((unhide HF5).step hb6a)
            clear hR6 hb6 hb6a hK1 bR5 bV5 HR5 HF5 hTk
            go_wp2_with (go_at_call 17; refine (view_any R V5 _ _ 0 0 _ bR6 bV6).mono ?_; rintro e wv ⟨rfl, rfl⟩)
            refine hK2.mono ?_
            rintro e w7 ⟨rfl, hb7⟩
            have hb7a := hb7.alloc hb7.size (.cells #[.int .u32 16777216, .int .i64 8, .int .i64 0, .int .i64 1, .int .i64 (-1)] 52)
            have hR7 := (unhide HR6).below hb7a
            have bA7 := (bA6.below hb7 bA6.lt).alloc (.cells #[.int .u32 16777216, .int .i64 8, .int .i64 0, .int .i64 1, .int .i64 (-1)] 52)
            have bB7 := Blk.new w7 #[.int .u32 16777216, .int .i64 8, .int .i64 0, .int .i64 1, .int .i64 (-1)] 52
            have hK3 := routes_any V5 ar5 cr5 (fRows (.gone)) _ (by omega) hR7.view (rwSlice_own hR7.rows)
            have bR7 := hR7.blk
            have bV7 := hR7.view
            have HR7 := hide hR7
            have HF7 := hide ((unhide HF6).step hb7a)
            clear hR7 hb7 hb7a hK2 bR6 bV6 HR6 HF6 bA6
            go_wp2_with (go_at_call 17; refine (view_any R V5 _ _ 0 0 _ bR7 bV7).mono ?_; rintro e wv ⟨rfl, rfl⟩)
            refine hK3.mono ?_
            rintro e w8 ⟨v8, rfl, ho8, hb8⟩
            have bA8 := bA7.below hb8 bA7.lt
            have bB8 := bB7.below hb8 bB7.lt
            have hR8 := (unhide HR7).below hb8
            have hF8 := (unhide HF7).step hb8
            have bP8 := hF8.box
            have c0 := (bP8.cell 0).trans (show _ = some (.int .u32 335544320) from rfl)
            have c1 := (bP8.cell 1).trans (show _ = some (.int .i64 8) from rfl)
            have d0 := bA8.cell 0
            have d1 := bA8.cell 1
            have d2 := bA8.cell 2
            have d3 := bA8.cell 3
            have d4 := bA8.cell 4
            have f3 := (bB8.cell 3).trans (show _ = some (.int .i64 1) from rfl)
            simp at d0 d1 d2 d3 d4
            obtain ⟨a8, c8, hv8⟩ := ownsRow_slice ho8
            subst hv8
            have HF8 := hide hF8
            have HR8 := hide hR8
            rw [show (fRows (.gone)).length = 1 from rfl] at ho8 ⊢
            clear hK3 hb8 bR7 bV7 HR7 HF7 bA7 bB7 bA8 bB8 bP8 hF8 hR8
            go_wp2_with fail
            refine (hQ _).mono ?_
            rintro e wp ⟨rfl, rfl⟩
            clear hQ
            by_cases hz0 : z = 0
            · subst hz0
              go_wp2_with fail
              go_roundw
              case rel => exact ⟨k + 1, .gone, _, _, by omega, by go_num, rfl, rfl, ⟨rfl, by omega, by omega⟩, unhide HF8⟩
              case measure => simp [intOf]; omega
            · go_wp2_with fail
              go_roundw
              case rel => exact ⟨k + 1, .gone, _, _, by omega, by go_num, rfl, rfl, ⟨rfl, by omega, by omega⟩, unhide HF8⟩
              case measure => simp [intOf]; omega
        | gone =>
          obtain ⟨rfl, hg1, hg2⟩ := hi
          have hw : IntKind.i64.wrap (g + (m : Int)) = g + (m : Int) := wrap_small _ (by omega) (by omega)
          have efl : fLater .gone m = .gone := rfl
          rw [efl] at hTk
          have hz1 : (120 : Int) ≤ g + (m : Int) := by omega
          have hl2 := fRows_len (.gone)
          go_wp2_with (first | (go_at_call 15; refine (hP _).mono ?_; rintro e wp ⟨rfl, rfl⟩) | (go_at_call 16; refine hTk.mono ?_; rintro e w5 ⟨rfl, V5, rv5, hR5, hg5⟩; have hF5 := (unhide HF).turn hw2 hg5 hR5; obtain ⟨ar5, cr5, hrv5⟩ := ownsRow_slice hR5.rows; subst hrv5; have hK1 := lookup_any V5 ar5 _ cr5 (fRows (.gone)) 335610371 w5 hR5.view rfl (by omega) (fRows_ok _) (by decide) (by decide) (rwSlice_own hR5.rows); rw [find_gone] at hK1; simp only [lookOut, zeroRoute] at hK1; have bR5 := hR5.blk; have bV5 := hR5.view; have HF5 := hide hF5; have HR5 := hide hR5; clear hR5 hg5 hF5) | (go_at_call 17; refine (view_any R V5 _ _ 0 0 w5 bR5 bV5).mono ?_; rintro e wv ⟨rfl, rfl⟩))
          refine hK1.mono ?_
          rintro e w6 ⟨rfl, hb6⟩
          have hb6a := hb6.alloc hb6.size (.cells #[.int .u32 0, .int .i64 0, .int .i64 0, .int .i64 0, .int .i64 0] 52)
          have hR6 := (unhide HR5).below hb6a
          have bA6 := Blk.new w6 #[.int .u32 0, .int .i64 0, .int .i64 0, .int .i64 0, .int .i64 0] 52
          have hK2 := lookup_any V5 ar5 _ cr5 (fRows (.gone)) 16777217 _ hR6.view rfl (by omega) (fRows_ok _) (by decide) (by decide) (rwSlice_own hR6.rows)
          rw [find_own] at hK2
          simp only [lookOut, routeVals, fOwn, ownRw, freshRw] at hK2
          have bR6 := hR6.blk
          have bV6 := hR6.view
          have HR6 := hide hR6
          have HF6 := hide ((unhide HF5).step hb6a)
          clear hR6 hb6 hb6a hK1 bR5 bV5 HR5 HF5 hTk
          go_wp2_with (go_at_call 17; refine (view_any R V5 _ _ 0 0 _ bR6 bV6).mono ?_; rintro e wv ⟨rfl, rfl⟩)
          refine hK2.mono ?_
          rintro e w7 ⟨rfl, hb7⟩
          have hb7a := hb7.alloc hb7.size (.cells #[.int .u32 16777216, .int .i64 8, .int .i64 0, .int .i64 1, .int .i64 (-1)] 52)
          have hR7 := (unhide HR6).below hb7a
          have bA7 := (bA6.below hb7 bA6.lt).alloc (.cells #[.int .u32 16777216, .int .i64 8, .int .i64 0, .int .i64 1, .int .i64 (-1)] 52)
          have bB7 := Blk.new w7 #[.int .u32 16777216, .int .i64 8, .int .i64 0, .int .i64 1, .int .i64 (-1)] 52
          have hK3 := routes_any V5 ar5 cr5 (fRows (.gone)) _ (by omega) hR7.view (rwSlice_own hR7.rows)
          have bR7 := hR7.blk
          have bV7 := hR7.view
          have HR7 := hide hR7
          have HF7 := hide ((unhide HF6).step hb7a)
          clear hR7 hb7 hb7a hK2 bR6 bV6 HR6 HF6 bA6
          go_wp2_with (go_at_call 17; refine (view_any R V5 _ _ 0 0 _ bR7 bV7).mono ?_; rintro e wv ⟨rfl, rfl⟩)
          refine hK3.mono ?_
          rintro e w8 ⟨v8, rfl, ho8, hb8⟩
          have bA8 := bA7.below hb8 bA7.lt
          have bB8 := bB7.below hb8 bB7.lt
          have hR8 := (unhide HR7).below hb8
          have hF8 := (unhide HF7).step hb8
          have bP8 := hF8.box
          have c0 := (bP8.cell 0).trans (show _ = some (.int .u32 335544320) from rfl)
          have c1 := (bP8.cell 1).trans (show _ = some (.int .i64 8) from rfl)
          have d0 := bA8.cell 0
          have d1 := bA8.cell 1
          have d2 := bA8.cell 2
          have d3 := bA8.cell 3
          have d4 := bA8.cell 4
          have f3 := (bB8.cell 3).trans (show _ = some (.int .i64 1) from rfl)
          simp at d0 d1 d2 d3 d4
          obtain ⟨a8, c8, hv8⟩ := ownsRow_slice ho8
          subst hv8
          have HF8 := hide hF8
          have HR8 := hide hR8
          rw [show (fRows (.gone)).length = 1 from rfl] at ho8 ⊢
          clear hK3 hb8 bR7 bV7 HR7 HF7 bA7 bB7 bA8 bB8 bP8 hF8 hR8
          go_wp2_with fail
          refine (hQ _).mono ?_
          rintro e wp ⟨rfl, rfl⟩
          clear hQ
          by_cases hz0 : z = 0
          · subst hz0
            go_wp2_with fail
            go_roundw
            case rel => exact ⟨k + 1, .gone, _, _, by omega, by go_num, rfl, rfl, ⟨rfl, by omega, by omega⟩, unhide HF8⟩
            case measure => simp [intOf]; omega
          · go_wp2_with fail
            go_roundw
            case rel => exact ⟨k + 1, .gone, _, _, by omega, by go_num, rfl, rfl, ⟨rfl, by omega, by omega⟩, unhide HF8⟩
            case measure => simp [intOf]; omega
    · have hkn : k = n := by omega
      subst hkn
      have HF := hide hF
      clear hF hi
      go_wp2
      go_ret
      exact ⟨rfl, (unhide HF).below⟩

end Go.Proofs.YtdnpeefnobjfaaaGreatDoor
