/- The Book's encodes and looks, and the statement's function Encodes: it says yes at every two packets. -/
import Derived.Test.YtdnpeefnobjfaaaBack
namespace Go.Proofs.Ytdnpeefnobjfaaa
open Go.RowKit
attribute [local go_sem ↓] Go.wp_at_zero Go.wp_at_succ

/-- The Book between two steps: nothing is lent, every list that is kept reads as it was marked. -/
structure Bks.free (s : Bks) (K : Nat) (items : List Itm) : Prop where
  l : s.l = nl
  wa : s.wa = nl
  r : s.r = nl
  o : s.o = nl
  i : s.i = nl
  p : s.p = nl
  m0 : 0 ≤ s.m
  m1 : s.m ≤ K
  len : items.length ≤ K
def Inv (Bk B K : Nat) (w : World) : Prop := ∃ s items, s.lies w Bk ∧ Bks.free s K items ∧ marksE w B s.e s.em items
/-- A list may be lent. -/
def Lent (Bk B K : Nat) (w : World) : Prop := Inv Bk B K w ∨ ∃ (s : Bks) (items : List Itm) (L : List Ent) (N g c g2 c2 gL cL gW cW : Nat), Bks.free s K items ∧
  ({ s with l := .slice (some ⟨gL, 0, none⟩) 1 cL, wa := .slice (some ⟨gW, 0, none⟩) 1 cW } : Bks).lies w Bk ∧ w.cell? ⟨gL, 0, none⟩ = some (.slice (some ⟨g, 0, none⟩) N c) ∧ w.cell? ⟨gW, 0, none⟩ = some (.slice (some ⟨g2, 0, none⟩) N c2) ∧
  dataRow w g L ∧ dataRow w g2 L ∧ L.length = N ∧ (g < g2 ∧ g2 < gL ∧ gL < gW) ∧ Bk < g ∧ N ≤ 4611686018427387904 ∧ marksE w B s.e s.em items ∧ ∀ t ∈ items, 0 < t.n → ∀ a, t.a = some a → a.block ≠ g

theorem okE_below {t : Itm} {w w1 : World} (h : t.okE w) (hb : Below w.heap.size w w1) : t.okE w1 := by
  rcases h with h | ⟨g, off, cur, ha, hh, hc⟩
  · exact .inl h
  · exact .inr ⟨g, off, cur, ha, (hb.block g (lt_of_block hh)).trans hh, hc⟩
theorem marksE_below {w w1 : World} {B : Nat} {v vm : Value} {l : List Itm} (h : marksE w B v vm l) (hb : Below w.heap.size w w1) : marksE w1 B v vm l :=
  ⟨h.rows.kept (grown_below (r := none) hb) (by cases v.ownBlock <;> simp), h.marks.kept (grown_below (r := none) hb) (by cases vm.ownBlock <;> simp), fun t ht => okE_below (h.each t ht) hb, h.small⟩
theorem Inv_below {Bk B K : Nat} {w w1 : World} (h : Inv Bk B K w) (hb : Below w.heap.size w w1) : Inv Bk B K w1 := by
  obtain ⟨s, items, hs, hf, hm⟩ := h
  exact ⟨s, items, Bks.keep hs (hb.block Bk (Bks.lt hs)), hf, marksE_below hm hb⟩
theorem Lent_below {Bk B K : Nat} {w w1 : World} (h : Lent Bk B K w) (hb : Below w.heap.size w w1) : Lent Bk B K w1 := by
  rcases h with h | ⟨s, items, L, N, g, c, g2, c2, gL, cL, gW, cW, hf, hs, h1, h2, h3, h4, h5, h6, h7, h8, h9, h10⟩
  · exact .inl (Inv_below h hb)
  · exact .inr ⟨s, items, L, N, g, c, g2, c2, gL, cL, gW, cW, hf, Bks.keep hs (hb.block Bk (Bks.lt hs)), (hb.cell (p := ⟨gL, 0, none⟩) (World.block_lt_of_cell? w _ h1)).trans h1, (hb.cell (p := ⟨gW, 0, none⟩) (World.block_lt_of_cell? w _ h2)).trans h2, dataRow_keep h3 (hb.block _ (dataRow_lt h3)), dataRow_keep h4 (hb.block _ (dataRow_lt h4)), h5, h6, h7, h8, marksE_below h9 hb, h10⟩
theorem Inv_lt {Bk B K : Nat} {w : World} (h : Inv Bk B K w) : Bk < w.heap.size := by obtain ⟨s, items, hs, _⟩ := h; exact Bks.lt hs
theorem Inv_drewN {Bk B K : Nat} {w : World} (h : Inv Bk B K w) (n : Nat) : Inv Bk B K (w.drewN n) := Inv_below h (below_drewN (Below.refl _ _) n)

/-- looks, whether or not a list is lent. -/
theorem looks_any (Bk B K : Nat) (w : World) (h : Lent Bk B K w) (hB : B ≤ Bk) (hK : K ≤ 1000000) :
    Calls Try.prog 8 #[.pointer (some ⟨Bk, 0, none⟩)] w fun e w' => e = .returned (.bool true) ∧ Inv Bk B (K + 1) w' ∧ Below B w w' := by
  rcases h with ⟨s, items, hs, hf, hm⟩ | ⟨s, items, L, N, g, c, g2, c2, gL, cL, gW, cW, hf, hs, h1, h2, h3, h4, h5, h6, h7, h8, h9, h10⟩
  · have hback := back_nil Bk s w hs hf.l hf.wa
    refine (looks_of Bk B w (fun w' => ({ s with l := nl, wa := nl } : Bks).lies w' Bk ∧ w.grownBy w' (some Bk)) hback (fun w1 h1 => ⟨_, items, h1.1, marksE_book hm hs h1.2, hf.r, hf.o, hf.i, hf.p⟩)).mono ?_
    rintro e w' ⟨rfl, w1, nq, ⟨hs1, hg1⟩, rfl⟩
    refine ⟨rfl, ⟨_, items, hs1, ⟨rfl, rfl, hf.r, hf.o, hf.i, hf.p, hf.m0, by have := hf.m1; show s.m ≤ _; omega, by have := hf.len; omega⟩, ?_⟩, ?_⟩
    · exact marksE_below (marksE_book hm hs hg1) (below_drewN (Below.refl _ _) nq)
    · exact below_drewN (below_grown hg1 (by have := Bks.lt hs; omega) hB) nq
  · have hback := back_some Bk B g c g2 c2 gL cL gW cW N L { s with l := .slice (some ⟨gL, 0, none⟩) 1 cL, wa := .slice (some ⟨gW, 0, none⟩) 1 cW } items w hs rfl rfl h1 h2 h3 h4 h5 h6 h7 h8 h9 hB h10 hf.m0 (by have := hf.m1; show s.m ≤ _; omega) (by have := hf.len; omega)
    refine (looks_of Bk B w _ hback (fun w1 ⟨vE, vM, ha, hb, hc⟩ => ⟨_, _, ha, hb, hf.r, hf.o, hf.i, hf.p⟩)).mono ?_
    rintro e w' ⟨rfl, w1, nq, ⟨vE, vM, hs1, hm1, hb1⟩, rfl⟩
    refine ⟨rfl, ⟨_, items ++ [⟨some ⟨g, 0, none⟩, N, c, -(s.m + 1)⟩], hs1, ⟨rfl, rfl, hf.r, hf.o, hf.i, hf.p, by have := hf.m0; show 0 ≤ s.m + 1; omega, by have := hf.m1; show s.m + 1 ≤ _; omega, by have := hf.len; simp; omega⟩, ?_⟩, ?_⟩
    · exact marksE_below hm1 (below_drewN (Below.refl _ _) nq)
    · exact below_drewN hb1 nq

/-- lend, whatever the list. -/
theorem lend_any (Bk B K : Nat) (ao : Option Addr) (n cap : Nat) (l : List Ent) (w : World) (h : Inv Bk B K w) (hn : l.length = n) (hbig : n * 32 ≤ 140737488351232) (hnil : ao = none → n = 0 ∧ cap = 0) (hs : entSlice w ao l) :
    Calls Try.prog 20 #[.pointer (some ⟨Bk, 0, none⟩), .slice ao n cap] w fun e w' => ∃ ao' c', e = .returned (.slice ao' n c') ∧ Lent Bk B K w' ∧ entSlice w' ao' l ∧ w.grownBy w' (some Bk) := by
  cases ao with
  | none =>
    obtain ⟨rfl, rfl⟩ := hnil rfl
    refine (lend_nil Bk w).mono ?_
    rintro e w' ⟨rfl, rfl⟩
    exact ⟨none, 0, rfl, .inl h, hs, World.grownBy.refl _ _⟩
  | some a =>
    obtain ⟨s, items, hl, hf, hm⟩ := h
    have hfar : ∀ g, w.heap.size ≤ g → ∀ t ∈ items, 0 < t.n → ∀ a, t.a = some a → a.block ≠ g := fun g hg t ht h0 a ha => by
      rcases hm.each t ht with h | ⟨g', off, cur, ha', hh, _⟩
      · omega
      · rw [ha'] at ha
        have : a = ⟨g', off, none⟩ := (Option.some.inj ha).symm
        subst this
        have := lt_of_block hh
        show g' ≠ g
        omega
    have hpre : ∀ (w' : World) (g : Nat), dataRow w' g (padded l) → entSlice w' (some ⟨g, 0, none⟩) l := fun w' g hd => .inr ⟨g, 0, rfl, fun k hk => by
      have := dataRow_cells hd k (by rw [padded_length]; omega)
      have e : (padded l)[k]'(by rw [padded_length]; omega) = l[k] := by simp [padded, List.getElem_append_left hk]
      rwa [e] at this⟩
    by_cases h0 : n = 0
    · subst h0
      obtain rfl : l = [] := List.eq_nil_of_length_eq_zero hn
      refine (lend_zero Bk cap a s w hl hf.l hf.wa).mono ?_
      rintro e w' ⟨g, c, g2, c2, gL, cL, gW, cW, rfl, hs', q1, q2, q3, q4, q5, q6, q7, q8⟩
      exact ⟨_, _, rfl, .inr ⟨s, items, padded [], 3, g, c, g2, c2, gL, cL, gW, cW, hf, hs', q1, q2, q3, q4, rfl, q5, by have := Bks.lt hl; omega, by omega, marksE_book hm hl q8, hfar g q6⟩, .inl rfl, q8⟩
    · rcases hs with rfl | ⟨b, off, ha, hc⟩
      · simp at hn; omega
      · have ha := Option.some.inj ha
        subst ha
        refine (lend_some Bk b off n cap l s w hn (by omega) hbig hl hf.l hf.wa hc).mono ?_
        rintro e w' ⟨g, c, g2, c2, gL, cL, gW, cW, rfl, hs', q1, q2, q3, q4, q5, q6, q7, q8⟩
        exact ⟨_, _, rfl, .inr ⟨s, items, padded l, n + 3, g, c, g2, c2, gL, cL, gW, cW, hf, hs', q1, q2, q3, q4, by rw [padded_length, hn], q5, by have := Bks.lt hl; omega, by omega, marksE_book hm hl q8, hfar g q6⟩, hpre w' g q3, q8⟩

theorem refF_form (x : Option (Int × Int)) : ∃ (a b : Int) (p : Bool), refF x = .agg #[.int .i64 a, .int .i64 b, .bool p] := by
  cases x with
  | none => exact ⟨0, 0, false, rfl⟩
  | some y => exact ⟨y.1, y.2, true, rfl⟩

set_option maxHeartbeats 1000000 in
theorem encodes_any (Bk B K : Nat) (cmd : Int) (ao : Option Addr) (n cap : Nat) (l : List Ent) (w : World) (h : Inv Bk B K w) (hB : B ≤ Bk) (hok : entsOk l) (hn : l.length = n) (hbig : n * 32 ≤ 140737488351232) (hnil : ao = none → n = 0 ∧ cap = 0) (hs : entSlice w ao l) (hold : ∀ a, ao = some a → 0 < n → a.block < B) :
    Calls Try.prog 10 #[.pointer (some ⟨Bk, 0, none⟩), .agg #[.int .i64 cmd, .slice ao n cap]] w fun e w' => e = .returned (.bool true) ∧ Lent Bk B K w' ∧ Below B w w' := by
  have hlt := Inv_lt h
  have hne : w.heap.size ≠ Bk := by omega
  have HL := hide (fun (W : World) (hi : Inv Bk B K W) (hsl : entSlice W ao l) => lend_any Bk B K ao n cap l W hi hn hbig hnil hsl)
  have HI := hide h
  have HSL := hide hs
  have HN := hide hn
  clear h hs hn hnil
  go_enter Try.func10, Try.ntmps10
  go_wp2_with fail
  go_region_held3 (fun w' => w'.cell? ⟨w.heap.size, 0, none⟩ = some (.int .i64 cmd) ∧ w'.cell? ⟨w.heap.size, 1, none⟩ = some (.slice ao n cap)) (go_keep)
    (first
      | (go_at_call 20; refine (unhide HL _ (by exact Inv_below (unhide HI) (below_new _ _).drew) (by exact entSlice_below (unhide HSL) (below_new _ _).drew)).mono ?_; rintro e w1 ⟨ao1, c1, rfl, hl1, hs1, hg1⟩; have p0 : w1.cell? ⟨w.heap.size, 0, none⟩ = some (.int .i64 cmd) := hg1.cell (by simp) (by simpa using hne); have p1 : w1.cell? ⟨w.heap.size, 1, none⟩ = some (.slice ao n cap) := hg1.cell (by simp) (by simpa using hne); have HL1 := hide hl1; have HS1 := hide hs1; have HG1 := hide hg1; clear hl1 hs1 hg1)
      | (go_at_call 9; refine (mEncode_any cmd _ n _ l _ hok (unhide HN) (by exact unhide HS1)).mono ?_; rintro e w2 ⟨v, rfl, hv2, hb2⟩; have p0' : w2.cell? ⟨w.heap.size, 0, none⟩ = some (.int .i64 cmd) := (hb2.cell (p := ⟨w.heap.size, 0, none⟩) (World.block_lt_of_cell? _ _ p0)).trans p0; have p1' : w2.cell? ⟨w.heap.size, 1, none⟩ = some (.slice ao n cap) := (hb2.cell (p := ⟨w.heap.size, 1, none⟩) (World.block_lt_of_cell? _ _ p1)).trans p1; have HV2 := hide hv2; have HB2 := hide hb2; clear hv2 hb2))
  have hsz1 : w.heap.size + 1 ≤ w1.heap.size := by have := (unhide HG1).size; simpa using this
  have hb1 : Below B w w1 := (((Below.refl B w).alloc (by omega) _).drew).trans (below_grown (unhide HG1) (by simp; omega) hB)
  have hb2 : Below B w w2 := hb1.trans ((unhide HB2).mono (by omega))
  have hs2 : entSlice w2 ao l := by
    rcases unhide HSL with h | ⟨b, off, ha, hc⟩
    · exact .inl h
    · by_cases h0 : 0 < l.length
      · exact .inr ⟨b, off, ha, entCells_below hc hb2 (hold _ ha (by have := unhide HN; omega))⟩
      · exact .inl (List.eq_nil_of_length_eq_zero (by omega))
  have HS2 := hide hs2
  have HBB2 := hide hb2
  have hz2 : w.heap.size < w2.heap.size := World.block_lt_of_cell? _ _ p0'
  have hz12 := (unhide HB2).size
  have HOLD := hide hold
  clear hb1 hb2 hs2 hold p0 p1
  obtain ⟨fa, fb, fp, hff⟩ := refF_form (encErr cmd l)
  have HRE := hide (fun W (hsl : entSlice W ao l) => hff ▸ rEncode_any cmd ao n cap l W hok (unhide HN) hsl)
  have HAG := hide (fun W (hv : errIs W v (encErr cmd l)) => hff ▸ agree_any W v (encErr cmd l) hv)
  clear hff
  go_wp2_with fail
  refine (unhide HRE _ (unhide HS2)).mono ?_
  rintro e w3 ⟨rfl, hb3⟩
  have HB3 := hide hb3
  have hz3 := hb3.size
  clear hb3 p0' p1'
  go_wp2_with fail
  refine (unhide HAG _ (by exact errIs_below (errIs_below (unhide HV2) (unhide HB3)) (below_new _ _))).mono ?_
  rintro e w4 ⟨rfl, hb4⟩
  have HB4 := hide hb4
  clear hb4
  go_wp2_with fail
  go_ret
  have hb34 : Below w2.heap.size w2 w4 := below_seq (unhide HB3) (below_box (unhide HB4))
  exact ⟨rfl, Lent_below (unhide HL1) (below_seq (unhide HB2) hb34), (unhide HBB2).trans (hb34.mono (by omega))⟩

/-- A packet that came in: its entries lie in memory that was there. -/
structure Pk (w : World) (ao : Option Addr) (n cap : Nat) (l : List Ent) : Prop where
  ok : entsOk l
  len : l.length = n
  big : n * 32 ≤ 140737488351232
  nil : ao = none → n = 0 ∧ cap = 0
  at' : entSlice w ao l
  old : ∀ a, ao = some a → 0 < n → a.block < w.heap.size

theorem Pk_below {w w1 : World} {ao : Option Addr} {n cap : Nat} {l : List Ent} (h : Pk w ao n cap l) {B : Nat} (hB : w.heap.size ≤ B) (hb : Below w.heap.size w w1) : entSlice w1 ao l ∧ ∀ a, ao = some a → 0 < n → a.block < B :=
  ⟨entSlice_below h.at' hb, fun a ha h0 => Nat.lt_of_lt_of_le (h.old a ha h0) hB⟩

abbrev bks0 : Bks := ⟨0, nl, nl, nl, nl, nl, nl, nl, nl, nl, nl, nl, nl⟩
theorem Inv_start (w : World) : Inv w.heap.size w.heap.size 0 (w.alloc (.cells bks0.arr 30)) :=
  ⟨bks0, [], heap_alloc_new w _, ⟨rfl, rfl, rfl, rfl, rfl, rfl, by decide, by decide, by simp⟩, ⟨World.ownsRow_nil _ _ _ _, World.ownsRow_nil _ _ _ _, by simp, by simp⟩⟩

theorem Inv_start2 (w : World) (o1 o2 : Obj) : Inv (w.heap.size + 1 + 1) (w.heap.size + 1 + 1) 0 (((w.alloc o1).alloc o2).alloc (.cells bks0.arr 30)) := by
  have h := Inv_start ((w.alloc o1).alloc o2)
  rwa [show ((w.alloc o1).alloc o2).heap.size = w.heap.size + 1 + 1 by simp] at h
theorem mEncode_ask (w : World) : Calls Try.prog 9 #[.agg #[.int .i64 1, .slice none 0 0]] w fun e w' => e = .returned (.tuple #[.string (strB askAll), .nilIface]) ∧ Below w.heap.size w w' := by
  refine (mEncode_any 1 none 0 0 [] w (by intro e he; simp at he) rfl (.inl rfl)).mono ?_
  rintro e w' ⟨v, rfl, hv, hb⟩
  obtain rfl : v = .nilIface := hv
  exact ⟨rfl, hb⟩

set_option maxHeartbeats 1000000 in
theorem Encodes_any (cmd1 cmd2 : Int) (a1 a2 : Option Addr) (n1 c1 n2 c2 : Nat) (l1 l2 : List Ent) (w : World) (h1 : Pk w a1 n1 c1 l1) (h2 : Pk w a2 n2 c2 l2) :
    Calls Try.prog 4 #[.agg #[.int .i64 cmd1, .slice a1 n1 c1], .agg #[.int .i64 cmd2, .slice a2 n2 c2]] w fun e w' => e = .returned (.bool true) ∧ Below w.heap.size w w' := by
  have H1 := hide h1
  have H2 := hide h2
  have hlen : (strB askAll).size = 24 := rfl
  clear h1 h2
  go_enter Try.func4, Try.ntmps4
  go_wp2_with fail
  refine (mEncode_ask _).mono ?_
  rintro e w1 ⟨rfl, hb1⟩
  have I1 := Inv_below (Inv_start2 w _ _) hb1
  have e1 : Below (w.heap.size + 1 + 1) ((w.alloc (.cells #[.int .i64 cmd1, .slice a1 n1 c1] 33)).alloc (.cells #[.int .i64 cmd2, .slice a2 n2 c2] 33)) w1 := ((Below.refl _ _).alloc (by simp) _).trans (hb1.mono (by simp))
  clear hb1
  have hbox : ∀ W, Below (w.heap.size + 1 + 1) ((w.alloc (.cells #[.int .i64 cmd1, .slice a1 n1 c1] 33)).alloc (.cells #[.int .i64 cmd2, .slice a2 n2 c2] 33)) W → Below w.heap.size w W ∧ W.cell? ⟨w.heap.size, 0, none⟩ = some (.int .i64 cmd1) ∧ W.cell? ⟨w.heap.size, 1, none⟩ = some (.slice a1 n1 c1) ∧ W.cell? ⟨w.heap.size + 1, 0, none⟩ = some (.int .i64 cmd2) ∧ W.cell? ⟨w.heap.size + 1, 1, none⟩ = some (.slice a2 n2 c2) := fun W hb =>
    ⟨((below_new w _).trans ((below_new _ _).mono (by simp))).trans (hb.mono (by omega)), (hb.cell (p := ⟨w.heap.size, 0, none⟩) (by simp; omega)).trans (by simp), (hb.cell (p := ⟨w.heap.size, 1, none⟩) (by simp; omega)).trans (by simp), (hb.cell (p := ⟨w.heap.size + 1, 0, none⟩) (by simp)).trans (by simp), (hb.cell (p := ⟨w.heap.size + 1, 1, none⟩) (by simp)).trans (by simp)⟩
  have HBOX := hide hbox
  have E1 := hide e1
  have II1 := hide I1
  obtain ⟨hb1, x0, x1, x2, x3⟩ := hbox w1 e1
  have P1 := Pk_below (unhide H1) (B := w.heap.size + 1 + 1) (by omega) hb1
  have PP1 := hide P1
  clear hbox e1 I1 hb1 P1
  go_wp2_with fail
  refine (encodes_any (w.heap.size + 1 + 1) (w.heap.size + 1 + 1) 0 cmd1 a1 n1 c1 l1 _ (unhide II1) (Nat.le_refl _) (unhide H1).ok (unhide H1).len (unhide H1).big (unhide H1).nil (unhide PP1).1 (unhide PP1).2).mono ?_
  rintro e w2 ⟨rfl, hl2, hb2⟩
  have L2 := hide hl2
  have E2 := hide ((unhide E1).trans hb2)
  clear hl2 hb2 x0 x1 x2 x3 II1 PP1 E1
  go_wp2_with fail
  refine (looks_any (w.heap.size + 1 + 1) (w.heap.size + 1 + 1) 0 _ (unhide L2) (Nat.le_refl _) (by omega)).mono ?_
  rintro e w3 ⟨rfl, hi3, hb3⟩
  have I3 := hide hi3
  have E3 := hide ((unhide E2).trans hb3)
  obtain ⟨hb3', x0, x1, x2, x3⟩ := unhide HBOX w3 (unhide E3)
  have PP3 := hide (Pk_below (unhide H2) (B := w.heap.size + 1 + 1) (by omega) hb3')
  clear hi3 hb3 hb3' L2 E2
  go_wp2_with fail
  refine (encodes_any (w.heap.size + 1 + 1) (w.heap.size + 1 + 1) 1 cmd2 a2 n2 c2 l2 _ (unhide I3) (Nat.le_refl _) (unhide H2).ok (unhide H2).len (unhide H2).big (unhide H2).nil (unhide PP3).1 (unhide PP3).2).mono ?_
  rintro e w4 ⟨rfl, hl4, hb4⟩
  have L4 := hide hl4
  have E4 := hide ((unhide E3).trans hb4)
  clear hl4 hb4 x0 x1 x2 x3 I3 PP3 E3
  go_wp2_with fail
  refine (looks_any (w.heap.size + 1 + 1) (w.heap.size + 1 + 1) 1 _ (unhide L4) (Nat.le_refl _) (by omega)).mono ?_
  rintro e w5 ⟨rfl, hi5, hb5⟩
  have E5 := hide ((unhide E4).trans hb5)
  clear hi5 hb5 L4 E4
  go_wp2_with fail
  go_ret
  exact ⟨rfl, (unhide HBOX w5 (unhide E5)).1⟩

end Go.Proofs.Ytdnpeefnobjfaaa
