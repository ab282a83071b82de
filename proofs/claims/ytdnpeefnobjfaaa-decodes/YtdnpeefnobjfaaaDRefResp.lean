/- The reference's Decode of a response; Decode whole. -/
import Derived.Test.YtdnpeefnobjfaaaDRefDec
import Derived.Test.YtdnpeefnobjfaaaBack
namespace Go.Proofs.Ytdnpeefnobjfaaa
open Go.RowKit
attribute [local go_sem ↓] Go.wp_at_zero Go.wp_at_succ

/-- The first k entries. -/
def firstE (b : List UInt8) (k : Nat) : List Ent := (List.range k).map fun j => entAt b (4 + j * 20)
theorem firstE_succ (b : List UInt8) (k : Nat) : firstE b (k + 1) = firstE b k ++ [entAt b (4 + k * 20)] := by simp [firstE, List.range_succ]
/-- The packet that grows. -/
def grows (P B : Nat) (wr : World) (b : List UInt8) (k : Nat) : Prop := ∃ ao cap, wr.heap[P]? = some (.cells #[.int .i64 2, .slice ao k cap] 33 (0, 0)) ∧ wr.ownsRow B 42 4 (.slice ao k cap) k (entList (firstE b k))
theorem grows_below {P B k : Nat} {w w1 : World} {b : List UInt8} (h : grows P B w b k) (hb : Below w.heap.size w w1) : grows P B w1 b k := by
  obtain ⟨ao, cap, hp, ho⟩ := h
  exact ⟨ao, cap, (hb.block P (lt_of_block hp)).trans hp, ho.kept (grown_below (r := none) hb) (by cases (Value.slice ao k cap).ownBlock <;> simp)⟩
theorem heap_alloc_new2 (w : World) (a b : Obj) : ((w.alloc a).alloc b).heap[w.heap.size + 1]? = some b := by
  have := heap_alloc_new (w.alloc a) b
  rwa [show (w.alloc a).heap.size = w.heap.size + 1 by simp] at this
theorem own_old {w : World} {B e size n : Nat} {v : Value} {xs : List Value} (h : w.ownsRow B e size v n xs) : ∀ q, v.ownBlock = some q → B ≤ q := by
  rcases h.2 with ⟨rfl, _⟩ | ⟨g, cap, cur, rfl, hb, _⟩
  · simp [Value.ownBlock]
  · intro q hq
    simp [Value.ownBlock] at hq
    omega
theorem own_set_low {w : World} {B e size n b o : Nat} {v u : Value} {xs : List Value} (h : w.ownsRow B e size v n xs) (hb : b < B) : (w.setCell ⟨b, o, none⟩ u).ownsRow B e size v n xs :=
  h.kept (grown_set _ _ _ _) (.inr (fun e => by have := own_old h _ e; omega))
/-- One entry more. -/
theorem grows_step {P B k c g : Nat} {w3 w2 : World} {ao : Option Addr} {cap : Nat} {b : List UInt8} {E : Ent} {o1 o2 : Obj} (hE : entAt b (4 + k * 20) = E) (hp : w2.heap[P]? = some (.cells #[.int .i64 2, .slice ao k cap] 33 (0, 0))) (ho : w2.ownsRow B 42 4 (.slice ao k cap) k (entList (firstE b k)))
    (hown : w3.ownsRow B 42 4 (.slice (some ⟨g, 0, none⟩) (k + 1) c) (k + 1) (entList (firstE b k) ++ entList [E])) (hg : ((w2.alloc o1).alloc o2).grownBy w3 (Value.slice ao k cap).ownBlock) (hB : B ≤ P) (hfr : ∀ q, (Value.slice ao k cap).ownBlock = some q → B ≤ q) :
    grows P B (w3.setCell ⟨P, 1, none⟩ (.slice (some ⟨g, 0, none⟩) (k + 1) c)) b (k + 1) ∧ w3.cell? ⟨P, 1, none⟩ = some (.slice ao k cap) ∧ w3.frozen? ⟨P, 1, none⟩ = false ∧ P < w3.heap.size ∧ Below B w2 (w3.setCell ⟨P, 1, none⟩ (.slice (some ⟨g, 0, none⟩) (k + 1) c)) := by
  have hlt := lt_of_block hp
  have hne := ownBlock_ne ho hp (by decide)
  have h0 : ((w2.alloc o1).alloc o2).heap[P]? = w2.heap[P]? := (Below.heap_alloc _ _ _ (by simp; omega)).trans (Below.heap_alloc _ _ _ hlt)
  have h3 : w3.heap[P]? = some (.cells #[.int .i64 2, .slice ao k cap] 33 (0, 0)) := (hg.block P (by simp; omega) (Ne.symm hne)).trans (h0.trans hp)
  rw [← entList_append, ← hE, ← firstE_succ] at hown
  have hl3 := lt_of_block h3
  refine ⟨⟨_, _, blk_setCell h3, hown.kept (grown_set w3 P 1 _) (.inr (ownBlock_ne hown h3 (by decide)))⟩, cell_of_row w3 P 1 _ _ _ h3, frozen_blk h3, hl3, ?_⟩
  have b1 : Below B w2 ((w2.alloc o1).alloc o2) := ((Below.refl _ _).alloc (by omega) _).alloc (by simp; omega) _
  exact (b1.grown hg (by simp; omega) hfr).setCell (by show B ≤ P; exact hB) _
theorem entry_off (s : ByteArray) (i : Nat) (J : Int) (w : World) (hJ : (i : Int) = J) (h : i + 20 ≤ s.size) (hs : s.size ≤ 1000) :
    Calls Try.prog 30 #[.string s, .int .i64 J] w fun e w' => e = .returned (.tuple #[.agg #[.int .u32 (entAt s.data.toList i).addr, .int .i64 (entAt s.data.toList i).len, .int .i64 (entAt s.data.toList i).tag, .int .i64 (entAt s.data.toList i).met], .int .i64 (errAt s.data.toList i)]) ∧ Below w.heap.size w w' := by
  subst hJ; exact entry_any s i w h hs

set_option maxRecDepth 100000 in
set_option maxHeartbeats 1000000 in
theorem rDecode_resp (s : ByteArray) (N : Nat) (w : World) (h : sizeB s.size = true) (hN : s.size = 4 + N * 20) (hn : numAt s.data.toList 1 3 = 131072) (h0 : bt s.data.toList 0 = 2) :
    Calls Try.prog 13 #[.string s] w fun e w' => ((scanErr s.data.toList N 0 = none ∧ ∃ ao cap, e = .returned (.tuple #[.agg #[.int .i64 2, .slice ao N cap], refF none]) ∧ w'.ownsRow w.heap.size 42 4 (.slice ao N cap) N (entList (firstE s.data.toList N))) ∨
      (∃ x, scanErr s.data.toList N 0 = some x ∧ e = .returned (.tuple #[.agg #[.int .i64 0, .slice none 0 0], refF (some x)]))) ∧ Below w.heap.size w w' := by
  obtain ⟨s1, s2, s3, s4, s5, _⟩ := sizeB_facts h
  have e0 := bt_at s 0 (by omega)
  have hNum := hide (fun W => number_any s 1 3 W (by omega) (by omega) (by omega))
  rw [hn] at hNum
  rw [h0] at e0
  have z1 : w.heap.size + 1 + 1 ≠ w.heap.size := by omega
  have z2 : w.heap.size + 1 + 1 ≠ w.heap.size + 1 := by omega
  have hs0 : 0 < s.size := by omega
  have hsi : (s.size : Int) = 4 + N * 20 := by omega
  clear h hn h0
  go_enter Try.func13, Try.ntmps13
  go_wp2_with fail
  obtain ⟨W, hWd⟩ : ∃ W, W = ((w.alloc (.cells #[.int .i64 0, .slice none 0 0] 33)).alloc (.cells #[.int .i64 0, .int .i64 0, .bool false] 52)).alloc (.cells #[.int .i64 0, .slice none 0 0] 33) := ⟨_, rfl⟩
  rw [← hWd]
  have hbW : Below (w.heap.size + 1 + 1 + 1) (dW w) W := by rw [hWd]; exact Below.refl _ _
  obtain ⟨a0, a1, b0, b1, b2, c0, c1, f0, f1, g0, g1, g2, hz, hbw⟩ := dW_facts hbW
  have HBW := hide hbW
  clear hWd hbW a0 a1 b0 b1 b2 f0 f1 g0 g1 g2 hbw
  refine (unhide hNum _).mono ?_
  rintro e w1 ⟨rfl, rfl⟩
  go_wp2_with fail
  have hP : w.heap.size + 1 + 1 + 1 ≤ w1.heap.size := by omega
  obtain ⟨P, hPd⟩ : ∃ P, P = w1.heap.size := ⟨_, rfl⟩
  rw [← hPd]
  have hg0 : grows P P (w1.alloc (.cells #[.int .i64 2, .slice none 0 0] 33)) s.data.toList 0 := ⟨none, 0, by rw [hPd]; exact heap_alloc_new _ _, World.ownsRow_nil _ _ _ _⟩
  have hb0 : Below P w1 (w1.alloc (.cells #[.int .i64 2, .slice none 0 0] 33)) := by rw [hPd]; exact below_new _ _
  have HG0 := hide hg0
  have HB0 := hide hb0
  obtain ⟨iE, hiE, hE0, hE1, hE2⟩ := info_parts Try.info42
  have hP' : w.heap.size + 1 + 1 + 1 ≤ P := by omega
  have HPD := hide hPd
  clear hg0 hb0 c0 c1 hz hPd hP
  go_loopw [8] (fun i wr => ∃ k : Nat, k ≤ N ∧ i = .int .i64 (4 + k * 20) ∧ grows P P wr s.data.toList k ∧ Below P w1 wr ∧ ∀ j, j < k → errAt s.data.toList (4 + j * 20) = 0) (fun i _ => 4 + N * 20 - (intOf i).toNat)
  case atStart => exact ⟨0, by omega, rfl, unhide HG0, unhide HB0, fun j hj => by omega⟩
  case round =>
    obtain ⟨k, hk, rfl, hg, hb, hgood⟩ := hrel
    have HG := hide hg
    have HB := hide hb
    have HGD := hide hgood
    clear hg hb hgood HG0 HB0
    by_cases hlt : k < N
    · have HC := hide (fun W => entry_off s (4 + k * 20) (4 + (k : Int) * 20) W (by omega) (by omega) (by omega))
      by_cases hz : errAt s.data.toList (4 + k * 20) = 0
      · rw [hz] at HC
        have HZ := hide hz
        clear hz
        obtain ⟨E, hE⟩ : ∃ E, entAt s.data.toList (4 + k * 20) = E := ⟨_, rfl⟩
        rw [hE] at HC
        have HE := hide hE
        clear hE
        go_wp2_with fail
        refine (unhide HC _).mono ?_
        rintro e w2 ⟨rfl, hb2⟩
        obtain ⟨ao, cap, hp, ho⟩ := grows_below (unhide HG) hb2
        have p1 : w2.cell? ⟨P, 1, none⟩ = some (.slice ao k cap) := cell_of_row w2 P 1 _ _ _ hp
        have hPlt : P < w2.heap.size := lt_of_block hp
        have HP := hide hp
        have HO := hide ho
        have HB2 := hide hb2
        clear hp ho hb2
        go_wp2_with (first | (at_builtin; refine wpList_append_lies _ rfl (.tmp 101) (.tmp 103) 31 rfl P 42 iE (.agg #[.int .u32 0, .int .i64 0, .int .i64 0, .int .i64 0]) 4 32 Try.underlying31 hiE hE0 hE1 hE2 rfl (by decide) (.slice ao k cap) k (entList (firstE s.data.toList k)) rfl (by exact ((unhide HO).alloc _).alloc _) ⟨w2.heap.size + 1, 0, none⟩ 1 1 (entList [E]) rfl rfl (by exact World.news_of_block (heap_alloc_new2 w2 _ _)) (entList_one _) (by decide) (by unfold maxLen; omega) (by omega) (by simp; omega) (w2.heap.size + 1 + 1) (by simp) ?_; intro g c w3 hown3 hg3 hat3 hlt3; obtain ⟨hgr, q1, q2, hPl, hbl⟩ := grows_step (unhide HE) (unhide HP) (unhide HO) hown3 hg3 (by omega) (own_old (unhide HO)); have HGR := hide hgr; have HBL := hide hbl; clear hown3 hg3 hat3 hgr hbl))
        go_roundw
        case rel =>
          refine ⟨k + 1, by omega, by go_num, unhide HGR, (unhide HB).trans (((unhide HB2).mono (by have := (unhide HB).size; have := unhide HPD; omega)).trans (unhide HBL)), fun j hj => ?_⟩
          by_cases hjk : j = k
          · subst hjk; exact unhide HZ
          · exact unhide HGD j (by omega)
        case measure => simp [intOf]; omega
      · have HX := hide (scanErr_at (b := s.data.toList) (n := N) (Nat.zero_le k) (by omega) (fun j _ hj => unhide HGD j hj) hz)
        obtain ⟨E, hE⟩ : ∃ E, entAt s.data.toList (4 + k * 20) = E := ⟨_, rfl⟩
        rw [hE] at HC
        clear hE
        generalize errAt s.data.toList (4 + k * 20) = f at *
        go_wp2_with fail
        refine (unhide HC _).mono ?_
        rintro e w2 ⟨rfl, hb2⟩
        have hbW3 := (unhide HBW).trans (((unhide HB).mono (by omega)).trans ((below_seq hb2 (below_new w2 (.cells #[.int .u32 E.addr, .int .i64 E.len, .int .i64 E.tag, .int .i64 E.met] 42))).mono (by have := (unhide HB).size; have := unhide HPD; omega)))
        have HBW3 := hide hbW3
        clear hb2 hbW3 HG HB
        go_wp2_with fail
        obtain ⟨W3, hW3⟩ : ∃ W3, W3 = w2.alloc (.cells #[.int .u32 E.addr, .int .i64 E.len, .int .i64 E.tag, .int .i64 E.met] 42) := ⟨_, rfl⟩
        rw [← hW3]
        have hbW := unhide HBW3
        rw [← hW3] at hbW
        clear HBW HBW3 hW3
        obtain ⟨a0, a1, b0, b1, b2, c0, c1, f0, f1, g0, g1, g2, hz, hbw⟩ := dW_facts hbW
        have HBW := hide hbW
        have hq := hide (show IntKind.i64.wrap ((4 + (k : Int) * 20).tdiv 20) = k by rw [Int.tdiv_eq_ediv_of_nonneg (by omega), show (4 + (k : Int) * 20) / 20 = k by omega, IntKind.wrap_i64]; omega)
        clear hbW a0 a1 b0 b1 b2 f0 f1 g0 g1 g2 hbw
        go_region_held3 (fun w' => w'.cell? ⟨w.heap.size + 1 + 1, 0, none⟩ = some (.int .i64 0) ∧ w'.cell? ⟨w.heap.size + 1 + 1, 1, none⟩ = some (.slice none 0 0)) (first | go_keep | exact ⟨(cell_set2 _ z1 _ _ _ _ _).trans d0, (cell_set2 _ z1 _ _ _ _ _).trans d1⟩ | exact ⟨(cell_set3 _ z2 _ _ _ _ _ _ _).trans d0, (cell_set3 _ z2 _ _ _ _ _ _ _).trans d1⟩ | exact ⟨(cell_set3 _ z2 _ _ _ _ _ _ _).trans ((cell_set2 _ z1 _ _ _ _ _).trans d0), (cell_set3 _ z2 _ _ _ _ _ _ _).trans ((cell_set2 _ z1 _ _ _ _ _).trans d1)⟩ | exact ⟨(cell_set2 _ z1 _ _ _ _ _).trans ((cell_set3 _ z2 _ _ _ _ _ _ _).trans d0), (cell_set2 _ z1 _ _ _ _ _).trans ((cell_set3 _ z2 _ _ _ _ _ _ _).trans d1)⟩)
          (first | (go_at_call 28; refine (of_any _ _ _).mono ?_; rintro e w2 ⟨rfl, hb2⟩; obtain ⟨a0, a1, b0, b1, b2, d0, d1, f0, f1, g0, g1, g2, hz2, hbw⟩ := dW_facts (w := w) (wr := w2) ((unhide HBW).trans (Below.trans ((Below.refl _ _).drew) (hb2.mono (by simp; omega)))); clear hb2))
        go_wp2
        refine bodyPost_ret (v := .tuple #[.agg #[.int .i64 0, .slice none 0 0], .agg #[.int .i64 f, .int .i64 (IntKind.i64.wrap ((4 + (k : Int) * 20).tdiv 20)), .bool true]]) (by simp [results, Try.results13, go_sem, a0, a1, b0, b1, b2]) rfl ?_
        exact ⟨.inr ⟨_, unhide HX, by rw [unhide hq]; rfl⟩, rdB hbw⟩
    · have hkN : k = N := by omega
      subst hkN
      obtain ⟨ao, cap, hp, ho⟩ := unhide HG
      have p0 : wr.cell? ⟨P, 0, none⟩ = some (.int .i64 2) := cell_of_row wr P 0 _ _ _ hp
      have p1 : wr.cell? ⟨P, 1, none⟩ = some (.slice ao k cap) := cell_of_row wr P 1 _ _ _ hp
      obtain ⟨a0, a1, b0, b1, b2, d0, d1, f0, f1, g0, g1, g2, hz2, hbw⟩ := dW_facts ((unhide HBW).trans ((unhide HB).mono (by omega)))
      have HP := hide hp
      have HO := hide ho
      have HX := hide (scanErr_none (b := s.data.toList) (n := k) (k := 0) (fun j _ hj => unhide HGD j (by omega)))
      clear hp ho HG HB HBW HGD
      go_wp2
      refine bodyPost_ret (v := .tuple #[.agg #[.int .i64 2, .slice ao k cap], .agg #[.int .i64 0, .int .i64 0, .bool false]]) (by simp [results, Try.results13, go_sem, a0, a1, b0, b1, b2]) rfl ⟨.inl ⟨unhide HX, ao, cap, rfl, ?_⟩, rdB hbw⟩
      exact own_base (own_set_low (own_set_low (own_set_low (own_set_low (own_set_low (unhide HO) (by omega)) (by omega)) (by omega)) (by omega)) (by omega)) (by omega)

theorem take4 {b : List UInt8} (hl : 4 ≤ b.length) : b.take 4 = [2, 2, 0, 0] ↔ numAt b 1 3 = 131072 ∧ bt b 0 = 2 := by
  match b, hl with
  | b0 :: b1 :: b2 :: b3 :: r, _ =>
    have r0 := b0.toNat_lt
    have r1 := b1.toNat_lt
    have r2 := b2.toNat_lt
    have r3 := b3.toNat_lt
    have e : numAt (b0 :: b1 :: b2 :: b3 :: r) 1 3 = 256 * (256 * (256 * 0 + (b1.toNat : Int)) + b2.toNat) + b3.toNat := rfl
    have e0 : bt (b0 :: b1 :: b2 :: b3 :: r) 0 = b0.toNat := rfl
    rw [e, e0]
    simp only [List.take_succ_cons, List.take_zero, List.cons.injEq, and_true, ← UInt8.toNat_inj]
    simp
    omega

/-- What the reference's Decode answers. -/
def refIs (w0 : World) (b : List UInt8) (w : World) (V : Value) : Prop := ∃ ao n cap, V = .agg #[.int .i64 (decCmd b), .slice ao n cap] ∧ w.ownsRow w0.heap.size 42 4 (.slice ao n cap) n (entList (decEnts b))

theorem refIs_err {w0 w : World} {b : List UInt8} {x : Int × Int} (hx : decErr b = some x) : refIs w0 b w (.agg #[.int .i64 0, .slice none 0 0]) := by
  have h1 : decCmd b = 0 := by simp [decCmd, hx]
  have h2 : decEnts b = [] := by simp [decEnts, hx]
  refine ⟨none, 0, 0, by rw [h1], ?_⟩
  rw [h2]; exact World.ownsRow_nil _ _ _ _

theorem rDecode_any (s : ByteArray) (w : World) (hm : s.size ≤ 9223372036854775807) :
    Calls Try.prog 13 #[.string s] w fun e w' => ∃ V, e = .returned (.tuple #[V, refF (decErr s.data.toList)]) ∧ refIs w s.data.toList w' V ∧ Below w.heap.size w w' := by
  have hlen : s.data.toList.length = s.size := by simp
  cases hsz : sizeB s.size with
  | false =>
    have hx : decErr s.data.toList = some (3, -1) := by simp only [decErr, hlen, hsz, if_pos]
    refine (rDecode_size s w hm hsz).mono ?_
    rintro e w' ⟨rfl, hb⟩
    exact ⟨_, by rw [hx], refIs_err hx, hb⟩
  | true =>
    obtain ⟨_, _, _, s4, s5, s6⟩ := sizeB_facts hsz
    have ht := take4 (b := s.data.toList) (by omega)
    by_cases hn : numAt s.data.toList 1 3 = 131072
    · by_cases h1 : bt s.data.toList 0 = 1
      · refine (rDecode_ask s w hsz hn h1).mono ?_
        rintro e w' ⟨⟨ha, rfl⟩ | ⟨ha, rfl⟩, hb⟩
        · have hx : decErr s.data.toList = none := by simp only [decErr, hlen, hsz]; simp [ha]
          have h1 : decCmd s.data.toList = 1 := by unfold decCmd; rw [hx, if_neg (by simp), if_pos ha]
          have h2 : decEnts s.data.toList = [] := by unfold decEnts; rw [hx, if_neg (by simp), if_pos ha]
          refine ⟨_, by rw [hx], ⟨none, 0, 0, by rw [h1], ?_⟩, hb⟩
          rw [h2]; exact World.ownsRow_nil _ _ _ _
        · have hx : decErr s.data.toList = some (4, -1) := by
            simp only [decErr, hlen, hsz]
            rw [if_neg (by simp), if_neg ha, if_pos (fun e => by have := (ht.1 e).2; omega)]
          exact ⟨_, by rw [hx], refIs_err hx, hb⟩
      · by_cases h2 : bt s.data.toList 0 = 2
        · obtain ⟨N, hN⟩ : ∃ N, s.size = 4 + N * 20 := ⟨(s.size - 4) / 20, by omega⟩
          have ha : s.data.toList ≠ askAll := fun e => by rw [e] at h2; revert h2; decide
          have hx : decErr s.data.toList = scanErr s.data.toList N 0 := by
            simp only [decErr, hlen, hsz]
            rw [if_neg (by simp), if_neg ha, if_neg (by simpa using ht.2 ⟨hn, h2⟩), show (s.size - 4) / 20 = N by omega]
          refine (rDecode_resp s N w hsz hN hn h2).mono ?_
          rintro e w' ⟨⟨hsc, ao, cap, rfl, ho⟩ | ⟨x, hsc, rfl⟩, hb⟩
          · have hxn : decErr s.data.toList = none := hx.trans hsc
            have h1 : decCmd s.data.toList = 2 := by simp [decCmd, hxn, ha]
            have h2 : decEnts s.data.toList = firstE s.data.toList N := by
              simp only [decEnts, hxn, ha, ents, hlen, firstE]
              rw [show (s.size - 4) / 20 = N by omega]; simp
            refine ⟨_, by rw [hxn], ⟨ao, N, cap, by rw [h1], ?_⟩, hb⟩
            rw [h2]; exact ho
          · exact ⟨_, by rw [hx, hsc], refIs_err (hx.trans hsc), hb⟩
        · have ha : s.data.toList ≠ askAll := fun e => by rw [e] at h1; revert h1; decide
          have hx : decErr s.data.toList = some (4, -1) := by
            simp only [decErr, hlen, hsz]
            rw [if_neg (by simp), if_neg ha, if_pos (fun e => h2 (ht.1 e).2)]
          refine (rDecode_head s w hsz (.inr ⟨by simp [hn], by simp [h1], by simp [h2]⟩)).mono ?_
          rintro e w' ⟨rfl, hb⟩
          exact ⟨_, by rw [hx], refIs_err hx, hb⟩
    · have ha : s.data.toList ≠ askAll := fun e => by rw [e] at hn; revert hn; decide
      have hx : decErr s.data.toList = some (4, -1) := by
        simp only [decErr, hlen, hsz]
        rw [if_neg (by simp), if_neg ha, if_pos (fun e => hn (ht.1 e).1)]
      refine (rDecode_head s w hsz (.inl (by simp [hn]))).mono ?_
      rintro e w' ⟨rfl, hb⟩
      exact ⟨_, by rw [hx], refIs_err hx, hb⟩

end Go.Proofs.Ytdnpeefnobjfaaa
