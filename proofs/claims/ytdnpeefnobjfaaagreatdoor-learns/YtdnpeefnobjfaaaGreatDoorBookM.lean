/- The Book of the statements: how it lies in memory; what lend does. -/
import Derived.Test.YtdnpeefnobjfaaaGreatDoorRefM
import Derived.Deep.AppendLies
import Derived.Test.YtdnpeefnobjfaaaGreatDoorRCostM
namespace Go.Proofs.YtdnpeefnobjfaaaGreatDoor
open Go.RowKit

/-- The empty slice. -/
abbrev nl : Value := .slice none 0 0
/-- The thirteen fields of a Book. -/
structure Bks where
  m : Int
  e : Value
  em : Value
  r : Value
  rm : Value
  o : Value
  om : Value
  l : Value
  wa : Value
  i : Value
  im : Value
  p : Value
  pm : Value
def Bks.arr (s : Bks) : Array Value := #[.int .i64 s.m, s.e, s.em, s.r, s.rm, s.o, s.om, s.l, s.wa, s.i, s.im, s.p, s.pm]
/-- The Book lies in block Bk. -/
def Bks.lies (s : Bks) (w : World) (Bk : Nat) : Prop := w.heap[Bk]? = some (.cells s.arr 84 (0, 0))

theorem blk_setCell {w : World} {b o : Nat} {cs : Array Value} {t : TypeId} {u : Value} (h : w.heap[b]? = some (.cells cs t (0, 0))) : (w.setCell ⟨b, o, none⟩ u).heap[b]? = some (.cells (cs.setIfInBounds o u) t (0, 0)) := by
  have hlt := lt_of_block h
  have h' : w.heap[b] = .cells cs t (0, 0) := by simpa [Array.getElem?_eq_getElem hlt] using h
  show (w.heap.modify b _)[b]? = _
  rw [Array.getElem?_eq_getElem (by simpa using hlt), Array.getElem_modify_self, h']
  rfl
theorem Bks.cell {s : Bks} {w : World} {Bk : Nat} (h : s.lies w Bk) (j : Nat) : w.cell? ⟨Bk, j, none⟩ = s.arr[j]? := cell_of_row w Bk j _ _ _ h
theorem Bks.keep {s : Bks} {w w1 : World} {Bk : Nat} (h : s.lies w Bk) (hk : w1.heap[Bk]? = w.heap[Bk]?) : s.lies w1 Bk := hk.trans h
theorem Bks.lt {s : Bks} {w : World} {Bk : Nat} (h : s.lies w Bk) : Bk < w.heap.size := lt_of_block h
theorem frozen_blk {w : World} {b o : Nat} {cs : Array Value} {t : TypeId} (h : w.heap[b]? = some (.cells cs t (0, 0))) : w.frozen? ⟨b, o, none⟩ = false := by
  simp [World.frozen?, h]
theorem grown_weak {w w1 : World} {r : Option Nat} (h : w.grownBy w1 none) : w.grownBy w1 r := ⟨h.os, h.tape, h.output, h.size, fun k hk _ => h.block k hk (by simp)⟩
theorem grown_new {w w1 w2 : World} {r : Option Nat} {g : Nat} (h : w.grownBy w1 r) (h2 : w1.grownBy w2 (some g)) (hg : w.heap.size ≤ g) : w.grownBy w2 r :=
  ⟨h2.os.trans h.os, h2.tape.trans h.tape, h2.output.trans h.output, Nat.le_trans h.size h2.size, fun k hk hr => (h2.block k (Nat.lt_of_lt_of_le hk h.size) (by simp; omega)).trans (h.block k hk hr)⟩
theorem grown_set (w : World) (b o : Nat) (u : Value) : w.grownBy (w.setCell ⟨b, o, none⟩ u) (some b) :=
  ⟨rfl, rfl, rfl, by simp [World.setCell], fun k _ hr => Below.heap_setCell _ _ _ _ (by simpa using hr)⟩
theorem grown_below {w w1 : World} {r : Option Nat} (h : Below w.heap.size w w1) : w.grownBy w1 r := ⟨h.os, h.tape, h.output, h.size, fun k hk _ => h.block k hk⟩
theorem below_grown {w w1 : World} {B b : Nat} (h : w.grownBy w1 (some b)) (hB : B ≤ w.heap.size) (hb : B ≤ b) : Below B w w1 := (Below.refl _ _).grown h hB (by simp; omega)

theorem lies_l {s : Bks} {w : World} {Bk : Nat} {v : Value} (h : s.lies w Bk) : ({ s with l := v } : Bks).lies (w.setCell ⟨Bk, 7, none⟩ v) Bk := blk_setCell h
theorem lies_wa {s : Bks} {w : World} {Bk : Nat} {v : Value} (h : s.lies w Bk) : ({ s with wa := v } : Bks).lies (w.setCell ⟨Bk, 8, none⟩ v) Bk := blk_setCell h
theorem lies_e {s : Bks} {w : World} {Bk : Nat} {v : Value} (h : s.lies w Bk) : ({ s with e := v } : Bks).lies (w.setCell ⟨Bk, 1, none⟩ v) Bk := blk_setCell h
theorem lies_em {s : Bks} {w : World} {Bk : Nat} {v : Value} (h : s.lies w Bk) : ({ s with em := v } : Bks).lies (w.setCell ⟨Bk, 2, none⟩ v) Bk := blk_setCell h
theorem lies_m {s : Bks} {w : World} {Bk : Nat} {x : Int} (h : s.lies w Bk) : ({ s with m := x } : Bks).lies (w.setCell ⟨Bk, 0, none⟩ (.int .i64 x)) Bk := blk_setCell h
theorem heap_alloc_set (w : World) (a : Addr) (u : Value) (o : Obj) : ((w.setCell a u).alloc o).heap[w.heap.size]? = some o := by
  have := heap_alloc_new (w.setCell a u) o
  rwa [show (w.setCell a u).heap.size = w.heap.size by simp [World.setCell]] at this

theorem cell_set4 (w : World) {b g : Nat} (h : b ≠ g) (o o0 o1 o2 o3 : Nat) (v0 v1 v2 v3 : Value) : ((((w.setCell ⟨g, o0, none⟩ v0).setCell ⟨g, o1, none⟩ v1).setCell ⟨g, o2, none⟩ v2).setCell ⟨g, o3, none⟩ v3).cell? ⟨b, o, none⟩ = w.cell? ⟨b, o, none⟩ :=
  World.cell?_of_block (a := ⟨b, o, none⟩) (((Below.heap_setCell _ _ _ _ h).trans (Below.heap_setCell _ _ _ _ h)).trans ((Below.heap_setCell _ _ _ _ h).trans (Below.heap_setCell _ _ _ _ h)))
theorem ownsRow_cap {w : World} {base e size g n cap : Nat} {xs : List Value} (h : w.ownsRow base e size (.slice (some ⟨g, 0, none⟩) n cap) n xs) : n ≤ cap ∧ cap ≤ 9223372036854775807 := by
  rcases h.2 with ⟨hv, _⟩ | ⟨g', cap', cur, hv, _, _, h1, h2, _⟩
  · simp at hv
  · simp at hv
    obtain ⟨rfl, rfl⟩ := hv
    exact ⟨h1, by unfold maxLen at h2; omega⟩

/-- The cells of entries. -/
def entVals (e : Ent) : List Value := [.int .u32 e.addr, .int .i64 e.len, .int .i64 e.tag, .int .i64 e.met]
def entList (l : List Ent) : List Value := l.flatMap entVals
theorem entList_length (l : List Ent) : (entList l).length = l.length * 4 := by
  induction l with
  | nil => rfl
  | cons e r ih => simp [entList, entVals] at ih ⊢; omega
theorem entList_append (a b : List Ent) : entList (a ++ b) = entList a ++ entList b := by simp [entList]
theorem entList_at (l : List Ent) (k : Nat) (hk : k < l.length) : (entList l)[k * 4]? = some (.int .u32 l[k].addr) ∧ (entList l)[k * 4 + 1]? = some (.int .i64 l[k].len) ∧ (entList l)[k * 4 + 2]? = some (.int .i64 l[k].tag) ∧ (entList l)[k * 4 + 3]? = some (.int .i64 l[k].met) := by
  induction l generalizing k with
  | nil => simp at hk
  | cons e r ih =>
    cases k with
    | zero => simp [entList, entVals]
    | succ k =>
      have h := ih k (by simpa using hk)
      have ek : ∀ j, (entList (e :: r))[(k + 1) * 4 + j]? = (entList r)[k * 4 + j]? := fun j => by
        rw [show entList (e :: r) = entVals e ++ entList r by simp [entList], List.getElem?_append_right (by simp [entVals]; omega)]
        congr 1; simp [entVals]; omega
      have e0 := ek 0
      simp only [Nat.add_zero] at e0
      rw [e0, ek 1, ek 2, ek 3]
      simpa using h
theorem entList_one (l : List Ent) : ∀ u ∈ entList l, u.oneCell' = true := by
  intro u hu
  simp only [entList, entVals, List.mem_flatMap] at hu
  obtain ⟨e, _, he⟩ := hu
  simp at he
  rcases he with rfl | rfl | rfl | rfl <;> rfl
theorem entList_news {w : World} {b off : Nat} {l : List Ent} (h : entCells w b off l) : ∀ j u, (entList l)[j]? = some u → w.cell? ((⟨b, off, none⟩ : Addr).add j) = some u := by
  intro j u hu
  have hj : j < (entList l).length := by
    rcases Nat.lt_or_ge j (entList l).length with h | h
    · exact h
    · rw [List.getElem?_eq_none h] at hu; cases hu
  rw [entList_length] at hj
  have hk : j / 4 < l.length := by omega
  obtain ⟨a0, a1, a2, a3⟩ := h (j / 4) hk
  obtain ⟨c0, c1, c2, c3⟩ := entList_at l (j / 4) hk
  have e : (⟨b, off, none⟩ : Addr).add j = ⟨b, off + j, none⟩ := by unfold Addr.add; split <;> simp_all
  rw [e]
  have hm : j = j / 4 * 4 ∨ j = j / 4 * 4 + 1 ∨ j = j / 4 * 4 + 2 ∨ j = j / 4 * 4 + 3 := by omega
  rcases hm with hm | hm | hm | hm
  · rw [hm, c0] at hu; rw [hm, ← Option.some.inj hu]; exact a0
  · rw [hm, c1] at hu; rw [hm, ← Option.some.inj hu, ← Nat.add_assoc]; exact a1
  · rw [hm, c2] at hu; rw [hm, ← Option.some.inj hu, ← Nat.add_assoc]; exact a2
  · rw [hm, c3] at hu; rw [hm, ← Option.some.inj hu, ← Nat.add_assoc]; exact a3
/-- The cells of an entry in a block. -/
def cellsAt (cur : Array Value) (o : Nat) (e : Ent) : Prop := cur[o]? = some (.int .u32 e.addr) ∧ cur[o + 1]? = some (.int .i64 e.len) ∧ cur[o + 2]? = some (.int .i64 e.tag) ∧ cur[o + 3]? = some (.int .i64 e.met)
/-- A list of entries is the head of block g. -/
def dataRow (w : World) (g : Nat) (L : List Ent) : Prop := ∃ cur, w.heap[g]? = some (.cells cur 42 (0, 0)) ∧ cur.toList.take (L.length * 4) = entList L
theorem dataRow_of {w : World} {base g n cap : Nat} {L : List Ent} (h : w.ownsRow base 42 4 (.slice (some ⟨g, 0, none⟩) n cap) n (entList L)) : dataRow w g L := by
  obtain ⟨hl, h2⟩ := h
  rcases h2 with ⟨hv, _⟩ | ⟨g', cap', cur, hv, _, hg, _, _, _, ht⟩
  · simp at hv
  · simp at hv
    obtain ⟨rfl, rfl⟩ := hv
    rw [entList_length] at hl
    exact ⟨cur, hg, by rw [show L.length * 4 = n * 4 by omega]; exact ht⟩
theorem dataRow_cells {w : World} {g : Nat} {L : List Ent} (h : dataRow w g L) : entCells w g 0 L := by
  obtain ⟨cur, hg, ht⟩ := h
  intro k hk
  obtain ⟨c0, c1, c2, c3⟩ := entList_at L k hk
  have hc : ∀ j, j < L.length * 4 → w.cell? ⟨g, 0 + j, none⟩ = (entList L)[j]? := fun j hj => by
    rw [Nat.zero_add, cell_of_row w g j cur _ _ hg, ← ht, List.getElem?_take, if_pos hj]; simp
  refine ⟨?_, ?_, ?_, ?_⟩
  · rw [hc _ (by omega)]; exact c0
  · rw [Nat.add_assoc, hc _ (by omega)]; exact c1
  · rw [Nat.add_assoc, hc _ (by omega)]; exact c2
  · rw [Nat.add_assoc, hc _ (by omega)]; exact c3
theorem dataRow_keep {w w1 : World} {g : Nat} {L : List Ent} (h : dataRow w g L) (hk : w1.heap[g]? = w.heap[g]?) : dataRow w1 g L := by
  obtain ⟨cur, hg, ht⟩ := h; exact ⟨cur, hk.trans hg, ht⟩
theorem dataRow_lt {w : World} {g : Nat} {L : List Ent} (h : dataRow w g L) : g < w.heap.size := by
  obtain ⟨cur, hg, _⟩ := h; exact lt_of_block hg

theorem Tryz.info42 : (Tryz.prog.info? 42).map (fun i => (i.zero, i.size, i.bytes)) = some (some (.agg #[.int .u32 0, .int .i64 0, .int .i64 0, .int .i64 0]), 4, 32) := by kernel_rfl
theorem Tryz.info43 : (Tryz.prog.info? 43).map (fun i => (i.zero, i.size, i.bytes)) = some (some (.slice none 0 0), 1, 24) := by kernel_rfl
theorem Tryz.info3 : (Tryz.prog.info? 3).map (fun i => (i.zero, i.size, i.bytes)) = some (some (.int .i64 0), 1, 8) := by kernel_rfl

set_option maxHeartbeats 400000 in
theorem lend_nil (Bk : Nat) (w : World) :
    Calls Tryz.prog 124 #[.pointer (some ⟨Bk, 0, none⟩), .slice none 0 0] w fun e w' => e = .returned (.slice none 0 0) ∧ w' = w := by
  have hq : ∀ (w : World) (a : Option Addr) (n c n' c' : Nat), (binOp .eql 43 (.slice a n c) (.slice none n' c')).run Tryz.prog w = .ok (.bool a.isNone) w := fun w a n c n' c' => Lib.run_eql_slice_nil w _ _ a n c n' c' Tryz.underlying43
  go_enter Tryz.func124, Tryz.ntmps124
  go_wp2
  go_ret
  exact ⟨rfl, rfl⟩

def pad : Ent := ⟨0, 0, 77, 0⟩
def padded (l : List Ent) : List Ent := l ++ [pad, pad, pad]
theorem padded_length (l : List Ent) : (padded l).length = l.length + 3 := by simp [padded]

set_option maxHeartbeats 1000000 in
theorem lend_some (Bk b off n cap : Nat) (l : List Ent) (s : Bks) (w : World) (hn : l.length = n) (h0 : 0 < n) (hbig : n * 32 ≤ 140737488351232) (hs : s.lies w Bk) (hl : s.l = nl) (hw : s.wa = nl) (hc : entCells w b off l) :
    Calls Tryz.prog 124 #[.pointer (some ⟨Bk, 0, none⟩), .slice (some ⟨b, off, none⟩) n cap] w fun e w' => ∃ g c g2 c2 gL cL gW cW, e = .returned (.slice (some ⟨g, 0, none⟩) n c) ∧
      ({ s with l := .slice (some ⟨gL, 0, none⟩) 1 cL, wa := .slice (some ⟨gW, 0, none⟩) 1 cW } : Bks).lies w' Bk ∧
      w'.cell? ⟨gL, 0, none⟩ = some (.slice (some ⟨g, 0, none⟩) (n + 3) c) ∧ w'.cell? ⟨gW, 0, none⟩ = some (.slice (some ⟨g2, 0, none⟩) (n + 3) c2) ∧
      dataRow w' g (padded l) ∧ dataRow w' g2 (padded l) ∧ (g < g2 ∧ g2 < gL ∧ gL < gW) ∧ w.heap.size ≤ g ∧ n + 3 ≤ c ∧ w.grownBy w' (some Bk) := by
  obtain ⟨iE, hiE, hE0, hE1, hE2⟩ := info_parts Tryz.info42
  obtain ⟨iS, hiS, hS0, hS1, hS2⟩ := info_parts Tryz.info43
  have hq : ∀ (w : World) (a : Option Addr) (n c n' c' : Nat), (binOp .eql 43 (.slice a n c) (.slice none n' c')).run Tryz.prog w = .ok (.bool a.isNone) w := fun w a n c n' c' => Lib.run_eql_slice_nil w _ _ a n c n' c' Tryz.underlying43
  have HN := hide hn
  have HNEWS := hide (entList_news hc)
  have HS := hide hs
  have HL := hide hl
  have HW := hide hw
  clear hn hc hs hl hw
  go_enter Tryz.func124, Tryz.ntmps124
  go_wp2_with (first | (at_builtin; refine wpList_append_lies _ rfl (.tmp 9) (.tmp 10) 43 rfl w.heap.size 42 iE (.agg #[.int .u32 0, .int .i64 0, .int .i64 0, .int .i64 0]) 4 32 Tryz.underlying43 hiE hE0 hE1 hE2 rfl (by decide) (.slice none 0 0) 0 [] rfl (World.ownsRow_nil _ _ _ _) ⟨b, off, none⟩ n cap (entList l) rfl (by rw [entList_length, unhide HN]) (unhide HNEWS) (entList_one l) h0 (by unfold maxLen; omega) (by omega) (Nat.le_refl _) w.heap.size rfl ?_; intro g1 c1 w1 hown1 hg1 hat1 hlt1; obtain rfl : g1 = w.heap.size := (by simpa [Value.ownBlock] using hat1); simp only [Nat.zero_add, List.nil_append] at hown1; clear hat1) | (at_builtin; refine wpList_append_lies _ rfl (.tmp 12) (.tmp 16) 43 rfl w.heap.size 42 iE (.agg #[.int .u32 0, .int .i64 0, .int .i64 0, .int .i64 0]) 4 32 Tryz.underlying43 hiE hE0 hE1 hE2 rfl (by decide) (.slice (some ⟨w.heap.size, 0, none⟩) n c1) n (entList l) rfl (hown1.alloc _) ⟨w1.heap.size, 0, none⟩ 3 3 (entList [pad, pad, pad]) rfl rfl (by exact World.news_of_block (heap_alloc_new w1 _)) (entList_one _) (by decide) (by unfold maxLen; omega) (by omega) (by have := hg1.size; simp; omega) (w1.heap.size + 1) (by simp) ?_; intro g c w2 hown2 hg2 hat2 hlt2; rw [← entList_append] at hown2; have hcap := ownsRow_cap hown2; clear hown1) | (at_builtin; (refine wpList_append_lies _ rfl (.tmp 18) (.tmp 19) 43 rfl w2.heap.size 42 iE (.agg #[.int .u32 0, .int .i64 0, .int .i64 0, .int .i64 0]) 4 32 Tryz.underlying43 hiE hE0 hE1 hE2 rfl (by decide) (.slice none 0 0) 0 [] rfl (World.ownsRow_nil _ _ _ _) ⟨g, 0, none⟩ (n + 3) c (entList (l ++ [pad, pad, pad])) rfl (by rw [entList_length, List.length_append, unhide HN]; rfl) (by exact hown2.cells (g := g) rfl) (entList_one _) (by omega) (by unfold maxLen; omega) (by omega) (Nat.le_refl _) w2.heap.size rfl ?_; intro g2 c2 w3 hown3 hg3 hat3 hlt3; obtain rfl : g2 = w2.heap.size := (by simpa [Value.ownBlock] using hat3); simp only [Nat.zero_add, List.nil_append] at hown3; have G3 : w.grownBy w3 none := grown_trans (grown_new (grown_trans hg1 (World.grownBy_alloc w1 _ none)) hg2 (Nat.le_refl _)) hg3; have B3 := Bks.keep (unhide HS) (G3.block Bk (Bks.lt (unhide HS)) (by simp)); have b7 : w3.cell? ⟨Bk, 7, none⟩ = some (.slice none 0 0) := (Bks.cell B3 7).trans (congrArg some (unhide HL)); have HG3 := hide G3; have HB3 := hide B3; clear hat3 G3 B3)) | (at_builtin; refine wpList_append_lies _ rfl (.tmp 25) (.tmp 27) 78 rfl w3.heap.size 43 iS (.slice none 0 0) 1 24 Tryz.underlying78 hiS hS0 hS1 hS2 rfl (by decide) (.slice none 0 0) 0 [] rfl (World.ownsRow_nil _ _ _ _) ⟨w3.heap.size, 0, none⟩ 1 1 [.slice (some ⟨g, 0, none⟩) (n + 3) c] rfl rfl (by exact World.news_of_block (heap_alloc_new w3 _)) (by intro u hu; simp at hu; subst hu; rfl) (by decide) (by decide) (by decide) (by simp) (w3.heap.size + 1) (by simp) ?_; intro gL cL w4 hown4 hg4 hat4 hlt4; obtain rfl : gL = w3.heap.size + 1 := (by simpa [Value.ownBlock] using hat4); simp only [Nat.zero_add, List.nil_append] at hown4; have G4 : w3.grownBy w4 none := grown_trans (World.grownBy_alloc w3 _ none) hg4; have B4 := Bks.keep (unhide HB3) (G4.block Bk (Bks.lt (unhide HB3)) (by simp)); have HB4 := hide B4; have HG4 := hide G4; have b7' : w4.cell? ⟨Bk, 7, none⟩ = some (.slice none 0 0) := (Bks.cell B4 7).trans (congrArg some (unhide HL)); have b8' : w4.cell? ⟨Bk, 8, none⟩ = some (.slice none 0 0) := (Bks.cell B4 8).trans (congrArg some (unhide HW)); have f7' : w4.frozen? ⟨Bk, 7, none⟩ = false := frozen_blk B4; clear hat4 G4 B4 b7) | (at_builtin; refine wpList_append_lies _ rfl (.tmp 35) (.tmp 37) 78 rfl w4.heap.size 43 iS (.slice none 0 0) 1 24 Tryz.underlying78 hiS hS0 hS1 hS2 rfl (by decide) (.slice none 0 0) 0 [] rfl (World.ownsRow_nil _ _ _ _) ⟨w4.heap.size, 0, none⟩ 1 1 [.slice (some ⟨w2.heap.size, 0, none⟩) (n + 3) c2] rfl rfl (by exact World.news_of_block (by exact heap_alloc_set w4 _ _ _)) (by intro u hu; simp at hu; subst hu; rfl) (by decide) (by decide) (by decide) (by simp) (w4.heap.size + 1) (by simp) ?_; intro gW cW w5 hown5 hg5 hat5 hlt5; obtain rfl : gW = w4.heap.size + 1 := (by simpa [Value.ownBlock] using hat5); simp only [Nat.zero_add, List.nil_append] at hown5; have G5 := grown_trans (World.grownBy_alloc (w4.setCell ⟨Bk, 7, none⟩ (.slice (some ⟨w3.heap.size + 1, 0, none⟩) 1 cL)) _ none) hg5; have B4' := lies_l (v := .slice (some ⟨w3.heap.size + 1, 0, none⟩) 1 cL) (unhide HB4); have B5 := Bks.keep B4' (G5.block Bk (Bks.lt B4') (by simp)); have HB5 := hide B5; have HG5 := hide G5; have b8'' : w5.cell? ⟨Bk, 8, none⟩ = some (.slice none 0 0) := (Bks.cell B5 8).trans (congrArg some (unhide HW)); have f8'' : w5.frozen? ⟨Bk, 8, none⟩ = false := frozen_blk B5; clear hat5 G5 B4' B5))
  go_ret
  have hBk : Bk < w.heap.size := Bks.lt (unhide HS)
  have hwg : w.heap.size ≤ g := by
    rcases hat2 with h | h
    · simp [Value.ownBlock] at h; omega
    · omega
  have h12 := hg1.size
  have h23 : w1.heap.size + 1 ≤ w2.heap.size := by have := hg2.size; simpa using this
  have h34 := (unhide HG4).size
  have hk5 : ∀ k, k ≠ Bk → (w5.setCell ⟨Bk, 8, none⟩ (.slice (some ⟨w4.heap.size + 1, 0, none⟩) 1 cW)).heap[k]? = w5.heap[k]? := fun k hk => Below.heap_setCell _ _ _ _ (by simpa using hk)
  have hk4 : ∀ k, k ≠ Bk → k < w4.heap.size → (w5.setCell ⟨Bk, 8, none⟩ (.slice (some ⟨w4.heap.size + 1, 0, none⟩) 1 cW)).heap[k]? = w4.heap[k]? := fun k hk hlt =>
    (hk5 k hk).trans (((unhide HG5).block k (by simpa [World.setCell] using hlt) (by simp)).trans (Below.heap_setCell _ _ _ _ (by simpa using hk)))
  have hkg : (w5.setCell ⟨Bk, 8, none⟩ (.slice (some ⟨w4.heap.size + 1, 0, none⟩) 1 cW)).heap[g]? = w2.heap[g]? :=
    (hk4 g (by omega) (by omega)).trans (((unhide HG4).block g (by omega) (by simp)).trans (hg3.block g hlt2 (by simp [Value.ownBlock])))
  have hkg2 : (w5.setCell ⟨Bk, 8, none⟩ (.slice (some ⟨w4.heap.size + 1, 0, none⟩) 1 cW)).heap[w2.heap.size]? = w3.heap[w2.heap.size]? :=
    (hk4 _ (by omega) (by omega)).trans ((unhide HG4).block _ hlt3 (by simp))
  refine ⟨g, c, w2.heap.size, c2, w3.heap.size + 1, cL, w4.heap.size + 1, cW, rfl, lies_wa (unhide HB5), ?_, ?_, dataRow_keep (dataRow_of hown2) hkg, dataRow_keep (dataRow_of hown3) hkg2, ⟨by omega, by omega, by omega⟩, hwg, hcap.1, ?_⟩
  · rw [World.cell?_of_block (w := w4) (a := ⟨w3.heap.size + 1, 0, none⟩) (hk4 (w3.heap.size + 1) (by omega) (by omega))]
    exact hown4.cells (g := w3.heap.size + 1) rfl 0 _ rfl
  · rw [World.cell?_of_block (w := w5) (a := ⟨w4.heap.size + 1, 0, none⟩) (hk5 (w4.heap.size + 1) (by omega))]
    exact hown5.cells (g := w4.heap.size + 1) rfl 0 _ rfl
  · exact grown_trans (grown_trans (grown_trans (grown_trans (grown_weak (unhide HG3)) (grown_weak (unhide HG4))) (grown_set _ _ _ _)) (grown_weak (unhide HG5))) (grown_set _ _ _ _)

set_option maxHeartbeats 1000000 in
theorem lend_zero (Bk cap : Nat) (a : Addr) (s : Bks) (w : World) (hs : s.lies w Bk) (hl : s.l = nl) (hw : s.wa = nl) :
    Calls Tryz.prog 124 #[.pointer (some ⟨Bk, 0, none⟩), .slice (some a) 0 cap] w fun e w' => ∃ g c g2 c2 gL cL gW cW, e = .returned (.slice (some ⟨g, 0, none⟩) 0 c) ∧
      ({ s with l := .slice (some ⟨gL, 0, none⟩) 1 cL, wa := .slice (some ⟨gW, 0, none⟩) 1 cW } : Bks).lies w' Bk ∧
      w'.cell? ⟨gL, 0, none⟩ = some (.slice (some ⟨g, 0, none⟩) 3 c) ∧ w'.cell? ⟨gW, 0, none⟩ = some (.slice (some ⟨g2, 0, none⟩) 3 c2) ∧
      dataRow w' g (padded []) ∧ dataRow w' g2 (padded []) ∧ (g < g2 ∧ g2 < gL ∧ gL < gW) ∧ w.heap.size ≤ g ∧ 3 ≤ c ∧ w.grownBy w' (some Bk) := by
  obtain ⟨iE, hiE, hE0, hE1, hE2⟩ := info_parts Tryz.info42
  obtain ⟨iS, hiS, hS0, hS1, hS2⟩ := info_parts Tryz.info43
  have hq : ∀ (w : World) (a : Option Addr) (n c n' c' : Nat), (binOp .eql 43 (.slice a n c) (.slice none n' c')).run Tryz.prog w = .ok (.bool a.isNone) w := fun w a n c n' c' => Lib.run_eql_slice_nil w _ _ a n c n' c' Tryz.underlying43
  have HS := hide hs
  have HL := hide hl
  have HW := hide hw
  clear hs hl hw
  go_enter Tryz.func124, Tryz.ntmps124
  go_wp2_with (first | (at_builtin; refine wpList_append_own _ rfl (.tmp 9) (.tmp 10) 43 rfl w.heap.size 42 iE (.agg #[.int .u32 0, .int .i64 0, .int .i64 0, .int .i64 0]) 4 32 Tryz.underlying43 hiE hE0 hE1 hE2 rfl (by decide) (.slice none 0 0) 0 [] rfl (World.ownsRow_nil _ _ _ _) a 0 cap [] rfl rfl (by intro j u hu; simp at hu) (by simp) (by decide) (by decide) (Nat.le_refl _) ?_; intro v1 w1 hown1 hg1 hn1; obtain rfl : v1 = .slice none 0 0 := hn1.2 ⟨rfl, rfl⟩; clear hn1 hown1) | (at_builtin; refine wpList_append_lies _ rfl (.tmp 12) (.tmp 16) 43 rfl w.heap.size 42 iE (.agg #[.int .u32 0, .int .i64 0, .int .i64 0, .int .i64 0]) 4 32 Tryz.underlying43 hiE hE0 hE1 hE2 rfl (by decide) (.slice none 0 0) 0 [] rfl (World.ownsRow_nil _ _ _ _) ⟨w1.heap.size, 0, none⟩ 3 3 (entList [pad, pad, pad]) rfl rfl (by exact World.news_of_block (heap_alloc_new w1 _)) (entList_one _) (by decide) (by decide) (by decide) (by have := hg1.size; simp; omega) (w1.heap.size + 1) (by simp) ?_; intro g c w2 hown2 hg2 hat2 hlt2; simp only [Nat.zero_add, List.nil_append] at hown2; have hcap := ownsRow_cap hown2) | (at_builtin; (refine wpList_append_lies _ rfl (.tmp 18) (.tmp 19) 43 rfl w2.heap.size 42 iE (.agg #[.int .u32 0, .int .i64 0, .int .i64 0, .int .i64 0]) 4 32 Tryz.underlying43 hiE hE0 hE1 hE2 rfl (by decide) (.slice none 0 0) 0 [] rfl (World.ownsRow_nil _ _ _ _) ⟨g, 0, none⟩ 3 c (entList [pad, pad, pad]) rfl rfl (by exact hown2.cells (g := g) rfl) (entList_one _) (by omega) (by unfold maxLen; omega) (by omega) (Nat.le_refl _) w2.heap.size rfl ?_; intro g2 c2 w3 hown3 hg3 hat3 hlt3; obtain rfl : g2 = w2.heap.size := (by simpa [Value.ownBlock] using hat3); simp only [Nat.zero_add, List.nil_append] at hown3; have G3 : w.grownBy w3 none := grown_trans (grown_trans (grown_trans hg1 (World.grownBy_alloc w1 _ none)) hg2) hg3; have B3 := Bks.keep (unhide HS) (G3.block Bk (Bks.lt (unhide HS)) (by simp)); have b7 : w3.cell? ⟨Bk, 7, none⟩ = some (.slice none 0 0) := (Bks.cell B3 7).trans (congrArg some (unhide HL)); have HG3 := hide G3; have HB3 := hide B3; clear hat3 G3 B3)) | (at_builtin; refine wpList_append_lies _ rfl (.tmp 25) (.tmp 27) 78 rfl w3.heap.size 43 iS (.slice none 0 0) 1 24 Tryz.underlying78 hiS hS0 hS1 hS2 rfl (by decide) (.slice none 0 0) 0 [] rfl (World.ownsRow_nil _ _ _ _) ⟨w3.heap.size, 0, none⟩ 1 1 [.slice (some ⟨g, 0, none⟩) 3 c] rfl rfl (by exact World.news_of_block (heap_alloc_new w3 _)) (by intro u hu; simp at hu; subst hu; rfl) (by decide) (by decide) (by decide) (by simp) (w3.heap.size + 1) (by simp) ?_; intro gL cL w4 hown4 hg4 hat4 hlt4; obtain rfl : gL = w3.heap.size + 1 := (by simpa [Value.ownBlock] using hat4); simp only [Nat.zero_add, List.nil_append] at hown4; have G4 : w3.grownBy w4 none := grown_trans (World.grownBy_alloc w3 _ none) hg4; have B4 := Bks.keep (unhide HB3) (G4.block Bk (Bks.lt (unhide HB3)) (by simp)); have HB4 := hide B4; have HG4 := hide G4; have b7' : w4.cell? ⟨Bk, 7, none⟩ = some (.slice none 0 0) := (Bks.cell B4 7).trans (congrArg some (unhide HL)); have b8' : w4.cell? ⟨Bk, 8, none⟩ = some (.slice none 0 0) := (Bks.cell B4 8).trans (congrArg some (unhide HW)); have f7' : w4.frozen? ⟨Bk, 7, none⟩ = false := frozen_blk B4; clear hat4 G4 B4 b7) | (at_builtin; refine wpList_append_lies _ rfl (.tmp 35) (.tmp 37) 78 rfl w4.heap.size 43 iS (.slice none 0 0) 1 24 Tryz.underlying78 hiS hS0 hS1 hS2 rfl (by decide) (.slice none 0 0) 0 [] rfl (World.ownsRow_nil _ _ _ _) ⟨w4.heap.size, 0, none⟩ 1 1 [.slice (some ⟨w2.heap.size, 0, none⟩) 3 c2] rfl rfl (by exact World.news_of_block (by exact heap_alloc_set w4 _ _ _)) (by intro u hu; simp at hu; subst hu; rfl) (by decide) (by decide) (by decide) (by simp) (w4.heap.size + 1) (by simp) ?_; intro gW cW w5 hown5 hg5 hat5 hlt5; obtain rfl : gW = w4.heap.size + 1 := (by simpa [Value.ownBlock] using hat5); simp only [Nat.zero_add, List.nil_append] at hown5; have G5 := grown_trans (World.grownBy_alloc (w4.setCell ⟨Bk, 7, none⟩ (.slice (some ⟨w3.heap.size + 1, 0, none⟩) 1 cL)) _ none) hg5; have B4' := lies_l (v := .slice (some ⟨w3.heap.size + 1, 0, none⟩) 1 cL) (unhide HB4); have B5 := Bks.keep B4' (G5.block Bk (Bks.lt B4') (by simp)); have HB5 := hide B5; have HG5 := hide G5; have b8'' : w5.cell? ⟨Bk, 8, none⟩ = some (.slice none 0 0) := (Bks.cell B5 8).trans (congrArg some (unhide HW)); have f8'' : w5.frozen? ⟨Bk, 8, none⟩ = false := frozen_blk B5; clear hat5 G5 B4' B5))
  go_ret
  have hBk : Bk < w.heap.size := Bks.lt (unhide HS)
  have hwg : w.heap.size ≤ g := by
    have h12 := hg1.size
    rcases hat2 with h | h
    · simp [Value.ownBlock] at h
    · omega
  have h12 := hg1.size
  have h23 : w1.heap.size + 1 ≤ w2.heap.size := by have := hg2.size; simpa using this
  have h34 := (unhide HG4).size
  have hk5 : ∀ k, k ≠ Bk → (w5.setCell ⟨Bk, 8, none⟩ (.slice (some ⟨w4.heap.size + 1, 0, none⟩) 1 cW)).heap[k]? = w5.heap[k]? := fun k hk => Below.heap_setCell _ _ _ _ (by simpa using hk)
  have hk4 : ∀ k, k ≠ Bk → k < w4.heap.size → (w5.setCell ⟨Bk, 8, none⟩ (.slice (some ⟨w4.heap.size + 1, 0, none⟩) 1 cW)).heap[k]? = w4.heap[k]? := fun k hk hlt =>
    (hk5 k hk).trans (((unhide HG5).block k (by simpa [World.setCell] using hlt) (by simp)).trans (Below.heap_setCell _ _ _ _ (by simpa using hk)))
  have hkg : (w5.setCell ⟨Bk, 8, none⟩ (.slice (some ⟨w4.heap.size + 1, 0, none⟩) 1 cW)).heap[g]? = w2.heap[g]? :=
    (hk4 g (by omega) (by omega)).trans (((unhide HG4).block g (by omega) (by simp)).trans (hg3.block g hlt2 (by simp [Value.ownBlock])))
  have hkg2 : (w5.setCell ⟨Bk, 8, none⟩ (.slice (some ⟨w4.heap.size + 1, 0, none⟩) 1 cW)).heap[w2.heap.size]? = w3.heap[w2.heap.size]? :=
    (hk4 _ (by omega) (by omega)).trans ((unhide HG4).block _ hlt3 (by simp))
  refine ⟨g, c, w2.heap.size, c2, w3.heap.size + 1, cL, w4.heap.size + 1, cW, rfl, lies_wa (unhide HB5), ?_, ?_, dataRow_keep (dataRow_of hown2) hkg, dataRow_keep (dataRow_of hown3) hkg2, ⟨by omega, by omega, by omega⟩, hwg, hcap.1, ?_⟩
  · rw [World.cell?_of_block (w := w4) (a := ⟨w3.heap.size + 1, 0, none⟩) (hk4 (w3.heap.size + 1) (by omega) (by omega))]
    exact hown4.cells (g := w3.heap.size + 1) rfl 0 _ rfl
  · rw [World.cell?_of_block (w := w5) (a := ⟨w4.heap.size + 1, 0, none⟩) (hk5 (w4.heap.size + 1) (by omega))]
    exact hown5.cells (g := w4.heap.size + 1) rfl 0 _ rfl
  · exact grown_trans (grown_trans (grown_trans (grown_trans (grown_weak (unhide HG3)) (grown_weak (unhide HG4))) (grown_set _ _ _ _)) (grown_weak (unhide HG5))) (grown_set _ _ _ _)

end Go.Proofs.YtdnpeefnobjfaaaGreatDoor

/- The Book's looks: where every list that is kept reads as it was marked, it says yes. -/
namespace Go.Proofs.YtdnpeefnobjfaaaGreatDoor
open Go.RowKit

/-- A list that is kept: where it begins, its length and room, its mark. -/
structure Itm where
  a : Option Addr
  n : Nat
  cap : Nat
  m : Int
def Itm.val (t : Itm) : Value := .slice t.a t.n t.cap
/-- A list of entries reads as it was marked. -/
def Itm.okE (t : Itm) (w : World) : Prop := t.n = 0 ∨ ∃ g off cur, t.a = some ⟨g, off, none⟩ ∧ w.heap[g]? = some (.cells cur 42 (0, 0)) ∧
  ∀ k, k < t.n → cur[off + k * 4]? = some (.int .u32 0) ∧ cur[off + k * 4 + 1]? = some (.int .i64 0) ∧ cur[off + k * 4 + 2]? = some (.int .i64 t.m) ∧ cur[off + k * 4 + 3]? = some (.int .i64 0)
/-- The lists of entries that are kept, and their marks. -/
structure marksE (w : World) (B : Nat) (v vm : Value) (l : List Itm) : Prop where
  rows : w.ownsRow B 43 1 v l.length (l.map Itm.val)
  marks : w.ownsRow B 3 1 vm l.length (l.map fun t => .int .i64 t.m)
  each : ∀ t ∈ l, t.okE w
  small : ∀ t ∈ l, t.n ≤ 9223372036854775807

theorem row_form {w : World} {B e n : Nat} {v : Value} {xs : List Value} (h : w.ownsRow B e 1 v n xs) :
    ∃ ao cap g, v = .slice ao n cap ∧ n ≤ 9223372036854775807 ∧ (0 < n → ao = some ⟨g, 0, none⟩ ∧ ∀ i u, xs[i]? = some u → w.cell? ⟨g, i, none⟩ = some u) := by
  rcases h.2 with ⟨rfl, rfl⟩ | ⟨g, cap, cur, rfl, _, _, h1, h2, _⟩
  · exact ⟨none, 0, 0, rfl, by omega, fun h => by omega⟩
  · refine ⟨_, cap, g, rfl, by unfold maxLen at h2; omega, fun _ => ⟨rfl, fun i u hu => ?_⟩⟩
    have := h.cells (g := g) rfl i u hu
    rwa [show (⟨g, 0, none⟩ : Addr).add i = ⟨g, i, none⟩ by unfold Addr.add; split <;> simp_all] at this

set_option maxHeartbeats 400000 in
theorem lists_nil (Bk : Nat) (s : Bks) (w : World) (hs : s.lies w Bk) (h1 : s.i = nl) (h2 : s.p = nl) :
    Calls Tryz.prog 71 #[.pointer (some ⟨Bk, 0, none⟩)] w fun e w' => e = .returned (.bool true) ∧ w' = w := by
  have c9 : w.cell? ⟨Bk, 9, none⟩ = some (.slice none 0 0) := (Bks.cell hs 9).trans (congrArg some h1)
  have c11 : w.cell? ⟨Bk, 11, none⟩ = some (.slice none 0 0) := (Bks.cell hs 11).trans (congrArg some h2)
  clear hs h1 h2
  go_enter Tryz.func71, Tryz.ntmps71
  go_wp2
  refine wp_loop_rounds 1 ?_
  rw [rounds_succ]
  go_wp2
  refine wp_loop_rounds 1 ?_
  rw [rounds_succ]
  go_wp2
  go_ret
  exact ⟨rfl, rfl⟩

set_option maxHeartbeats 400000 in
theorem back_nil (Bk : Nat) (s : Bks) (w : World) (hs : s.lies w Bk) (h1 : s.l = nl) (h2 : s.wa = nl) :
    Calls Tryz.prog 70 #[.pointer (some ⟨Bk, 0, none⟩)] w fun e w' => e = .returned (.bool true) ∧ ({ s with l := nl, wa := nl } : Bks).lies w' Bk ∧ w.grownBy w' (some Bk) := by
  have c7 : w.cell? ⟨Bk, 7, none⟩ = some (.slice none 0 0) := (Bks.cell hs 7).trans (congrArg some h1)
  have c8 : w.cell? ⟨Bk, 8, none⟩ = some (.slice none 0 0) := (Bks.cell hs 8).trans (congrArg some h2)
  have f7 : w.frozen? ⟨Bk, 7, none⟩ = false := frozen_blk hs
  have f8 : w.frozen? ⟨Bk, 8, none⟩ = false := frozen_blk hs
  have HS := hide hs
  clear hs h1 h2
  go_enter Tryz.func70, Tryz.ntmps70
  go_wp2
  refine wp_loop_rounds 1 ?_
  rw [rounds_succ]
  go_wp2
  go_ret
  exact ⟨rfl, lies_wa (lies_l (unhide HS)), grown_trans (grown_set _ _ _ _) (grown_set _ _ _ _)⟩

set_option maxRecDepth 100000 in
set_option maxHeartbeats 2000000 in
theorem looks_of (Bk B : Nat) (w : World) (P : World → Prop)
    (hback : Calls Tryz.prog 70 #[.pointer (some ⟨Bk, 0, none⟩)] w fun e w' => e = .returned (.bool true) ∧ P w')
    (hP : ∀ w1, P w1 → ∃ (s : Bks) (l : List Itm), s.lies w1 Bk ∧ marksE w1 B s.e s.em l ∧ s.r = nl ∧ s.o = nl ∧ s.i = nl ∧ s.p = nl) :
    Calls Tryz.prog 31 #[.pointer (some ⟨Bk, 0, none⟩)] w fun e w' => e = .returned (.bool true) ∧ ∃ w1 nq, P w1 ∧ w' = w1.drewN nq := by
  have HB := hide hback
  have HP := hide hP
  clear hback hP
  go_enter Tryz.func31, Tryz.ntmps31
  go_wp2_with fail
  refine (unhide HB).mono ?_
  rintro e w1 ⟨rfl, hp1⟩
  obtain ⟨s, l, hs, hm, hr, ho, hi, hp⟩ := unhide HP w1 hp1
  have HR := hide hr
  have HO := hide ho
  have HI := hide hi
  have HPP := hide hp
  clear hr ho hi hp
  obtain ⟨ae, ce, ge, hve, hN, hrow⟩ := row_form hm.rows
  obtain ⟨am, cm, gm, hvm, _, hmrk⟩ := row_form hm.marks
  have c1 : w1.cell? ⟨Bk, 1, none⟩ = some (.slice ae l.length ce) := (Bks.cell hs 1).trans (congrArg some hve)
  have c2 : w1.cell? ⟨Bk, 2, none⟩ = some (.slice am l.length cm) := (Bks.cell hs 2).trans (congrArg some hvm)
  have c3 : w1.cell? ⟨Bk, 3, none⟩ = some (.slice none 0 0) := (Bks.cell hs 3).trans (congrArg some (unhide HR))
  have c5 : w1.cell? ⟨Bk, 5, none⟩ = some (.slice none 0 0) := (Bks.cell hs 5).trans (congrArg some (unhide HO))
  have HS := hide hs
  have HE := hide hm.each
  have HSM := hide hm.small
  have HROW := hide hrow
  have HMRK := hide hmrk
  have HP1 := hide hp1
  generalize hNN : l.length = N at *
  have HNN := hide hNN
  clear hs hm hve hvm hrow hmrk hp1 hNN
  go_wp2_with fail
  go_loopw [4] (fun i wr => ∃ k : Nat, k ≤ N ∧ i = .int .i64 k ∧ ∃ nq, wr = w1.drewN nq) (fun i _ => N - (intOf i).toNat)
  case atStart => exact ⟨0, by omega, rfl, 0, rfl⟩
  case round =>
    obtain ⟨k, hk, rfl, nq, rfl⟩ := hrel
    by_cases hlt : k < N
    · have hkl : k < l.length := by rw [unhide HNN]; exact hlt
      obtain ⟨rfl, hrow⟩ := unhide HROW (by omega)
      obtain ⟨rfl, hmrk⟩ := unhide HMRK (by omega)
      have cr : w1.cell? ⟨ge, k, none⟩ = some (.slice l[k].a l[k].n l[k].cap) := hrow k _ (by simp [List.getElem?_eq_getElem hkl, Itm.val])
      have cm : w1.cell? ⟨gm, k, none⟩ = some (.int .i64 l[k].m) := hmrk k _ (by simp [List.getElem?_eq_getElem hkl])
      have hok := unhide HE l[k] (List.getElem_mem _)
      have htn := unhide HSM l[k] (List.getElem_mem _)
      generalize l[k] = t at *
      obtain ⟨ta, tn, tc, tm⟩ := t
      have HOK := hide hok
      clear hrow hmrk hok
      simp only at cr cm htn
      have i0 : (0 : Int) ≤ (k : Int) := by omega
      have i1 : (k : Int) < (N : Int) := by omega
      go_wp2_with fail
      obtain ⟨n0, rfl⟩ : ∃ n0, n0 = nq := ⟨_, rfl⟩
      go_loopw [5] (fun j wr => ∃ q : Nat, q ≤ tn ∧ j = .int .i64 q ∧ ∃ nq, wr = w1.drewN nq) (fun j _ => tn - (intOf j).toNat)
      case atStart => exact ⟨0, by omega, rfl, _, rfl⟩
      case round =>
        obtain ⟨q, hq, rfl, n1, rfl⟩ := hrel
        by_cases hlq : q < tn
        · have hok := unhide HOK
          rcases hok with hok | ⟨g, off, cur, hta, hg, hcur⟩
          · simp at hok; omega
          · simp only at hta hcur
            subst hta
            obtain ⟨d0, d1, d2, d3⟩ := hcur q hlq
            rw [← cell_of_row w1 g _ cur _ _ hg] at d0 d1 d2 d3
            clear hcur
            have j0 : (0 : Int) ≤ (q : Int) := by omega
            have j1 : (q : Int) < (tn : Int) := by omega
            go_wp2_with fail
            go_quiet (fail)
            go_wp2
            go_roundw
            case rel => exact ⟨q + 1, by omega, by go_num, _, rfl⟩
            case measure => simp [intOf]; omega
        · go_wp2
          go_roundw
          case rel => exact ⟨k + 1, by omega, by go_num, _, rfl⟩
          case measure => simp [intOf]; omega
    · go_wp2
      refine wp_loop_rounds 1 ?_
      rw [rounds_succ]
      go_wp2
      refine wp_loop_rounds 1 ?_
      rw [rounds_succ]
      go_wp2_with fail
      refine (lists_nil Bk s _ (by exact unhide HS) (unhide HI) (unhide HPP)).mono ?_
      rintro e w3 ⟨rfl, rfl⟩
      go_wp2
      go_ret
      exact ⟨rfl, w1, nq, unhide HP1, rfl⟩

end Go.Proofs.YtdnpeefnobjfaaaGreatDoor

/- slices.Clone of costs: what comes out is new. -/
namespace Go.Proofs.YtdnpeefnobjfaaaGreatDoor
open Go.RowKit
attribute [local go_sem ↓] Go.wp_at_zero Go.wp_at_succ

def numList (l : List Int) : List Value := l.map (.int .i64)
theorem numList_length (l : List Int) : (numList l).length = l.length := by simp [numList]
theorem numList_one (l : List Int) : ∀ u ∈ numList l, u.oneCell' = true := by
  intro u hu
  simp only [numList, List.mem_map] at hu
  obtain ⟨x, _, rfl⟩ := hu
  rfl
theorem numList_news {w : World} {b off : Nat} {l : List Int} (h : numCells w b off l) : ∀ j u, (numList l)[j]? = some u → w.cell? ((⟨b, off, none⟩ : Addr).add j) = some u := by
  intro j u hu
  have hj : j < l.length := by
    have := (List.getElem?_eq_some_iff.1 hu).1
    rwa [numList_length] at this
  have := h j hj
  rw [show (⟨b, off, none⟩ : Addr).add j = ⟨b, off + j, none⟩ by unfold Addr.add; split <;> simp_all]
  rw [this]
  simp [numList, hj] at hu
  rw [hu]

set_option maxHeartbeats 1000000 in
theorem cloneNum_some (b off n cap : Nat) (l : List Int) (w : World) (hn : l.length = n) (h0 : 0 < n) (h8 : n ≤ 8) (hB : b < w.heap.size) (hc : numCells w b off l) :
    Calls Tryz.prog 36 #[.slice (some ⟨b, off, none⟩) n cap] w fun e w' => ∃ v, e = .returned v ∧ w'.ownsRow w.heap.size 3 1 v n (numList l) ∧ Below w.heap.size w w' := by
  obtain ⟨iE, hiE, hE0, hE1, hE2⟩ := info_parts Tryz.info3
  have hq : ∀ (w : World) (a : Option Addr) (n c n' c' : Nat), (binOp .eql 22 (.slice a n c) (.slice none n' c')).run Tryz.prog w = .ok (.bool a.isNone) w := fun w a n c n' c' => Lib.run_eql_slice_nil w _ _ a n c n' c' Tryz.underlying22
  have HN := hide hn
  have HC := hide (numCells_below hc (below_new w (.cells #[] 3)) hB)
  clear hn hc
  go_enter Tryz.func36, Tryz.ntmps36
  go_wp2_with (at_builtin; go_loud (refine wpList_append_lies _ rfl (.tmp 5) (.tmp 6) 22 rfl w.heap.size 3 iE (.int .i64 0) 1 8 Tryz.underlying22 hiE hE0 hE1 hE2 rfl (by decide) (.slice (some ⟨w.heap.size, 0, none⟩) 0 0) 0 [] rfl ⟨rfl, .inr ⟨w.heap.size, 0, #[], rfl, Nat.le_refl _, by exact heap_alloc_new w _, Nat.le_refl _, by unfold maxLen; omega, rfl, rfl⟩⟩ ⟨b, off, none⟩ n cap (numList l) rfl (by rw [numList_length, unhide HN, Nat.mul_one]) (numList_news (unhide HC)) (numList_one l) h0 (by unfold maxLen; omega) (by omega) (by simp) (w.heap.size + 1) (by simp) ?_; intro g1 c1 w1 hown1 hg1 hat1 hlt1; simp only [Nat.zero_add, List.nil_append] at hown1))
  go_ret
  exact ⟨_, rfl, hown1, (below_new w _).trans ((Below.refl _ _).grown hg1 (by simp) (by simp [Value.ownBlock]))⟩

set_option maxHeartbeats 1000000 in
theorem cloneNum_zero (a : Addr) (cap : Nat) (w : World) :
    Calls Tryz.prog 36 #[.slice (some a) 0 cap] w fun e w' => ∃ v, e = .returned v ∧ w'.ownsRow w.heap.size 3 1 v 0 [] ∧ Below w.heap.size w w' := by
  obtain ⟨iE, hiE, hE0, hE1, hE2⟩ := info_parts Tryz.info3
  have hq : ∀ (w : World) (a : Option Addr) (n c n' c' : Nat), (binOp .eql 22 (.slice a n c) (.slice none n' c')).run Tryz.prog w = .ok (.bool a.isNone) w := fun w a n c n' c' => Lib.run_eql_slice_nil w _ _ a n c n' c' Tryz.underlying22
  go_enter Tryz.func36, Tryz.ntmps36
  go_wp2_with (at_builtin; go_loud (refine wpList_append_own _ rfl (.tmp 5) (.tmp 6) 22 rfl w.heap.size 3 iE (.int .i64 0) 1 8 Tryz.underlying22 hiE hE0 hE1 hE2 rfl (by decide) (.slice (some ⟨w.heap.size, 0, none⟩) 0 0) 0 [] rfl ⟨rfl, .inr ⟨w.heap.size, 0, #[], rfl, Nat.le_refl _, by exact heap_alloc_new w _, Nat.le_refl _, by unfold maxLen; omega, rfl, rfl⟩⟩ a 0 cap [] rfl rfl (by intro j u hu; simp at hu) (by simp) (by decide) (by decide) (by simp) ?_; intro v1 w1 hown1 hg1 hn1))
  go_ret
  exact ⟨_, rfl, hown1, (below_new w _).trans ((Below.refl _ _).grown hg1 (by simp) (by simp [Value.ownBlock]))⟩

set_option maxHeartbeats 1000000 in
theorem cloneNum_nil (w : World) :
    Calls Tryz.prog 36 #[.slice none 0 0] w fun e w' => ∃ v, e = .returned v ∧ w'.ownsRow w.heap.size 3 1 v 0 [] ∧ Below w.heap.size w w' := by
  have hq : ∀ (w : World) (a : Option Addr) (n c n' c' : Nat), (binOp .eql 22 (.slice a n c) (.slice none n' c')).run Tryz.prog w = .ok (.bool a.isNone) w := fun w a n c n' c' => Lib.run_eql_slice_nil w _ _ a n c n' c' Tryz.underlying22
  go_enter Tryz.func36, Tryz.ntmps36
  go_wp2
  go_ret
  exact ⟨_, rfl, World.ownsRow_nil _ _ _ _, Below.refl _ _⟩

/-- The costs of a router: a list of its own. -/
theorem cloneNum_any (ao : Option Addr) (n cap : Nat) (l : List Int) (w : World) (hn : l.length = n) (h8 : n ≤ 8) (hnil : ao = none → n = 0 ∧ cap = 0) (hs : numSlice w ao l) :
    Calls Tryz.prog 36 #[.slice ao n cap] w fun e w' => ∃ v, e = .returned v ∧ w'.ownsRow w.heap.size 3 1 v n (numList l) ∧ Below w.heap.size w w' := by
  by_cases h0 : n = 0
  · subst h0
    have : l = [] := List.eq_nil_of_length_eq_zero hn
    subst this
    cases ao with
    | none =>
      obtain ⟨_, rfl⟩ := hnil rfl
      exact cloneNum_nil w
    | some a => exact cloneNum_zero a cap w
  · rcases hs with rfl | ⟨b, off, rfl, hc⟩
    · simp at hn; omega
    · exact cloneNum_some b off n cap l w hn (by omega) h8 (numCells_lt hc (by omega)) hc

end Go.Proofs.YtdnpeefnobjfaaaGreatDoor
