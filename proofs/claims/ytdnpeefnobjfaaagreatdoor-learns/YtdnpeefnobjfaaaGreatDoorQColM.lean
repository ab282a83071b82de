/- Whose a block is: colours. What turns, and what stays. -/
import Derived.Test.YtdnpeefnobjfaaaGreatDoorQRecvRM
import Derived.Test.YtdnpeefnobjfaaaGreatDoorQNewMM
import Derived.Test.YtdnpeefnobjfaaaGreatDoorTAsM
import Derived.Test.YtdnpeefnobjfaaaGreatDoorBookM
import Derived.Test.YtdnpeefnobjfaaaGreatDoorQHasM
import Derived.Test.YtdnpeefnobjfaaaGreatDoorLockM
namespace Go.Proofs.YtdnpeefnobjfaaaGreatDoor
open Go.RowKit Go.Shelf

/-- A colour for each block. -/
abbrev Col := Nat → Nat
/-- Blocks from n on are of colour c. -/
def paint (col : Col) (n c : Nat) : Col := fun k => if k < n then col k else c
theorem paint_old {col : Col} {n c k : Nat} (h : k < n) : paint col n c k = col k := if_pos h
theorem paint_new {col : Col} {n c k : Nat} (h : n ≤ k) : paint col n c k = c := if_neg (by omega)
/-- Only blocks of the colours C turn; those that were keep their colour. -/
structure Turns (C : Nat → Prop) (col col' : Col) (w w' : World) : Prop where
  os : w'.os = w.os
  tape : w'.tape = w.tape
  output : w'.output = w.output
  size : w.heap.size ≤ w'.heap.size
  keep : ∀ k, k < w.heap.size → ¬ C (col k) → w'.heap[k]? = w.heap[k]?
  hue : ∀ k, k < w.heap.size → col' k = col k
theorem Turns.refl (C : Nat → Prop) (col : Col) (w : World) : Turns C col col w w := ⟨rfl, rfl, rfl, Nat.le_refl _, fun _ _ _ => rfl, fun _ _ => rfl⟩
theorem Turns.trans {C : Nat → Prop} {a b c : Col} {w w1 w2 : World} (h : Turns C a b w w1) (k : Turns C b c w1 w2) : Turns C a c w w2 :=
  ⟨k.os.trans h.os, k.tape.trans h.tape, k.output.trans h.output, Nat.le_trans h.size k.size,
    fun j hj hc => (k.keep j (Nat.lt_of_lt_of_le hj h.size) (by rw [h.hue j hj]; exact hc)).trans (h.keep j hj hc),
    fun j hj => (k.hue j (Nat.lt_of_lt_of_le hj h.size)).trans (h.hue j hj)⟩
theorem Turns.mono {C D : Nat → Prop} {a b : Col} {w w1 : World} (h : Turns C a b w w1) (hcd : ∀ x, C x → D x) : Turns D a b w w1 :=
  ⟨h.os, h.tape, h.output, h.size, fun k hk hd => h.keep k hk (fun hc => hd (hcd _ hc)), h.hue⟩
theorem Turns.grown {C : Nat → Prop} {col : Col} {w w' : World} {r : Option Nat} (c : Nat) (h : w.grownBy w' r) (hr : ∀ k, r = some k → C (col k)) : Turns C col (paint col w.heap.size c) w w' :=
  ⟨h.os, h.tape, h.output, h.size, fun k hk hc => h.block k hk (fun e => hc (hr k e.symm)), fun _ hk => paint_old hk⟩
theorem Turns.below {C : Nat → Prop} {col : Col} {w w' : World} (c : Nat) (h : Below w.heap.size w w') : Turns C col (paint col w.heap.size c) w w' :=
  Turns.grown (r := none) c (grown_below h) (by simp)
theorem Turns.ref {C : Nat → Prop} {col : Col} {w w' : World} {Q : Nat} {a b : Value} (c : Nat) (h : RefTurn w w' Q a b) (hQ : C (col Q)) (ha : ∀ k, a.ownBlock = some k → C (col k)) : Turns C col (paint col w.heap.size c) w w' :=
  ⟨h.os, h.tape, h.output, h.size, fun k hk hc => h.block k hk (fun e => hc (e ▸ hQ)) (fun e => hc (ha k e)), fun _ hk => paint_old hk⟩

/-- A row of a colour. -/
def OwnC (col : Col) (c : Nat) (w : World) (e sz : Nat) (v : Value) (n : Nat) (xs : List Value) : Prop := w.ownsRow 0 e sz v n xs ∧ ∀ k, v.ownBlock = some k → col k = c
theorem ownsRow_keep {w w' : World} {base e sz n : Nat} {v : Value} {xs : List Value} (h : w.ownsRow base e sz v n xs) (hk : ∀ k, v.ownBlock = some k → w'.heap[k]? = w.heap[k]?) : w'.ownsRow base e sz v n xs := by
  obtain ⟨hl, ⟨hv, h0⟩ | ⟨g, c, cur, hv, hbg, hg, hr⟩⟩ := h
  · exact ⟨hl, .inl ⟨hv, h0⟩⟩
  · exact ⟨hl, .inr ⟨g, c, cur, hv, hbg, (hk g (by rw [hv]; rfl)).trans hg, hr⟩⟩
theorem OwnC.turn {C : Nat → Prop} {col col' : Col} {c : Nat} {w w' : World} {e sz n : Nat} {v : Value} {xs : List Value} (h : OwnC col c w e sz v n xs) (ht : Turns C col col' w w') (hc : ¬ C c) : OwnC col' c w' e sz v n xs :=
  ⟨ownsRow_keep h.1 (fun k hk => ht.keep k (ownsRow_from h.1 k hk).2 (by rw [h.2 k hk]; exact hc)), fun k hk => (ht.hue k (ownsRow_from h.1 k hk).2).trans (h.2 k hk)⟩
theorem OwnC.new {col : Col} {c n0 : Nat} {w : World} {e sz n : Nat} {v : Value} {xs : List Value} (h : w.ownsRow n0 e sz v n xs) : OwnC (paint col n0 c) c w e sz v n xs :=
  ⟨ownsRow_mono h (Nat.zero_le _), fun k hk => paint_new (ownsRow_from h k hk).1⟩
theorem OwnC.old {col : Col} {c c' n0 : Nat} {w w' : World} {e sz n : Nat} {v : Value} {xs : List Value} (h : OwnC col c w e sz v n xs) (hn : w.heap.size = n0) (h' : w'.ownsRow 0 e sz v n xs) : OwnC (paint col n0 c') c w' e sz v n xs :=
  ⟨h', fun k hk => (paint_old (by have := (ownsRow_from h.1 k hk).2; omega)).trans (h.2 k hk)⟩
/-- A block of a colour. -/
def BlkC (col : Col) (c : Nat) (w : World) (B : Nat) (cs : Array Value) (t : TypeId) : Prop := Blk w B cs t ∧ col B = c
theorem BlkC.turn {C : Nat → Prop} {col col' : Col} {c : Nat} {w w' : World} {B : Nat} {cs : Array Value} {t : TypeId} (h : BlkC col c w B cs t) (ht : Turns C col col' w w') (hc : ¬ C c) : BlkC col' c w' B cs t :=
  ⟨(ht.keep B h.1.lt (by rw [h.2]; exact hc)).trans h.1, (ht.hue B h.1.lt).trans h.2⟩

/-- The reference's router, all of one colour. -/
structure RefC (col : Col) (c : Nat) (w : World) (Q : Nat) (costs : List Int) (L : List Rw) (cv lv : Value) : Prop where
  blk : BlkC col c w Q #[cv, lv] 160
  costs : OwnC col c w 3 1 cv costs.length (numList costs)
  rows : OwnC col c w 162 7 lv L.length (rwList L)
theorem RefC.at {col : Col} {c : Nat} {w : World} {Q : Nat} {costs : List Int} {L : List Rw} {cv lv : Value} (h : RefC col c w Q costs L cv lv) : RefAt w 0 Q costs L cv lv := ⟨h.blk.1, h.costs.1, h.rows.1, Nat.zero_le _⟩
theorem RefC.turn {C : Nat → Prop} {col col' : Col} {c : Nat} {w w' : World} {Q : Nat} {costs : List Int} {L : List Rw} {cv lv : Value} (h : RefC col c w Q costs L cv lv) (ht : Turns C col col' w w') (hc : ¬ C c) : RefC col' c w' Q costs L cv lv :=
  ⟨h.blk.turn ht hc, h.costs.turn ht hc, h.rows.turn ht hc⟩
/-- Behind a step of its own it is of its colour again. -/
theorem RefC.step {col : Col} {c : Nat} {w w' : World} {Q : Nat} {costs : List Int} {L L' : List Rw} {cv lv lv' : Value} (h : RefC col c w Q costs L cv lv) (h' : RefAt w' 0 Q costs L' cv lv') (ht : RefTurn w w' Q lv lv') :
    RefC (paint col w.heap.size c) c w' Q costs L' cv lv' ∧ Turns (· = c) col (paint col w.heap.size c) w w' := by
  refine ⟨⟨⟨h'.blk, (paint_old h.blk.1.lt).trans h.blk.2⟩, h.costs.old rfl h'.costs, h'.rows, fun k hk => ?_⟩, Turns.ref c ht h.blk.2 (fun k hk => h.rows.2 k hk)⟩
  rcases ht.at' k hk with e | e
  · exact (paint_old (ownsRow_from h.rows.1 k e).2).trans (h.rows.2 k e)
  · exact paint_new e

/-- The program's router, all of one colour. -/
structure RtrC (col : Col) (c : Nat) (w : World) (R : Nat) (costs : List Int) (L : List Rw) (V : Nat) (cv rv : Value) : Prop where
  blk : BlkC col c w R #[cv, .int .i32 0, .int .u32 0, .pointer (some ⟨V, 0, none⟩)] 116
  view : BlkC col c w V #[rv] 122
  costs : OwnC col c w 3 1 cv costs.length (numList costs)
  rows : OwnC col c w 137 7 rv L.length (rwList L)
theorem RtrC.at {col : Col} {c : Nat} {w : World} {R V : Nat} {costs : List Int} {L : List Rw} {cv rv : Value} (h : RtrC col c w R costs L V cv rv) : RouterAt w 0 R costs L V cv rv := ⟨h.blk.1, h.view.1, h.costs.1, h.rows.1, Nat.zero_le _, Nat.zero_le _⟩
theorem RtrC.turn {C : Nat → Prop} {col col' : Col} {c : Nat} {w w' : World} {R V : Nat} {costs : List Int} {L : List Rw} {cv rv : Value} (h : RtrC col c w R costs L V cv rv) (ht : Turns C col col' w w') (hc : ¬ C c) : RtrC col' c w' R costs L V cv rv :=
  ⟨h.blk.turn ht hc, h.view.turn ht hc, h.costs.turn ht hc, h.rows.turn ht hc⟩
theorem RtrC.step {col : Col} {c : Nat} {w w' : World} {R V V' : Nat} {costs : List Int} {L L' : List Rw} {cv rv rv' : Value} (h : RtrC col c w R costs L V cv rv) (h' : RouterAt w' 0 R costs L' V' cv rv') (hg : w.grownBy w' (some R)) (hV : w.heap.size ≤ V') (hr : w'.ownsRow w.heap.size 137 7 rv' L'.length (rwList L')) :
    RtrC (paint col w.heap.size c) c w' R costs L' V' cv rv' ∧ Turns (· = c) col (paint col w.heap.size c) w w' :=
  ⟨⟨⟨h'.blk, (paint_old h.blk.1.lt).trans h.blk.2⟩, ⟨h'.view, paint_new hV⟩, h.costs.old rfl h'.costs, OwnC.new hr⟩, Turns.grown c hg (fun k hk => by simp at hk; subst hk; exact h.blk.2)⟩

end Go.Proofs.YtdnpeefnobjfaaaGreatDoor

/- The lists that the Book keeps, of whatever kind, in colours. -/
namespace Go.Proofs.YtdnpeefnobjfaaaGreatDoor
open Go.RowKit Go.Shelf

/-- A kind of lists: of rows of what, of what, how many cells, what the owner writes. -/
structure Kd where
  row : TypeId
  el : TypeId
  sz : Nat
  mark : Int → List Value
def kdE : Kd := ⟨43, 42, 4, fun m => [.int .u32 0, .int .i64 0, .int .i64 m, .int .i64 0]⟩
def kdR : Kd := ⟨57, 52, 5, fun m => [.int .u32 0, .int .i64 0, .int .i64 m, .int .i64 0, .int .i64 0]⟩
def kdO : Kd := ⟨46, 64, 2, fun m => [.int .i64 m, .string ⟨#[]⟩]⟩
def kdI : Kd := ⟨22, 3, 1, fun m => [.int .i64 m]⟩
def kdP : Kd := ⟨23, 32, 2, fun m => [.int .u32 0, .int .i64 m]⟩
/-- n of what the owner writes. -/
def Kd.full (κ : Kd) (n : Nat) (m : Int) : List Value := (List.replicate n (κ.mark m)).flatten
theorem Kd.full_succ (κ : Kd) (n : Nat) (m : Int) : κ.full (n + 1) m = κ.full n m ++ κ.mark m := by
  simp [Kd.full, List.replicate_succ']
theorem Kd.full_len {κ : Kd} (h : ∀ m, (κ.mark m).length = κ.sz) (n : Nat) (m : Int) : (κ.full n m).length = n * κ.sz := by
  induction n with
  | zero => simp [Kd.full]
  | succ n ih => rw [Kd.full_succ, List.length_append, ih, h, Nat.succ_mul]
theorem Kd.full_at {κ : Kd} (h : ∀ m, (κ.mark m).length = κ.sz) {n k j : Nat} {m : Int} {u : Value} (hk : k < n) (hj : (κ.mark m)[j]? = some u) : (κ.full n m)[k * κ.sz + j]? = some u := by
  induction n with
  | zero => omega
  | succ n ih =>
    have hjl : j < κ.sz := by rw [← h m]; exact (List.getElem?_eq_some_iff.1 hj).1
    rw [Kd.full_succ]
    by_cases e : k = n
    · subst e
      rw [List.getElem?_append_right (by rw [Kd.full_len h]; omega), Kd.full_len h, Nat.add_sub_cancel_left]
      exact hj
    · have hlt : k * κ.sz + j < n * κ.sz := by
        have : (k + 1) * κ.sz ≤ n * κ.sz := Nat.mul_le_mul_right _ (by omega)
        rw [Nat.succ_mul] at this
        omega
      rw [List.getElem?_append_left (by rw [Kd.full_len h]; exact hlt)]
      exact ih (by omega)

/-- A list reads as it was marked, and is of a colour. -/
def Itm.okK (κ : Kd) (col : Col) (ci : Nat → Prop) (t : Itm) (w : World) : Prop := t.n = 0 ∨ ∃ g off cur, t.a = some ⟨g, off, none⟩ ∧ w.heap[g]? = some (.cells cur κ.el (0, 0)) ∧ ci (col g) ∧
  ∀ k, k < t.n → ∀ j u, (κ.mark t.m)[j]? = some u → cur[off + k * κ.sz + j]? = some u
theorem Itm.okK.turn {κ : Kd} {C : Nat → Prop} {col col' : Col} {ci : Nat → Prop} {t : Itm} {w w' : World} (h : t.okK κ col ci w) (ht : Turns C col col' w w') (hc : ∀ x, ci x → ¬ C x) : t.okK κ col' ci w' := by
  rcases h with h | ⟨g, off, cur, ha, hg, hcg, hk⟩
  · exact .inl h
  · have hlt : g < w.heap.size := (Array.getElem?_eq_some_iff.1 hg).1
    exact .inr ⟨g, off, cur, ha, (ht.keep g hlt (hc _ hcg)).trans hg, by rw [ht.hue g hlt]; exact hcg, hk⟩
/-- A row that its owner has written full. -/
theorem Itm.okK.of {κ : Kd} (hl : ∀ m, (κ.mark m).length = κ.sz) {col : Col} {c : Nat} {ci : Nat → Prop} {w : World} {a : Option Addr} {n cap cp : Nat} {m : Int} (h : OwnC col c w κ.el κ.sz (.slice a n cap) n (κ.full n m)) (hci : ci c) {q : Nat} (hq : q ≤ n) : Itm.okK κ col ci ⟨a, q, cp, m⟩ w := by
  rcases h.1.2 with ⟨_, h0⟩ | ⟨g, c1, cur, hv, _, hg, _, _, _, ht⟩
  · exact .inl (show q = 0 by omega)
  · simp at hv
    obtain ⟨rfl, rfl⟩ := hv
    refine .inr ⟨g, 0, cur, rfl, hg, by rw [h.2 g rfl]; exact hci, fun k hk j u hu => ?_⟩
    have hk' : k < n := Nat.lt_of_lt_of_le hk hq
    have hjl : j < κ.sz := by rw [← hl m]; exact (List.getElem?_eq_some_iff.1 hu).1
    have hlt : k * κ.sz + j < n * κ.sz := by
      have : (k + 1) * κ.sz ≤ n * κ.sz := Nat.mul_le_mul_right _ (by omega)
      rw [Nat.succ_mul] at this
      omega
    have := Kd.full_at hl hk' hu
    rw [← ht, List.getElem?_take, if_pos hlt] at this
    rw [Nat.zero_add]
    simpa using this
theorem Itm.okK.cell {κ : Kd} {col : Col} {ci : Nat → Prop} {t : Itm} {w : World} (h : t.okK κ col ci w) (h0 : 0 < t.n) : ∃ g off, t.a = some ⟨g, off, none⟩ ∧ ∀ k, k < t.n → ∀ j u, (κ.mark t.m)[j]? = some u → w.cell? ⟨g, off + k * κ.sz + j, none⟩ = some u := by
  rcases h with h | ⟨g, off, cur, ha, hg, _, hk⟩
  · omega
  · exact ⟨g, off, ha, fun k hkn j u hu => (cell_of_row w g _ cur _ _ hg).trans (hk k hkn j u hu)⟩

/-- The lists of a kind that are kept, and their marks. -/
structure KeptC (κ : Kd) (col : Col) (ca cm : Nat) (ci : Nat → Prop) (w : World) (v vm : Value) (l : List Itm) : Prop where
  rows : OwnC col ca w κ.row 1 v l.length (l.map Itm.val)
  marks : OwnC col cm w 3 1 vm l.length (l.map fun t => .int .i64 t.m)
  each : ∀ t ∈ l, t.okK κ col ci w
  small : ∀ t ∈ l, t.n ≤ 9223372036854775807
theorem KeptC.turn {κ : Kd} {C : Nat → Prop} {col col' : Col} {ca cm : Nat} {ci : Nat → Prop} {w w' : World} {v vm : Value} {l : List Itm} (h : KeptC κ col ca cm ci w v vm l) (ht : Turns C col col' w w') (h1 : ¬ C ca) (h2 : ¬ C cm) (h3 : ∀ x, ci x → ¬ C x) : KeptC κ col' ca cm ci w' v vm l :=
  ⟨h.rows.turn ht h1, h.marks.turn ht h2, fun t hm => (h.each t hm).turn ht h3, h.small⟩
theorem KeptC.none (κ : Kd) (col : Col) (ca cm : Nat) (ci : Nat → Prop) (w : World) : KeptC κ col ca cm ci w nl nl [] :=
  ⟨⟨World.ownsRow_nil _ _ _ _, fun k hk => by simp [Value.ownBlock] at hk⟩, ⟨World.ownsRow_nil _ _ _ _, fun k hk => by simp [Value.ownBlock] at hk⟩, by simp, by simp⟩

/-- Colours of lists that are kept: from 100 on; those up to a new one. -/
def kept : Nat → Prop := fun x => 100 ≤ x
def keptBut (N : Nat) : Nat → Prop := fun x => 100 ≤ x ∧ x < N
theorem Itm.okK.mono {κ : Kd} {col : Col} {ci cj : Nat → Prop} {t : Itm} {w : World} (h : t.okK κ col ci w) (hc : ∀ k, k < w.heap.size → ci (col k) → cj (col k)) : t.okK κ col cj w := by
  rcases h with h | ⟨g, off, cur, ha, hg, hcg, hk⟩
  · exact .inl h
  · exact .inr ⟨g, off, cur, ha, hg, hc g (Array.getElem?_eq_some_iff.1 hg).1 hcg, hk⟩
theorem KeptC.mono {κ : Kd} {col : Col} {ca cm : Nat} {ci cj : Nat → Prop} {w : World} {v vm : Value} {l : List Itm} (h : KeptC κ col ca cm ci w v vm l) (hc : ∀ k, k < w.heap.size → ci (col k) → cj (col k)) : KeptC κ col ca cm cj w v vm l :=
  ⟨h.rows, h.marks, fun t ht => (h.each t ht).mono hc, h.small⟩
/-- The Book, where nothing is lent: its block is of colour 1, the lists of lists and of marks of 20 to 29, the lists of colours of their own. -/
structure BookC (I : Nat → Prop) (col : Col) (w : World) (Bk : Nat) (s : Bks) (le lr lo li lp : List Itm) : Prop where
  lies : s.lies w Bk
  hue : col Bk = 1
  lent : s.l = nl
  was : s.wa = nl
  ent : KeptC kdE col 20 21 I w s.e s.em le
  rou : KeptC kdR col 22 23 I w s.r s.rm lr
  out : KeptC kdO col 24 25 I w s.o s.om lo
  int : KeptC kdI col 26 27 I w s.i s.im li
  pfx : KeptC kdP col 28 29 I w s.p s.pm lp
theorem BookC.turn {I C : Nat → Prop} {col col' : Col} {w w' : World} {Bk : Nat} {s : Bks} {le lr lo li lp : List Itm} (h : BookC I col w Bk s le lr lo li lp) (ht : Turns C col col' w w') (h1 : ¬ C 1) (h2 : ∀ x, 20 ≤ x → x ≤ 29 → ¬ C x) (h3 : ∀ x, I x → ¬ C x) : BookC I col' w' Bk s le lr lo li lp :=
  ⟨Bks.keep h.lies (ht.keep Bk (Bks.lt h.lies) (by rw [h.hue]; exact h1)), (ht.hue Bk (Bks.lt h.lies)).trans h.hue, h.lent, h.was,
    h.ent.turn ht (h2 _ (by decide) (by decide)) (h2 _ (by decide) (by decide)) h3, h.rou.turn ht (h2 _ (by decide) (by decide)) (h2 _ (by decide) (by decide)) h3, h.out.turn ht (h2 _ (by decide) (by decide)) (h2 _ (by decide) (by decide)) h3,
    h.int.turn ht (h2 _ (by decide) (by decide)) (h2 _ (by decide) (by decide)) h3, h.pfx.turn ht (h2 _ (by decide) (by decide)) (h2 _ (by decide) (by decide)) h3⟩
theorem BookC.mono {I J : Nat → Prop} {col : Col} {w : World} {Bk : Nat} {s : Bks} {le lr lo li lp : List Itm} (h : BookC I col w Bk s le lr lo li lp) (hc : ∀ k, k < w.heap.size → I (col k) → J (col k)) : BookC J col w Bk s le lr lo li lp :=
  ⟨h.lies, h.hue, h.lent, h.was, h.ent.mono hc, h.rou.mono hc, h.out.mono hc, h.int.mono hc, h.pfx.mono hc⟩
/-- There is always a colour that nothing has. -/
theorem fresh_colour (col : Col) (n : Nat) : ∃ N, 100 ≤ N ∧ ∀ k, k < n → col k < N := by
  induction n with
  | zero => exact ⟨100, Nat.le_refl _, fun k hk => by omega⟩
  | succ n ih =>
    obtain ⟨N, h1, h2⟩ := ih
    refine ⟨max N (col n + 1), by omega, fun k hk => ?_⟩
    by_cases e : k = n
    · subst e; omega
    · have := h2 k (by omega); omega
theorem Turns.fresh {C : Nat → Prop} {a b : Col} {w w1 : World} {N : Nat} (h : Turns C a b w w1) (hN : ∀ k, k < w.heap.size → a k < N) : Turns (fun x => C x ∧ x < N) a b w w1 :=
  ⟨h.os, h.tape, h.output, h.size, fun k hk hd => h.keep k hk (fun hc => hd ⟨hc, hN k hk⟩), h.hue⟩

end Go.Proofs.YtdnpeefnobjfaaaGreatDoor

/- What each router does, in colours. -/
namespace Go.Proofs.YtdnpeefnobjfaaaGreatDoor
open Go.RowKit Go.Shelf

variable {col : Col} {c : Nat} {w : World} {costs : List Int} {L : List Rw} {cv : Value}

theorem tickP {R V N : Nat} {rv : Value} (h : RtrC col c w R costs L V cv rv) (hk : TabOk L) (hN : N ≤ 1000) :
    Calls Tryz.prog 16 #[.pointer (some ⟨R, 0, none⟩), .int .i64 N] w fun e w' => e = .returned .nilIface ∧ ∃ V' rv', RtrC (paint col w.heap.size c) c w' R costs (laterL N L) V' cv rv' ∧ Turns (· = c) col (paint col w.heap.size c) w w' :=
  (tick_any R V 0 N costs L cv rv w h.at (by have := hk.len; omega) hN hk.ages).mono fun _ _ ⟨he, V', rv', h', hg, hv, hr⟩ => ⟨he, V', rv', h.step h' hg hv hr⟩
theorem downP {R V nb : Nat} {rv : Value} (h : RtrC col c w R costs L V cv rv) (hk : TabOk L) (hnb : nb < costs.length) :
    Calls Tryz.prog 26 #[.pointer (some ⟨R, 0, none⟩), .int .i64 nb] w fun e w' => e = .returned .nilIface ∧ ∃ V' rv', RtrC (paint col w.heap.size c) c w' R costs (lostL nb L) V' cv rv' ∧ Turns (· = c) col (paint col w.heap.size c) w w' :=
  (down_any R V 0 nb costs L cv rv w h.at (by have := hk.len; omega) hnb).mono fun _ _ ⟨he, V', rv', h', hg, hv, hr⟩ => ⟨he, V', rv', h.step h' hg hv hr⟩
theorem few_read {b : List UInt8} (hx : decErr b = none) (hcmd : decCmd b = 2) : (decEnts b).length ≤ 1000000 := by
  obtain ⟨h1, _, _⟩ := writes hx
  rw [hcmd] at h1
  unfold encErr at h1
  split at h1
  · cases h1
  · split at h1
    · cases h1
    · rename_i h
      omega
theorem met_of_fine {e : Ent} (h : EntFine e) : 0 ≤ e.met ∧ e.met ≤ 16 := by
  have := h.2.2.2
  simp only [metB, Bool.and_eq_true, decide_eq_true_eq] at this
  omega
theorem respP {R V frm : Nat} {s : ByteArray} {rv : Value} (h : RtrC col c w R costs L V cv rv) (hk : TabOk L) (hf : frm < costs.length) (hcost : ∀ c ∈ costs, 1 ≤ c ∧ c ≤ 15) (hm : s.size ≤ 9223372036854775807) (hx : decErr s.data.toList = none) (hcmd : decCmd s.data.toList = 2) :
    Calls Tryz.prog 14 #[.pointer (some ⟨R, 0, none⟩), .int .i64 frm, .string s] w fun e w' => e = .returned (.tuple #[.slice none 0 0, .nilIface]) ∧ ∃ V' rv', RtrC (paint col w.heap.size c) c w' R costs (heardL L frm costs[frm] (decEnts s.data.toList)) V' cv rv' ∧ Turns (· = c) col (paint col w.heap.size c) w w' :=
  (receive_resp R V 0 frm s costs L cv rv w h.at hf hcost hk.len hk.sorted hm hx hcmd (few_read hx hcmd) (fun e he => met_of_fine (read_fine hx e he))).mono fun _ _ ⟨he, V', rv', h', hg, hv, hr⟩ => ⟨he, V', rv', h.step h' hg hv hr⟩

theorem tickQ {Q N : Nat} {lv : Value} (h : RefC col c w Q costs L cv lv) (hk : TabOk L) (hN : N ≤ 1000) :
    Calls Tryz.prog 116 #[.pointer (some ⟨Q, 0, none⟩), .int .i64 N] w fun e w' => e = .returned (.int .i64 0) ∧ ∃ lv', RefC (paint col w.heap.size c) c w' Q costs (laterL N L) cv lv' ∧ Turns (· = c) col (paint col w.heap.size c) w w' :=
  (tickRef_any 0 Q N costs L cv lv w h.at (by have := hk.len; omega) hN hk.ok).mono fun _ _ ⟨he, lv', h', ht⟩ => ⟨he, lv', h.step h' ht⟩
theorem downQ {Q nb : Nat} {lv : Value} (h : RefC col c w Q costs L cv lv) (hk : TabOk L) (hnb : nb < costs.length) :
    Calls Tryz.prog 117 #[.pointer (some ⟨Q, 0, none⟩), .int .i64 nb] w fun e w' => e = .returned (.int .i64 0) ∧ ∃ lv', RefC (paint col w.heap.size c) c w' Q costs (lostL nb L) cv lv' ∧ Turns (· = c) col (paint col w.heap.size c) w w' :=
  (downRef_any 0 Q nb costs L cv lv w h.at (by have := hk.len; omega) (fun r hr => (hk.ok r hr).met) hnb).mono fun _ _ ⟨he, h', ht⟩ => ⟨he, lv, h.step h' ht⟩
theorem respQ {Q frm : Nat} {s : ByteArray} {lv : Value} (h : RefC col c w Q costs L cv lv) (hk : TabOk L) (hf : frm < costs.length) (hcost : ∀ c ∈ costs, 1 ≤ c ∧ c ≤ 15) (hm : s.size ≤ 9223372036854775807) (hx : decErr s.data.toList = none) (hcmd : decCmd s.data.toList = 2) :
    Calls Tryz.prog 163 #[.pointer (some ⟨Q, 0, none⟩), .int .i64 frm, .string s] w fun e w' => e = .returned (.tuple #[.slice none 0 0, refF none]) ∧ ∃ lv', RefC (paint col w.heap.size c) c w' Q costs (heardL L frm costs[frm] (decEnts s.data.toList)) cv lv' ∧ Turns (· = c) col (paint col w.heap.size c) w w' :=
  (recvRef_resp 0 Q frm s costs L cv lv w h.at hf hcost hk.len hk.sorted hk.ok hm hx hcmd (few_read hx hcmd) (fun e he => met_of_fine (read_fine hx e he))).mono fun _ _ ⟨he, lv', h', ht⟩ => ⟨he, lv', h.step h' ht⟩
/-- What a Request is answered: lists of a colour of their own. -/
theorem reqP {R V frm : Nat} {s : ByteArray} {rv : Value} (d : Nat) (h : RtrC col c w R costs L V cv rv) (hk : TabOk L) (hf : frm < costs.length) (hm : s.size ≤ 9223372036854775807) (hx : decErr s.data.toList = none) (hcmd : decCmd s.data.toList = 1) :
    Calls Tryz.prog 14 #[.pointer (some ⟨R, 0, none⟩), .int .i64 frm, .string s] w fun e w' => ∃ v, e = .returned (.tuple #[v, .nilIface]) ∧ OwnC (paint col w.heap.size d) d w' 64 2 v (nParts L.length) (outsTo frm (hearL frm L) (nParts L.length)) ∧ Turns (fun _ => False) col (paint col w.heap.size d) w w' :=
  (receive_req R V 0 frm s costs L cv rv w h.at hf (by have := hk.len; omega) hk.fine hm hx hcmd).mono fun _ _ ⟨v, he, ho, hb⟩ => ⟨v, he, OwnC.new ho, Turns.below d hb⟩
theorem reqQ {Q frm : Nat} {s : ByteArray} {lv : Value} (d : Nat) (h : RefC col c w Q costs L cv lv) (hk : TabOk L) (hf : frm < costs.length) (hm : s.size ≤ 9223372036854775807) (hx : decErr s.data.toList = none) (hcmd : decCmd s.data.toList = 1) :
    Calls Tryz.prog 163 #[.pointer (some ⟨Q, 0, none⟩), .int .i64 frm, .string s] w fun e w' => ∃ v, e = .returned (.tuple #[v, refF none]) ∧ OwnC (paint col w.heap.size d) d w' 64 2 v (nParts L.length) (outsTo frm (hearL frm L) (nParts L.length)) ∧ Turns (fun _ => False) col (paint col w.heap.size d) w w' :=
  (recvRef_req 0 Q frm s costs L cv lv w h.at hf (by have := hk.len; omega) hk.fine hm hx hcmd).mono fun _ _ ⟨v, he, ho, hb⟩ => ⟨v, he, OwnC.new ho, Turns.below d hb⟩
theorem viewQ {Q : Nat} {lv : Value} (d : Nat) (h : RefC col c w Q costs L cv lv) (hk : TabOk L) :
    Calls Tryz.prog 33 #[.pointer (some ⟨Q, 0, none⟩)] w fun e w' => ∃ v, e = .returned v ∧ OwnC (paint col w.heap.size d) d w' 52 5 v L.length (routeList L) ∧ Turns (fun _ => False) col (paint col w.heap.size d) w w' :=
  (viewRef_any 0 Q costs L cv lv w h.at (by have := hk.len; omega)).mono fun _ _ ⟨v, he, ho, hb⟩ => ⟨v, he, OwnC.new ho, Turns.below d hb⟩

end Go.Proofs.YtdnpeefnobjfaaaGreatDoor
