/- append onto long rows, and where the new row lies. -/
import Derived.Test.YtdnpeefnobjfaaaGreatDoorQListsM
import Derived.OwnWalk
import Derived.ArgAppend
import Derived.Deep.DeepAppendWide
namespace Go.Proofs.YtdnpeefnobjfaaaGreatDoor
open Go.RowKit Go.Shelf

section
variable {P : Program} (w : World)
/-- The row that comes out is the old one, or the block that is made now. -/
theorem run_append_far (t ty : TypeId) (base : Nat) (e : TypeId) (i : TypeInfo) (z : Value) (size bytes : Nat) (ht : P.underlying t = some (.slice e)) (hi : P.info? e = some i) (hz : i.zero = some z)
    (hsize : i.size = size) (hby : i.bytes = bytes) (hzs : z.cells.size = size) (hsz : 0 < size)
    (v : Value) (n : Nat) (xs : List Value) (hown : w.ownsRow base e size v n xs)
    (ad : Addr) (m c : Nat) (news : List Value) (hl : news.length = m * size) (hnews : ∀ j u, news[j]? = some u → w.cell? (ad.add j) = some u) (h1 : ∀ u ∈ news, u.oneCell' = true)
    (hm : 0 < m) (h63 : n + m ≤ maxLen) (hbytes : ((n + m) + (n + m) / 4 + 192) * bytes ≤ 281474976710656) (hbase : base ≤ w.heap.size) (H : Nat) (hH : w.heap.size = H) :
    ∃ g cap w', (Builtin.append_ #[t, t] ty #[v, .slice (some ad) m c]).run P w = .ok (.slice (some ⟨g, 0, none⟩) (n + m) cap) w' ∧
      w'.ownsRow base e size (.slice (some ⟨g, 0, none⟩) (n + m) cap) (n + m) (xs ++ news) ∧ w.grownBy w' v.ownBlock ∧ (v.ownBlock = some g ∨ g = H) ∧ g < w'.heap.size := by
  obtain ⟨v', w', hr, h2, h3, _⟩ := run_append_own_wide (P := P) w base t ty e i z size bytes ht hi hz hsize hby hzs hsz v n xs hown ad m c news hl hnews h1 h63 hbytes hbase
  obtain ⟨g, cap, rfl, _, hlt⟩ := h2.form (by omega)
  refine ⟨g, cap, w', hr, h2, h3, ?_, hlt⟩
  subst hsize hby hH
  have h63' : n + m ≤ 9223372036854775807 := by unfold maxLen at h63; omega
  rcases hown.2 with ⟨rfl, rfl⟩ | ⟨g0, cap0, cur, rfl, _, hg0, hnc, hcm, hcs, htake⟩
  · right
    have hr2 := run_append_nil (P := P) w t ty e i z ht hi hz ad m c news hl hnews hm (by omega) (Nat.le_trans (Nat.mul_le_mul_right _ (by omega)) hbytes)
    rw [hr2] at hr
    injection hr with e1 e2
    injection e1 with e3
    injection e3 with e4
    injection e4 with e5
    exact e5.symm
  · by_cases hroom : n + m ≤ cap0
    · left
      have hr2 := run_append_room (P := P) w t ty e i ht hi g0 n cap0 cur hg0 ad m c news hl hnews h1 hroom (by rw [hl, hcs, ← Nat.add_mul]; exact Nat.mul_le_mul_right _ hroom)
      rw [hr2] at hr
      injection hr with e1 e2
      injection e1 with e3
      injection e3 with e4
      injection e4 with e5
      exact congrArg some e5
    · right
      have hr2 := run_append_grow (P := P) w t ty e i z ht hi hz ⟨g0, 0, none⟩ n cap0 xs hown.1 (hown.cells (g := g0) rfl) ad m c news hl hnews (by omega) (by omega) (growslice_fits_wide (by omega) hbytes)
      rw [hr2] at hr
      injection hr with e1 e2
      injection e1 with e3
      injection e3 with e4
      injection e4 with e5
      exact e5.symm

theorem wp_append_far {o : Oper} {a : Act} {K : Act → World → Prop} {Q : Exit → Act → World → Prop} (s x : Operand) (t : TypeId)
    (ho : o.op = .call { callee := .builtin .append, args := #[s, x], argTypes := #[t, t] })
    (base : Nat) (e : TypeId) (i : TypeInfo) (z : Value) (size bytes : Nat) (ht : P.underlying t = some (.slice e)) (hi : P.info? e = some i) (hz : i.zero = some z)
    (hsize : i.size = size) (hby : i.bytes = bytes) (hzs : z.cells.size = size) (hsz : 0 < size)
    (v : Value) (n : Nat) (xs : List Value) (hs : a.eval s = v) (hown : w.ownsRow base e size v n xs)
    (ad : Addr) (m c : Nat) (news : List Value) (hx : a.eval x = .slice (some ad) m c) (hl : news.length = m * size) (hnews : ∀ j u, news[j]? = some u → w.cell? (ad.add j) = some u) (h1 : ∀ u ∈ news, u.oneCell' = true)
    (hm : 0 < m) (h63 : n + m ≤ maxLen) (hbytes : ((n + m) + (n + m) / 4 + 192) * bytes ≤ 281474976710656) (hbase : base ≤ w.heap.size) (H : Nat) (hH : w.heap.size = H)
    (h : ∀ g cap w', w'.ownsRow base e size (.slice (some ⟨g, 0, none⟩) (n + m) cap) (n + m) (xs ++ news) → w.grownBy w' v.ownBlock → (v.ownBlock = some g ∨ g = H) → g < w'.heap.size → K (a.put o.dst (.slice (some ⟨g, 0, none⟩) (n + m) cap)) w') : o.wp P a w K Q := by
  obtain ⟨g, cap, w', hr, h2, h3, h4, h5⟩ := run_append_far (P := P) w t o.type base e i z size bytes ht hi hz hsize hby hzs hsz v n xs hown ad m c news hl hnews h1 hm h63 hbytes hbase H hH
  have hev : (o.op = .call { callee := .builtin .append, args := #[s, x], argTypes := #[t, t] }) := ho
  unfold Oper.wp execOp
  simp only [hev, resolve, invoke, builtin, Sem.run_bind, Sem.run_pure, Result.andThen_ok, List.map_toArray, List.map_cons, List.map_nil, hs, hx, hr]
  exact h g cap w' h2 h3 h4 h5
theorem wpList_append_far {ops : Array Oper} {rest : List Oper} {o : Oper} {a : Act} {Q : Exit → Act → World → Prop} (hgd : o.guard = none) (s x : Operand) (t : TypeId)
    (ho : o.op = .call { callee := .builtin .append, args := #[s, x], argTypes := #[t, t] })
    (base : Nat) (e : TypeId) (i : TypeInfo) (z : Value) (size bytes : Nat) (ht : P.underlying t = some (.slice e)) (hi : P.info? e = some i) (hz : i.zero = some z)
    (hsize : i.size = size) (hby : i.bytes = bytes) (hzs : z.cells.size = size) (hsz : 0 < size)
    (v : Value) (n : Nat) (xs : List Value) (hs : a.eval s = v) (hown : w.ownsRow base e size v n xs)
    (ad : Addr) (m c : Nat) (news : List Value) (hx : a.eval x = .slice (some ad) m c) (hl : news.length = m * size) (hnews : ∀ j u, news[j]? = some u → w.cell? (ad.add j) = some u) (h1 : ∀ u ∈ news, u.oneCell' = true)
    (hm : 0 < m) (h63 : n + m ≤ maxLen) (hbytes : ((n + m) + (n + m) / 4 + 192) * bytes ≤ 281474976710656) (hbase : base ≤ w.heap.size) (H : Nat) (hH : w.heap.size = H)
    (h : ∀ g cap w', w'.ownsRow base e size (.slice (some ⟨g, 0, none⟩) (n + m) cap) (n + m) (xs ++ news) → w.grownBy w' v.ownBlock → (v.ownBlock = some g ∨ g = H) → g < w'.heap.size → wpList P ops Q rest (a.put o.dst (.slice (some ⟨g, 0, none⟩) (n + m) cap)) w') : wpList P ops Q (o :: rest) a w :=
  wpList_plain hgd fun _ hK => wp_append_far w s x t ho base e i z size bytes ht hi hz hsize hby hzs hsz v n xs hs hown ad m c news hx hl hnews h1 hm h63 hbytes hbase H hH fun g cap w' h2 h3 h4 h5 => hK _ _ (h g cap w' h2 h3 h4 h5)
end

theorem grown_of_alloc2 {w w1 : World} {o : Obj} {r : Option Nat} (h : (w.alloc o).grownBy w1 r) : w.grownBy w1 r := grown_trans (World.grownBy_alloc w o r) h
theorem grown_boxed2 {w w1 : World} {o : Obj} {r : Option Nat} (h : (w.alloc o).drew.grownBy w1 r) : w.grownBy w1 r := by
  have h1 : w.grownBy (w.alloc o).drew r := by
    have := World.grownBy_alloc w o r
    exact ⟨this.os, this.tape, this.output, this.size, this.block⟩
  exact grown_trans h1 h
/-- append, one entry and more: there is room, or the row is new. -/
theorem wpList_append_either2 {P : Program} (w : World) {ops : Array Oper} {rest : List Oper} {o : Oper} {a : Act} {Q : Exit → Act → World → Prop}
    (hg : o.guard = none) (s x : Operand) (t : TypeId) (hop : o.op = Op.call { callee := Callee.builtin Builtin.append, args := #[s, x], argTypes := #[t, t] })
    (base : Nat) (e : TypeId) (i : TypeInfo) (z : Value) (size bytes : Nat) (h1 : P.underlying t = some (.slice e)) (h2 : P.info? e = some i) (h3 : i.zero = some z) (h4 : i.size = size) (h5 : i.bytes = bytes) (h6 : z.cells.size = size) (h7 : 0 < size)
    (ao : Option Addr) (n cap : Nat) (xs : List Value) (hs : a.eval s = .slice ao n cap) (hown : w.ownsRow base e size (.slice ao n cap) n xs)
    (ad : Addr) (m c : Nat) (news : List Value) (hx : a.eval x = .slice (some ad) m c) (hn : news.length = m * size) (hc : ∀ j u, news[j]? = some u → w.cell? (ad.add j) = some u) (h1c : ∀ u ∈ news, u.oneCell' = true)
    (hm : 0 < m) (b1 : n + m ≤ maxLen) (b2 : (n + m) * bytes ≤ 140737488355328) (hbase : base ≤ w.heap.size)
    (hK : ∀ g c' w', w'.ownsRow base e size (.slice (some ⟨g, 0, none⟩) (n + m) c') (n + m) (xs ++ news) → ((w.grownBy w' none ∧ w.heap.size ≤ g) ∨ (w.grownBy w' (some g) ∧ ao = some ⟨g, 0, none⟩)) → wpList P ops Q rest (a.put o.dst (.slice (some ⟨g, 0, none⟩) (n + m) c')) w') :
    wpList P ops Q (o :: rest) a w := by
  have hnil : ao = none → n = 0 ∧ cap = 0 := fun e => by
    rcases hown.2 with ⟨hv, h0⟩ | ⟨g, c', cur, hv, _⟩
    · simp at hv; exact ⟨h0, hv.2.2⟩
    · subst e; simp at hv
  by_cases hfit : n + m ≤ cap
  · rcases hown.2 with ⟨hv, h0⟩ | ⟨g, c', cur, hv, _⟩
    · simp at hv; omega
    · simp at hv
      obtain ⟨rfl, rfl⟩ := hv
      exact wpList_append_fits w hg s x t hop base e i size h1 h2 h4 g n cap xs hs hown ad m c news hx hn hc h1c hfit (fun w' ho hgr => hK g cap w' ho (.inr ⟨hgr, rfl⟩))
  · refine wpList_append_grows w hg s x t hop e i z size bytes h1 h2 h3 h4 h5 h6 h7 ao n cap xs hs hnil hown.1 ?_ ad m c news hx hn hc h1c (by omega) b1 b2 ?_
    · intro b hb j u hu
      rcases hown.2 with ⟨hv, h0⟩ | ⟨g, c', cur, hv, _⟩
      · simp at hv; rw [hv.1] at hb; cases hb
      · simp at hv
        obtain ⟨rfl, rfl⟩ := hv
        simp at hb
        subst hb
        exact hown.cells (g := g) rfl j u hu
    · intro v' w' ho hgr
      rcases ho.2 with ⟨_, h0⟩ | ⟨g, c', cur, rfl, hb, _⟩
      · omega
      · exact hK g c' w' (ownsRow_mono ho hbase) (.inl ⟨hgr, hb⟩)

end Go.Proofs.YtdnpeefnobjfaaaGreatDoor

/- A list is kept, whatever its kind: how memory stands between the steps. No walk in it. -/
namespace Go.Proofs.YtdnpeefnobjfaaaGreatDoor
open Go.RowKit Go.Shelf

theorem Tryz.info57 : (Tryz.prog.info? 57).map (fun i => (i.zero, i.size, i.bytes)) = some (some (.slice none 0 0), 1, 24) := by kernel_rfl
theorem Tryz.info46 : (Tryz.prog.info? 46).map (fun i => (i.zero, i.size, i.bytes)) = some (some (.slice none 0 0), 1, 24) := by kernel_rfl
theorem Tryz.info22 : (Tryz.prog.info? 22).map (fun i => (i.zero, i.size, i.bytes)) = some (some (.slice none 0 0), 1, 24) := by kernel_rfl
theorem Tryz.info23 : (Tryz.prog.info? 23).map (fun i => (i.zero, i.size, i.bytes)) = some (some (.slice none 0 0), 1, 24) := by kernel_rfl
theorem wide_room {l i Q : Nat} (h : ((l + 4) + (l + 4) / 4 + 192) * 24 ≤ 281474976710656) (hi : i < 4) (hQ : l + i = Q) : ((Q + 1) + (Q + 1) / 4 + 192) * 24 ≤ 281474976710656 ∧ (Q + 1) * 8 ≤ 140737488355328 ∧ Q + 1 ≤ maxLen := by
  have hq : Q + 1 ≤ l + 4 := by omega
  have hd : (Q + 1) / 4 ≤ (l + 4) / 4 := Nat.div_le_div_right hq
  have h1 : ((Q + 1) + (Q + 1) / 4 + 192) * 24 ≤ 281474976710656 := Nat.le_trans (Nat.mul_le_mul_right 24 (Nat.add_le_add_right (Nat.add_le_add hq hd) 192)) h
  have h24 : (Q + 1) * 24 ≤ 281474976710656 := Nat.le_trans (Nat.mul_le_mul_right 24 (Nat.le_trans (Nat.le_add_right _ _) (Nat.le_add_right _ _))) h1
  refine ⟨h1, ?_, ?_⟩
  · clear h h1 hd hq
    omega
  · clear h h1 hd hq
    unfold maxLen
    omega
/-- The Book's block holds these cells. -/
def BA (w : World) (Bk : Nat) (A : Array Value) : Prop := w.heap[Bk]? = some (.cells A 84 (0, 0))

/-- append onto a list of the Book's, and the Book's cell written: only the Book's block, that list's, and new ones turn. -/
theorem bk_append {col : Col} {w w5 : World} {Bk q ca e n g c5 : Nat} {A : Array Value} {v : Value} {xs ys : List Value} (hA : BA w Bk A) (hB : col Bk = 1) (hca : ca ≠ 1) (hv : OwnC col ca w e 1 v n xs) (hown : w5.ownsRow 0 e 1 (.slice (some ⟨g, 0, none⟩) (n + 1) c5) (n + 1) ys) (hg : w.grownBy w5 v.ownBlock) (hat : v.ownBlock = some g ∨ w.heap.size ≤ g) :
    BA (w5.setCell ⟨Bk, q, none⟩ (.slice (some ⟨g, 0, none⟩) (n + 1) c5)) Bk (A.setIfInBounds q (.slice (some ⟨g, 0, none⟩) (n + 1) c5)) ∧
    OwnC (paint col w.heap.size ca) ca (w5.setCell ⟨Bk, q, none⟩ (.slice (some ⟨g, 0, none⟩) (n + 1) c5)) e 1 (.slice (some ⟨g, 0, none⟩) (n + 1) c5) (n + 1) ys ∧
    Turns (fun x => x = 1 ∨ x = ca) col (paint col w.heap.size ca) w (w5.setCell ⟨Bk, q, none⟩ (.slice (some ⟨g, 0, none⟩) (n + 1) c5)) := by
  have hlt : Bk < w.heap.size := lt_of_block hA
  have hne : v.ownBlock ≠ some Bk := fun h => hca ((hv.2 Bk h).symm.trans hB)
  have h5 : BA w5 Bk A := (hg.block Bk hlt (fun h => hne h.symm)).trans hA
  have hgc : paint col w.heap.size ca g = ca ∧ g ≠ Bk := by
    rcases hat with h | h
    · have hgl := (ownsRow_from hv.1 g h).2
      have hcg := hv.2 g h
      exact ⟨(paint_old hgl).trans hcg, fun e => by subst e; exact hca (hcg.symm.trans hB)⟩
    · exact ⟨paint_new h, by omega⟩
  refine ⟨blk_setCell h5, ⟨ownsRow_keep hown (fun k hk => ?_), fun k hk => ?_⟩, ⟨hg.os, hg.tape, hg.output, by simp [World.setCell]; exact hg.size, fun k hk hc => ?_, fun k hk => paint_old hk⟩⟩
  · simp [Value.ownBlock] at hk
    subst hk
    exact Below.heap_setCell _ _ _ _ hgc.2
  · simp [Value.ownBlock] at hk
    subst hk
    exact hgc.1
  · have hkB : k ≠ Bk := fun e => hc (.inl (by rw [e]; exact hB))
    exact (Below.heap_setCell _ _ _ _ hkB).trans (hg.block k hk (fun e => hc (.inr (hv.2 k e.symm))))

/-- Cells of a block, written one behind the other. -/
def setL (w : World) (g : Nat) : Nat → List Value → World
  | _, [] => w
  | o, v :: r => setL (w.setCell ⟨g, o, none⟩ v) g (o + 1) r
def setA (cur : Array Value) : Nat → List Value → Array Value
  | _, [] => cur
  | o, v :: r => setA (cur.setIfInBounds o v) (o + 1) r
theorem setL_heap {g : Nat} {t : TypeId} (vs : List Value) : ∀ (w : World) (o : Nat) (cur : Array Value), w.heap[g]? = some (.cells cur t (0, 0)) → (setL w g o vs).heap[g]? = some (.cells (setA cur o vs) t (0, 0)) := by
  induction vs with
  | nil => intro w o cur h; exact h
  | cons v r ih => intro w o cur h; exact ih _ _ _ (blk_setCell h)
theorem setL_grown {g : Nat} (vs : List Value) : ∀ (w : World) (o : Nat), w.grownBy (setL w g o vs) (some g) := by
  induction vs with
  | nil => intro w o; exact ⟨rfl, rfl, rfl, Nat.le_refl _, fun _ _ _ => rfl⟩
  | cons v r ih => intro w o; exact grown_trans (grown_set w g o v) (ih _ _)
theorem setA_size (vs : List Value) : ∀ (cur : Array Value) (o : Nat), (setA cur o vs).size = cur.size := by
  induction vs with
  | nil => intro cur o; rfl
  | cons v r ih => intro cur o; rw [setA, ih]; simp
theorem setA_low (vs : List Value) : ∀ (cur : Array Value) (o q : Nat), q < o → (setA cur o vs)[q]? = cur[q]? := by
  induction vs with
  | nil => intro cur o q h; rfl
  | cons v r ih =>
    intro cur o q h
    rw [setA, ih _ _ _ (by omega), Array.getElem?_setIfInBounds_ne (by omega)]
theorem setA_at (vs : List Value) : ∀ (cur : Array Value) (o j : Nat) (u : Value), o + vs.length ≤ cur.size → vs[j]? = some u → (setA cur o vs)[o + j]? = some u := by
  induction vs with
  | nil => intro cur o j u h hu; simp at hu
  | cons v r ih =>
    intro cur o j u h hu
    simp only [List.length_cons] at h
    cases j with
    | zero =>
      simp at hu
      subst hu
      rw [setA, setA_low _ _ _ _ (by omega), Nat.add_zero, Array.getElem?_setIfInBounds_self_of_lt (by omega)]
    | succ j =>
      have := ih (cur.setIfInBounds o v) (o + 1) j u (by simp; omega) (by simpa using hu)
      rw [setA, show o + (j + 1) = o + 1 + j by omega]
      exact this

/-- The first k elements of block g bear the mark. -/
def partK (κ : Kd) (w : World) (g cap : Nat) (M : Int) (k : Nat) : Prop := ∃ cur, w.heap[g]? = some (.cells cur κ.el (0, 0)) ∧ cur.size = cap * κ.sz ∧ ∀ j, j < k → ∀ i u, (κ.mark M)[i]? = some u → cur[j * κ.sz + i]? = some u
theorem partK_step {κ : Kd} (hl : ∀ m, (κ.mark m).length = κ.sz) {w : World} {g cap k : Nat} {M : Int} (h : partK κ w g cap M k) (hk : k < cap) : partK κ (setL w g (k * κ.sz) (κ.mark M)) g cap M (k + 1) := by
  obtain ⟨cur, hg, hs, hj⟩ := h
  refine ⟨_, setL_heap _ _ _ _ hg, (setA_size _ _ _).trans hs, fun j hjk i u hu => ?_⟩
  have hil : i < κ.sz := by rw [← hl M]; exact (List.getElem?_eq_some_iff.1 hu).1
  by_cases e : j = k
  · subst e
    refine setA_at _ _ _ _ _ ?_ hu
    rw [hl, hs, ← Nat.succ_mul]
    exact Nat.mul_le_mul_right _ hk
  · have hlt : (j + 1) * κ.sz ≤ k * κ.sz := Nat.mul_le_mul_right _ (by omega)
    rw [Nat.succ_mul] at hlt
    rw [setA_low _ _ _ _ (by omega)]
    exact hj j (by omega) i u hu
theorem partK_keep {κ : Kd} {w w' : World} {g cap k : Nat} {M : Int} (h : partK κ w g cap M k) (hk : w'.heap[g]? = w.heap[g]?) : partK κ w' g cap M k := by
  obtain ⟨cur, hg, r⟩ := h
  exact ⟨cur, hk.trans hg, r⟩
theorem partK_cells {κ : Kd} {w : World} {g cap k : Nat} {M : Int} (h : partK κ w g cap M k) (o : Nat) (ho : o < cap * κ.sz) : (∃ v, w.cell? ⟨g, o, none⟩ = some v) ∧ w.frozen? ⟨g, o, none⟩ = false := by
  obtain ⟨cur, hg, hs, _⟩ := h
  refine ⟨⟨cur[o]'(by omega), (cell_of_row w g o cur _ _ hg).trans (Array.getElem?_eq_getElem (by omega))⟩, frozen_blk hg⟩
theorem partK_own {κ : Kd} (hl : ∀ m, (κ.mark m).length = κ.sz) (h0 : 0 < κ.sz) {w : World} {g cap n : Nat} {M : Int} (h : partK κ w g cap M n) (hn : n ≤ cap) (hc : cap ≤ maxLen) : w.ownsRow 0 κ.el κ.sz (.slice (some ⟨g, 0, none⟩) n cap) n (κ.full n M) := by
  obtain ⟨cur, hg, hs, hk⟩ := h
  refine ⟨Kd.full_len hl n M, .inr ⟨g, cap, cur, rfl, Nat.zero_le _, hg, hn, hc, hs, ?_⟩⟩
  have hle : n * κ.sz ≤ cap * κ.sz := Nat.mul_le_mul_right _ hn
  apply List.ext_getElem?
  intro q
  by_cases hq : q < n * κ.sz
  · have hd : q / κ.sz < n := (Nat.div_lt_iff_lt_mul h0).2 hq
    have hm : q % κ.sz < κ.sz := Nat.mod_lt _ h0
    have hu : (κ.mark M)[q % κ.sz]? = some ((κ.mark M)[q % κ.sz]'(by rw [hl]; exact hm)) := List.getElem?_eq_getElem _
    have e : q / κ.sz * κ.sz + q % κ.sz = q := by rw [Nat.mul_comm]; exact Nat.div_add_mod q κ.sz
    have h1 := hk (q / κ.sz) hd (q % κ.sz) _ hu
    have h2 := Kd.full_at hl hd hu
    rw [e] at h1 h2
    rw [h2, List.getElem?_take, if_pos hq, Array.getElem?_toList, h1]
  · rw [List.getElem?_eq_none (by simp; omega), List.getElem?_eq_none (by rw [Kd.full_len hl]; omega)]

/-- While the list is marked. -/
structure KA2 (κ : Kd) (N : Nat) (w0 : World) (col : Col) (Bk n cap : Nat) (ao : Option Addr) (A : Array Value) (M : Int) (k : Nat) (wr : World) : Prop where
  lies : BA wr Bk A
  hue : col Bk = 1
  turn : Turns (fun x => x = 1 ∨ x = N) col col w0 wr
  row : (ao = none ∧ n = 0 ∧ cap = 0) ∨ ∃ g, ao = some ⟨g, 0, none⟩ ∧ partK κ wr g cap M k ∧ n ≤ cap ∧ cap ≤ maxLen ∧ col g = N ∧ g < w0.heap.size
theorem KA2.start {κ : Kd} {N : Nat} {w : World} {col : Col} {Bk n cap : Nat} {ao : Option Addr} {A : Array Value} {M : Int} {xs : List Value} {u : Value} (hA : BA w Bk A) (hB : col Bk = 1) (hN : N ≠ 1) (ho : OwnC col N w κ.el κ.sz (.slice ao n cap) n xs) :
    KA2 κ N w col Bk n cap ao (A.setIfInBounds 0 u) M 0 (w.setCell ⟨Bk, 0, none⟩ u) := by
  refine ⟨blk_setCell hA, hB, ⟨rfl, rfl, rfl, by simp [World.setCell], fun k hk hc => Below.heap_setCell _ _ _ _ (fun e => hc (.inl (by rw [e]; exact hB))), fun _ _ => rfl⟩, ?_⟩
  rcases ho.1.2 with ⟨hv, h0⟩ | ⟨g, c', cur, hv, _, hg, h1, h2, h3, _⟩
  · simp at hv; exact .inl ⟨hv.1, h0, hv.2.2⟩
  · simp at hv
    obtain ⟨rfl, rfl⟩ := hv
    have hcg : col g = N := ho.2 g rfl
    refine .inr ⟨g, rfl, ⟨cur, (Below.heap_setCell _ _ _ _ (fun e => hN (by rw [← hcg, e]; exact hB))).trans hg, h3, fun j hj => by omega⟩, h1, h2, hcg, lt_of_block hg⟩
theorem KA2.step {κ : Kd} (hl : ∀ m, (κ.mark m).length = κ.sz) {N : Nat} {w0 wr : World} {col : Col} {Bk n cap g k : Nat} {A : Array Value} {M : Int} (h : KA2 κ N w0 col Bk n cap (some ⟨g, 0, none⟩) A M k wr) (hN : N ≠ 1) (hk : k < n) : KA2 κ N w0 col Bk n cap (some ⟨g, 0, none⟩) A M (k + 1) (setL wr g (k * κ.sz) (κ.mark M)) := by
  rcases h.row with ⟨h0, _⟩ | ⟨g', hg', hp, h1, h2, h3, h4⟩
  · cases h0
  · obtain rfl : g = g' := by simpa using hg'
    have gs := setL_grown (g := g) (κ.mark M) wr (k * κ.sz)
    have hne : Bk ≠ g := fun e => hN (by rw [← h3, ← e]; exact h.hue)
    refine ⟨(gs.block Bk (lt_of_block h.lies) (by simpa using hne)).trans h.lies, h.hue, h.turn.trans ⟨gs.os, gs.tape, gs.output, gs.size, fun j hj hc => gs.block j hj (fun e => hc (.inr ?_)), fun _ _ => rfl⟩, .inr ⟨g, rfl, partK_step hl hp (by omega), h1, h2, h3, h4⟩⟩
    obtain rfl : j = g := by simpa using e
    exact h3

/-- Colours of a kind's lists, and of a list that is new. -/
structure Hues (ca cm N : Nat) : Prop where
  a : 1 < ca
  b : ca < cm
  c : cm < 100
  d : 100 ≤ N
/-- Between the steps of keeping: the list has grown by i elements; lr are kept, lm have their marks. -/
structure KPS (κ : Kd) (p ca cm N : Nat) (w0 : World) (col0 : Col) (Bk n : Nat) (A : Array Value) (items nw lr lm : List Itm) (M : Int) (i : Nat) (a : Option Addr) (c : Nat) (vR vM : Value) (col : Col) (wr : World) : Prop where
  lies : BA wr Bk ((A.setIfInBounds p vR).setIfInBounds (p + 1) vM)
  hue : col Bk = 1
  rows : OwnC col ca wr κ.row 1 vR lr.length (lr.map Itm.val)
  marks : OwnC col cm wr 3 1 vM lm.length (lm.map fun t => .int .i64 t.m)
  old : ∀ t ∈ items, t.okK κ col (keptBut N) wr
  new : ∀ t ∈ nw, t.okK κ col (· = N) wr ∧ t.m = M ∧ t.n ≤ n + i ∧ ∀ x, t.a = some x → x = ⟨x.block, 0, none⟩
  row : OwnC col N wr κ.el κ.sz (.slice a (n + i) c) (n + i) (κ.full (n + i) M)
  turn : Turns (fun x => x = 1 ∨ x = ca ∨ x = cm ∨ x = N) col0 col w0 wr

theorem KPS.start {κ : Kd} (hl : ∀ m, (κ.mark m).length = κ.sz) (h0 : 0 < κ.sz) {p ca cm N : Nat} {w0 wr : World} {col : Col} {Bk n cap : Nat} {ao : Option Addr} {A : Array Value} {items : List Itm} {M : Int} {vR vM : Value} (h : KA2 κ N w0 col Bk n cap ao A M n wr) (hh : Hues ca cm N) (hk : KeptC κ col ca cm (keptBut N) w0 vR vM items) (hA : (A.setIfInBounds p vR).setIfInBounds (p + 1) vM = A) :
    KPS κ p ca cm N w0 col Bk n A items [] items items M 0 ao cap vR vM col wr := by
  obtain ⟨q1, q2, q3, q4⟩ := hh
  refine ⟨by rw [hA]; exact h.lies, h.hue, hk.rows.turn h.turn (by omega), hk.marks.turn h.turn (by omega), fun t ht => (hk.each t ht).turn h.turn (fun x hx hc => ?_), by simp, ?_, h.turn.mono (fun x hx => by omega)⟩
  · have := hx.1; have := hx.2; omega
  · rcases h.row with ⟨rfl, rfl, rfl⟩ | ⟨g, rfl, hp, h1, h2, h3, _⟩
    · exact ⟨World.ownsRow_nil _ _ _ _, fun k hk => by simp [Value.ownBlock] at hk⟩
    · exact ⟨partK_own hl h0 hp h1 h2, fun k hk => by simp [Value.ownBlock] at hk; subst hk; exact h3⟩

theorem KPS.rowed {κ : Kd} {p ca cm N : Nat} {w0 wr w5 : World} {col0 col : Col} {Bk n i c g5 c5 : Nat} {a : Option Addr} {A : Array Value} {items nw lr lm : List Itm} {M : Int} {vR vM : Value} (h : KPS κ p ca cm N w0 col0 Bk n A items nw lr lm M i a c vR vM col wr) (hh : Hues ca cm N)
    (hown : w5.ownsRow 0 κ.row 1 (.slice (some ⟨g5, 0, none⟩) (lr.length + 1) c5) (lr.length + 1) (lr.map Itm.val ++ [.slice a (n + i) c])) (hg : wr.grownBy w5 vR.ownBlock) (hat : vR.ownBlock = some g5 ∨ wr.heap.size ≤ g5) :
    KPS κ p ca cm N w0 col0 Bk n A items nw (lr ++ [⟨a, n + i, c, M⟩]) lm M i a c (.slice (some ⟨g5, 0, none⟩) (lr.length + 1) c5) vM (paint col wr.heap.size ca) (w5.setCell ⟨Bk, p, none⟩ (.slice (some ⟨g5, 0, none⟩) (lr.length + 1) c5)) := by
  obtain ⟨q1, q2, q3, q4⟩ := hh
  obtain ⟨b1, b2, b3⟩ := bk_append (q := p) h.lies h.hue (by omega) h.rows hown hg hat
  refine ⟨?_, (paint_old (lt_of_block h.lies)).trans h.hue, ?_, h.marks.turn b3 (by omega), fun t ht => (h.old t ht).turn b3 (fun x hx => ?_), fun t ht => ⟨(h.new t ht).1.turn b3 (fun x hx => ?_), (h.new t ht).2⟩, h.row.turn b3 (by omega), h.turn.trans (b3.mono (fun x hx => by omega))⟩
  · rw [Array.setIfInBounds_comm _ _ (by omega), Array.setIfInBounds_setIfInBounds] at b1
    exact b1
  · simpa [Itm.val] using b2
  · have := hx.1; have := hx.2; omega
  · omega
theorem KPS.marked {κ : Kd} {p ca cm N : Nat} {w0 wr w5 : World} {col0 col : Col} {Bk n i c g5 c5 : Nat} {a : Option Addr} {A : Array Value} {items nw lr lm : List Itm} {M : Int} {vR vM : Value} (h : KPS κ p ca cm N w0 col0 Bk n A items nw lr lm M i a c vR vM col wr) (hh : Hues ca cm N)
    (hown : w5.ownsRow 0 3 1 (.slice (some ⟨g5, 0, none⟩) (lm.length + 1) c5) (lm.length + 1) ((lm.map fun t => .int .i64 t.m) ++ [.int .i64 M])) (hg : wr.grownBy w5 vM.ownBlock) (hat : vM.ownBlock = some g5 ∨ wr.heap.size ≤ g5) :
    KPS κ p ca cm N w0 col0 Bk n A items nw lr (lm ++ [⟨a, n + i, c, M⟩]) M i a c vR (.slice (some ⟨g5, 0, none⟩) (lm.length + 1) c5) (paint col wr.heap.size cm) (w5.setCell ⟨Bk, p + 1, none⟩ (.slice (some ⟨g5, 0, none⟩) (lm.length + 1) c5)) := by
  obtain ⟨q1, q2, q3, q4⟩ := hh
  obtain ⟨b1, b2, b3⟩ := bk_append (q := p + 1) h.lies h.hue (by omega) h.marks hown hg hat
  refine ⟨?_, (paint_old (lt_of_block h.lies)).trans h.hue, h.rows.turn b3 (by omega), ?_, fun t ht => (h.old t ht).turn b3 (fun x hx => ?_), fun t ht => ⟨(h.new t ht).1.turn b3 (fun x hx => ?_), (h.new t ht).2⟩, h.row.turn b3 (by omega), h.turn.trans (b3.mono (fun x hx => by omega))⟩
  · rw [Array.setIfInBounds_setIfInBounds] at b1
    exact b1
  · simpa using b2
  · have := hx.1; have := hx.2; omega
  · omega
theorem KPS.next {κ : Kd} (hl : ∀ m, (κ.mark m).length = κ.sz) {p ca cm N : Nat} {w0 wr w6 : World} {col0 col : Col} {Bk n i c g6 c6 : Nat} {a : Option Addr} {A : Array Value} {items nw lr lm : List Itm} {M : Int} {vR vM : Value} {o : Obj} (h : KPS κ p ca cm N w0 col0 Bk n A items nw lr lm M i a c vR vM col wr) (hh : Hues ca cm N)
    (hown : w6.ownsRow 0 κ.el κ.sz (.slice (some ⟨g6, 0, none⟩) (n + i + 1) c6) (n + i + 1) (κ.full (n + i) M ++ κ.mark M)) (hg : ((wr.alloc o).grownBy w6 none ∧ (wr.alloc o).heap.size ≤ g6) ∨ ((wr.alloc o).grownBy w6 (some g6) ∧ a = some ⟨g6, 0, none⟩)) :
    KPS κ p ca cm N w0 col0 Bk n A items (nw ++ [⟨a, n + i, c, M⟩]) lr lm M (i + 1) (some ⟨g6, 0, none⟩) c6 vR vM (paint col wr.heap.size N) w6 := by
  obtain ⟨q1, q2, q3, q4⟩ := hh
  rw [← Kd.full_succ] at hown
  have hown' : w6.ownsRow 0 κ.el κ.sz (.slice (some ⟨g6, 0, none⟩) (n + (i + 1)) c6) (n + (i + 1)) (κ.full (n + (i + 1)) M) := hown
  have ha0 : ∀ x, a = some x → x = ⟨x.block, 0, none⟩ := fun x hx => by
    rcases h.row.1.2 with ⟨hv, _⟩ | ⟨g, c', cur, hv, _⟩
    · simp at hv; rw [hv.1] at hx; cases hx
    · simp at hv; rw [hv.1] at hx; obtain rfl := Option.some.inj hx; rfl
  have hok : Itm.okK κ col (· = N) ⟨a, n + i, c, M⟩ wr := Itm.okK.of (ci := (· = N)) hl h.row rfl (Nat.le_refl _)
  have hrow0 := h.row.1
  have hst : ∃ r, wr.grownBy w6 r ∧ (∀ k, r = some k → col k = N) ∧ (∀ k, r = some k → k = g6) ∧ paint col wr.heap.size N g6 = N := by
    rcases hg with ⟨hg, hge⟩ | ⟨hg, rfl⟩
    · exact ⟨none, grown_of_alloc2 hg, by simp, by simp, paint_new (by simp at hge; omega)⟩
    · have hc : col g6 = N := h.row.2 g6 rfl
      exact ⟨some g6, grown_of_alloc2 hg, fun k hk => by simp at hk; subst hk; exact hc, fun k hk => by simp at hk; exact hk.symm, (paint_old (ownsRow_from h.row.1 g6 rfl).2).trans hc⟩
  obtain ⟨r, hgr, hr1, hr2, hpg⟩ := hst
  have ht : Turns (· = N) col (paint col wr.heap.size N) wr w6 := Turns.grown N hgr hr1
  have hrow' : OwnC (paint col wr.heap.size N) N w6 κ.el κ.sz (.slice (some ⟨g6, 0, none⟩) (n + (i + 1)) c6) (n + (i + 1)) (κ.full (n + (i + 1)) M) := ⟨hown', fun k hk => by simp [Value.ownBlock] at hk; subst hk; exact hpg⟩
  have hnew : ∀ t : Itm, t.okK κ col (· = N) wr → t.m = M → t.n ≤ n + (i + 1) → (∀ x, t.a = some x → x = ⟨x.block, 0, none⟩) → t.okK κ (paint col wr.heap.size N) (· = N) w6 := fun t h1 h2 h3 h4 => by
    by_cases hx : t.a = some ⟨g6, 0, none⟩
    · have := Itm.okK.of (ci := (· = N)) (cp := t.cap) hl hrow' rfl h3
      obtain ⟨ta, tn, tc, tm⟩ := t
      dsimp only at hx h2
      subst hx h2
      exact this
    · rcases h1 with h1 | ⟨g, off, cur, ha, hgc, hcg, hk⟩
      · exact .inl h1
      · have hlt := lt_of_block hgc
        have hgne : g ≠ g6 := fun e => hx (by rw [h4 _ ha] at ha; rw [ha, e])
        refine .inr ⟨g, off, cur, ha, (hgr.block g hlt (fun e => hgne (hr2 g e.symm))).trans hgc, (paint_old hlt).trans hcg, hk⟩
  refine ⟨(ht.keep Bk (lt_of_block h.lies) (by rw [h.hue]; omega)).trans h.lies, (paint_old (lt_of_block h.lies)).trans h.hue, h.rows.turn ht (by omega), h.marks.turn ht (by omega), fun t hm => (h.old t hm).turn ht (fun x hx => by have := hx.2; omega), fun t hm => ?_, hrow', h.turn.trans (ht.mono (fun x hx => by omega))⟩
  rcases List.mem_append.1 hm with hm | hm
  · obtain ⟨n1, n2, n3, n4⟩ := h.new t hm
    exact ⟨hnew t n1 n2 (by omega) n4, n2, by omega, n4⟩
  · simp at hm
    subst hm
    exact ⟨hnew _ hok rfl (by show n + i ≤ _; omega) ha0, rfl, by show n + i ≤ _; omega, ha0⟩
theorem KPS.done {κ : Kd} {p ca cm N : Nat} {w0 wr : World} {col0 col : Col} {Bk n i c : Nat} {a : Option Addr} {A : Array Value} {items nw lr lm : List Itm} {M : Int} {vR vM : Value} (h : KPS κ p ca cm N w0 col0 Bk n A items nw lr lm M i a c vR vM col wr) (hh : Hues ca cm N) (h1 : lr = items ++ nw) (h2 : lm = items ++ nw) (hs : ∀ t ∈ items, t.n ≤ 9223372036854775807) (hn : n + i ≤ 9223372036854775807) :
    KeptC κ col ca cm (keptBut (N + 1)) wr vR vM (items ++ nw) := by
  subst h1 h2
  refine ⟨h.rows, h.marks, fun t ht => ?_, fun t ht => ?_⟩
  · rcases List.mem_append.1 ht with ht | ht
    · exact (h.old t ht).mono (fun k _ hk => ⟨hk.1, by have := hk.2; omega⟩)
    · exact (h.new t ht).1.mono (fun k _ hk => ⟨by rw [hk]; exact hh.d, by rw [hk]; omega⟩)
  · rcases List.mem_append.1 ht with ht | ht
    · exact hs t ht
    · have := (h.new t ht).2.2.1; omega
/-- Kept once. -/
theorem KPS.once {κ : Kd} (hl : ∀ m, (κ.mark m).length = κ.sz) {p ca cm N : Nat} {w0 wr : World} {col0 col : Col} {Bk n c : Nat} {a : Option Addr} {A : Array Value} {items lr lm : List Itm} {M : Int} {vR vM : Value} (h : KPS κ p ca cm N w0 col0 Bk n A items [] lr lm M 0 a c vR vM col wr) (hh : Hues ca cm N) (h1 : lr = items ++ [⟨a, n, c, M⟩]) (h2 : lm = items ++ [⟨a, n, c, M⟩]) (hs : ∀ t ∈ items, t.n ≤ 9223372036854775807) (hn : n ≤ 9223372036854775807) :
    KeptC κ col ca cm (keptBut (N + 1)) wr vR vM (items ++ [⟨a, n, c, M⟩]) := by
  subst h1 h2
  refine ⟨h.rows, h.marks, fun t ht => ?_, fun t ht => ?_⟩
  · rcases List.mem_append.1 ht with ht | ht
    · exact (h.old t ht).mono (fun k _ hk => ⟨hk.1, by have := hk.2; omega⟩)
    · simp at ht
      subst ht
      exact Itm.okK.of hl h.row ⟨hh.d, Nat.lt_succ_self _⟩ (Nat.le_refl _)
  · rcases List.mem_append.1 ht with ht | ht
    · exact hs t ht
    · simp at ht
      subst ht
      exact hn
/-- What is not yet marked is as it was. -/
def restK (κ : Kd) (w : World) (g : Nat) (xs : List Value) (k : Nat) : Prop := ∀ q u, k * κ.sz ≤ q → xs[q]? = some u → w.cell? ⟨g, q, none⟩ = some u
theorem restK.step {κ : Kd} (hl : ∀ m, (κ.mark m).length = κ.sz) {w : World} {g cap k : Nat} {M M' : Int} {xs : List Value} (h : restK κ w g xs k) (hp : partK κ w g cap M k) : restK κ (setL w g (k * κ.sz) (κ.mark M')) g xs (k + 1) := by
  obtain ⟨cur, hg, hs, _⟩ := hp
  intro q u hq hu
  rw [Nat.succ_mul] at hq
  have h1 := h q u (by omega) hu
  rw [cell_of_row w g q cur _ _ hg] at h1
  rw [cell_of_row _ g q _ _ _ (setL_heap _ _ _ _ hg)]
  rw [← h1]
  have key : ∀ (vs : List Value) (c : Array Value) (o : Nat), o + vs.length ≤ q → (setA c o vs)[q]? = c[q]? := by
    intro vs
    induction vs with
    | nil => intro c o _; rfl
    | cons v r ih =>
      intro c o hle
      simp only [List.length_cons] at hle
      rw [setA, ih _ _ (by omega), Array.getElem?_setIfInBounds_ne (by omega)]
  exact key _ _ _ (by rw [hl]; exact hq)
theorem restK.keep {κ : Kd} {w w' : World} {g k : Nat} {xs : List Value} (h : restK κ w g xs k) (hk : w'.heap[g]? = w.heap[g]?) : restK κ w' g xs k :=
  fun q u hq hu => (World.cell?_of_block (a := ⟨g, q, none⟩) hk).trans (h q u hq hu)
theorem restK.start {κ : Kd} {w : World} {g n cap : Nat} {xs : List Value} (h : w.ownsRow 0 κ.el κ.sz (.slice (some ⟨g, 0, none⟩) n cap) n xs) : restK κ w g xs 0 := fun q u _ hu => by
  have := owned_cells h q u hu
  rwa [Addr.add_lit, Nat.zero_add] at this

end Go.Proofs.YtdnpeefnobjfaaaGreatDoor
