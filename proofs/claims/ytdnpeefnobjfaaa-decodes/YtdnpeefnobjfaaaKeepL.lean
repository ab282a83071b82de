/- What keepEntries leaves: facts on memory. No walk in it. -/
import Derived.Test.YtdnpeefnobjfaaaSame
import Derived.Test.YtdnpeefnobjfaaaDRefResp
import Derived.Test.YtdnpeefnobjfaaaEncs
import Derived.OwnWalk
import Derived.ArgAppend
namespace Go.Proofs.Ytdnpeefnobjfaaa
open Go.RowKit

/-- Only the Book, the lists that it keeps, and one list of entries turn. -/
def keeps (Bk : Nat) (ao : Option Addr) (w w' : World) : Prop := ∀ (k : Nat) (cur : Array Value) (t : TypeId), k ≠ Bk → (∀ a, ao = some a → a.block ≠ k) → t ≠ 31 → t ≠ 3 → w.heap[k]? = some (.cells cur t (0, 0)) → w'.heap[k]? = some (.cells cur t (0, 0))
theorem keeps_refl (Bk : Nat) (ao : Option Addr) (w : World) : keeps Bk ao w w := fun _ _ _ _ _ _ _ h => h
theorem keeps_step {Bk : Nat} {ao : Option Addr} {w0 w w1 : World} {r : Option Nat} (h : keeps Bk ao w0 w) (hg : w.grownBy w1 r)
    (hr : ∀ k, r = some k → k = Bk ∨ (∃ a, ao = some a ∧ a.block = k) ∨ w0.heap.size ≤ k ∨ ∃ cur, w.heap[k]? = some (.cells cur 31 (0, 0)) ∨ w.heap[k]? = some (.cells cur 3 (0, 0))) : keeps Bk ao w0 w1 := by
  intro k cur t h1 h2 h3 h4 hk
  have hk1 := h k cur t h1 h2 h3 h4 hk
  refine (hg.block k (lt_of_block hk1) (fun e => ?_)).trans hk1
  rcases hr k e.symm with rfl | ⟨a, ha, hb⟩ | hlt | ⟨cur', hc | hc⟩
  · exact h1 rfl
  · exact h2 a ha hb
  · have := lt_of_block hk; omega
  · rw [hk1] at hc
    simp at hc
    exact h3 hc.2
  · rw [hk1] at hc
    simp at hc
    exact h4 hc.2
theorem ne_types {w : World} {a b : Nat} {c1 c2 : Array Value} {t1 t2 : TypeId} {f1 f2 : Nat × Nat} (h1 : w.heap[a]? = some (.cells c1 t1 f1)) (h2 : w.heap[b]? = some (.cells c2 t2 f2)) (h : t1 ≠ t2) : a ≠ b := by
  intro e
  subst e
  rw [h1] at h2
  simp at h2
  exact h h2.2.1
theorem grown_of_alloc {w w1 : World} {o : Obj} {r : Option Nat} (h : (w.alloc o).grownBy w1 r) : w.grownBy w1 r := grown_trans (World.grownBy_alloc w o r) h

/-- A list all of whose entries bear the mark. -/
def marked (n : Nat) (M : Int) : List Ent := List.replicate n (markE M)
theorem marked_length (n : Nat) (M : Int) : (marked n M).length = n := by simp [marked]
theorem marked_succ (n : Nat) (M : Int) : marked n M ++ [markE M] = marked (n + 1) M := by simp [marked, List.replicate_succ']
theorem part_own2 {w : World} {g cap n B : Nat} {M : Int} (h : part w g cap (fun _ => markE M) n) (hB : B ≤ g) (hn : n ≤ cap) (hc : cap ≤ maxLen) : w.ownsRow B 42 4 (.slice (some ⟨g, 0, none⟩) n cap) n (entList (marked n M)) := by
  obtain ⟨cur, hg, hs, hk⟩ := h
  have he := row_eq (cur := (cur.toList.take (n * 4)).toArray) (L := marked n M) (by rw [marked_length]; simp; omega) (fun j hj => by
    rw [marked_length] at hj
    obtain ⟨c0, c1, c2, c3⟩ := hk j hj
    have ht : ∀ q, q < n * 4 → (cur.toList.take (n * 4)).toArray[q]? = cur[q]? := fun q hq => by
      simp only [List.getElem?_toArray, List.getElem?_take, if_pos hq, Array.getElem?_toList]
    simp only [marked, List.getElem_replicate]
    exact ⟨(ht _ (by omega)).trans c0, (ht _ (by omega)).trans c1, (ht _ (by omega)).trans c2, (ht _ (by omega)).trans c3⟩)
  exact ⟨by rw [entList_length, marked_length], .inr ⟨g, cap, cur, rfl, hB, hg, hn, hc, hs, by simpa using he⟩⟩
theorem part_start {w : World} {g cap n B : Nat} {L : List Ent} (f : Nat → Ent) (h : w.ownsRow B 42 4 (.slice (some ⟨g, 0, none⟩) n cap) n (entList L)) : part w g cap f 0 ∧ n ≤ cap ∧ cap ≤ maxLen ∧ B ≤ g := by
  rcases h.2 with ⟨hv, _⟩ | ⟨g', c', cur, hv, hB, hg, h1, h2, h3, _⟩
  · simp at hv
  · simp at hv
    obtain ⟨rfl, rfl⟩ := hv
    exact ⟨⟨cur, hg, h3, fun j hj => by omega⟩, h1, h2, hB⟩
theorem okE_row {w : World} {B m c : Nat} {a : Option Addr} {M : Int} (h : w.ownsRow B 42 4 (.slice a m c) m (entList (marked m M))) : Itm.okE ⟨a, m, c, M⟩ w := by
  rcases h.2 with ⟨_, h0⟩ | ⟨g, c', cur, hv, _, hg, h1, h2, h3, h4⟩
  · exact .inl h0
  · simp at hv
    obtain ⟨rfl, rfl⟩ := hv
    refine .inr ⟨g, 0, cur, rfl, hg, fun k hk => ?_⟩
    have hk' : k < m := hk
    obtain ⟨c0, c1, c2, c3⟩ := entList_at (marked m M) k (by rw [marked_length]; exact hk')
    have ht : ∀ q, q < m * 4 → cur[q]? = (entList (marked m M))[q]? := fun q hq => by
      rw [← h4, List.getElem?_take, if_pos hq]; simp
    simp only [marked, List.getElem_replicate, markE] at c0 c1 c2 c3
    simp only [Nat.zero_add]
    exact ⟨(ht _ (by omega)).trans c0, (ht _ (by omega)).trans c1, (ht _ (by omega)).trans c2, (ht _ (by omega)).trans c3⟩
/-- A list that begins where a marked row does, and is not longer, reads as marked. -/
theorem okE_head {w : World} {B m c g : Nat} {M : Int} {t : Itm} (h : w.ownsRow B 42 4 (.slice (some ⟨g, 0, none⟩) m c) m (entList (marked m M))) (ha : t.a = some ⟨g, 0, none⟩) (hn : t.n ≤ m) (hm : t.m = M) : t.okE w := by
  rcases okE_row h with h0 | ⟨g', off, cur, hv, hg, hk⟩
  · exact .inl (by have : m = 0 := h0; omega)
  · exact .inr ⟨g', off, cur, ha.trans hv, hg, fun k hk' => by
      have := hk k (by show k < m; omega)
      rw [hm]; exact this⟩

/-- append, one entry and more: there is room, or the row is new. -/
theorem wpList_append_either {P : Program} (w : World) {ops : Array Oper} {rest : List Oper} {o : Oper} {a : Act} {Q : Exit → Act → World → Prop}
    (hg : o.guard = none) (s x : Operand) (t : TypeId) (hop : o.op = Op.call { callee := Callee.builtin Builtin.append, args := #[s, x], argTypes := #[t, t] })
    (base : Nat) (e : TypeId) (i : TypeInfo) (z : Value) (size bytes : Nat) (h1 : P.underlying t = some (.slice e)) (h2 : P.info? e = some i) (h3 : i.zero = some z) (h4 : i.size = size) (h5 : i.bytes = bytes) (h6 : z.cells.size = size) (h7 : 0 < size)
    (ao : Option Addr) (n cap : Nat) (xs : List Value) (hs : a.eval s = .slice ao n cap) (hown : w.ownsRow base e size (.slice ao n cap) n xs)
    (ad : Addr) (m c : Nat) (news : List Value) (hx : a.eval x = .slice (some ad) m c) (hn : news.length = m * size) (hc : ∀ j u, news[j]? = some u → w.cell? (ad.add j) = some u) (h1c : ∀ u ∈ news, u.oneCell' = true)
    (hm : 0 < m) (b1 : n + m ≤ maxLen) (b2 : (n + m) * bytes ≤ 140737488355328) (hbase : base ≤ w.heap.size)
    (hK : ∀ g c' w', w'.ownsRow base e size (.slice (some ⟨g, 0, none⟩) (n + m) c') (n + m) (xs ++ news) → ((w.grownBy w' none ∧ w.heap.size ≤ g) ∨ (w.grownBy w' (some g) ∧ ao = some ⟨g, 0, none⟩)) → wpList P ops Q rest (a.put o.dst (.slice (some ⟨g, 0, none⟩) (n + m) c')) w') :
    wpList P ops Q (o :: rest) a w := by
  have hnil : ao = none → n = 0 ∧ cap = 0 := fun e => by
    rcases hown.2 with ⟨hv, h0⟩ | ⟨g, c', cur, hv, _⟩
    · simp at hv; exact ⟨h0, hv.2.2⟩
    · subst e; simp at hv
  by_cases hfit : n + m ≤ cap
  · rcases hown.2 with ⟨hv, h0⟩ | ⟨g, c', cur, hv, _⟩
    · simp at hv; omega
    · simp at hv
      obtain ⟨rfl, rfl⟩ := hv
      exact wpList_append_fits w hg s x t hop base e i size h1 h2 h4 g n cap xs hs hown ad m c news hx hn hc h1c hfit (fun w' ho hgr => hK g cap w' ho (.inr ⟨hgr, rfl⟩))
  · refine wpList_append_grows w hg s x t hop e i z size bytes h1 h2 h3 h4 h5 h6 h7 ao n cap xs hs hnil hown.1 ?_ ad m c news hx hn hc h1c (by omega) b1 b2 ?_
    · intro b hb j u hu
      rcases hown.2 with ⟨hv, h0⟩ | ⟨g, c', cur, hv, _⟩
      · simp at hv; rw [hv.1] at hb; cases hb
      · simp at hv
        obtain ⟨rfl, rfl⟩ := hv
        simp at hb
        subst hb
        exact hown.cells (g := g) rfl j u hu
    · intro v' w' ho hgr
      rcases ho.2 with ⟨_, h0⟩ | ⟨g, c', cur, rfl, hb, _⟩
      · omega
      · exact hK g c' w' (own_base ho hbase) (.inl ⟨hgr, hb⟩)

end Go.Proofs.Ytdnpeefnobjfaaa
