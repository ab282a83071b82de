/- keepEntries: how things stand between its steps. No walk in it. -/
import Derived.Test.YtdnpeefnobjfaaaKeepL
namespace Go.Proofs.Ytdnpeefnobjfaaa
open Go.RowKit

/-- While the list is marked: the first k entries are. -/
structure KA (w0 : World) (Bk B n cap : Nat) (ao : Option Addr) (s : Bks) (items : List Itm) (M : Int) (k : Nat) (wr : World) : Prop where
  lies : ({ s with m := s.m + 1 } : Bks).lies wr Bk
  marks : marksE wr B s.e s.em items
  row : (ao = none ∧ n = 0 ∧ cap = 0) ∨ ∃ g, ao = some ⟨g, 0, none⟩ ∧ part wr g cap (fun _ => markE M) k ∧ n ≤ cap ∧ cap ≤ maxLen ∧ B ≤ g
  below : Below B w0 wr
  keeps : keeps Bk ao w0 wr

def farA (items : List Itm) (ao : Option Addr) : Prop := ∀ t ∈ items, 0 < t.n → ∀ y, t.a = some y → ∀ x, ao = some x → y.block ≠ x.block

theorem KA_start {w : World} {Bk B n cap : Nat} {ao : Option Addr} {s : Bks} {items : List Itm} {M : Int} {L : List Ent} (hs : s.lies w Bk) (hm : marksE w B s.e s.em items) (ho : w.ownsRow B 42 4 (.slice ao n cap) n (entList L)) (hB : B ≤ Bk) :
    KA w Bk B n cap ao s items M 0 (w.setCell ⟨Bk, 0, none⟩ (.int .i64 (s.m + 1))) := by
  have hset := grown_set w Bk 0 (.int .i64 (s.m + 1))
  refine ⟨lies_m hs, marksE_book hm hs hset, ?_, below_grown hset (by have := Bks.lt hs; omega) hB, keeps_step (keeps_refl _ _ _) hset (fun k hk => .inl (by simpa using hk.symm))⟩
  rcases ho.2 with ⟨hv, h0⟩ | ⟨g, c', cur, hv, _, hg, _⟩
  · simp at hv; exact .inl ⟨hv.1, h0, hv.2.2⟩
  · simp at hv
    obtain ⟨rfl, rfl⟩ := hv
    obtain ⟨h1, h2, h3, h4⟩ := part_start (fun _ => markE M) ho
    exact .inr ⟨g, rfl, part_keep h1 (hset.block g (lt_of_block hg) (by simpa using ne_types hg hs (by decide))), h2, h3, h4⟩

theorem KA_step {w0 wr : World} {Bk B n cap g k : Nat} {s : Bks} {items : List Itm} {M : Int} (h : KA w0 Bk B n cap (some ⟨g, 0, none⟩) s items M k wr) (hk : k < n) (hfar : farA items (some ⟨g, 0, none⟩)) : KA w0 Bk B n cap (some ⟨g, 0, none⟩) s items M (k + 1) (setE wr g (k * 4) M) := by
  obtain ⟨hl, hm, hr, hb, hk'⟩ := h
  rcases hr with ⟨h0, _⟩ | ⟨g', hg', hp, h1, h2, h3⟩
  · cases h0
  · obtain rfl : g = g' := by simpa using hg'
    obtain ⟨cur, hc, _⟩ := id hp
    have gs := grown_setE wr g (k * 4) M
    have hlt := lt_of_block hc
    exact ⟨Bks.keep hl (gs.block Bk (Bks.lt hl) (by simpa using ne_types hl hc (by decide))), marksE_data hm hc gs (fun t ht h0 a ha => hfar t ht h0 a ha _ rfl),
      .inr ⟨g, rfl, part_step (f := fun _ => markE M) hp (by omega), h1, h2, h3⟩, hb.trans (below_grown gs (by omega) h3), keeps_step hk' gs (fun q hq => .inr (.inl ⟨_, rfl, by simpa using hq⟩))⟩

/-- Between two rounds: the list has grown by i entries, i lists are kept. -/
structure KS (w0 : World) (Bk B n : Nat) (ao : Option Addr) (s : Bks) (items : List Itm) (M : Int) (i : Nat) (a : Option Addr) (c : Nat) (vE vM : Value) (nw : List Itm) (wr : World) : Prop where
  lies : ({ s with m := s.m + 1, e := vE, em := vM } : Bks).lies wr Bk
  marks : marksE wr B vE vM (items ++ nw)
  row : wr.ownsRow B 42 4 (.slice a (n + i) c) (n + i) (entList (marked (n + i) M))
  len : nw.length = i
  news : ∀ t ∈ nw, t.m = M ∧ t.n ≤ n + i ∧ ∀ x, t.a = some x → x = ⟨x.block, 0, none⟩ ∧ (ao = some x ∨ w0.heap.size ≤ x.block)
  at' : ∀ x, a = some x → (ao = some x ∨ w0.heap.size ≤ x.block)
  below : Below B w0 wr
  keeps : keeps Bk ao w0 wr

theorem KS_start {w0 wr : World} {Bk B n cap : Nat} {ao : Option Addr} {s : Bks} {items : List Itm} {M : Int} (h : KA w0 Bk B n cap ao s items M n wr) : KS w0 Bk B n ao s items M 0 ao cap s.e s.em [] wr := by
  obtain ⟨hl, hm, hr, hb, hk⟩ := h
  refine ⟨hl, by simpa using hm, ?_, rfl, by simp, fun x hx => .inl hx, hb, hk⟩
  rcases hr with ⟨rfl, rfl, rfl⟩ | ⟨g, rfl, hp, h1, h2, h3⟩
  · exact World.ownsRow_nil _ _ _ _
  · exact part_own2 hp h3 h1 h2

/-- The list is kept, its mark is not yet. -/
structure KH (w0 : World) (Bk B n N : Nat) (ao : Option Addr) (s : Bks) (items : List Itm) (M : Int) (i : Nat) (a : Option Addr) (c : Nat) (vE vM : Value) (nw : List Itm) (wr : World) : Prop where
  half' : half w0 Bk B N { s with e := vE, em := vM } (items ++ nw) ⟨a, n + i, c, M⟩ wr
  row : wr.ownsRow B 42 4 (.slice a (n + i) c) (n + i) (entList (marked (n + i) M))
  keeps : keeps Bk ao w0 wr

theorem keep_row {w0 wr w5 : World} {Bk B n N i c g5 c5 : Nat} {ao a : Option Addr} {s : Bks} {items nw : List Itm} {M : Int} {vE vM : Value} {o : Obj} (h : KS w0 Bk B n ao s items M i a c vE vM nw wr) (hN : (items ++ nw).length = N) (hB : B ≤ Bk)
    (hown : w5.ownsRow B 31 1 (.slice (some ⟨g5, 0, none⟩) (N + 1) c5) (N + 1) ((items ++ nw).map Itm.val ++ [.slice a (n + i) c])) (hg : (wr.alloc o).grownBy w5 vE.ownBlock) :
    KH w0 Bk B n N ao s items M i a c vE vM nw (w5.setCell ⟨Bk, 1, none⟩ (.slice (some ⟨g5, 0, none⟩) (N + 1) c5)) := by
  have hg' := grown_of_alloc hg
  have hr : ∀ k, vE.ownBlock = some k → ∃ cur, wr.heap[k]? = some (.cells cur 31 (0, 0)) := fun k hk => own_type h.marks.rows hk
  have hs5 : ({ s with m := s.m + 1, e := vE, em := vM } : Bks).lies w5 Bk := Bks.keep h.lies (hg'.block Bk (Bks.lt h.lies) (Ne.symm (ownBlock_ne h.marks.rows h.lies (by decide))))
  have hset := grown_set w5 Bk 1 (.slice (some ⟨g5, 0, none⟩) (N + 1) c5)
  refine ⟨back_row (nw := ⟨a, n + i, c, M⟩) (s := { s with e := vE, em := vM }) (o := o) h.lies h.marks hN (okE_row h.row) h.below hB hown ⟨hg.os, hg.tape, hg.output, hg.size, hg.block⟩, ?_, ?_⟩
  · exact own_keep (own_keep h.row hg' (fun k hk => by obtain ⟨cur, q⟩ := hr k hk; exact ⟨_, _, _, q, by decide⟩)) hset (fun k hk => by simp at hk; subst hk; exact ⟨_, _, _, hs5, by decide⟩)
  · exact keeps_step (keeps_step h.keeps hg' (fun k hk => by obtain ⟨cur, q⟩ := hr k hk; exact .inr (.inr (.inr ⟨cur, .inl q⟩)))) hset (fun k hk => .inl (by simpa using hk.symm))

/-- The list and its mark are kept. -/
structure KM (w0 : World) (Bk B n : Nat) (ao : Option Addr) (s : Bks) (items : List Itm) (M : Int) (i : Nat) (a : Option Addr) (c : Nat) (vE vM : Value) (nw : List Itm) (wr : World) : Prop where
  lies : ({ s with m := s.m + 1, e := vE, em := vM } : Bks).lies wr Bk
  marks : marksE wr B vE vM (items ++ (nw ++ [⟨a, n + i, c, M⟩]))
  row : wr.ownsRow B 42 4 (.slice a (n + i) c) (n + i) (entList (marked (n + i) M))
  below : Below B w0 wr
  keeps : keeps Bk ao w0 wr

theorem keep_mark {w0 wr w5 : World} {Bk B n N i c g5 c5 : Nat} {ao a : Option Addr} {s : Bks} {items nw : List Itm} {M : Int} {vE0 vE vM : Value} {o : Obj} (hs : ({ s with m := s.m + 1, e := vE, em := vM } : Bks).lies wr Bk) (hr : wr.ownsRow B 31 1 vE (N + 1) (((items ++ nw) ++ [(⟨a, n + i, c, M⟩ : Itm)]).map Itm.val)) (hm : wr.ownsRow B 3 1 vM N ((items ++ nw).map fun t => .int .i64 t.m)) (he : ∀ t ∈ (items ++ nw) ++ [(⟨a, n + i, c, M⟩ : Itm)], t.okE wr) (hbw : Below B w0 wr)
    (hrow : wr.ownsRow B 42 4 (.slice a (n + i) c) (n + i) (entList (marked (n + i) M))) (hk : keeps Bk ao w0 wr) (hB : B ≤ Bk) (hN : (items ++ nw).length = N) (hsm : ∀ t ∈ (items ++ nw) ++ [(⟨a, n + i, c, M⟩ : Itm)], t.n ≤ 9223372036854775807)
    (hown : w5.ownsRow B 3 1 (.slice (some ⟨g5, 0, none⟩) (N + 1) c5) (N + 1) (((items ++ nw).map fun t => .int .i64 t.m) ++ [.int .i64 M])) (hg : (wr.alloc o).drew.grownBy w5 vM.ownBlock) :
    KM w0 Bk B n ao s items M i a c vE (.slice (some ⟨g5, 0, none⟩) (N + 1) c5) nw (w5.setCell ⟨Bk, 2, none⟩ (.slice (some ⟨g5, 0, none⟩) (N + 1) c5)) := by
  have hg' := grown_boxed hg
  have ht : ∀ k, vM.ownBlock = some k → ∃ cur, wr.heap[k]? = some (.cells cur 3 (0, 0)) := fun k hk => own_type hm hk
  have hs5 : ({ s with m := s.m + 1, e := vE, em := vM } : Bks).lies w5 Bk := Bks.keep hs (hg'.block Bk (Bks.lt hs) (Ne.symm (ownBlock_ne hm hs (by decide))))
  have hset := grown_set w5 Bk 2 (.slice (some ⟨g5, 0, none⟩) (N + 1) c5)
  obtain ⟨q1, q2, q3⟩ := back_mark (nw := ⟨a, n + i, c, M⟩) (s := { s with e := vE0, em := vM }) (o := o) hs hr hm he hbw hB hN hsm hown hg
  refine ⟨q1, by rw [← List.append_assoc]; exact q2, ?_, q3, ?_⟩
  · exact own_keep (own_keep hrow hg' (fun k hk => by obtain ⟨cur, q⟩ := ht k hk; exact ⟨_, _, _, q, by decide⟩)) hset (fun k hk => by simp at hk; subst hk; exact ⟨_, _, _, hs5, by decide⟩)
  · exact keeps_step (keeps_step hk hg' (fun k hk => by obtain ⟨cur, q⟩ := ht k hk; exact .inr (.inr (.inr ⟨cur, .inr q⟩)))) hset (fun k hk => .inl (by simpa using hk.symm))

theorem keep_next {w0 wd w6 : World} {Bk B n i c g6 c6 : Nat} {ao a : Option Addr} {s : Bks} {items nw : List Itm} {M : Int} {vE vM : Value} {o : Obj} (h : KM w0 Bk B n ao s items M i a c vE vM nw wd) (hlen : nw.length = i) (hnews : ∀ t ∈ nw, t.m = M ∧ t.n ≤ n + i ∧ ∀ x, t.a = some x → x = ⟨x.block, 0, none⟩ ∧ (ao = some x ∨ w0.heap.size ≤ x.block)) (hat : ∀ x, a = some x → (ao = some x ∨ w0.heap.size ≤ x.block)) (hfar : farA items a) (hB : B ≤ Bk)
    (hown : w6.ownsRow B 42 4 (.slice (some ⟨g6, 0, none⟩) (n + i + 1) c6) (n + i + 1) (entList (marked (n + i) M) ++ entList [markE M])) (hg : ((wd.alloc o).grownBy w6 none ∧ (wd.alloc o).heap.size ≤ g6) ∨ ((wd.alloc o).grownBy w6 (some g6) ∧ a = some ⟨g6, 0, none⟩)) :
    KS w0 Bk B n ao s items M (i + 1) (some ⟨g6, 0, none⟩) c6 vE vM (nw ++ [⟨a, n + i, c, M⟩]) w6 := by
  rw [← entList_append, marked_succ] at hown
  have hrow : w6.ownsRow B 42 4 (.slice (some ⟨g6, 0, none⟩) (n + (i + 1)) c6) (n + (i + 1)) (entList (marked (n + (i + 1)) M)) := hown
  have ha0 : ∀ x, a = some x → x = ⟨x.block, 0, none⟩ := fun x hx => by
    rcases h.row.2 with ⟨hv, _⟩ | ⟨g, c', cur, hv, _⟩
    · simp at hv; rw [hv.1] at hx; cases hx
    · simp at hv; rw [hv.1] at hx; obtain rfl := Option.some.inj hx; rfl
  have hnews' : ∀ t ∈ nw ++ [⟨a, n + i, c, M⟩], t.m = M ∧ t.n ≤ n + (i + 1) ∧ ∀ x, t.a = some x → x = ⟨x.block, 0, none⟩ ∧ (ao = some x ∨ w0.heap.size ≤ x.block) := fun t ht => by
    rcases List.mem_append.1 ht with ht | ht
    · obtain ⟨q1, q2, q3⟩ := hnews t ht; exact ⟨q1, by omega, q3⟩
    · simp at ht; subst ht; exact ⟨rfl, by show n + i ≤ _; omega, fun x hx => ⟨ha0 x hx, hat x hx⟩⟩
  have hlen' : (nw ++ [(⟨a, n + i, c, M⟩ : Itm)]).length = i + 1 := by simp [hlen]
  have hBd : B ≤ wd.heap.size := by have := Bks.lt h.lies; omega
  rcases hg with ⟨hg, hge⟩ | ⟨hg, rfl⟩
  · have hg' := grown_of_alloc hg
    have hsz := h.below.size
    simp at hge
    have no : ∀ (p : Nat → Prop) k, (none : Option Nat) = some k → p k := fun p k hk => by cases hk
    refine ⟨Bks.keep h.lies (hg'.block Bk (Bks.lt h.lies) (by simp)), ⟨own_keep h.marks.rows hg' (fun k hk => by cases hk), own_keep h.marks.marks hg' (fun k hk => by cases hk), each_keep h.marks.each hg' (fun k hk => by cases hk), h.marks.small⟩, hrow, hlen', hnews', fun x hx => ?_, h.below.trans ((Below.refl _ _).grown hg' hBd (by simp)), keeps_step h.keeps hg' (fun k hk => by cases hk)⟩
    right
    obtain rfl := Option.some.inj hx
    show w0.heap.size ≤ g6
    omega
  · have hg' := grown_of_alloc hg
    obtain ⟨cur, hcur⟩ := own_type (k := g6) h.row rfl
    have hBg : B ≤ g6 := own_old h.row g6 rfl
    refine ⟨Bks.keep h.lies (hg'.block Bk (Bks.lt h.lies) (by simpa using ne_types h.lies hcur (by decide))), ⟨own_keep h.marks.rows hg' (fun k hk => by simp at hk; subst hk; exact ⟨_, _, _, hcur, by decide⟩), own_keep h.marks.marks hg' (fun k hk => by simp at hk; subst hk; exact ⟨_, _, _, hcur, by decide⟩), fun t ht => ?_, h.marks.small⟩, hrow, hlen', hnews', fun x hx => hat x hx, h.below.trans (below_grown hg' hBd hBg), keeps_step h.keeps hg' (fun k hk => ?_)⟩
    · have hok := h.marks.each t ht
      rcases List.mem_append.1 ht with hi | hn
      · exact okE_keep hok hg' (fun h0 y hy => hfar t hi h0 y hy _ rfl)
      · obtain ⟨q1, q2, q3⟩ := hnews' t hn
        by_cases hx : t.a = some ⟨g6, 0, none⟩
        · exact okE_head hrow hx q2 q1
        · refine okE_keep hok hg' (fun h0 y hy e => hx ?_)
          have := (q3 y hy).1
          rw [hy, this, e]
    · simp at hk
      subst hk
      rcases hat _ rfl with h1 | h1
      · exact .inr (.inl ⟨_, h1, rfl⟩)
      · exact .inr (.inr (.inl h1))

end Go.Proofs.Ytdnpeefnobjfaaa
