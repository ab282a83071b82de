/- The Book's config: a config of the same lists, with something behind them. -/
import Derived.Test.YtdnpeefnobjfaaaGreatDoorQWideM
import Derived.BigRegion
import Derived.BigQuiet
namespace Go.Proofs.YtdnpeefnobjfaaaGreatDoor
open Go.RowKit Go.Shelf
attribute [local go_sem ↓] Go.wp_at_zero Go.wp_at_succ

theorem run_append_none {P : Program} (w : World) (t ty e : TypeId) (i : TypeInfo) (ht : P.underlying t = some (.slice e)) (hi : P.info? e = some i) (sa : Option Addr) (c : Nat) :
    (Builtin.append_ #[t, t] ty #[.slice none 0 0, .slice sa 0 c]).run P w = .ok (.slice none 0 0) w := by
  cases sa with
  | none => simp [Builtin.append_, run_underlying ht, sizeOf, typeInfo, hi, Builtin.lenOf, Builtin.firstCells]
  | some a => simp [Builtin.append_, run_underlying ht, sizeOf, typeInfo, hi, Builtin.lenOf, Builtin.firstCells, loadCells, loadCellsFrom]
/-- A copy of a list, whatever it is: append onto nil. -/
theorem wpList_append_copy {P : Program} (w : World) {ops : Array Oper} {rest : List Oper} {o : Oper} {a : Act} {Q : Exit → Act → World → Prop} (hgd : o.guard = none) (s x : Operand) (t : TypeId)
    (ho : o.op = .call { callee := .builtin .append, args := #[s, x], argTypes := #[t, t] })
    (e : TypeId) (i : TypeInfo) (z : Value) (size bytes : Nat) (ht : P.underlying t = some (.slice e)) (hi : P.info? e = some i) (hz : i.zero = some z)
    (hsize : i.size = size) (hby : i.bytes = bytes) (hzs : z.cells.size = size) (hsz : 0 < size)
    (hs : a.eval s = .slice none 0 0) (sa : Option Addr) (m c : Nat) (news : List Value) (hx : a.eval x = .slice sa m c) (hl : news.length = m * size)
    (hnews : m = 0 ∨ ∃ ad, sa = some ad ∧ ∀ j u, news[j]? = some u → w.cell? (ad.add j) = some u) (h1 : ∀ u ∈ news, u.oneCell' = true) (h63 : m ≤ maxLen) (hbytes : m * bytes ≤ 140737488355328)
    (h : ∀ v' w', w'.ownsRow w.heap.size e size v' m news → w.grownBy w' none → wpList P ops Q rest (a.put o.dst v') w') : wpList P ops Q (o :: rest) a w := by
  by_cases hm : m = 0
  · subst hm
    have hn : news = [] := List.eq_nil_of_length_eq_zero (by simpa using hl)
    subst hn
    refine wpList_plain hgd fun _ hK => ?_
    have hr := run_append_none (P := P) w t o.type e i ht hi sa c
    unfold Oper.wp execOp
    simp only [ho, resolve, invoke, builtin, Sem.run_bind, Sem.run_pure, Result.andThen_ok, List.map_toArray, List.map_cons, List.map_nil, hs, hx, hr]
    exact hK _ _ (h _ _ (World.ownsRow_nil _ _ _ _) ⟨rfl, rfl, rfl, Nat.le_refl _, fun _ _ _ => rfl⟩)
  · rcases hnews with h0 | ⟨ad, rfl, hnews⟩
    · exact absurd h0 hm
    · refine wpList_append_own w hgd s x t ho w.heap.size e i z size bytes ht hi hz hsize hby hzs hsz (.slice none 0 0) 0 [] hs (World.ownsRow_nil _ _ _ _) ad m c news hx hl hnews h1 (by rw [Nat.zero_add]; exact h63) (by rw [Nat.zero_add]; exact hbytes) (Nat.le_refl _) ?_
      intro v' w' hown hg _
      simp only [Nat.zero_add, List.nil_append] at hown
      exact h v' w' hown hg

theorem num_src {w : World} {ao : Option Addr} {l : List Int} {n : Nat} (hn : l.length = n) (h : numSlice w ao l) : n = 0 ∨ ∃ ad, ao = some ad ∧ ∀ j u, (numList l)[j]? = some u → w.cell? (ad.add j) = some u := by
  rcases h with rfl | ⟨b, off, rfl, hc⟩
  · exact .inl hn.symm
  · exact .inr ⟨_, rfl, numList_news hc⟩
theorem pfList_at (l : List Pf) (k : Nat) (hk : k < l.length) : (pfList l)[k * 2]? = some (.int .u32 l[k].addr) ∧ (pfList l)[k * 2 + 1]? = some (.int .i64 l[k].len) := by
  induction l generalizing k with
  | nil => simp at hk
  | cons p O ih =>
    cases k with
    | zero => simp [pfList]
    | succ k =>
      have := ih k (by simpa using hk)
      have e : ∀ j, (pfList (p :: O))[(k + 1) * 2 + j]? = (pfList O)[k * 2 + j]? := fun j => by
        rw [show pfList (p :: O) = [.int .u32 p.addr, .int .i64 p.len] ++ pfList O by simp [pfList], List.getElem?_append_right (by simp; omega)]
        congr 1
        simp
        omega
      have e0 := e 0
      simp only [Nat.add_zero] at e0
      rw [e0, e 1]
      simpa using this
theorem pfList_one2 (l : List Pf) : ∀ u ∈ pfList l, u.oneCell' = true := by
  intro u hu
  simp only [pfList, List.mem_flatMap] at hu
  obtain ⟨e, _, he⟩ := hu
  simp at he
  rcases he with rfl | rfl <;> rfl
theorem pfList_news2 {w : World} {b off : Nat} {l : List Pf} (h : pfCells w b off l) : ∀ j u, (pfList l)[j]? = some u → w.cell? ((⟨b, off, none⟩ : Addr).add j) = some u := by
  intro j u hu
  have hj : j < l.length * 2 := by
    have := (List.getElem?_eq_some_iff.1 hu).1
    rwa [pfList_length] at this
  have hk : j / 2 < l.length := by omega
  obtain ⟨a0, a1⟩ := h (j / 2) hk
  obtain ⟨c0, c1⟩ := pfList_at l (j / 2) hk
  rw [Addr.add_lit]
  have hm : j = j / 2 * 2 ∨ j = j / 2 * 2 + 1 := by omega
  rcases hm with hm | hm
  · rw [hm, c0] at hu; rw [hm, ← Option.some.inj hu]; exact a0
  · rw [hm, c1] at hu; rw [hm, ← Option.some.inj hu, ← Nat.add_assoc]; exact a1
theorem pf_src {w : World} {ao : Option Addr} {l : List Pf} {n : Nat} (hn : l.length = n) (h : pfSlice w ao l) : n = 0 ∨ ∃ ad, ao = some ad ∧ ∀ j u, (pfList l)[j]? = some u → w.cell? (ad.add j) = some u := by
  rcases h with rfl | ⟨b, off, rfl, hc⟩
  · exact .inl hn.symm
  · exact .inr ⟨_, rfl, pfList_news2 hc⟩
theorem pfList_append (a b : List Pf) : pfList (a ++ b) = pfList a ++ pfList b := by simp [pfList]
theorem numList_append (a b : List Int) : numList (a ++ b) = numList a ++ numList b := by simp [numList]

theorem grown_fresh {w w1 w2 : World} {r : Option Nat} (h : w.grownBy w1 none) (h2 : w1.grownBy w2 r) (hr : ∀ k, r = some k → w.heap.size ≤ k) : w.grownBy w2 none :=
  ⟨h2.os.trans h.os, h2.tape.trans h.tape, h2.output.trans h.output, Nat.le_trans h.size h2.size, fun k hk _ => (h2.block k (Nat.lt_of_lt_of_le hk h.size) (fun e => by have := hr k e.symm; omega)).trans (h.block k hk (by simp))⟩
theorem blk_grown {w w1 : World} {B : Nat} {cs : Array Value} {t : TypeId} (h : Blk w B cs t) (hg : w.grownBy w1 none) : Blk w1 B cs t := (hg.block B h.lt (by simp)).trans h
/-- What config answers. -/
def confOut (w : World) (lc : List Int) (lo : List Pf) (e : Ending) (w' : World) : Prop := ∃ gc kc go ko, e = .returned (.tuple #[.agg #[.slice (some ⟨gc, 0, none⟩) lc.length kc, .slice (some ⟨go, 0, none⟩) lo.length ko], .slice (some ⟨gc, 0, none⟩) (lc.length + 3) kc, .slice (some ⟨go, 0, none⟩) (lo.length + 3) ko]) ∧
  w'.ownsRow w.heap.size 3 1 (.slice (some ⟨gc, 0, none⟩) (lc.length + 3) kc) (lc.length + 3) (numList (lc ++ [77, 77, 77])) ∧
  w'.ownsRow w.heap.size 32 2 (.slice (some ⟨go, 0, none⟩) (lo.length + 3) ko) (lo.length + 3) (pfList (lo ++ [⟨0, 77⟩, ⟨0, 77⟩, ⟨0, 77⟩])) ∧ gc ≠ go ∧ Below w.heap.size w w'

set_option maxRecDepth 100000 in
set_option maxHeartbeats 4000000 in
theorem config_any (Bk cc co : Nat) (ac ao : Option Addr) (lc : List Int) (lo : List Pf) (w : World) (bc : lc.length * 8 ≤ 140737488351232) (bo : lo.length * 16 ≤ 140737488351232) (hsc : numSlice w ac lc) (hso : pfSlice w ao lo) :
    Calls Tryz.prog 61 #[.pointer (some ⟨Bk, 0, none⟩), .agg #[.slice ac lc.length cc, .slice ao lo.length co]] w fun e w' => confOut w lc lo e w' := by
  obtain ⟨iI, hiI, hI0, hI1, hI2⟩ := info_parts Tryz.info3
  obtain ⟨iP, hiP, hP0, hP1, hP2⟩ := info_parts Tryz.info32
  obtain ⟨nc, hnc⟩ : ∃ n, lc.length = n := ⟨_, rfl⟩
  obtain ⟨no, hno⟩ : ∃ n, lo.length = n := ⟨_, rfl⟩
  obtain ⟨W0, hW0⟩ : ∃ W, W = (w.alloc (.cells #[.slice ac nc cc, .slice ao no co] 25)).alloc (.cells #[.slice none 0 0, .slice none 0 0] 25) := ⟨_, rfl⟩
  have hg0 : Grows w W0 := by rw [hW0]; exact ((Grows.refl w).alloc _).alloc _
  have hb0 : Below w.heap.size w W0 := hg0.below
  have bX : Blk W0 w.heap.size #[.slice ac nc cc, .slice ao no co] 25 := by rw [hW0]; exact (Blk.new w _ _).alloc _
  have bR : Blk W0 (w.heap.size + 1) #[.slice none 0 0, .slice none 0 0] 25 := by
    rw [hW0]
    have := Blk.new (w.alloc (.cells #[.slice ac nc cc, .slice ao no co] 25)) #[.slice none 0 0, .slice none 0 0] 25
    simpa only [World.size_alloc] using this
  have hsz0 : W0.heap.size = w.heap.size + 2 := by rw [hW0]; simp
  have c0 := (bX.cell 0).trans (show _ = some (.slice ac nc cc) from rfl)
  have HSC := hide (num_src hnc (numSlice_below hsc hb0))
  have HSO := hide (fun (w1 : World) (h : W0.grownBy w1 none) => pf_src hno (pfSlice_below (pfSlice_below hso hb0) (show Below W0.heap.size W0 w1 from ⟨h.os, h.tape, h.output, h.size, fun k hk => h.block k hk (by simp)⟩)))
  have HB0 := hide hb0
  have HX := hide bX
  have HR := hide bR
  rw [hnc] at bc
  rw [hno] at bo
  have HNC := hide hnc
  have HNO := hide hno
  rw [hnc, hno]
  rw [hW0] at c0
  clear hsc hso hb0 bX bR hg0 hnc hno
  go_enter Tryz.func61, Tryz.ntmps61
  go_wp2_with (first | (rw [← hW0]; at_builtin; refine wpList_append_copy _ rfl (.tmp 9) (.tmp 11) 22 rfl 3 iI (.int .i64 0) 1 8 Tryz.underlying22 hiI hI0 hI1 hI2 rfl (by decide) rfl ac nc cc (numList lc) rfl (by rw [numList_length, unhide HNC, Nat.mul_one]) (unhide HSC) (numList_one lc) (by unfold maxLen; omega) (by omega) ?_; intro v1 w1 hown1 hg1; clear c0 HSC) | (at_builtin; refine wpList_append_lies _ rfl (.tmp 13) (.tmp 14) 22 rfl W0.heap.size 3 iI (.int .i64 0) 1 8 Tryz.underlying22 hiI hI0 hI1 hI2 rfl (by decide) v1 nc (numList lc) rfl (by exact hown1.alloc _) ⟨w1.heap.size, 0, none⟩ 3 3 (numList [77, 77, 77]) rfl rfl (by exact World.news_of_block (heap_alloc_new w1 _)) (numList_one _) (by decide) (by unfold maxLen; omega) (by omega) (by have := hg1.size; simp; omega) (w1.heap.size + 1) (by simp) ?_; intro g2 k2 w2 hown2 hg2 hat2 hlt2; rw [← numList_append] at hown2; have hG2 := grown_fresh hg1 (grown_of_alloc2 hg2) (fun k hk => (ownsRow_from hown1 k hk).1); have HOWN2 := hide hown2; have hcap2 := (ownsRow_cap hown2).1; have HGE2 := hide (ownsRow_from hown2 g2 rfl); have bX2 := blk_grown (unhide HX) hG2; have c1 := (bX2.cell 1).trans (show _ = some (.slice ao no co) from rfl); have HSO2 := hide (unhide HSO w2 hG2); have HG2 := hide hG2; clear hown1 hg1 hg2 hat2 hown2 bX2 hG2) | (at_builtin; refine wpList_append_copy _ rfl (.tmp 16) (.tmp 18) 23 rfl 32 iP (.agg #[.int .u32 0, .int .i64 0]) 2 16 Tryz.underlying23 hiP hP0 hP1 hP2 rfl (by decide) rfl ao no co (pfList lo) rfl (by rw [pfList_length, unhide HNO]) (unhide HSO2) (pfList_one2 lo) (by unfold maxLen; omega) (by omega) ?_; intro v3 w3 hown3 hg3; clear c1 HSO2) | (at_builtin; refine wpList_append_lies _ rfl (.tmp 20) (.tmp 24) 23 rfl w2.heap.size 32 iP (.agg #[.int .u32 0, .int .i64 0]) 2 16 Tryz.underlying23 hiP hP0 hP1 hP2 rfl (by decide) v3 no (pfList lo) rfl (by exact hown3.alloc _) ⟨w3.heap.size, 0, none⟩ 3 3 (pfList [⟨0, 77⟩, ⟨0, 77⟩, ⟨0, 77⟩]) rfl rfl (by exact World.news_of_block (heap_alloc_new w3 _)) (pfList_one2 _) (by decide) (by unfold maxLen; omega) (by omega) (by have := hg3.size; simp; omega) (w3.heap.size + 1) (by simp) ?_; intro g4 k4 w4 hown4 hg4 hat4 hlt4; rw [← pfList_append] at hown4; have hG4 := grown_fresh hg3 (grown_of_alloc2 hg4) (fun k hk => (ownsRow_from hown3 k hk).1); have HOWN4 := hide hown4; have hcap4 := (ownsRow_cap hown4).1; have HGE4 := hide (ownsRow_from hown4 g4 rfl); have HG24 := hide hG4; have HG4 := hide (grown_trans (unhide HG2) hG4); have bX4 := blk_grown (unhide HX) (unhide HG4); have x0 := (bX4.cell 0).trans (show _ = some (.slice ac nc cc) from rfl); have x1 := (bX4.cell 1).trans (show _ = some (.slice ao no co) from rfl); have bR4 := blk_grown (unhide HR) (unhide HG4); have y0 := (bR4.cell 0).trans (show _ = some (.slice none 0 0) from rfl); have y1 := (bR4.cell 1).trans (show _ = some (.slice none 0 0) from rfl); have z0 := bR4.frozen 0; have z1 := bR4.frozen 1; have HR4 := hide bR4; clear hown3 hg3 hg4 hat4 hown4 bX4 bR4 hG4))
  go_region
  all_goals
    go_wp2_with fail
    have hge2 := unhide HGE2
    have hge4 := unhide HGE4
    have hG24 := unhide HG24
    have hG4 := unhide HG4
    have bR := unhide HR4
    have b5 := (bR.set 0 (Value.slice (some ⟨g2, 0, none⟩) nc k2)).set 1 (Value.slice (some ⟨g4, 0, none⟩) no k4)
    generalize hW5 : ((w4.setCell ⟨w.heap.size + 1, 0, none⟩ (.slice (some ⟨g2, 0, none⟩) nc k2)).setCell ⟨w.heap.size + 1, 1, none⟩ (.slice (some ⟨g4, 0, none⟩) no k4)) = W5 at *
    have hk5 : ∀ k, k ≠ w.heap.size + 1 → W5.heap[k]? = w4.heap[k]? := fun k hk => by
      rw [← hW5]
      exact (Below.heap_setCell _ _ _ _ hk).trans (Below.heap_setCell _ _ _ _ hk)
    have r0 : W5.drew.cell? ⟨w.heap.size + 1, 0, none⟩ = some (.slice (some ⟨g2, 0, none⟩) nc k2) := (show Blk W5.drew (w.heap.size + 1) _ _ from b5).cell 0
    have r1 : W5.drew.cell? ⟨w.heap.size + 1, 1, none⟩ = some (.slice (some ⟨g4, 0, none⟩) no k4) := (show Blk W5.drew (w.heap.size + 1) _ _ from b5).cell 1
    have hbel : Below w.heap.size w W5.drew := by
      have h4 : Below w.heap.size w w4 := (unhide HB0).trans ⟨hG4.os, hG4.tape, hG4.output, by have := hG4.size; omega, fun k hk => hG4.block k (by omega) (by simp)⟩
      have h5 : Below w.heap.size w W5 := by rw [← hW5]; exact (h4.setCell (by simp) _).setCell (by simp) _
      exact h5.drew
    refine bodyPost_ret (v := .tuple #[.agg #[.slice (some ⟨g2, 0, none⟩) nc k2, .slice (some ⟨g4, 0, none⟩) no k4], .slice (some ⟨g2, 0, none⟩) (nc + 3) k2, .slice (some ⟨g4, 0, none⟩) (no + 3) k4]) (by simp [results, Tryz.results61, go_sem, r0, r1]) rfl ?_
    have hNC := unhide HNC
    have hNO := unhide HNO
    subst hNC hNO
    refine ⟨g2, k2, g4, k4, rfl, ?_, ?_, by omega, hbel⟩
    · exact ownsRow_mono (ownsRow_keep (unhide HOWN2) (fun k hk => by simp [Value.ownBlock] at hk; subst hk; exact (hk5 g2 (by omega)).trans (hG24.block g2 (by omega) (by simp)))) (by omega)
    · exact ownsRow_mono (ownsRow_keep (unhide HOWN4) (fun k hk => by simp [Value.ownBlock] at hk; subst hk; exact hk5 g4 (by have := hG24.size; have := (unhide HG2).size; omega))) (by have := (unhide HG2).size; omega)

end Go.Proofs.YtdnpeefnobjfaaaGreatDoor

/- The Book's returned: the lists of a config are as they were; then they are marked, and kept. -/
namespace Go.Proofs.YtdnpeefnobjfaaaGreatDoor
open Go.RowKit Go.Shelf
attribute [local go_sem ↓] Go.wp_at_zero Go.wp_at_succ

theorem KA2.open {κ : Kd} {N : Nat} {w : World} {col : Col} {Bk n cap : Nat} {ao : Option Addr} {A : Array Value} {M : Int} {xs : List Value} (hA : BA w Bk A) (hB : col Bk = 1) (ho : OwnC col N w κ.el κ.sz (.slice ao n cap) n xs) : KA2 κ N w col Bk n cap ao A M 0 w := by
  refine ⟨hA, hB, Turns.refl _ _ _, ?_⟩
  rcases ho.1.2 with ⟨hv, h0⟩ | ⟨g, c', cur, hv, _, hg, h1, h2, h3, _⟩
  · simp at hv; exact .inl ⟨hv.1, h0, hv.2.2⟩
  · simp at hv
    obtain ⟨rfl, rfl⟩ := hv
    exact .inr ⟨g, rfl, ⟨cur, hg, h3, fun j hj => by omega⟩, h1, h2, ho.2 g rfl, lt_of_block hg⟩
theorem KA2.still {κ : Kd} {N : Nat} {w0 w w' : World} {col : Col} {Bk n cap k : Nat} {ao : Option Addr} {A : Array Value} {M : Int} (h : KA2 κ N w0 col Bk n cap ao A M k w) (ht : Below w.heap.size w w') : KA2 κ N w0 col Bk n cap ao A M k w' := by
  refine ⟨(ht.block Bk (lt_of_block h.lies)).trans h.lies, h.hue, h.turn.trans ⟨ht.os, ht.tape, ht.output, ht.size, fun k hk _ => ht.block k hk, fun _ _ => rfl⟩, ?_⟩
  rcases h.row with h | ⟨g, h1, h2, h3⟩
  · exact .inl h
  · obtain ⟨cur, hc, hr⟩ := id h2
    exact .inr ⟨g, h1, partK_keep h2 (ht.block g (lt_of_block hc)), h3⟩
theorem KA2.full {κ : Kd} (hl : ∀ m, (κ.mark m).length = κ.sz) (h0 : 0 < κ.sz) {N : Nat} {w0 w : World} {col : Col} {Bk n cap : Nat} {ao : Option Addr} {A : Array Value} {M : Int} (h : KA2 κ N w0 col Bk n cap ao A M n w) : OwnC col N w κ.el κ.sz (.slice ao n cap) n (κ.full n M) := by
  rcases h.row with ⟨rfl, rfl, rfl⟩ | ⟨g, rfl, hp, h1, h2, h3, _⟩
  · exact ⟨World.ownsRow_nil _ _ _ _, fun k hk => by simp [Value.ownBlock] at hk⟩
  · exact ⟨partK_own hl h0 hp h1 h2, fun k hk => by simp [Value.ownBlock] at hk; subst hk; exact h3⟩
theorem KPS.open {κ : Kd} {p ca cm N : Nat} {w : World} {col : Col} {Bk n c : Nat} {a : Option Addr} {A : Array Value} {items : List Itm} {M : Int} {vR vM : Value} (hA : BA w Bk A) (hB : col Bk = 1) (hk : KeptC κ col ca cm (keptBut N) w vR vM items) (hr : OwnC col N w κ.el κ.sz (.slice a n c) n (κ.full n M)) (he : (A.setIfInBounds p vR).setIfInBounds (p + 1) vM = A) :
    KPS κ p ca cm N w col Bk n A items [] items items M 0 a c vR vM col w :=
  ⟨by rw [he]; exact hA, hB, hk.rows, hk.marks, hk.each, by simp, hr, Turns.refl _ _ _⟩

/-- Numbers, prefixes, that nobody writes: of colour 0. -/
def numC (col : Col) (w : World) (ao : Option Addr) (l : List Int) : Prop := l = [] ∨ ∃ b off, ao = some ⟨b, off, none⟩ ∧ numCells w b off l ∧ b < w.heap.size ∧ col b = 0
def pfC (col : Col) (w : World) (ao : Option Addr) (l : List Pf) : Prop := l = [] ∨ ∃ b off, ao = some ⟨b, off, none⟩ ∧ pfCells w b off l ∧ b < w.heap.size ∧ col b = 0
theorem numC.slice {col : Col} {w : World} {ao : Option Addr} {l : List Int} (h : numC col w ao l) : numSlice w ao l := by
  rcases h with h | ⟨b, off, h1, h2, _⟩
  · exact .inl h
  · exact .inr ⟨b, off, h1, h2⟩
theorem pfC.slice {col : Col} {w : World} {ao : Option Addr} {l : List Pf} (h : pfC col w ao l) : pfSlice w ao l := by
  rcases h with h | ⟨b, off, h1, h2, _⟩
  · exact .inl h
  · exact .inr ⟨b, off, h1, h2⟩
theorem numC.turn {C : Nat → Prop} {col col' : Col} {w w' : World} {ao : Option Addr} {l : List Int} (h : numC col w ao l) (ht : Turns C col col' w w') (h0 : ¬ C 0) : numC col' w' ao l := by
  rcases h with h | ⟨b, off, h1, h2, h3, h4⟩
  · exact .inl h
  · have hk := ht.keep b h3 (by rw [h4]; exact h0)
    exact .inr ⟨b, off, h1, fun k hk' => (World.cell?_of_block (a := ⟨b, _, none⟩) hk).trans (h2 k hk'), Nat.lt_of_lt_of_le h3 ht.size, (ht.hue b h3).trans h4⟩
theorem pfC.turn {C : Nat → Prop} {col col' : Col} {w w' : World} {ao : Option Addr} {l : List Pf} (h : pfC col w ao l) (ht : Turns C col col' w w') (h0 : ¬ C 0) : pfC col' w' ao l := by
  rcases h with h | ⟨b, off, h1, h2, h3, h4⟩
  · exact .inl h
  · have hk := ht.keep b h3 (by rw [h4]; exact h0)
    exact .inr ⟨b, off, h1, fun k hk' => ⟨(World.cell?_of_block (a := ⟨b, _, none⟩) hk).trans (h2 k hk').1, (World.cell?_of_block (a := ⟨b, _, none⟩) hk).trans (h2 k hk').2⟩, Nat.lt_of_lt_of_le h3 ht.size, (ht.hue b h3).trans h4⟩
theorem eqPf_same (a l : Int) (w : World) : (binOp .eql 32 (.agg #[.int .u32 a, .int .i64 l]) (.agg #[.int .u32 a, .int .i64 l])).run Tryz.prog w = .ok (.bool true) w := by
  have h := eqPf_run a l a l w
  simpa using h

theorem lenI : ∀ m, (kdI.mark m).length = kdI.sz := fun _ => rfl
theorem lenP : ∀ m, (kdP.mark m).length = kdP.sz := fun _ => rfl
/-- What a round of the costs reads. -/
theorem round_num {col : Col} {w : World} {ac : Option Addr} {lc : List Int} {gc k n : Nat} (hn : lc.length = n) (hs : numC col w ac lc) (hr : restK kdI w gc (numList (lc ++ [77, 77, 77])) k) (hk : k < n + 3) :
    ∃ x, w.cell? ⟨gc, k, none⟩ = some (.int .i64 x) ∧ ((k < n ∧ ∃ b off, ac = some ⟨b, off, none⟩ ∧ w.cell? ⟨b, off + k, none⟩ = some (.int .i64 x)) ∨ (n ≤ k ∧ x = 77)) := by
  subst hn
  have hl : k < (lc ++ [77, 77, 77]).length := by simp; omega
  have hx : (numList (lc ++ [77, 77, 77]))[k]? = some (.int .i64 (lc ++ [77, 77, 77])[k]) := by
    rw [numList, List.getElem?_map, List.getElem?_eq_getElem hl]
    rfl
  refine ⟨_, hr k _ (by show k * 1 ≤ k; omega) hx, ?_⟩
  by_cases h : k < lc.length
  · left
    rcases hs with hs | ⟨b, off, h1, h2, _⟩
    · subst hs; simp at h
    · refine ⟨h, b, off, h1, ?_⟩
      rw [h2 k h, List.getElem_append_left h]
  · right
    refine ⟨by omega, ?_⟩
    rw [List.getElem_append_right (by omega)]
    have : k - lc.length = 0 ∨ k - lc.length = 1 ∨ k - lc.length = 2 := by omega
    rcases this with e | e | e <;> simp [e]
theorem round_pf {col : Col} {w : World} {ao : Option Addr} {lo : List Pf} {go k n : Nat} (hn : lo.length = n) (hs : pfC col w ao lo) (hr : restK kdP w go (pfList (lo ++ [(⟨0, 77⟩ : Pf), ⟨0, 77⟩, ⟨0, 77⟩])) k) (hk : k < n + 3) :
    ∃ x l : Int, w.cell? ⟨go, k * 2, none⟩ = some (.int .u32 x) ∧ w.cell? ⟨go, k * 2 + 1, none⟩ = some (.int .i64 l) ∧ ((k < n ∧ ∃ b off, ao = some ⟨b, off, none⟩ ∧ w.cell? ⟨b, off + k * 2, none⟩ = some (.int .u32 x) ∧ w.cell? ⟨b, off + k * 2 + 1, none⟩ = some (.int .i64 l)) ∨ (n ≤ k ∧ x = 0 ∧ l = 77)) := by
  subst hn
  have hl : k < (lo ++ [(⟨0, 77⟩ : Pf), ⟨0, 77⟩, ⟨0, 77⟩]).length := by simp; omega
  obtain ⟨h1, h2⟩ := pfList_at _ k hl
  refine ⟨_, _, hr _ _ (by show k * 2 ≤ k * 2; omega) h1, hr _ _ (by show k * 2 ≤ k * 2 + 1; omega) h2, ?_⟩
  by_cases h : k < lo.length
  · left
    rcases hs with hs | ⟨b, off, q1, q2, _⟩
    · subst hs; simp at h
    · refine ⟨h, b, off, q1, ?_, ?_⟩
      · rw [(q2 k h).1, List.getElem_append_left h]
      · rw [(q2 k h).2, List.getElem_append_left h]
  · right
    refine ⟨by omega, ?_⟩
    rw [List.getElem_append_right (by omega)]
    have : k - lo.length = 0 ∨ k - lo.length = 1 ∨ k - lo.length = 2 := by omega
    rcases this with e | e | e <;> simp [e]

theorem setI (w : World) (g k : Nat) (M : Int) : setL w g (k * kdI.sz) (kdI.mark M) = w.setCell ⟨g, k, none⟩ (.int .i64 M) := by
  show setL w g (k * 1) _ = _
  rw [Nat.mul_one]
  rfl
/-- What returned leaves. -/
structure RetK (N : Nat) (col0 : Col) (w0 : World) (Bk : Nat) (s : Bks) (le lr lO : List Itm) (ni np : Nat) (w : World) : Prop where
  is : ∃ s' li lp col, BookC (keptBut (N + 2)) col w Bk s' le lr lO li lp ∧ s'.m = s.m + 1 ∧ li.length = ni + 1 ∧ lp.length = np + 1 ∧ Turns (fun x => x = 1 ∨ 26 ≤ x ∧ x ≤ 29 ∨ x = N ∨ x = N + 1) col0 col w0 w

set_option maxRecDepth 100000 in
set_option maxHeartbeats 8000000 in
theorem returned_any {Bk N gc kc go ko cc co : Nat} {ac ao : Option Addr} {lc : List Int} {lo : List Pf} {s : Bks} {le lr lO li lp : List Itm} {col : Col} {w : World} (hb : BookC (keptBut N) col w Bk s le lr lO li lp)
    (h1 : OwnC col N w 3 1 (.slice (some ⟨gc, 0, none⟩) (lc.length + 3) kc) (lc.length + 3) (numList (lc ++ [77, 77, 77])))
    (h2 : OwnC col (N + 1) w 32 2 (.slice (some ⟨go, 0, none⟩) (lo.length + 3) ko) (lo.length + 3) (pfList (lo ++ [⟨0, 77⟩, ⟨0, 77⟩, ⟨0, 77⟩])))
    (hsc : numC col w ac lc) (hso : pfC col w ao lo) (hN : 100 ≤ N) (hm0 : 0 ≤ s.m) (hm1 : s.m ≤ 1000000000000000000) (hli : li.length ≤ 1000) (hlp : lp.length ≤ 1000) :
    Calls Tryz.prog 63 #[.pointer (some ⟨Bk, 0, none⟩), .agg #[.slice ac lc.length cc, .slice ao lo.length co], .slice (some ⟨gc, 0, none⟩) (lc.length + 3) kc, .slice (some ⟨go, 0, none⟩) (lo.length + 3) ko] w fun e w' => e = .returned (.bool true) ∧ RetK N col w Bk s le lr lO li.length lp.length w' := by
  have kw : IntKind.i64.wrap (-(s.m + 1)) = -(s.m + 1) := by rw [IntKind.wrap_i64]; omega
  obtain ⟨iI, hiI, hiI0, hiI1, hiI2⟩ := info_parts Tryz.info3
  obtain ⟨iS, hiS, hiS0, hiS1, hiS2⟩ := info_parts Tryz.info22
  obtain ⟨iT, hiT, hiT0, hiT1, hiT2⟩ := info_parts Tryz.info23
  have hcm := (ownsRow_cap h1.1)
  have hcm2 := (ownsRow_cap h2.1)
  obtain ⟨X, hX⟩ : ∃ X, X = w.heap.size := ⟨_, rfl⟩
  obtain ⟨Wb, hWb⟩ : ∃ W, W = w.alloc (.cells #[.slice ac lc.length cc, .slice ao lo.length co] 25) := ⟨_, rfl⟩
  have ht0 : Turns (fun _ => False) col (paint col w.heap.size 0) w Wb := by rw [hWb]; exact Turns.below 0 (below_new _ _)
  have bX : BlkC (paint col w.heap.size 0) 0 Wb X #[.slice ac lc.length cc, .slice ao lo.length co] 25 := by
    rw [hWb, hX]
    exact ⟨Blk.new _ _ _, paint_new (Nat.le_refl _)⟩
  have hb0 := hb.turn ht0 id (fun _ _ _ => id) (fun _ _ => id)
  have h10 := h1.turn ht0 id
  have h20 := h2.turn ht0 id
  have hsc0 := hsc.turn ht0 id
  have hso0 := hso.turn ht0 id
  have HT0 := hide ht0
  generalize paint col w.heap.size 0 = col0 at *
  have c0 : Wb.cell? ⟨Bk, 0, none⟩ = some (.int .i64 s.m) := Bks.cell hb0.lies 0
  have f0 : Wb.frozen? ⟨Bk, 0, none⟩ = false := frozen_blk hb0.lies
  obtain ⟨nc, hnc⟩ : ∃ n, lc.length = n := ⟨_, rfl⟩
  obtain ⟨no, hno⟩ : ∃ n, lo.length = n := ⟨_, rfl⟩
  have hka0 : KA2 kdI N Wb col0 Bk (nc + 3) kc (some ⟨gc, 0, none⟩) ({ s with m := s.m + 1 } : Bks).arr (-(s.m + 1)) 0 (Wb.setCell ⟨Bk, 0, none⟩ (.int .i64 (s.m + 1))) := by
    rw [← hnc]
    exact KA2.start (κ := kdI) (M := -(s.m + 1)) (u := .int .i64 (s.m + 1)) (A := s.arr) hb0.lies hb0.hue (by omega) h10
  have hre0 : restK kdI (Wb.setCell ⟨Bk, 0, none⟩ (.int .i64 (s.m + 1))) gc (numList (lc ++ [77, 77, 77])) 0 := (restK.start (κ := kdI) h10.1).keep (Below.heap_setCell _ _ _ _ (fun e => by
    have h := h10.2 gc rfl
    rw [e] at h
    have := h.symm.trans hb0.hue
    omega))
  have HKA := hide hka0
  have HRE := hide hre0
  have HB := hide hb0
  have H2 := hide h20
  have HSC := hide hsc0
  have HSO := hide hso0
  have HBX := hide bX
  have HN := hide hN
  rw [hnc] at hcm
  rw [hno] at hcm2
  have HNC := hide hnc
  have HNO := hide hno
  rw [hnc, hno]
  rw [hnc, hno] at hWb
  clear hb h1 h2 hsc hso ht0 hb0 h10 h20 hsc0 hso0 bX hka0 hre0 hN hnc hno
  go_enter Tryz.func63, Tryz.ntmps63
  rw [hWb] at c0 f0
  go_wp2_with fail
  rw [← hWb, ← hX]
  clear hWb hX
  obtain ⟨W, hWd⟩ : ∃ W, W = Wb.setCell ⟨Bk, 0, none⟩ (.int .i64 (s.m + 1)) := ⟨_, rfl⟩
  rw [← hWd]
  rw [← hWd] at HKA HRE
  clear hWd c0 f0
  go_loopw [9, 10] (fun ok j wr => ∃ k : Nat, k ≤ nc + 3 ∧ ok = .bool true ∧ j = .int .i64 k ∧ KA2 kdI N Wb col0 Bk (nc + 3) kc (some ⟨gc, 0, none⟩) ({ s with m := s.m + 1 } : Bks).arr (-(s.m + 1)) k wr ∧ restK kdI wr gc (numList (lc ++ [77, 77, 77])) k) (fun _ j _ => nc + 3 - (intOf j).toNat)
  case atStart => exact ⟨0, by omega, rfl, rfl, unhide HKA, unhide HRE⟩
  case round =>
    obtain ⟨k, hk, rfl, rfl, hka, hre⟩ := hrel
    clear HKA HRE
    have r0 : wr.cell? ⟨Bk, 0, none⟩ = some (.int .i64 (s.m + 1)) := (cell_of_row wr Bk 0 _ _ _ hka.lies).trans rfl
    have bx := ((unhide HBX).turn hka.turn (by have := unhide HN; omega)).1
    have x0 := (bx.cell 0).trans (show _ = some (.slice ac nc cc) by rw [← unhide HNC]; rfl)
    have x1 := (bx.cell 1).trans (show _ = some (.slice ao no co) by rw [← unhide HNO]; rfl)
    clear bx
    by_cases hlt : k < nc + 3
    · obtain ⟨x, hcx, hw⟩ := round_num (unhide HNC) ((unhide HSC).turn hka.turn (by have := unhide HN; omega)) hre hlt
      rcases id hka.row with ⟨hno', _⟩ | ⟨g', hg', hp, hnc', hcm', hBg, hgl⟩
      · cases hno'
      · obtain rfl : gc = g' := by simpa using hg'
        have fz := (partK_cells hp k (by show k < kc * 1; omega)).2
        have j0 : (0 : Int) ≤ (k : Int) := by omega
        have j1 : (k : Int) < (nc : Int) + 3 := by omega
        have hxx : (x == x) = true := by simp
        have HK := hide hka
        have HR := hide hre
        have HP := hide hp
        clear hka hre hp hBg hgl hg' hnc' hcm'
        rcases hw with ⟨hlc, b, off, rfl, hcb⟩ | ⟨hge, rfl⟩
        · have j2 : (k : Int) < (nc : Int) := by omega
          go_wp2
          go_roundw
          case rel => exact ⟨k + 1, by omega, by simp, by go_num, by rw [← setI]; exact KA2.step lenI (unhide HK) (by have := unhide HN; omega) hlt, by rw [← setI]; exact (unhide HR).step lenI (unhide HP)⟩
          case measure => simp [intOf]; omega
        · have j2 : decide ((k : Int) < (nc : Int)) = false := by simp; omega
          go_wp2
          go_roundw
          case rel => exact ⟨k + 1, by omega, by simp, by go_num, by rw [← setI]; exact KA2.step lenI (unhide HK) (by have := unhide HN; omega) hlt, by rw [← setI]; exact (unhide HR).step lenI (unhide HP)⟩
          case measure => simp [intOf]; omega
    · have hkn : k = nc + 3 := by omega
      have jd : decide ((k : Int) < (nc : Int) + 3) = false := by simp; omega
      rw [hkn] at hka
      have hT1 := hka.turn
      have hrowI := KA2.full lenI (by decide) hka
      have h2' := (unhide H2).turn hT1 (by have := unhide HN; omega)
      have hkp0 : KA2 kdP (N + 1) wr col0 Bk (no + 3) ko (some ⟨go, 0, none⟩) ({ s with m := s.m + 1 } : Bks).arr (-(s.m + 1)) 0 wr := by
        rw [← unhide HNO]
        exact KA2.open (κ := kdP) hka.lies hka.hue h2'
      have hrp0 : restK kdP wr go (pfList (lo ++ [(⟨0, 77⟩ : Pf), ⟨0, 77⟩, ⟨0, 77⟩])) 0 := restK.start (κ := kdP) h2'.1
      have HKP := hide hkp0
      have HRP := hide hrp0
      have HT1 := hide hT1
      have HROWI := hide hrowI
      have HSO1 := hide ((unhide HSO).turn hT1 (by have := unhide HN; omega))
      have HBX1 := hide ((unhide HBX).turn hT1 (by have := unhide HN; omega))
      clear hka hre hT1 hrowI h2' hkp0 hrp0 r0 x0 x1 hk hlt hkn
      generalize wr = W1 at *
      clear wr
      go_wp2_with fail
      go_loopw [9, 12] (fun ok j w2 => ∃ k : Nat, k ≤ no + 3 ∧ ok = .bool true ∧ j = .int .i64 k ∧ KA2 kdP (N + 1) W1 col0 Bk (no + 3) ko (some ⟨go, 0, none⟩) ({ s with m := s.m + 1 } : Bks).arr (-(s.m + 1)) k w2 ∧ restK kdP w2 go (pfList (lo ++ [(⟨0, 77⟩ : Pf), ⟨0, 77⟩, ⟨0, 77⟩])) k) (fun _ j _ => no + 3 - (intOf j).toNat)
      case atStart => exact ⟨0, by omega, rfl, rfl, unhide HKP, unhide HRP⟩
      case round =>
        obtain ⟨k, hk, rfl, rfl, hka, hre⟩ := hrel
        clear HKP HRP
        have r0 : wr.cell? ⟨Bk, 0, none⟩ = some (.int .i64 (s.m + 1)) := (cell_of_row wr Bk 0 _ _ _ hka.lies).trans rfl
        have bx := ((unhide HBX1).turn hka.turn (by have := unhide HN; omega)).1
        have x1 := (bx.cell 1).trans (show _ = some (.slice ao no co) by rw [← unhide HNO]; rfl)
        have hXlt := bx.lt
        have hBlt : Bk < wr.heap.size := lt_of_block hka.lies
        clear bx
        by_cases hlt : k < no + 3
        · obtain ⟨x, l, hcx, hcl, hw⟩ := round_pf (unhide HNO) ((unhide HSO1).turn hka.turn (by have := unhide HN; omega)) hre hlt
          rcases id hka.row with ⟨hno', _⟩ | ⟨g', hg', hp, hnc', hcm', hBg, hgl⟩
          · cases hno'
          · obtain rfl : go = g' := by simpa using hg'
            have fz := (partK_cells hp (k * 2) (by show k * 2 < ko * 2; omega)).2
            have fz1 := (partK_cells hp (k * 2 + 1) (by show k * 2 + 1 < ko * 2; omega)).2
            have hglt := World.block_lt_of_cell? wr _ hcx
            have j0 : (0 : Int) ≤ (k : Int) := by omega
            have j1 : (k : Int) < (no : Int) + 3 := by omega
            have HK := hide hka
            have HR := hide hre
            have HP := hide hp
            clear hka hre hp hBg hgl hg' hnc' hcm'
            rcases hw with ⟨hlc, b, off, rfl, hcb, hcb1⟩ | ⟨hge, rfl, rfl⟩
            · have j2 : (k : Int) < (no : Int) := by omega
              have hblt := World.block_lt_of_cell? wr _ hcb
              go_wp2_with fail
              have hb3 := below_new wr (.cells #[.int .u32 x, .int .i64 l] 32)
              have bD := Blk.new wr #[.int .u32 x, .int .i64 l] 32
              have d0 := (bD.cell 0).trans (show _ = some (.int .u32 x) from rfl)
              have d1 := (bD.cell 1).trans (show _ = some (.int .i64 l) from rfl)
              have e0 := (hb3.cell (p := ⟨go, k * 2, none⟩) hglt).trans hcx
              have e1 := (hb3.cell (p := ⟨go, k * 2 + 1, none⟩) hglt).trans hcl
              have g0 := (hb3.frozen (p := ⟨go, k * 2, none⟩) hglt).trans fz
              have g1 := (hb3.frozen (p := ⟨go, k * 2 + 1, none⟩) hglt).trans fz1
              have m0 := (hb3.cell (p := ⟨Bk, 0, none⟩) hBlt).trans r0
              have HK3 := hide ((unhide HK).still hb3)
              have HR3 := hide ((unhide HR).keep (hb3.block go hglt))
              have HP3 := hide (partK_keep (unhide HP) (hb3.block go hglt))
              have hEq := eqPf_same x l
              obtain ⟨D, hD⟩ : ∃ D, D = wr.heap.size := ⟨_, rfl⟩
              rw [← hD] at d0 d1 ⊢
              clear HK HR HP r0 fz fz1 hcx hcl hBlt hglt hXlt x1 bD hD hb3 hcb hcb1 hblt
              generalize wr.alloc (.cells #[.int .u32 x, .int .i64 l] 32) = W3 at *
              go_quiet (fail)
              go_wp2
              go_roundw
              case rel => exact ⟨k + 1, by omega, by simp, by go_num, KA2.step lenP ((unhide HK3).still (below_drewN (Below.refl _ _) _)) (by have := unhide HN; omega) hlt, restK.step lenP (restK.keep (unhide HR3) rfl) (partK_keep (unhide HP3) rfl)⟩
              case measure => simp [intOf]; omega
            · have j2 : decide ((k : Int) < (no : Int)) = false := by simp; omega
              go_wp2_with fail
              have hb3 := below_new wr (.cells #[.int .u32 0, .int .i64 77] 32)
              have bD := Blk.new wr #[.int .u32 0, .int .i64 77] 32
              have d0 := (bD.cell 0).trans (show _ = some (.int .u32 0) from rfl)
              have d1 := (bD.cell 1).trans (show _ = some (.int .i64 77) from rfl)
              have e0 := (hb3.cell (p := ⟨go, k * 2, none⟩) hglt).trans hcx
              have e1 := (hb3.cell (p := ⟨go, k * 2 + 1, none⟩) hglt).trans hcl
              have g0 := (hb3.frozen (p := ⟨go, k * 2, none⟩) hglt).trans fz
              have g1 := (hb3.frozen (p := ⟨go, k * 2 + 1, none⟩) hglt).trans fz1
              have m0 := (hb3.cell (p := ⟨Bk, 0, none⟩) hBlt).trans r0
              have HK3 := hide ((unhide HK).still hb3)
              have HR3 := hide ((unhide HR).keep (hb3.block go hglt))
              have HP3 := hide (partK_keep (unhide HP) (hb3.block go hglt))
              have hEq := eqPf_same 0 77
              obtain ⟨D, hD⟩ : ∃ D, D = wr.heap.size := ⟨_, rfl⟩
              rw [← hD] at d0 d1 ⊢
              clear HK HR HP r0 fz fz1 hcx hcl hBlt hglt hXlt x1 bD hD hb3 
              generalize wr.alloc (.cells #[.int .u32 0, .int .i64 77] 32) = W3 at *
              go_quiet (fail)
              go_wp2
              go_roundw
              case rel => exact ⟨k + 1, by omega, by simp, by go_num, KA2.step lenP ((unhide HK3).still (below_drewN (Below.refl _ _) _)) (by have := unhide HN; omega) hlt, restK.step lenP (restK.keep (unhide HR3) rfl) (partK_keep (unhide HP3) rfl)⟩
              case measure => simp [intOf]; omega
        · have hkn : k = no + 3 := by omega
          have jd2 : decide ((k : Int) < (no : Int) + 3) = false := by simp; omega
          rw [hkn] at hka
          have hNN := unhide HN
          have hT2 := hka.turn
          have hT12 := ((unhide HT1).mono (D := fun x => x = 1 ∨ x = N ∨ x = N + 1) (fun x hx => by omega)).trans (hT2.mono (fun x hx => by omega))
          have hpsI : KPS kdI 9 26 27 (N) wr col0 Bk (nc + 3) ({ s with m := s.m + 1 } : Bks).arr li [] li li (-(s.m + 1)) 0 (some ⟨gc, 0, none⟩) kc s.i s.im col0 wr :=
            KPS.open hka.lies hka.hue ((unhide HB).int.turn hT12 (by omega) (by omega) (fun x hx => by have := hx.1; have := hx.2; omega)) ((unhide HROWI).turn hT2 (by omega)) rfl
          have HPX := hide ((unhide HB).pfx.turn hT12 (by omega) (by omega) (fun x hx => by have := hx.1; have := hx.2; omega))
          have HROWP := hide (KA2.full lenP (by decide) hka)
          have HT12 := hide hT12
          clear hka hre hT2 hT12 r0 x1 hXlt hBlt hk hlt hkn HROWI hNN
          obtain ⟨aeI, ceI, geI, hve, _, _⟩ := row_form hpsI.rows.1
          obtain ⟨QI, hQ⟩ : ∃ Q, li.length = Q := ⟨_, rfl⟩
          rw [hQ] at hve
          have hQn : QI ≤ 1000 := by rw [← hQ]; assumption
          have k1 : wr.cell? ⟨Bk, 9, none⟩ = some (.slice aeI QI ceI) := ((cell_of_row wr Bk 9 _ _ _ hpsI.lies).trans rfl).trans (congrArg some hve)
          have fk1 : wr.frozen? ⟨Bk, 9, none⟩ = false := frozen_blk hpsI.lies
          have hsz : Bk < wr.heap.size := lt_of_block hpsI.lies
          have HOWN := hide (show wr.ownsRow 0 22 1 (.slice aeI QI ceI) QI (li.map Itm.val) by rw [← hve, ← hQ]; exact hpsI.rows.1)
          have NB1 : Hid ((Value.slice aeI QI ceI).ownBlock ≠ some Bk) := by
            rw [Hid, ← hve]
            exact fun h => absurd ((hpsI.rows.2 Bk h).symm.trans hpsI.hue) (by decide)
          have HRW := hide (fun (w5 : World) (o : Obj) (g5 c5 : Nat) (h1 : w5.ownsRow 0 22 1 (.slice (some ⟨g5, 0, none⟩) (QI + 1) c5) (QI + 1) (li.map Itm.val ++ [.slice (some ⟨gc, 0, none⟩) (nc + 3) kc])) (h2 : (wr.alloc o).grownBy w5 (Value.slice aeI QI ceI).ownBlock) (h3 : (Value.slice aeI QI ceI).ownBlock = some g5 ∨ g5 = wr.heap.size + 1) => (show KPS kdI 9 26 27 (N) wr col0 Bk (nc + 3) ({ s with m := s.m + 1 } : Bks).arr li [] (li ++ [⟨some ⟨gc, 0, none⟩, nc + 3, kc, -(s.m + 1)⟩]) li (-(s.m + 1)) 0 (some ⟨gc, 0, none⟩) kc (.slice (some ⟨g5, 0, none⟩) (QI + 1) c5) s.im (paint col0 wr.heap.size 26) (w5.setCell ⟨Bk, 9, none⟩ (.slice (some ⟨g5, 0, none⟩) (QI + 1) c5)) by
            subst hQ
            rw [← hve] at h2 h3
            exact hpsI.rowed ⟨by decide, by decide, by decide, by have := unhide HN; omega⟩ h1 (grown_of_alloc2 h2) (h3.imp id (fun e => by omega))))
          have HQ := hide hQ
          clear hve hpsI hQ
          go_wp2_with (first | (at_builtin; refine wpList_append_lies _ rfl (.tmp 93) (.tmp 95) 81 rfl 0 22 iS (.slice none 0 0) 1 24 Tryz.underlying81 hiS hiS0 hiS1 hiS2 rfl (by decide) (.slice aeI QI ceI) QI (li.map Itm.val) rfl (by exact (unhide HOWN).alloc _) ⟨wr.heap.size, 0, none⟩ 1 1 [.slice (some ⟨gc, 0, none⟩) (nc + 3) kc] rfl rfl (by exact World.news_of_block (heap_alloc_new wr _)) (by intro u hu; simp at hu; subst hu; rfl) (by decide) (by unfold maxLen; omega) (by omega) (by simp) (wr.heap.size + 1) (by simp) ?_; intro g5I c5I w5 hown5 hg5 hat5 hlt5; have p1 : w5.cell? ⟨Bk, 9, none⟩ = some (.slice aeI QI ceI) := (hg5.cell (by exact ((below_new wr _).cell (p := ⟨Bk, 9, none⟩) hsz).trans k1) (Ne.symm (unhide NB1))); have p2 : w5.frozen? ⟨Bk, 9, none⟩ = false := (by rw [hg5.frozen_far _ (by simp; omega) (Ne.symm (unhide NB1))]; exact ((below_new wr _).frozen (p := ⟨Bk, 9, none⟩) hsz).trans fk1); have R1 := hide (unhide HRW w5 _ g5I c5I hown5 hg5 hat5); clear hown5 hg5 hat5))
          have hkh := unhide R1
          clear R1 HOWN NB1 HRW k1 fk1 hsz p1 p2 hlt5
          generalize w5.setCell ⟨Bk, 9, none⟩ (.slice (some ⟨g5I, 0, none⟩) (QI + 1) c5I) = wcI at *
          obtain ⟨amI, cmI, gmI, hvm, _, _⟩ := row_form hkh.marks.1
          rw [unhide HQ] at hvm
          have k0 : wcI.cell? ⟨Bk, 0, none⟩ = some (.int .i64 (s.m + 1)) := (cell_of_row wcI Bk 0 _ _ _ hkh.lies).trans rfl
          have k2 : wcI.cell? ⟨Bk, 10, none⟩ = some (.slice amI QI cmI) := ((cell_of_row wcI Bk 10 _ _ _ hkh.lies).trans rfl).trans (congrArg some hvm)
          have hsz2 : Bk < wcI.heap.size := lt_of_block hkh.lies
          have fk2 : wcI.frozen? ⟨Bk, 10, none⟩ = false := frozen_blk hkh.lies
          have K2 := hide (fun o => ((below_new wcI o).cell (p := ⟨Bk, 10, none⟩) hsz2).trans k2)
          have FK2 := hide (fun o => ((below_new wcI o).frozen (p := ⟨Bk, 10, none⟩) hsz2).trans fk2)
          have NB2 : Hid ((Value.slice amI QI cmI).ownBlock ≠ some Bk) := by
            rw [Hid, ← hvm]
            exact fun h => absurd ((hkh.marks.2 Bk h).symm.trans hkh.hue) (by decide)
          have HOWN2 := hide (show wcI.ownsRow 0 3 1 (.slice amI QI cmI) QI (li.map fun t => .int .i64 t.m) by rw [← hvm, ← unhide HQ]; exact hkh.marks.1)
          have HKM := hide (fun (w5 : World) (o : Obj) (g5' c5' : Nat) (h1 : w5.ownsRow 0 3 1 (.slice (some ⟨g5', 0, none⟩) (QI + 1) c5') (QI + 1) ((li.map fun t => .int .i64 t.m) ++ [.int .i64 (-(s.m + 1))])) (h2 : (wcI.alloc o).drew.grownBy w5 (Value.slice amI QI cmI).ownBlock) (h3 : (Value.slice amI QI cmI).ownBlock = some g5' ∨ g5' = wcI.heap.size + 1) => (show KPS kdI 9 26 27 (N) wr col0 Bk (nc + 3) ({ s with m := s.m + 1 } : Bks).arr li [] (li ++ [⟨some ⟨gc, 0, none⟩, nc + 3, kc, -(s.m + 1)⟩]) (li ++ [⟨some ⟨gc, 0, none⟩, nc + 3, kc, -(s.m + 1)⟩]) (-(s.m + 1)) 0 (some ⟨gc, 0, none⟩) kc (.slice (some ⟨g5I, 0, none⟩) (QI + 1) c5I) (.slice (some ⟨g5', 0, none⟩) (QI + 1) c5') (paint (paint col0 wr.heap.size 26) wcI.heap.size 27) (w5.setCell ⟨Bk, 10, none⟩ (.slice (some ⟨g5', 0, none⟩) (QI + 1) c5')) by
            have hQ := unhide HQ
            subst hQ
            rw [← hvm] at h2 h3
            exact hkh.marked ⟨by decide, by decide, by decide, by have := unhide HN; omega⟩ h1 (grown_boxed2 h2) (h3.imp id (fun e => by omega))))
          clear hvm hkh
          go_wp2_with fail
          go_region_law ((refine step_append_lies _ (by rfl) (.tmp 103) (.tmp 109) 22 (by rfl) 0 3 iI (.int .i64 0) 1 8 Tryz.underlying22 hiI hiI0 hiI1 hiI2 rfl (by decide) (.slice amI QI cmI) QI (li.map fun t => .int .i64 t.m) (by rfl) (by exact (unhide HOWN2).alloc _) ⟨wcI.heap.size, 0, none⟩ 1 1 [.int .i64 (-(s.m + 1))] (by rfl) rfl (by exact World.news_of_block (heap_alloc_new wcI _)) (by intro u hu; simp at hu; subst hu; rfl) (by decide) (by unfold maxLen; omega) (by omega) (by simp) (wcI.heap.size + 1) (by simp) ?_; intro g6I c6I w6 hown6 hg6 hat6 hlt6; have p1 : w6.cell? ⟨Bk, 10, none⟩ = some (.slice amI QI cmI) := (hg6.cell (by exact unhide K2 _) (Ne.symm (unhide NB2))); have p2 : w6.frozen? ⟨Bk, 10, none⟩ = false := (by rw [hg6.frozen_far _ (by simp; omega) (Ne.symm (unhide NB2))]; exact unhide FK2 _); have R2 := hide (unhide HKM w6 _ g6I c6I hown6 hg6 hat6); clear hown6 hg6 hat6))
          all_goals
            have hkm := unhide R2
            clear R2 HKM K2 FK2 NB2 HOWN2 k0 k2 fk2 hsz2 p1 p2 hlt6 HQ
            generalize w6.setCell ⟨Bk, 10, none⟩ (.slice (some ⟨g6I, 0, none⟩) (QI + 1) c6I) = wdI at *
            have hlsI : KeptC kdI (paint (paint col0 wr.heap.size 26) wcI.heap.size 27) 26 27 (keptBut (N + 1)) wdI _ _ (li ++ [⟨some ⟨gc, 0, none⟩, nc + 3, kc, -(s.m + 1)⟩]) := hkm.once lenI ⟨by decide, by decide, by decide, by have := unhide HN; omega⟩ rfl rfl (unhide HB).int.small (by omega)
            have hT3 := hkm.turn
            have hpsP : KPS kdP 11 28 29 (N + 1) wdI (paint (paint col0 wr.heap.size 26) wcI.heap.size 27) Bk (no + 3) ((({ s with m := s.m + 1 } : Bks).arr.setIfInBounds 9 (.slice (some ⟨g5I, 0, none⟩) (QI + 1) c5I)).setIfInBounds (9 + 1) (.slice (some ⟨g6I, 0, none⟩) (QI + 1) c6I)) lp [] lp lp (-(s.m + 1)) 0 (some ⟨go, 0, none⟩) ko s.p s.pm (paint (paint col0 wr.heap.size 26) wcI.heap.size 27) wdI :=
              KPS.open hkm.lies hkm.hue (((unhide HPX).turn hT3 (by have := unhide HN; omega) (by have := unhide HN; omega) (fun x hx => by have := unhide HN; have := hx.1; have := hx.2; omega)).mono (fun k _ hk => ⟨hk.1, by have := hk.2; omega⟩)) ((unhide HROWP).turn hT3 (by have := unhide HN; omega)) rfl
            have HLSI := hide hlsI
            have HT3 := hide hT3
            clear hkm hlsI hT3
            generalize paint (paint col0 wr.heap.size 26) wcI.heap.size 27 = col1 at *
            obtain ⟨aeP, ceP, geP, hve, _, _⟩ := row_form hpsP.rows.1
            obtain ⟨QP, hQ⟩ : ∃ Q, lp.length = Q := ⟨_, rfl⟩
            rw [hQ] at hve
            have hQn : QP ≤ 1000 := by rw [← hQ]; assumption
            have k1 : wdI.cell? ⟨Bk, 11, none⟩ = some (.slice aeP QP ceP) := ((cell_of_row wdI Bk 11 _ _ _ hpsP.lies).trans rfl).trans (congrArg some hve)
            have fk1 : wdI.frozen? ⟨Bk, 11, none⟩ = false := frozen_blk hpsP.lies
            have hsz : Bk < wdI.heap.size := lt_of_block hpsP.lies
            have HOWN := hide (show wdI.ownsRow 0 23 1 (.slice aeP QP ceP) QP (lp.map Itm.val) by rw [← hve, ← hQ]; exact hpsP.rows.1)
            have NB1 : Hid ((Value.slice aeP QP ceP).ownBlock ≠ some Bk) := by
              rw [Hid, ← hve]
              exact fun h => absurd ((hpsP.rows.2 Bk h).symm.trans hpsP.hue) (by decide)
            have HRW := hide (fun (w5 : World) (o : Obj) (g5 c5 : Nat) (h1 : w5.ownsRow 0 23 1 (.slice (some ⟨g5, 0, none⟩) (QP + 1) c5) (QP + 1) (lp.map Itm.val ++ [.slice (some ⟨go, 0, none⟩) (no + 3) ko])) (h2 : (wdI.alloc o).grownBy w5 (Value.slice aeP QP ceP).ownBlock) (h3 : (Value.slice aeP QP ceP).ownBlock = some g5 ∨ g5 = wdI.heap.size + 1) => (show KPS kdP 11 28 29 (N + 1) wdI col1 Bk (no + 3) ((({ s with m := s.m + 1 } : Bks).arr.setIfInBounds 9 (.slice (some ⟨g5I, 0, none⟩) (QI + 1) c5I)).setIfInBounds (9 + 1) (.slice (some ⟨g6I, 0, none⟩) (QI + 1) c6I)) lp [] (lp ++ [⟨some ⟨go, 0, none⟩, no + 3, ko, -(s.m + 1)⟩]) lp (-(s.m + 1)) 0 (some ⟨go, 0, none⟩) ko (.slice (some ⟨g5, 0, none⟩) (QP + 1) c5) s.pm (paint col1 wdI.heap.size 28) (w5.setCell ⟨Bk, 11, none⟩ (.slice (some ⟨g5, 0, none⟩) (QP + 1) c5)) by
              subst hQ
              rw [← hve] at h2 h3
              exact hpsP.rowed ⟨by decide, by decide, by decide, by have := unhide HN; omega⟩ h1 (grown_of_alloc2 h2) (h3.imp id (fun e => by omega))))
            have HQ := hide hQ
            clear hve hpsP hQ
            go_wp2_with (first | (at_builtin; refine wpList_append_lies _ rfl (.tmp 117) (.tmp 119) 82 rfl 0 23 iT (.slice none 0 0) 1 24 Tryz.underlying82 hiT hiT0 hiT1 hiT2 rfl (by decide) (.slice aeP QP ceP) QP (lp.map Itm.val) rfl (by exact (unhide HOWN).alloc _) ⟨wdI.heap.size, 0, none⟩ 1 1 [.slice (some ⟨go, 0, none⟩) (no + 3) ko] rfl rfl (by exact World.news_of_block (heap_alloc_new wdI _)) (by intro u hu; simp at hu; subst hu; rfl) (by decide) (by unfold maxLen; omega) (by omega) (by simp) (wdI.heap.size + 1) (by simp) ?_; intro g5P c5P w5 hown5 hg5 hat5 hlt5; have p1 : w5.cell? ⟨Bk, 11, none⟩ = some (.slice aeP QP ceP) := (hg5.cell (by exact ((below_new wdI _).cell (p := ⟨Bk, 11, none⟩) hsz).trans k1) (Ne.symm (unhide NB1))); have p2 : w5.frozen? ⟨Bk, 11, none⟩ = false := (by rw [hg5.frozen_far _ (by simp; omega) (Ne.symm (unhide NB1))]; exact ((below_new wdI _).frozen (p := ⟨Bk, 11, none⟩) hsz).trans fk1); have R1 := hide (unhide HRW w5 _ g5P c5P hown5 hg5 hat5); clear hown5 hg5 hat5))
            have hkh := unhide R1
            clear R1 HOWN NB1 HRW k1 fk1 hsz p1 p2 hlt5
            generalize w5.setCell ⟨Bk, 11, none⟩ (.slice (some ⟨g5P, 0, none⟩) (QP + 1) c5P) = wcP at *
            obtain ⟨amP, cmP, gmP, hvm, _, _⟩ := row_form hkh.marks.1
            rw [unhide HQ] at hvm
            have k0 : wcP.cell? ⟨Bk, 0, none⟩ = some (.int .i64 (s.m + 1)) := (cell_of_row wcP Bk 0 _ _ _ hkh.lies).trans rfl
            have k2 : wcP.cell? ⟨Bk, 12, none⟩ = some (.slice amP QP cmP) := ((cell_of_row wcP Bk 12 _ _ _ hkh.lies).trans rfl).trans (congrArg some hvm)
            have hsz2 : Bk < wcP.heap.size := lt_of_block hkh.lies
            have fk2 : wcP.frozen? ⟨Bk, 12, none⟩ = false := frozen_blk hkh.lies
            have K2 := hide (fun o => ((below_new wcP o).cell (p := ⟨Bk, 12, none⟩) hsz2).trans k2)
            have FK2 := hide (fun o => ((below_new wcP o).frozen (p := ⟨Bk, 12, none⟩) hsz2).trans fk2)
            have NB2 : Hid ((Value.slice amP QP cmP).ownBlock ≠ some Bk) := by
              rw [Hid, ← hvm]
              exact fun h => absurd ((hkh.marks.2 Bk h).symm.trans hkh.hue) (by decide)
            have HOWN2 := hide (show wcP.ownsRow 0 3 1 (.slice amP QP cmP) QP (lp.map fun t => .int .i64 t.m) by rw [← hvm, ← unhide HQ]; exact hkh.marks.1)
            have HKM := hide (fun (w5 : World) (o : Obj) (g5' c5' : Nat) (h1 : w5.ownsRow 0 3 1 (.slice (some ⟨g5', 0, none⟩) (QP + 1) c5') (QP + 1) ((lp.map fun t => .int .i64 t.m) ++ [.int .i64 (-(s.m + 1))])) (h2 : (wcP.alloc o).drew.grownBy w5 (Value.slice amP QP cmP).ownBlock) (h3 : (Value.slice amP QP cmP).ownBlock = some g5' ∨ g5' = wcP.heap.size + 1) => (show KPS kdP 11 28 29 (N + 1) wdI col1 Bk (no + 3) ((({ s with m := s.m + 1 } : Bks).arr.setIfInBounds 9 (.slice (some ⟨g5I, 0, none⟩) (QI + 1) c5I)).setIfInBounds (9 + 1) (.slice (some ⟨g6I, 0, none⟩) (QI + 1) c6I)) lp [] (lp ++ [⟨some ⟨go, 0, none⟩, no + 3, ko, -(s.m + 1)⟩]) (lp ++ [⟨some ⟨go, 0, none⟩, no + 3, ko, -(s.m + 1)⟩]) (-(s.m + 1)) 0 (some ⟨go, 0, none⟩) ko (.slice (some ⟨g5P, 0, none⟩) (QP + 1) c5P) (.slice (some ⟨g5', 0, none⟩) (QP + 1) c5') (paint (paint col1 wdI.heap.size 28) wcP.heap.size 29) (w5.setCell ⟨Bk, 12, none⟩ (.slice (some ⟨g5', 0, none⟩) (QP + 1) c5')) by
              have hQ := unhide HQ
              subst hQ
              rw [← hvm] at h2 h3
              exact hkh.marked ⟨by decide, by decide, by decide, by have := unhide HN; omega⟩ h1 (grown_boxed2 h2) (h3.imp id (fun e => by omega))))
            clear hvm hkh
            go_wp2_with fail
            go_region_law ((refine step_append_lies _ (by rfl) (.tmp 127) (.tmp 133) 22 (by rfl) 0 3 iI (.int .i64 0) 1 8 Tryz.underlying22 hiI hiI0 hiI1 hiI2 rfl (by decide) (.slice amP QP cmP) QP (lp.map fun t => .int .i64 t.m) (by rfl) (by exact (unhide HOWN2).alloc _) ⟨wcP.heap.size, 0, none⟩ 1 1 [.int .i64 (-(s.m + 1))] (by rfl) rfl (by exact World.news_of_block (heap_alloc_new wcP _)) (by intro u hu; simp at hu; subst hu; rfl) (by decide) (by unfold maxLen; omega) (by omega) (by simp) (wcP.heap.size + 1) (by simp) ?_; intro g6P c6P w6 hown6 hg6 hat6 hlt6; have p1 : w6.cell? ⟨Bk, 12, none⟩ = some (.slice amP QP cmP) := (hg6.cell (by exact unhide K2 _) (Ne.symm (unhide NB2))); have p2 : w6.frozen? ⟨Bk, 12, none⟩ = false := (by rw [hg6.frozen_far _ (by simp; omega) (Ne.symm (unhide NB2))]; exact unhide FK2 _); have R2 := hide (unhide HKM w6 _ g6P c6P hown6 hg6 hat6); clear hown6 hg6 hat6))
            all_goals
              have hkm := unhide R2
              clear R2 HKM K2 FK2 NB2 HOWN2 k0 k2 fk2 hsz2 p1 p2 hlt6 HQ
              generalize w6.setCell ⟨Bk, 12, none⟩ (.slice (some ⟨g6P, 0, none⟩) (QP + 1) c6P) = wdP at *
              have hlsP := hkm.once lenP ⟨by decide, by decide, by decide, by have := unhide HN; omega⟩ rfl rfl (unhide HB).pfx.small (by omega)
              have hT4 := hkm.turn
              have hT34 := ((unhide HT3).mono (D := fun x => x = 1 ∨ 26 ≤ x ∧ x ≤ 29 ∨ x = N ∨ x = N + 1) (fun x hx => by omega)).trans (hT4.mono (fun x hx => by omega))
              have hTall := ((unhide HT12).mono (D := fun x => x = 1 ∨ 26 ≤ x ∧ x ≤ 29 ∨ x = N ∨ x = N + 1) (fun x hx => by omega)).trans hT34
              have hNN := unhide HN
              have oth : ∀ {κ : Kd} {a b : Nat} {v vm : Value} {l : List Itm}, 1 < a → a < 26 → 1 < b → b < 26 → KeptC κ col0 a b (keptBut N) Wb v vm l → KeptC κ _ a b (keptBut (N + 2)) wdP v vm l := fun h1 h2 h3 h4 h => (h.turn hTall (by omega) (by omega) (fun x hx => by have := hx.1; have := hx.2; omega)).mono (fun k _ hk => ⟨hk.1, by have := hk.2; omega⟩)
              have hfin : RetK N col w Bk s le lr lO li.length lp.length wdP := ⟨_, li ++ [⟨some ⟨gc, 0, none⟩, nc + 3, kc, -(s.m + 1)⟩], lp ++ [⟨some ⟨go, 0, none⟩, no + 3, ko, -(s.m + 1)⟩], _, (⟨hkm.lies, hkm.hue, (unhide HB).lent, (unhide HB).was, oth (by decide) (by decide) (by decide) (by decide) (unhide HB).ent, oth (by decide) (by decide) (by decide) (by decide) (unhide HB).rou, oth (by decide) (by decide) (by decide) (by decide) (unhide HB).out, ((unhide HLSI).turn hT4 (by omega) (by omega) (fun x hx => by have := hx.1; have := hx.2; omega)).mono (fun k _ hk => ⟨hk.1, by have := hk.2; omega⟩), hlsP⟩ : BookC (keptBut (N + 2)) _ wdP Bk ({ s with m := s.m + 1, i := .slice (some ⟨g5I, 0, none⟩) (QI + 1) c5I, im := .slice (some ⟨g6I, 0, none⟩) (QI + 1) c6I, p := .slice (some ⟨g5P, 0, none⟩) (QP + 1) c5P, pm := .slice (some ⟨g6P, 0, none⟩) (QP + 1) c6P } : Bks) le lr lO _ _), rfl, by simp, by simp, ((unhide HT0).mono (fun _ h => h.elim)).trans hTall⟩
              have HFIN := hide hfin
              clear hlsP hT4 hT34 hTall oth hkm hfin
              go_wp2
              go_ret
              exact ⟨rfl, unhide HFIN⟩

end Go.Proofs.YtdnpeefnobjfaaaGreatDoor
