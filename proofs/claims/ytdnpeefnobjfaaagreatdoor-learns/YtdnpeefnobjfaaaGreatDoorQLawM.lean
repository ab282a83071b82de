/- milepostlaw's more: a pair of routers more, if it may be. -/
import Derived.Test.YtdnpeefnobjfaaaGreatDoorQLawCM
import Derived.Test.YtdnpeefnobjfaaaGreatDoorQConfM
import Derived.Test.YtdnpeefnobjfaaaGreatDoorQNewM
import Derived.Deep.RegionHeld3
namespace Go.Proofs.YtdnpeefnobjfaaaGreatDoor
open Go.RowKit Go.Shelf
attribute [local go_sem ↓] Go.wp_at_zero Go.wp_at_succ

/-- Colours behind config: the two lists have their own. -/
def confCol (col : Col) (n gc go N : Nat) : Col := fun k => if k < n then col k else if k = gc then N else if k = go then N + 1 else 0
theorem confCol_turn {col : Col} {gc go N : Nat} {w w' : World} (h : Below w.heap.size w w') : Turns (fun _ => False) col (confCol col w.heap.size gc go N) w w' :=
  ⟨h.os, h.tape, h.output, h.size, fun k hk _ => h.block k hk, fun _ hk => if_pos hk⟩
theorem row_num {w : World} {B g n cap : Nat} {lc : List Int} {rest : List Int} (h : w.ownsRow B 3 1 (.slice (some ⟨g, 0, none⟩) n cap) n (numList (lc ++ rest))) : numSlice w (some ⟨g, 0, none⟩) lc := by
  refine .inr ⟨g, 0, rfl, fun k hk => ?_⟩
  have hx : (numList (lc ++ rest))[k]? = some (.int .i64 lc[k]) := by
    rw [numList, List.map_append, List.getElem?_append_left (by simpa using hk), List.getElem?_map, List.getElem?_eq_getElem hk]
    rfl
  have := owned_cells h k _ hx
  rwa [Addr.add_lit] at this
theorem row_pf {w : World} {B g n cap : Nat} {lo rest : List Pf} (h : w.ownsRow B 32 2 (.slice (some ⟨g, 0, none⟩) n cap) n (pfList (lo ++ rest))) : pfSlice w (some ⟨g, 0, none⟩) lo := by
  refine .inr ⟨g, 0, rfl, fun k hk => ?_⟩
  obtain ⟨q0, q1⟩ := pfList_at lo k hk
  have hl : k * 2 + 1 < (pfList lo).length := by rw [pfList_length]; omega
  have h0 := owned_cells h (k * 2) _ ((by rw [pfList_append, List.getElem?_append_left (by omega)]; exact q0 : (pfList (lo ++ rest))[k * 2]? = _))
  have h1 := owned_cells h (k * 2 + 1) _ ((by rw [pfList_append, List.getElem?_append_left hl]; exact q1 : (pfList (lo ++ rest))[k * 2 + 1]? = _))
  rw [Addr.add_lit] at h0 h1
  refine ⟨h0, ?_⟩
  rw [Nat.add_assoc]
  exact h1
theorem newRef_good {w w' : World} {lc : List Int} {lo : List Pf} {e : Ending} (hg : (costsB lc && ownB lo) = true) (h : newRefIs w lc lo e w') : ∃ (Q : Nat) (cv lv : Value) (Ls : List Pf), e = .returned (.pointer (some ⟨Q, 0, none⟩)) ∧ RefAt w' w.heap.size Q lc (Ls.map ownRw) cv lv ∧ Ls.Perm lo ∧ Ls.Pairwise pfLt ∧ Below w.heap.size w w' := by
  rcases h with ⟨hb, _⟩ | ⟨_, h⟩
  · rw [hg] at hb; cases hb
  · exact h
theorem newRef_none {w w' : World} {lc : List Int} {lo : List Pf} {e : Ending} (hg : (costsB lc && ownB lo) = false) (h : newRefIs w lc lo e w') : e = .returned (.pointer none) ∧ Below w.heap.size w w' := by
  rcases h with ⟨_, h⟩ | ⟨hb, _⟩
  · exact h
  · rw [hg] at hb; cases hb
theorem costs_in {lc : List Int} (h : costsB lc = true) : ∀ c ∈ lc, 1 ≤ c ∧ c ≤ 15 := fun c hc => by
  simp [costsB, noCost] at h
  have := h.2 c hc
  omega
theorem RtrC.new {col : Col} {c n : Nat} {w : World} {R V : Nat} {costs : List Int} {L : List Rw} {cv rv : Value} (h : RouterAt w n R costs L V cv rv) : RtrC (paint col n c) c w R costs L V cv rv :=
  ⟨⟨h.blk, paint_new h.new.1⟩, ⟨h.view, paint_new h.new.2⟩, OwnC.new h.costs, OwnC.new h.rows⟩
theorem RefC.new {col : Col} {c n : Nat} {w : World} {Q : Nat} {costs : List Int} {L : List Rw} {cv lv : Value} (h : RefAt w n Q costs L cv lv) : RefC (paint col n c) c w Q costs L cv lv :=
  ⟨⟨h.blk, paint_new h.new⟩, OwnC.new h.costs, OwnC.new h.rows⟩
theorem Tryz.info97 : (Tryz.prog.info? 97).map (fun i => (i.zero, i.size, i.bytes)) = some (some (.agg #[.pointer none, .pointer none]), 2, 16) := by kernel_rfl
/-- append onto the law's pairs, and its cell written. -/
theorem wd_append {col : Col} {w w5 : World} {Wd q e sz n g c5 : Nat} {t : TypeId} {A : Array Value} {v : Value} {xs ys : List Value} (hA : Blk w Wd A t) (hB : col Wd = 2) (hv : OwnC col 3 w e sz v n xs) (hown : w5.ownsRow 0 e sz (.slice (some ⟨g, 0, none⟩) (n + 1) c5) (n + 1) ys) (hg : w.grownBy w5 v.ownBlock) (hat : v.ownBlock = some g ∨ w.heap.size ≤ g) :
    Blk (w5.setCell ⟨Wd, q, none⟩ (.slice (some ⟨g, 0, none⟩) (n + 1) c5)) Wd (A.setIfInBounds q (.slice (some ⟨g, 0, none⟩) (n + 1) c5)) t ∧
    OwnC (paint col w.heap.size 3) 3 (w5.setCell ⟨Wd, q, none⟩ (.slice (some ⟨g, 0, none⟩) (n + 1) c5)) e sz (.slice (some ⟨g, 0, none⟩) (n + 1) c5) (n + 1) ys ∧
    Turns (fun x => x = 2 ∨ x = 3) col (paint col w.heap.size 3) w (w5.setCell ⟨Wd, q, none⟩ (.slice (some ⟨g, 0, none⟩) (n + 1) c5)) := by
  have hlt : Wd < w.heap.size := hA.lt
  have hne : v.ownBlock ≠ some Wd := fun h => absurd ((hv.2 Wd h).symm.trans hB) (by decide)
  have h5 : Blk w5 Wd A t := (hg.block Wd hlt (fun h => hne h.symm)).trans hA
  have hgc : paint col w.heap.size 3 g = 3 ∧ g ≠ Wd := by
    rcases hat with h | h
    · have hgl := (ownsRow_from hv.1 g h).2
      have hcg := hv.2 g h
      exact ⟨(paint_old hgl).trans hcg, fun e => by subst e; exact absurd (hcg.symm.trans hB) (by decide)⟩
    · exact ⟨paint_new h, by omega⟩
  refine ⟨h5.set q _, ⟨ownsRow_keep hown (fun k hk => ?_), fun k hk => ?_⟩, ⟨hg.os, hg.tape, hg.output, by simp [World.setCell]; exact hg.size, fun k hk hc => ?_, fun k hk => paint_old hk⟩⟩
  · simp [Value.ownBlock] at hk
    subst hk
    exact Below.heap_setCell _ _ _ _ hgc.2
  · simp [Value.ownBlock] at hk
    subst hk
    exact hgc.1
  · have hkB : k ≠ Wd := fun e => hc (.inl (by rw [e]; exact hB))
    exact (Below.heap_setCell _ _ _ _ hkB).trans (hg.block k hk (fun e => hc (.inr (hv.2 k e.symm))))
/-- What more leaves. -/
def Mored (col : Col) (w : World) (Wd Bk : Nat) (ps : List Pr) (q : Nat) (m : Int) (nr no ni np : Nat) (w' : World) : Prop := ∃ col' ps', LawC col' w' Wd Bk ps' (m + 1) nr no (ni + 1) (np + 1) ∧ ps'.length = ps.length + q ∧ Turns (· ≠ 0) col col' w w'
/-- Behind config. -/
structure ConfS (w W : World) (D X gc kc go ko : Nat) (ac ao : Option Addr) (cc co : Nat) (lc : List Int) (lo : List Pf) : Prop where
  d : Blk W D #[.slice (some ⟨gc, 0, none⟩) lc.length kc, .slice (some ⟨go, 0, none⟩) lo.length ko] 25
  x : Blk W X #[.slice ac lc.length cc, .slice ao lo.length co] 25
  rc : W.ownsRow w.heap.size 3 1 (.slice (some ⟨gc, 0, none⟩) (lc.length + 3) kc) (lc.length + 3) (numList (lc ++ [77, 77, 77]))
  ro : W.ownsRow w.heap.size 32 2 (.slice (some ⟨go, 0, none⟩) (lo.length + 3) ko) (lo.length + 3) (pfList (lo ++ [⟨0, 77⟩, ⟨0, 77⟩, ⟨0, 77⟩]))
  ne : gc ≠ go
  below : Below w.heap.size w W
  xge : w.heap.size ≤ X
  xlt : X ≠ gc ∧ X ≠ go

set_option maxRecDepth 100000 in
set_option maxHeartbeats 8000000 in
theorem moreGood {Wd Bk cc co : Nat} {ac ao : Option Addr} {lc : List Int} {lo : List Pf} {ps : List Pr} {m : Int} {nr no ni np : Nat} {col : Col} {w : World} (h : LawC col w Wd Bk ps m nr no ni np) (h4 : ps.length ≤ 4) (hsc : numC col w ac lc) (hso : pfC col w ao lo) (hok : pfsOk lo) (bc : lc.length * 8 ≤ 140737488351232) (bo : lo.length * 16 ≤ 140737488351232) (hm0 : 0 ≤ m) (hm1 : m ≤ 100000000000000000) (hni : ni ≤ 1000) (hnp : np ≤ 1000) (hgood : (costsB lc && ownB lo) = true) :
    Calls Tryz.prog 28 #[.pointer (some ⟨Wd, 0, none⟩), .agg #[.slice ac lc.length cc, .slice ao lo.length co]] w fun e w' => e = .returned (.bool true) ∧ Mored col w Wd Bk ps 1 m nr no ni np w' := by
  obtain ⟨N, hN, hfr⟩ := fresh_colour col w.heap.size
  obtain ⟨pv, hwd, hpv⟩ := h.wd
  obtain ⟨ap, cp, rfl⟩ := ownsRow_slice hpv.1
  obtain ⟨W0, hW0⟩ : ∃ W, W = w.alloc (.cells #[.slice ac lc.length cc, .slice ao lo.length co] 25) := ⟨_, rfl⟩
  have bX : Blk W0 w.heap.size #[.slice ac lc.length cc, .slice ao lo.length co] 25 := by rw [hW0]; exact Blk.new w _ _
  have hb0 : Below w.heap.size w W0 := by rw [hW0]; exact below_new _ _
  have hsz : W0.heap.size = w.heap.size + 1 := by rw [hW0]; simp
  have c0 : W0.drew.cell? ⟨Wd, 0, none⟩ = some (.pointer (some ⟨Bk, 0, none⟩)) := (hb0.cell (p := ⟨Wd, 0, none⟩) hwd.1.lt).trans ((hwd.1.cell 0).trans rfl)
  have x0 : W0.drew.cell? ⟨w.heap.size, 0, none⟩ = some (.slice ac lc.length cc) := (bX.cell 0).trans rfl
  have x1 : W0.drew.cell? ⟨w.heap.size, 1, none⟩ = some (.slice ao lo.length co) := (bX.cell 1).trans rfl
  have HC := hide (fun (W : World) (hb : Below W0.drew.heap.size W0.drew W) => config_any Bk cc co ac ao lc lo W bc bo (numSlice_below (w := W0.drew) (numSlice_below hsc.slice hb0.drew) hb) (pfSlice_below (w := W0.drew) (pfSlice_below hso.slice hb0.drew) hb))
  have HSZ := hide hsz
  have HBX := hide bX
  have HB0 := hide hb0
  have HLAW := hide h
  have HSC := hide hsc
  have HSO := hide hso
  have HWD := hide hwd
  have HPV := hide hpv
  have HFR := hide hfr
  have l1 : Wd < W0.heap.size := by have := hwd.1.lt; omega
  have l2 : w.heap.size < W0.heap.size := by omega
  obtain ⟨X, hX⟩ : ∃ X, X = w.heap.size := ⟨_, rfl⟩
  rw [← hX] at x0 x1 l2
  clear h hsc hso hwd hpv hfr bX hb0 hsz
  go_enter Tryz.func28, Tryz.ntmps28
  go_wp2_with fail
  rw [← hW0, ← hX]
  have HX := hide hX
  clear hW0 hX
  have hz := below_new W0 (.cells #[.slice none 0 0, .slice none 0 0] 25)
  have m0 : (W0.alloc (.cells #[.slice none 0 0, .slice none 0 0] 25)).drew.cell? ⟨Wd, 0, none⟩ = some (.pointer (some ⟨Bk, 0, none⟩)) := (hz.cell (p := ⟨Wd, 0, none⟩) l1).trans c0
  have m1 : (W0.alloc (.cells #[.slice none 0 0, .slice none 0 0] 25)).drew.cell? ⟨X, 0, none⟩ = some (.slice ac lc.length cc) := (hz.cell (p := ⟨X, 0, none⟩) l2).trans x0
  have m2 : (W0.alloc (.cells #[.slice none 0 0, .slice none 0 0] 25)).drew.cell? ⟨X, 1, none⟩ = some (.slice ao lo.length co) := (hz.cell (p := ⟨X, 1, none⟩) l2).trans x1
  have n1 : Wd ≠ W0.heap.size := by omega
  have n2 : X ≠ W0.heap.size := by omega
  have bZ := hide (show Blk (W0.alloc (.cells #[.slice none 0 0, .slice none 0 0] 25)).drew W0.heap.size #[.slice none 0 0, .slice none 0 0] 25 from Blk.new W0 _ _)
  have hzd : Below W0.drew.heap.size W0.drew (W0.alloc (.cells #[.slice none 0 0, .slice none 0 0] 25)).drew := ⟨hz.os, hz.tape, hz.output, hz.size, hz.block⟩
  clear hz
  go_region_held3 (fun w' => w'.cell? ⟨Wd, 0, none⟩ = some (.pointer (some ⟨Bk, 0, none⟩)) ∧ w'.cell? ⟨X, 0, none⟩ = some (.slice ac lc.length cc) ∧ w'.cell? ⟨X, 1, none⟩ = some (.slice ao lo.length co))
    (first | exact ⟨c0, x0, x1⟩ | exact ⟨m0, m1, m2⟩ | exact ⟨k0, k1, k2⟩ | exact ⟨((below_new w1 _).cell (p := ⟨Wd, 0, none⟩) (World.block_lt_of_cell? w1 _ k0)).trans k0, ((below_new w1 _).cell (p := ⟨X, 0, none⟩) (World.block_lt_of_cell? w1 _ k1)).trans k1, ((below_new w1 _).cell (p := ⟨X, 1, none⟩) (World.block_lt_of_cell? w1 _ k2)).trans k2⟩ | exact ⟨(cell_set2 _ n1 _ _ _ _ _).trans k0, (cell_set2 _ n2 _ _ _ _ _).trans k1, (cell_set2 _ n2 _ _ _ _ _).trans k2⟩)
    (first | (go_at_call 61; refine (unhide HC W0.drew (Below.refl _ _)).mono ?_; rintro e w1 ⟨gc, kc, go, ko, rfl, rc, ro, hne, hb1⟩; have hB1 : Below W0.drew.heap.size W0.drew w1 := hb1; have k0 := (hB1.cell (p := ⟨Wd, 0, none⟩) (show Wd < W0.heap.size from l1)).trans c0; have k1 := (hB1.cell (p := ⟨X, 0, none⟩) (show X < W0.heap.size from l2)).trans x0; have k2 := (hB1.cell (p := ⟨X, 1, none⟩) (show X < W0.heap.size from l2)).trans x1; have HRC := hide rc; have HRO := hide ro; have HNE := hide hne; have HB1 := hide hb1; have HBB := hide hB1; clear rc ro hne hb1 hB1) | (go_at_call 61; refine (unhide HC (W0.alloc (.cells #[.slice none 0 0, .slice none 0 0] 25)).drew hzd).mono ?_; rintro e w1 ⟨gc, kc, go, ko, rfl, rc, ro, hne, hb1⟩; have hB1 : Below W0.drew.heap.size W0.drew w1 := below_seq hzd hb1; have k0 := (hB1.cell (p := ⟨Wd, 0, none⟩) (show Wd < W0.heap.size from l1)).trans c0; have k1 := (hB1.cell (p := ⟨X, 0, none⟩) (show X < W0.heap.size from l2)).trans x0; have k2 := (hB1.cell (p := ⟨X, 1, none⟩) (show X < W0.heap.size from l2)).trans x1; have bz := (unhide bZ).below hb1 (unhide bZ).lt; have s0 := (bz.cell 0).trans (show _ = some (.slice none 0 0) from rfl); have s1 := (bz.cell 1).trans (show _ = some (.slice none 0 0) from rfl); have f0 := bz.frozen 0; have f1 := bz.frozen 1; have HZ := hide bz; clear bz; have HRC := hide rc; have HRO := hide ro; have HNE := hide hne; have HB1 := hide hb1; have HBB := hide hB1; clear rc ro hne hb1 hB1))
  · obtain ⟨W1, hW1⟩ : ∃ W, W = w1.alloc (.cells #[.slice (some ⟨gc, 0, none⟩) lc.length kc, .slice (some ⟨go, 0, none⟩) lo.length ko] 25) := ⟨_, rfl⟩
    obtain ⟨D, hD⟩ : ∃ D, D = w1.heap.size := ⟨_, rfl⟩
    have hcs : ConfS w W1 D X gc kc go ko ac ao cc co lc lo := by
      have hsz := unhide HSZ
      have hX := unhide HX
      have rc := unhide HRC
      have ro := unhide HRO
      have hgc := (ownsRow_from rc gc rfl)
      have hgo := (ownsRow_from ro go rfl)
      have hsd : W0.drew.heap.size = W0.heap.size := rfl
      have hBB := unhide HBB
      have hb01 : Below w.heap.size w w1 := below_seq (unhide HB0).drew hBB
      rw [hW1, hD]
      exact ⟨Blk.new w1 _ _, (Blk.below (show Blk W0.drew X _ _ by rw [hX]; exact unhide HBX) hBB l2).alloc _, (ownsRow_mono rc (by omega)).alloc _, (ownsRow_mono ro (by omega)).alloc _, unhide HNE, below_seq hb01 (below_new w1 _), by omega, ⟨by omega, by omega⟩⟩
    rw [← hW1, ← hD]
    clear hW1 hD HRC HRO HNE HB1 HBB k0 k1 k2
    have d0 := (hcs.d.cell 0).trans (show _ = some (.slice (some ⟨gc, 0, none⟩) lc.length kc) from rfl)
    have d1 := (hcs.d.cell 1).trans (show _ = some (.slice (some ⟨go, 0, none⟩) lo.length ko) from rfl)
    have HCS := hide hcs
    clear c0 x0 x1 m0 m1 m2 n1 n2 bZ hzd HC HBX HB0 HSZ
    obtain ⟨colA, hcA⟩ : ∃ c, c = confCol col w.heap.size gc go N := ⟨_, rfl⟩
    have T1 : Turns (fun _ => False) col colA w W1 := by rw [hcA]; exact confCol_turn hcs.below
    have oc : OwnC colA N W1 3 1 (.slice (some ⟨gc, 0, none⟩) (lc.length + 3) kc) (lc.length + 3) (numList (lc ++ [77, 77, 77])) := ⟨ownsRow_mono hcs.rc (Nat.zero_le _), fun k hk => by
      have hge := (ownsRow_from hcs.rc k hk).1
      simp [Value.ownBlock] at hk
      subst hk
      rw [hcA, confCol, if_neg (by omega), if_pos rfl]⟩
    have oo : OwnC colA (N + 1) W1 32 2 (.slice (some ⟨go, 0, none⟩) (lo.length + 3) ko) (lo.length + 3) (pfList (lo ++ [⟨0, 77⟩, ⟨0, 77⟩, ⟨0, 77⟩])) := ⟨ownsRow_mono hcs.ro (Nat.zero_le _), fun k hk => by
      have hge := (ownsRow_from hcs.ro k hk).1
      simp [Value.ownBlock] at hk
      subst hk
      rw [hcA, confCol, if_neg (by omega), if_neg (Ne.symm hcs.ne), if_pos rfl]⟩
    have bx : BlkC colA 0 W1 X #[.slice ac lc.length cc, .slice ao lo.length co] 25 := ⟨hcs.x, by
      have h1 := hcs.xge
      rw [hcA, confCol, if_neg (by omega), if_neg hcs.xlt.1, if_neg hcs.xlt.2]⟩
    have HSC1 := hide ((unhide HSC).turn T1 id)
    have HSO1 := hide ((unhide HSO).turn T1 id)
    have HT1 := hide T1
    have HOC := hide oc
    have HOO := hide oo
    have HBX1 := hide bx
    clear hcA T1 oc oo bx
    have hn := new_good (some ⟨gc, 0, none⟩) (some ⟨go, 0, none⟩) kc ko lc lo W1 hgood hok (by have := (ownsRow_cap hcs.ro).1; omega) (by simp) (row_num hcs.rc) (row_pf hcs.ro)
    clear hcs
    go_wp2_with (first | (go_at_call 11; refine hn.mono ?_; rintro e w2 ⟨R, V, cv, rv, Ls, rfl, hR, hperm, hsort, hb2⟩; have T2 : Turns (fun _ => False) colA (paint colA W1.heap.size (10 + 2 * ps.length)) W1 w2 := Turns.below _ hb2; have rt := RtrC.new (col := colA) (c := 10 + 2 * ps.length) hR; generalize paint colA W1.heap.size (10 + 2 * ps.length) = col2 at *; have bx2 := (unhide HBX1).turn T2 id; have x0 := (bx2.1.cell 0).trans (show _ = some (.slice ac lc.length cc) from rfl); have x1 := (bx2.1.cell 1).trans (show _ = some (.slice ao lo.length co) from rfl); have hn2 := newRef_any ac ao cc co lc lo w2 hok ((unhide HSC1).turn T2 id).slice ((unhide HSO1).turn T2 id).slice; have HT2 := hide T2; have HRT := hide rt; have HPERM := hide hperm; have HSORT := hide hsort; clear hn hR hperm hsort hb2 T2 rt bx2 d0 d1) | (go_at_call 62; refine hn2.mono ?_; rintro e w3 hr3; obtain ⟨Q, cv', lv, Ls', rfl, hQ, hperm', hsort', hb3⟩ := newRef_good hgood hr3; have T3 : Turns (fun _ => False) col2 (paint col2 w2.heap.size (11 + 2 * ps.length)) w2 w3 := Turns.below _ hb3; have rf := RefC.new (col := col2) (c := 11 + 2 * ps.length) hQ; generalize paint col2 w2.heap.size (11 + 2 * ps.length) = col3 at *; have HT3 := hide T3; have HRF := hide rf; have HPERM' := hide hperm'; have HSORT' := hide hsort'; clear hn2 hr3 hQ hperm' hsort' hb3 T3 rf x0 x1))
    have T33 : Turns (fun _ => False) col3 col3 w3 w3.drew := ⟨rfl, rfl, rfl, Nat.le_refl _, fun _ _ _ => rfl, fun _ _ => rfl⟩
    have T23 := ((unhide HT2).trans (unhide HT3)).trans T33
    have T13 := (unhide HT1).trans T23
    obtain ⟨sb, le, lr, lO, li, lp, hB, e1, e2, e3, e4, e5⟩ := (unhide HLAW).bk
    have hRet := returned_any (cc := cc) (co := co) ((hB.mono (J := keptBut N) (fun k hk hx => ⟨hx, unhide HFR k hk⟩)).turn T13 id (fun _ _ _ => id) (fun _ _ => id)) ((unhide HOC).turn T23 id) ((unhide HOO).turn T23 id) ((unhide HSC1).turn T23 id) ((unhide HSO1).turn T23 id) hN (by omega) (by omega) (by omega) (by omega)
    have wd3 := (unhide HWD).turn T13 id
    have bx3 := (unhide HBX1).turn T23 id
    have z0 := (wd3.1.cell 0).trans (show _ = some (.pointer (some ⟨Bk, 0, none⟩)) from rfl)
    have y0 := (bx3.1.cell 0).trans (show _ = some (.slice ac lc.length cc) from rfl)
    have y1 := (bx3.1.cell 1).trans (show _ = some (.slice ao lo.length co) from rfl)
    have HT13 := hide T13
    have HWD3 := hide wd3
    have HBX3 := hide bx3
    have E1 := hide e1
    have E2 := hide e2
    have E3 := hide e3
    have E4 := hide e4
    have E5 := hide e5
    clear T33 T23 T13 hB wd3 bx3 e1 e2 e3 e4 e5
    go_region_held3 (fun w' => w'.cell? ⟨Wd, 0, none⟩ = some (.pointer (some ⟨Bk, 0, none⟩)) ∧ w'.cell? ⟨X, 0, none⟩ = some (.slice ac lc.length cc) ∧ w'.cell? ⟨X, 1, none⟩ = some (.slice ao lo.length co))
      (first | exact ⟨z0, y0, y1⟩ | exact ⟨z4, y4, y5⟩)
      (first | (go_at_call 63; refine hRet.mono ?_; rintro e w4 ⟨rfl, ⟨s4, li4, lp4, col4, B4, q1, q2, q3, T4⟩⟩; have wd4 := (unhide HWD3).turn T4 (by omega); have bx4 := (unhide HBX3).turn T4 (by omega); have z4 := (wd4.1.cell 0).trans (show _ = some (.pointer (some ⟨Bk, 0, none⟩)) from rfl); have y4 := (bx4.1.cell 0).trans (show _ = some (.slice ac lc.length cc) from rfl); have y5 := (bx4.1.cell 1).trans (show _ = some (.slice ao lo.length co) from rfl); have HB4 := hide B4; have Q1 := hide q1; have Q2 := hide q2; have Q3 := hide q3; have HT4 := hide T4; have HWD4 := hide wd4; clear B4 q1 q2 q3 T4 bx4 wd4 hRet))
    all_goals
      obtain ⟨iP, hiP, hP0, hP1, hP2⟩ := info_parts Tryz.info97
      have T4 := unhide HT4
      have wd4 := unhide HWD4
      have pv4 := ((unhide HPV).turn (unhide HT13) id).turn T4 (by omega)
      have w1 := (wd4.1.cell 1).trans (show _ = some (.slice ap ps.length cp) from rfl)
      have f1 := wd4.1.frozen 1
      have hsz4 : Wd < w4.heap.size := wd4.1.lt
      have NB : Hid ((Value.slice ap ps.length cp).ownBlock ≠ some Wd) := fun h => absurd ((pv4.2 Wd h).symm.trans wd4.2) (by decide)
      have HOWN := hide pv4.1
      have HAPP := hide (fun (w5 : World) (o : Obj) (g5 c5 : Nat) (h1 : w5.ownsRow 0 97 2 (.slice (some ⟨g5, 0, none⟩) (ps.length + 1) c5) (ps.length + 1) (prCells ps ++ [.pointer (some ⟨R, 0, none⟩), .pointer (some ⟨Q, 0, none⟩)])) (h2 : (w4.alloc o).grownBy w5 (Value.slice ap ps.length cp).ownBlock) (h3 : (Value.slice ap ps.length cp).ownBlock = some g5 ∨ g5 = w4.heap.size + 1) => wd_append (q := 1) wd4.1 wd4.2 pv4 h1 (grown_of_alloc2 h2) (h3.imp id (fun e => by omega)))
      clear T4 wd4 pv4 z0 y0 y1 z4 y4 y5
      go_wp2_with (at_builtin; refine wpList_append_lies _ rfl (.tmp 65) (.tmp 69) 85 rfl 0 97 iP (.agg #[.pointer none, .pointer none]) 2 16 Tryz.underlying85 hiP hP0 hP1 hP2 rfl (by decide) (.slice ap ps.length cp) ps.length (prCells ps) rfl (by exact (unhide HOWN).alloc _) ⟨w4.heap.size, 0, none⟩ 1 1 [.pointer (some ⟨R, 0, none⟩), .pointer (some ⟨Q, 0, none⟩)] rfl rfl (by exact World.news_of_block (heap_alloc_new w4 _)) (by intro u hu; simp at hu; rcases hu with rfl | rfl <;> rfl) (by decide) (by unfold maxLen; omega) (by omega) (by simp) (w4.heap.size + 1) (by simp) ?_; intro g5 c5 w5 hown5 hg5 hat5 hlt5; have p1 : w5.cell? ⟨Wd, 1, none⟩ = some (.slice ap ps.length cp) := (hg5.cell (by exact ((below_new w4 _).cell (p := ⟨Wd, 1, none⟩) hsz4).trans w1) (Ne.symm (unhide NB))); have p2 : w5.frozen? ⟨Wd, 1, none⟩ = false := (by rw [hg5.frozen_far _ (by simp; omega) (Ne.symm (unhide NB))]; exact ((below_new w4 _).frozen (p := ⟨Wd, 1, none⟩) hsz4).trans f1); have R1 := hide (unhide HAPP w5 _ g5 c5 hown5 hg5 hat5); clear hown5 hg5 hat5)
      go_ret
      obtain ⟨b1, b2, T5⟩ := unhide R1
      have hlaw := unhide HLAW
      have T4 := unhide HT4
      have T13 := unhide HT13
      have T45 := (T4.mono (D := fun x => x = 1 ∨ 26 ≤ x ∧ x ≤ 29 ∨ x = N ∨ x = N + 1 ∨ x = 2 ∨ x = 3) (fun x hx => by omega)).trans (T5.mono (fun x hx => by omega))
      have hLs : Ls = Ls' := sorted_same (unhide HSORT) (unhide HSORT') ((unhide HPERM).trans (unhide HPERM').symm)
      have hcb : costsB lc = true ∧ ownB lo = true := by simpa using hgood
      have htab : TabOk (Ls'.map ownRw) := begins_ok hcb.2 hok (unhide HPERM') (unhide HSORT')
      have hrt := ((unhide HRT).turn ((unhide HT3).trans (⟨rfl, rfl, rfl, Nat.le_refl _, fun _ _ _ => rfl, fun _ _ => rfl⟩ : Turns (fun _ => False) col3 col3 w3 w3.drew)) id).turn T45 (by omega)
      rw [hLs] at hrt
      have hrf := ((unhide HRF).turn (⟨rfl, rfl, rfl, Nat.le_refl _, fun _ _ _ => rfl, fun _ _ => rfl⟩ : Turns (fun _ => False) col3 col3 w3 w3.drew) id).turn T45 (by omega)
      refine ⟨rfl, _, ps ++ [⟨R, Q, lc, Ls'.map ownRw⟩], ⟨⟨_, ⟨b1, (T5.hue Wd (unhide HWD4).1.lt).trans (unhide HWD4).2⟩, ?_⟩, fun j hj => ?_, ⟨s4, le, lr, lO, li4, lp4, ((unhide HB4).turn T5 (by omega) (fun x _ _ => by omega) (fun x hx => by have := hx.1; omega)).mono (fun k _ hk => hk.1), ?_, unhide E2, unhide E3, ?_, ?_⟩, (hlaw.et.turn T13 id).turn T45 ?_, ?_, ?_⟩, by simp, ?_⟩
      · rw [List.length_append, prCells_snoc]
        exact b2
      · by_cases hjl : j < ps.length
        · rw [List.getElem_append_left hjl]
          exact ((hlaw.each j hjl).turn T13 id id).turn T45 (by omega) (by omega)
        · have hje : j = ps.length := by simp at hj; omega
          subst hje
          simp only [List.getElem_concat_length]
          exact ⟨V, cv, rv, cv', lv, hrt, hrf, htab, costs_in hcb.1⟩
      · have := unhide Q1; have := unhide E1; omega
      · have := unhide Q2; have := unhide E4; omega
      · have := unhide Q3; have := unhide E5; omega
      · rw [T13.hue 0 (World.block_lt_of_cell? w _ hlaw.et), hlaw.e0]; omega
      · exact ((T45.hue 0 (Nat.lt_of_lt_of_le (World.block_lt_of_cell? w _ hlaw.et) T13.size)).trans (T13.hue 0 (World.block_lt_of_cell? w _ hlaw.et))).trans hlaw.e0
      · simp; omega
      · exact (T13.mono (fun _ h => h.elim)).trans (T45.mono (fun x hx => by omega))
  · obtain ⟨W1, hW1⟩ : ∃ W, W = ((w1.setCell ⟨W0.heap.size, 0, none⟩ (.slice (some ⟨gc, 0, none⟩) lc.length kc)).setCell ⟨W0.heap.size, 1, none⟩ (.slice (some ⟨go, 0, none⟩) lo.length ko)) := ⟨_, rfl⟩
    obtain ⟨D, hD⟩ : ∃ D, D = W0.heap.size := ⟨_, rfl⟩
    have hcs : ConfS w W1 D X gc kc go ko ac ao cc co lc lo := by
      have hsz := unhide HSZ
      have hX := unhide HX
      have rc := unhide HRC
      have ro := unhide HRO
      have hszZ : (W0.alloc (.cells #[.slice none 0 0, .slice none 0 0] 25)).drew.heap.size = W0.heap.size + 1 := by simp
      have hgc := (ownsRow_from rc gc rfl)
      have hgo := (ownsRow_from ro go rfl)
      have hBB := unhide HBB
      have hb01 : Below w.heap.size w w1 := below_seq (unhide HB0).drew hBB
      have hother : ∀ k, k ≠ W0.heap.size → W1.heap[k]? = w1.heap[k]? := fun k hk => by
        rw [hW1]
        exact (Below.heap_setCell _ _ _ _ hk).trans (Below.heap_setCell _ _ _ _ hk)
      refine ⟨?_, ?_, ?_, ?_, unhide HNE, ?_, by omega, ⟨by omega, by omega⟩⟩
      · rw [hW1, hD]
        exact ((unhide HZ).set 0 _).set 1 _
      · exact (hother X n2).trans (Blk.below (show Blk W0.drew X _ _ by rw [hX]; exact unhide HBX) hBB l2)
      · exact ownsRow_mono (ownsRow_keep rc (fun k hk => by simp [Value.ownBlock] at hk; subst hk; exact hother gc (by omega))) (by omega)
      · exact ownsRow_mono (ownsRow_keep ro (fun k hk => by simp [Value.ownBlock] at hk; subst hk; exact hother go (by omega))) (by omega)
      · rw [hW1]
        exact (hb01.setCell (p := ⟨W0.heap.size, 0, none⟩) (by show w.heap.size ≤ W0.heap.size; omega) _).setCell (p := ⟨W0.heap.size, 1, none⟩) (by show w.heap.size ≤ W0.heap.size; omega) _
    rw [← hW1, ← hD]
    clear hW1 hD HRC HRO HNE HB1 HBB k0 k1 k2 s0 s1 f0 f1 HZ
    have d0 := (hcs.d.cell 0).trans (show _ = some (.slice (some ⟨gc, 0, none⟩) lc.length kc) from rfl)
    have d1 := (hcs.d.cell 1).trans (show _ = some (.slice (some ⟨go, 0, none⟩) lo.length ko) from rfl)
    have HCS := hide hcs
    clear c0 x0 x1 m0 m1 m2 n1 n2 bZ hzd HC HBX HB0 HSZ
    obtain ⟨colA, hcA⟩ : ∃ c, c = confCol col w.heap.size gc go N := ⟨_, rfl⟩
    have T1 : Turns (fun _ => False) col colA w W1 := by rw [hcA]; exact confCol_turn hcs.below
    have oc : OwnC colA N W1 3 1 (.slice (some ⟨gc, 0, none⟩) (lc.length + 3) kc) (lc.length + 3) (numList (lc ++ [77, 77, 77])) := ⟨ownsRow_mono hcs.rc (Nat.zero_le _), fun k hk => by
      have hge := (ownsRow_from hcs.rc k hk).1
      simp [Value.ownBlock] at hk
      subst hk
      rw [hcA, confCol, if_neg (by omega), if_pos rfl]⟩
    have oo : OwnC colA (N + 1) W1 32 2 (.slice (some ⟨go, 0, none⟩) (lo.length + 3) ko) (lo.length + 3) (pfList (lo ++ [⟨0, 77⟩, ⟨0, 77⟩, ⟨0, 77⟩])) := ⟨ownsRow_mono hcs.ro (Nat.zero_le _), fun k hk => by
      have hge := (ownsRow_from hcs.ro k hk).1
      simp [Value.ownBlock] at hk
      subst hk
      rw [hcA, confCol, if_neg (by omega), if_neg (Ne.symm hcs.ne), if_pos rfl]⟩
    have bx : BlkC colA 0 W1 X #[.slice ac lc.length cc, .slice ao lo.length co] 25 := ⟨hcs.x, by
      have h1 := hcs.xge
      rw [hcA, confCol, if_neg (by omega), if_neg hcs.xlt.1, if_neg hcs.xlt.2]⟩
    have HSC1 := hide ((unhide HSC).turn T1 id)
    have HSO1 := hide ((unhide HSO).turn T1 id)
    have HT1 := hide T1
    have HOC := hide oc
    have HOO := hide oo
    have HBX1 := hide bx
    clear hcA T1 oc oo bx
    have hn := new_good (some ⟨gc, 0, none⟩) (some ⟨go, 0, none⟩) kc ko lc lo W1 hgood hok (by have := (ownsRow_cap hcs.ro).1; omega) (by simp) (row_num hcs.rc) (row_pf hcs.ro)
    clear hcs
    go_wp2_with (first | (go_at_call 11; refine hn.mono ?_; rintro e w2 ⟨R, V, cv, rv, Ls, rfl, hR, hperm, hsort, hb2⟩; have T2 : Turns (fun _ => False) colA (paint colA W1.heap.size (10 + 2 * ps.length)) W1 w2 := Turns.below _ hb2; have rt := RtrC.new (col := colA) (c := 10 + 2 * ps.length) hR; generalize paint colA W1.heap.size (10 + 2 * ps.length) = col2 at *; have bx2 := (unhide HBX1).turn T2 id; have x0 := (bx2.1.cell 0).trans (show _ = some (.slice ac lc.length cc) from rfl); have x1 := (bx2.1.cell 1).trans (show _ = some (.slice ao lo.length co) from rfl); have hn2 := newRef_any ac ao cc co lc lo w2 hok ((unhide HSC1).turn T2 id).slice ((unhide HSO1).turn T2 id).slice; have HT2 := hide T2; have HRT := hide rt; have HPERM := hide hperm; have HSORT := hide hsort; clear hn hR hperm hsort hb2 T2 rt bx2 d0 d1) | (go_at_call 62; refine hn2.mono ?_; rintro e w3 hr3; obtain ⟨Q, cv', lv, Ls', rfl, hQ, hperm', hsort', hb3⟩ := newRef_good hgood hr3; have T3 : Turns (fun _ => False) col2 (paint col2 w2.heap.size (11 + 2 * ps.length)) w2 w3 := Turns.below _ hb3; have rf := RefC.new (col := col2) (c := 11 + 2 * ps.length) hQ; generalize paint col2 w2.heap.size (11 + 2 * ps.length) = col3 at *; have HT3 := hide T3; have HRF := hide rf; have HPERM' := hide hperm'; have HSORT' := hide hsort'; clear hn2 hr3 hQ hperm' hsort' hb3 T3 rf x0 x1))
    have T33 : Turns (fun _ => False) col3 col3 w3 w3.drew := ⟨rfl, rfl, rfl, Nat.le_refl _, fun _ _ _ => rfl, fun _ _ => rfl⟩
    have T23 := ((unhide HT2).trans (unhide HT3)).trans T33
    have T13 := (unhide HT1).trans T23
    obtain ⟨sb, le, lr, lO, li, lp, hB, e1, e2, e3, e4, e5⟩ := (unhide HLAW).bk
    have hRet := returned_any (cc := cc) (co := co) ((hB.mono (J := keptBut N) (fun k hk hx => ⟨hx, unhide HFR k hk⟩)).turn T13 id (fun _ _ _ => id) (fun _ _ => id)) ((unhide HOC).turn T23 id) ((unhide HOO).turn T23 id) ((unhide HSC1).turn T23 id) ((unhide HSO1).turn T23 id) hN (by omega) (by omega) (by omega) (by omega)
    have wd3 := (unhide HWD).turn T13 id
    have bx3 := (unhide HBX1).turn T23 id
    have z0 := (wd3.1.cell 0).trans (show _ = some (.pointer (some ⟨Bk, 0, none⟩)) from rfl)
    have y0 := (bx3.1.cell 0).trans (show _ = some (.slice ac lc.length cc) from rfl)
    have y1 := (bx3.1.cell 1).trans (show _ = some (.slice ao lo.length co) from rfl)
    have HT13 := hide T13
    have HWD3 := hide wd3
    have HBX3 := hide bx3
    have E1 := hide e1
    have E2 := hide e2
    have E3 := hide e3
    have E4 := hide e4
    have E5 := hide e5
    clear T33 T23 T13 hB wd3 bx3 e1 e2 e3 e4 e5
    go_region_held3 (fun w' => w'.cell? ⟨Wd, 0, none⟩ = some (.pointer (some ⟨Bk, 0, none⟩)) ∧ w'.cell? ⟨X, 0, none⟩ = some (.slice ac lc.length cc) ∧ w'.cell? ⟨X, 1, none⟩ = some (.slice ao lo.length co))
      (first | exact ⟨z0, y0, y1⟩ | exact ⟨z4, y4, y5⟩)
      (first | (go_at_call 63; refine hRet.mono ?_; rintro e w4 ⟨rfl, ⟨s4, li4, lp4, col4, B4, q1, q2, q3, T4⟩⟩; have wd4 := (unhide HWD3).turn T4 (by omega); have bx4 := (unhide HBX3).turn T4 (by omega); have z4 := (wd4.1.cell 0).trans (show _ = some (.pointer (some ⟨Bk, 0, none⟩)) from rfl); have y4 := (bx4.1.cell 0).trans (show _ = some (.slice ac lc.length cc) from rfl); have y5 := (bx4.1.cell 1).trans (show _ = some (.slice ao lo.length co) from rfl); have HB4 := hide B4; have Q1 := hide q1; have Q2 := hide q2; have Q3 := hide q3; have HT4 := hide T4; have HWD4 := hide wd4; clear B4 q1 q2 q3 T4 bx4 wd4 hRet))
    all_goals
      obtain ⟨iP, hiP, hP0, hP1, hP2⟩ := info_parts Tryz.info97
      have T4 := unhide HT4
      have wd4 := unhide HWD4
      have pv4 := ((unhide HPV).turn (unhide HT13) id).turn T4 (by omega)
      have w1 := (wd4.1.cell 1).trans (show _ = some (.slice ap ps.length cp) from rfl)
      have f1 := wd4.1.frozen 1
      have hsz4 : Wd < w4.heap.size := wd4.1.lt
      have NB : Hid ((Value.slice ap ps.length cp).ownBlock ≠ some Wd) := fun h => absurd ((pv4.2 Wd h).symm.trans wd4.2) (by decide)
      have HOWN := hide pv4.1
      have HAPP := hide (fun (w5 : World) (o : Obj) (g5 c5 : Nat) (h1 : w5.ownsRow 0 97 2 (.slice (some ⟨g5, 0, none⟩) (ps.length + 1) c5) (ps.length + 1) (prCells ps ++ [.pointer (some ⟨R, 0, none⟩), .pointer (some ⟨Q, 0, none⟩)])) (h2 : (w4.alloc o).grownBy w5 (Value.slice ap ps.length cp).ownBlock) (h3 : (Value.slice ap ps.length cp).ownBlock = some g5 ∨ g5 = w4.heap.size + 1) => wd_append (q := 1) wd4.1 wd4.2 pv4 h1 (grown_of_alloc2 h2) (h3.imp id (fun e => by omega)))
      clear T4 wd4 pv4 z0 y0 y1 z4 y4 y5
      go_wp2_with (at_builtin; refine wpList_append_lies _ rfl (.tmp 65) (.tmp 69) 85 rfl 0 97 iP (.agg #[.pointer none, .pointer none]) 2 16 Tryz.underlying85 hiP hP0 hP1 hP2 rfl (by decide) (.slice ap ps.length cp) ps.length (prCells ps) rfl (by exact (unhide HOWN).alloc _) ⟨w4.heap.size, 0, none⟩ 1 1 [.pointer (some ⟨R, 0, none⟩), .pointer (some ⟨Q, 0, none⟩)] rfl rfl (by exact World.news_of_block (heap_alloc_new w4 _)) (by intro u hu; simp at hu; rcases hu with rfl | rfl <;> rfl) (by decide) (by unfold maxLen; omega) (by omega) (by simp) (w4.heap.size + 1) (by simp) ?_; intro g5 c5 w5 hown5 hg5 hat5 hlt5; have p1 : w5.cell? ⟨Wd, 1, none⟩ = some (.slice ap ps.length cp) := (hg5.cell (by exact ((below_new w4 _).cell (p := ⟨Wd, 1, none⟩) hsz4).trans w1) (Ne.symm (unhide NB))); have p2 : w5.frozen? ⟨Wd, 1, none⟩ = false := (by rw [hg5.frozen_far _ (by simp; omega) (Ne.symm (unhide NB))]; exact ((below_new w4 _).frozen (p := ⟨Wd, 1, none⟩) hsz4).trans f1); have R1 := hide (unhide HAPP w5 _ g5 c5 hown5 hg5 hat5); clear hown5 hg5 hat5)
      go_ret
      obtain ⟨b1, b2, T5⟩ := unhide R1
      have hlaw := unhide HLAW
      have T4 := unhide HT4
      have T13 := unhide HT13
      have T45 := (T4.mono (D := fun x => x = 1 ∨ 26 ≤ x ∧ x ≤ 29 ∨ x = N ∨ x = N + 1 ∨ x = 2 ∨ x = 3) (fun x hx => by omega)).trans (T5.mono (fun x hx => by omega))
      have hLs : Ls = Ls' := sorted_same (unhide HSORT) (unhide HSORT') ((unhide HPERM).trans (unhide HPERM').symm)
      have hcb : costsB lc = true ∧ ownB lo = true := by simpa using hgood
      have htab : TabOk (Ls'.map ownRw) := begins_ok hcb.2 hok (unhide HPERM') (unhide HSORT')
      have hrt := ((unhide HRT).turn ((unhide HT3).trans (⟨rfl, rfl, rfl, Nat.le_refl _, fun _ _ _ => rfl, fun _ _ => rfl⟩ : Turns (fun _ => False) col3 col3 w3 w3.drew)) id).turn T45 (by omega)
      rw [hLs] at hrt
      have hrf := ((unhide HRF).turn (⟨rfl, rfl, rfl, Nat.le_refl _, fun _ _ _ => rfl, fun _ _ => rfl⟩ : Turns (fun _ => False) col3 col3 w3 w3.drew) id).turn T45 (by omega)
      refine ⟨rfl, _, ps ++ [⟨R, Q, lc, Ls'.map ownRw⟩], ⟨⟨_, ⟨b1, (T5.hue Wd (unhide HWD4).1.lt).trans (unhide HWD4).2⟩, ?_⟩, fun j hj => ?_, ⟨s4, le, lr, lO, li4, lp4, ((unhide HB4).turn T5 (by omega) (fun x _ _ => by omega) (fun x hx => by have := hx.1; omega)).mono (fun k _ hk => hk.1), ?_, unhide E2, unhide E3, ?_, ?_⟩, (hlaw.et.turn T13 id).turn T45 ?_, ?_, ?_⟩, by simp, ?_⟩
      · rw [List.length_append, prCells_snoc]
        exact b2
      · by_cases hjl : j < ps.length
        · rw [List.getElem_append_left hjl]
          exact ((hlaw.each j hjl).turn T13 id id).turn T45 (by omega) (by omega)
        · have hje : j = ps.length := by simp at hj; omega
          subst hje
          simp only [List.getElem_concat_length]
          exact ⟨V, cv, rv, cv', lv, hrt, hrf, htab, costs_in hcb.1⟩
      · have := unhide Q1; have := unhide E1; omega
      · have := unhide Q2; have := unhide E4; omega
      · have := unhide Q3; have := unhide E5; omega
      · rw [T13.hue 0 (World.block_lt_of_cell? w _ hlaw.et), hlaw.e0]; omega
      · exact ((T45.hue 0 (Nat.lt_of_lt_of_le (World.block_lt_of_cell? w _ hlaw.et) T13.size)).trans (T13.hue 0 (World.block_lt_of_cell? w _ hlaw.et))).trans hlaw.e0
      · simp; omega
      · exact (T13.mono (fun _ h => h.elim)).trans (T45.mono (fun x hx => by omega))

set_option maxRecDepth 100000 in
set_option maxHeartbeats 8000000 in
theorem moreBad {Wd Bk cc co : Nat} {ac ao : Option Addr} {lc : List Int} {lo : List Pf} {ps : List Pr} {m : Int} {nr no ni np : Nat} {col : Col} {w : World} (h : LawC col w Wd Bk ps m nr no ni np) (h4 : ps.length ≤ 4) (hsc : numC col w ac lc) (hso : pfC col w ao lo) (hok : pfsOk lo) (bc : lc.length * 8 ≤ 140737488351232) (bo : lo.length * 16 ≤ 140737488351232) (hm0 : 0 ≤ m) (hm1 : m ≤ 100000000000000000) (hni : ni ≤ 1000) (hnp : np ≤ 1000) (hgood : (costsB lc && ownB lo) = false) :
    Calls Tryz.prog 28 #[.pointer (some ⟨Wd, 0, none⟩), .agg #[.slice ac lc.length cc, .slice ao lo.length co]] w fun e w' => e = .returned (.bool true) ∧ Mored col w Wd Bk ps 0 m nr no ni np w' := by
  obtain ⟨N, hN, hfr⟩ := fresh_colour col w.heap.size
  obtain ⟨pv, hwd, hpv⟩ := h.wd
  obtain ⟨ap, cp, rfl⟩ := ownsRow_slice hpv.1
  obtain ⟨W0, hW0⟩ : ∃ W, W = w.alloc (.cells #[.slice ac lc.length cc, .slice ao lo.length co] 25) := ⟨_, rfl⟩
  have bX : Blk W0 w.heap.size #[.slice ac lc.length cc, .slice ao lo.length co] 25 := by rw [hW0]; exact Blk.new w _ _
  have hb0 : Below w.heap.size w W0 := by rw [hW0]; exact below_new _ _
  have hsz : W0.heap.size = w.heap.size + 1 := by rw [hW0]; simp
  have c0 : W0.drew.cell? ⟨Wd, 0, none⟩ = some (.pointer (some ⟨Bk, 0, none⟩)) := (hb0.cell (p := ⟨Wd, 0, none⟩) hwd.1.lt).trans ((hwd.1.cell 0).trans rfl)
  have x0 : W0.drew.cell? ⟨w.heap.size, 0, none⟩ = some (.slice ac lc.length cc) := (bX.cell 0).trans rfl
  have x1 : W0.drew.cell? ⟨w.heap.size, 1, none⟩ = some (.slice ao lo.length co) := (bX.cell 1).trans rfl
  have HC := hide (fun (W : World) (hb : Below W0.drew.heap.size W0.drew W) => config_any Bk cc co ac ao lc lo W bc bo (numSlice_below (w := W0.drew) (numSlice_below hsc.slice hb0.drew) hb) (pfSlice_below (w := W0.drew) (pfSlice_below hso.slice hb0.drew) hb))
  have HSZ := hide hsz
  have HBX := hide bX
  have HB0 := hide hb0
  have HLAW := hide h
  have HSC := hide hsc
  have HSO := hide hso
  have HWD := hide hwd
  have HPV := hide hpv
  have HFR := hide hfr
  have l1 : Wd < W0.heap.size := by have := hwd.1.lt; omega
  have l2 : w.heap.size < W0.heap.size := by omega
  obtain ⟨X, hX⟩ : ∃ X, X = w.heap.size := ⟨_, rfl⟩
  rw [← hX] at x0 x1 l2
  clear h hsc hso hwd hpv hfr bX hb0 hsz
  go_enter Tryz.func28, Tryz.ntmps28
  go_wp2_with fail
  rw [← hW0, ← hX]
  have HX := hide hX
  clear hW0 hX
  have hz := below_new W0 (.cells #[.slice none 0 0, .slice none 0 0] 25)
  have m0 : (W0.alloc (.cells #[.slice none 0 0, .slice none 0 0] 25)).drew.cell? ⟨Wd, 0, none⟩ = some (.pointer (some ⟨Bk, 0, none⟩)) := (hz.cell (p := ⟨Wd, 0, none⟩) l1).trans c0
  have m1 : (W0.alloc (.cells #[.slice none 0 0, .slice none 0 0] 25)).drew.cell? ⟨X, 0, none⟩ = some (.slice ac lc.length cc) := (hz.cell (p := ⟨X, 0, none⟩) l2).trans x0
  have m2 : (W0.alloc (.cells #[.slice none 0 0, .slice none 0 0] 25)).drew.cell? ⟨X, 1, none⟩ = some (.slice ao lo.length co) := (hz.cell (p := ⟨X, 1, none⟩) l2).trans x1
  have n1 : Wd ≠ W0.heap.size := by omega
  have n2 : X ≠ W0.heap.size := by omega
  have bZ := hide (show Blk (W0.alloc (.cells #[.slice none 0 0, .slice none 0 0] 25)).drew W0.heap.size #[.slice none 0 0, .slice none 0 0] 25 from Blk.new W0 _ _)
  have hzd : Below W0.drew.heap.size W0.drew (W0.alloc (.cells #[.slice none 0 0, .slice none 0 0] 25)).drew := ⟨hz.os, hz.tape, hz.output, hz.size, hz.block⟩
  clear hz
  go_region_held3 (fun w' => w'.cell? ⟨Wd, 0, none⟩ = some (.pointer (some ⟨Bk, 0, none⟩)) ∧ w'.cell? ⟨X, 0, none⟩ = some (.slice ac lc.length cc) ∧ w'.cell? ⟨X, 1, none⟩ = some (.slice ao lo.length co))
    (first | exact ⟨c0, x0, x1⟩ | exact ⟨m0, m1, m2⟩ | exact ⟨k0, k1, k2⟩ | exact ⟨((below_new w1 _).cell (p := ⟨Wd, 0, none⟩) (World.block_lt_of_cell? w1 _ k0)).trans k0, ((below_new w1 _).cell (p := ⟨X, 0, none⟩) (World.block_lt_of_cell? w1 _ k1)).trans k1, ((below_new w1 _).cell (p := ⟨X, 1, none⟩) (World.block_lt_of_cell? w1 _ k2)).trans k2⟩ | exact ⟨(cell_set2 _ n1 _ _ _ _ _).trans k0, (cell_set2 _ n2 _ _ _ _ _).trans k1, (cell_set2 _ n2 _ _ _ _ _).trans k2⟩)
    (first | (go_at_call 61; refine (unhide HC W0.drew (Below.refl _ _)).mono ?_; rintro e w1 ⟨gc, kc, go, ko, rfl, rc, ro, hne, hb1⟩; have hB1 : Below W0.drew.heap.size W0.drew w1 := hb1; have k0 := (hB1.cell (p := ⟨Wd, 0, none⟩) (show Wd < W0.heap.size from l1)).trans c0; have k1 := (hB1.cell (p := ⟨X, 0, none⟩) (show X < W0.heap.size from l2)).trans x0; have k2 := (hB1.cell (p := ⟨X, 1, none⟩) (show X < W0.heap.size from l2)).trans x1; have HRC := hide rc; have HRO := hide ro; have HNE := hide hne; have HB1 := hide hb1; have HBB := hide hB1; clear rc ro hne hb1 hB1) | (go_at_call 61; refine (unhide HC (W0.alloc (.cells #[.slice none 0 0, .slice none 0 0] 25)).drew hzd).mono ?_; rintro e w1 ⟨gc, kc, go, ko, rfl, rc, ro, hne, hb1⟩; have hB1 : Below W0.drew.heap.size W0.drew w1 := below_seq hzd hb1; have k0 := (hB1.cell (p := ⟨Wd, 0, none⟩) (show Wd < W0.heap.size from l1)).trans c0; have k1 := (hB1.cell (p := ⟨X, 0, none⟩) (show X < W0.heap.size from l2)).trans x0; have k2 := (hB1.cell (p := ⟨X, 1, none⟩) (show X < W0.heap.size from l2)).trans x1; have bz := (unhide bZ).below hb1 (unhide bZ).lt; have s0 := (bz.cell 0).trans (show _ = some (.slice none 0 0) from rfl); have s1 := (bz.cell 1).trans (show _ = some (.slice none 0 0) from rfl); have f0 := bz.frozen 0; have f1 := bz.frozen 1; have HZ := hide bz; clear bz; have HRC := hide rc; have HRO := hide ro; have HNE := hide hne; have HB1 := hide hb1; have HBB := hide hB1; clear rc ro hne hb1 hB1))
  · obtain ⟨W1, hW1⟩ : ∃ W, W = w1.alloc (.cells #[.slice (some ⟨gc, 0, none⟩) lc.length kc, .slice (some ⟨go, 0, none⟩) lo.length ko] 25) := ⟨_, rfl⟩
    obtain ⟨D, hD⟩ : ∃ D, D = w1.heap.size := ⟨_, rfl⟩
    have hcs : ConfS w W1 D X gc kc go ko ac ao cc co lc lo := by
      have hsz := unhide HSZ
      have hX := unhide HX
      have rc := unhide HRC
      have ro := unhide HRO
      have hgc := (ownsRow_from rc gc rfl)
      have hgo := (ownsRow_from ro go rfl)
      have hsd : W0.drew.heap.size = W0.heap.size := rfl
      have hBB := unhide HBB
      have hb01 : Below w.heap.size w w1 := below_seq (unhide HB0).drew hBB
      rw [hW1, hD]
      exact ⟨Blk.new w1 _ _, (Blk.below (show Blk W0.drew X _ _ by rw [hX]; exact unhide HBX) hBB l2).alloc _, (ownsRow_mono rc (by omega)).alloc _, (ownsRow_mono ro (by omega)).alloc _, unhide HNE, below_seq hb01 (below_new w1 _), by omega, ⟨by omega, by omega⟩⟩
    rw [← hW1, ← hD]
    clear hW1 hD HRC HRO HNE HB1 HBB k0 k1 k2
    have d0 := (hcs.d.cell 0).trans (show _ = some (.slice (some ⟨gc, 0, none⟩) lc.length kc) from rfl)
    have d1 := (hcs.d.cell 1).trans (show _ = some (.slice (some ⟨go, 0, none⟩) lo.length ko) from rfl)
    have HCS := hide hcs
    clear c0 x0 x1 m0 m1 m2 n1 n2 bZ hzd HC HBX HB0 HSZ
    obtain ⟨colA, hcA⟩ : ∃ c, c = confCol col w.heap.size gc go N := ⟨_, rfl⟩
    have T1 : Turns (fun _ => False) col colA w W1 := by rw [hcA]; exact confCol_turn hcs.below
    have oc : OwnC colA N W1 3 1 (.slice (some ⟨gc, 0, none⟩) (lc.length + 3) kc) (lc.length + 3) (numList (lc ++ [77, 77, 77])) := ⟨ownsRow_mono hcs.rc (Nat.zero_le _), fun k hk => by
      have hge := (ownsRow_from hcs.rc k hk).1
      simp [Value.ownBlock] at hk
      subst hk
      rw [hcA, confCol, if_neg (by omega), if_pos rfl]⟩
    have oo : OwnC colA (N + 1) W1 32 2 (.slice (some ⟨go, 0, none⟩) (lo.length + 3) ko) (lo.length + 3) (pfList (lo ++ [⟨0, 77⟩, ⟨0, 77⟩, ⟨0, 77⟩])) := ⟨ownsRow_mono hcs.ro (Nat.zero_le _), fun k hk => by
      have hge := (ownsRow_from hcs.ro k hk).1
      simp [Value.ownBlock] at hk
      subst hk
      rw [hcA, confCol, if_neg (by omega), if_neg (Ne.symm hcs.ne), if_pos rfl]⟩
    have bx : BlkC colA 0 W1 X #[.slice ac lc.length cc, .slice ao lo.length co] 25 := ⟨hcs.x, by
      have h1 := hcs.xge
      rw [hcA, confCol, if_neg (by omega), if_neg hcs.xlt.1, if_neg hcs.xlt.2]⟩
    have HSC1 := hide ((unhide HSC).turn T1 id)
    have HSO1 := hide ((unhide HSO).turn T1 id)
    have HT1 := hide T1
    have HOC := hide oc
    have HOO := hide oo
    have HBX1 := hide bx
    clear hcA T1 oc oo bx
    have hn := new_bad (some ⟨gc, 0, none⟩) (some ⟨go, 0, none⟩) kc ko lc lo W1 hgood hok (by have := (ownsRow_cap hcs.ro).1; omega) (row_num hcs.rc) (row_pf hcs.ro)
    clear hcs
    go_wp2_with (first | (go_at_call 11; refine hn.mono ?_; rintro e w2 ⟨rfl, hb2⟩; have T2 : Turns (fun _ => False) colA (paint colA W1.heap.size 0) W1 w2 := Turns.below _ hb2; generalize paint colA W1.heap.size 0 = col2 at *; have bx2 := (unhide HBX1).turn T2 id; have x0 := (bx2.1.cell 0).trans (show _ = some (.slice ac lc.length cc) from rfl); have x1 := (bx2.1.cell 1).trans (show _ = some (.slice ao lo.length co) from rfl); have hn2 := newRef_any ac ao cc co lc lo w2 hok ((unhide HSC1).turn T2 id).slice ((unhide HSO1).turn T2 id).slice; have HT2 := hide T2; clear hn hb2 T2 bx2 d0 d1) | (go_at_call 62; refine hn2.mono ?_; rintro e w3 hr3; obtain ⟨rfl, hb3⟩ := newRef_none hgood hr3; have T3 : Turns (fun _ => False) col2 (paint col2 w2.heap.size 0) w2 w3 := Turns.below _ hb3; generalize paint col2 w2.heap.size 0 = col3 at *; have HT3 := hide T3; clear hn2 hr3 hb3 T3 x0 x1))
    have T33 : Turns (fun _ => False) col3 col3 w3 w3.drew := ⟨rfl, rfl, rfl, Nat.le_refl _, fun _ _ _ => rfl, fun _ _ => rfl⟩
    have T23 := ((unhide HT2).trans (unhide HT3)).trans T33
    have T13 := (unhide HT1).trans T23
    obtain ⟨sb, le, lr, lO, li, lp, hB, e1, e2, e3, e4, e5⟩ := (unhide HLAW).bk
    have hRet := returned_any (cc := cc) (co := co) ((hB.mono (J := keptBut N) (fun k hk hx => ⟨hx, unhide HFR k hk⟩)).turn T13 id (fun _ _ _ => id) (fun _ _ => id)) ((unhide HOC).turn T23 id) ((unhide HOO).turn T23 id) ((unhide HSC1).turn T23 id) ((unhide HSO1).turn T23 id) hN (by omega) (by omega) (by omega) (by omega)
    have wd3 := (unhide HWD).turn T13 id
    have bx3 := (unhide HBX1).turn T23 id
    have z0 := (wd3.1.cell 0).trans (show _ = some (.pointer (some ⟨Bk, 0, none⟩)) from rfl)
    have y0 := (bx3.1.cell 0).trans (show _ = some (.slice ac lc.length cc) from rfl)
    have y1 := (bx3.1.cell 1).trans (show _ = some (.slice ao lo.length co) from rfl)
    have HT13 := hide T13
    have HWD3 := hide wd3
    have HBX3 := hide bx3
    have E1 := hide e1
    have E2 := hide e2
    have E3 := hide e3
    have E4 := hide e4
    have E5 := hide e5
    clear T33 T23 T13 hB wd3 bx3 e1 e2 e3 e4 e5
    go_region_held3 (fun w' => w'.cell? ⟨Wd, 0, none⟩ = some (.pointer (some ⟨Bk, 0, none⟩)) ∧ w'.cell? ⟨X, 0, none⟩ = some (.slice ac lc.length cc) ∧ w'.cell? ⟨X, 1, none⟩ = some (.slice ao lo.length co))
      (first | exact ⟨z0, y0, y1⟩ | exact ⟨z4, y4, y5⟩)
      (first | (go_at_call 63; refine hRet.mono ?_; rintro e w4 ⟨rfl, ⟨s4, li4, lp4, col4, B4, q1, q2, q3, T4⟩⟩; have wd4 := (unhide HWD3).turn T4 (by omega); have bx4 := (unhide HBX3).turn T4 (by omega); have z4 := (wd4.1.cell 0).trans (show _ = some (.pointer (some ⟨Bk, 0, none⟩)) from rfl); have y4 := (bx4.1.cell 0).trans (show _ = some (.slice ac lc.length cc) from rfl); have y5 := (bx4.1.cell 1).trans (show _ = some (.slice ao lo.length co) from rfl); have HB4 := hide B4; have Q1 := hide q1; have Q2 := hide q2; have Q3 := hide q3; have HT4 := hide T4; have HWD4 := hide wd4; clear B4 q1 q2 q3 T4 bx4 wd4 hRet))
    all_goals
      clear z0 y0 y1 z4 y4 y5
      go_wp2_with (first | (go_at_call 65; refine (plain_any _ _).mono ?_; rintro e w5 ⟨rfl, hb5⟩; have HB5 := hide hb5; clear hb5) | (go_at_call 64; refine (agree_errno _ 1 (by decide)).mono ?_; rintro e w6 ⟨rfl, hb6⟩; have HB6 := hide (below_seq (unhide HB5) hb6); clear hb6))
      go_ret
      have hlaw := unhide HLAW
      have T4 := unhide HT4
      have T13 := unhide HT13
      have T5 : Turns (fun _ => False) col4 (paint col4 w4.heap.size 0) w4 w6 := Turns.below 0 (unhide HB6)
      have T45 := (T4.mono (D := fun x => x = 1 ∨ 26 ≤ x ∧ x ≤ 29 ∨ x = N ∨ x = N + 1) (fun x hx => by omega)).trans (T5.mono (fun _ h => h.elim))
      refine ⟨rfl, _, ps, ⟨⟨_, (unhide HWD4).turn T5 id, (((unhide HPV).turn T13 id).turn T45 (by omega))⟩, fun j hj => ((hlaw.each j hj).turn T13 id id).turn T45 (by omega) (by omega), ⟨s4, le, lr, lO, li4, lp4, ((unhide HB4).turn T5 id (fun _ _ _ => id) (fun _ _ => id)).mono (fun k _ hk => hk.1), ?_, unhide E2, unhide E3, ?_, ?_⟩, (hlaw.et.turn T13 id).turn T45 ?_, ?_, hlaw.few⟩, by simp, ?_⟩
      · have := unhide Q1; have := unhide E1; omega
      · have := unhide Q2; have := unhide E4; omega
      · have := unhide Q3; have := unhide E5; omega
      · rw [T13.hue 0 (World.block_lt_of_cell? w _ hlaw.et), hlaw.e0]; omega
      · exact ((T45.hue 0 (Nat.lt_of_lt_of_le (World.block_lt_of_cell? w _ hlaw.et) T13.size)).trans (T13.hue 0 (World.block_lt_of_cell? w _ hlaw.et))).trans hlaw.e0
      · exact (T13.mono (fun _ h => h.elim)).trans (T45.mono (fun x hx => by omega))
  · obtain ⟨W1, hW1⟩ : ∃ W, W = ((w1.setCell ⟨W0.heap.size, 0, none⟩ (.slice (some ⟨gc, 0, none⟩) lc.length kc)).setCell ⟨W0.heap.size, 1, none⟩ (.slice (some ⟨go, 0, none⟩) lo.length ko)) := ⟨_, rfl⟩
    obtain ⟨D, hD⟩ : ∃ D, D = W0.heap.size := ⟨_, rfl⟩
    have hcs : ConfS w W1 D X gc kc go ko ac ao cc co lc lo := by
      have hsz := unhide HSZ
      have hX := unhide HX
      have rc := unhide HRC
      have ro := unhide HRO
      have hszZ : (W0.alloc (.cells #[.slice none 0 0, .slice none 0 0] 25)).drew.heap.size = W0.heap.size + 1 := by simp
      have hgc := (ownsRow_from rc gc rfl)
      have hgo := (ownsRow_from ro go rfl)
      have hBB := unhide HBB
      have hb01 : Below w.heap.size w w1 := below_seq (unhide HB0).drew hBB
      have hother : ∀ k, k ≠ W0.heap.size → W1.heap[k]? = w1.heap[k]? := fun k hk => by
        rw [hW1]
        exact (Below.heap_setCell _ _ _ _ hk).trans (Below.heap_setCell _ _ _ _ hk)
      refine ⟨?_, ?_, ?_, ?_, unhide HNE, ?_, by omega, ⟨by omega, by omega⟩⟩
      · rw [hW1, hD]
        exact ((unhide HZ).set 0 _).set 1 _
      · exact (hother X n2).trans (Blk.below (show Blk W0.drew X _ _ by rw [hX]; exact unhide HBX) hBB l2)
      · exact ownsRow_mono (ownsRow_keep rc (fun k hk => by simp [Value.ownBlock] at hk; subst hk; exact hother gc (by omega))) (by omega)
      · exact ownsRow_mono (ownsRow_keep ro (fun k hk => by simp [Value.ownBlock] at hk; subst hk; exact hother go (by omega))) (by omega)
      · rw [hW1]
        exact (hb01.setCell (p := ⟨W0.heap.size, 0, none⟩) (by show w.heap.size ≤ W0.heap.size; omega) _).setCell (p := ⟨W0.heap.size, 1, none⟩) (by show w.heap.size ≤ W0.heap.size; omega) _
    rw [← hW1, ← hD]
    clear hW1 hD HRC HRO HNE HB1 HBB k0 k1 k2 s0 s1 f0 f1 HZ
    have d0 := (hcs.d.cell 0).trans (show _ = some (.slice (some ⟨gc, 0, none⟩) lc.length kc) from rfl)
    have d1 := (hcs.d.cell 1).trans (show _ = some (.slice (some ⟨go, 0, none⟩) lo.length ko) from rfl)
    have HCS := hide hcs
    clear c0 x0 x1 m0 m1 m2 n1 n2 bZ hzd HC HBX HB0 HSZ
    obtain ⟨colA, hcA⟩ : ∃ c, c = confCol col w.heap.size gc go N := ⟨_, rfl⟩
    have T1 : Turns (fun _ => False) col colA w W1 := by rw [hcA]; exact confCol_turn hcs.below
    have oc : OwnC colA N W1 3 1 (.slice (some ⟨gc, 0, none⟩) (lc.length + 3) kc) (lc.length + 3) (numList (lc ++ [77, 77, 77])) := ⟨ownsRow_mono hcs.rc (Nat.zero_le _), fun k hk => by
      have hge := (ownsRow_from hcs.rc k hk).1
      simp [Value.ownBlock] at hk
      subst hk
      rw [hcA, confCol, if_neg (by omega), if_pos rfl]⟩
    have oo : OwnC colA (N + 1) W1 32 2 (.slice (some ⟨go, 0, none⟩) (lo.length + 3) ko) (lo.length + 3) (pfList (lo ++ [⟨0, 77⟩, ⟨0, 77⟩, ⟨0, 77⟩])) := ⟨ownsRow_mono hcs.ro (Nat.zero_le _), fun k hk => by
      have hge := (ownsRow_from hcs.ro k hk).1
      simp [Value.ownBlock] at hk
      subst hk
      rw [hcA, confCol, if_neg (by omega), if_neg (Ne.symm hcs.ne), if_pos rfl]⟩
    have bx : BlkC colA 0 W1 X #[.slice ac lc.length cc, .slice ao lo.length co] 25 := ⟨hcs.x, by
      have h1 := hcs.xge
      rw [hcA, confCol, if_neg (by omega), if_neg hcs.xlt.1, if_neg hcs.xlt.2]⟩
    have HSC1 := hide ((unhide HSC).turn T1 id)
    have HSO1 := hide ((unhide HSO).turn T1 id)
    have HT1 := hide T1
    have HOC := hide oc
    have HOO := hide oo
    have HBX1 := hide bx
    clear hcA T1 oc oo bx
    have hn := new_bad (some ⟨gc, 0, none⟩) (some ⟨go, 0, none⟩) kc ko lc lo W1 hgood hok (by have := (ownsRow_cap hcs.ro).1; omega) (row_num hcs.rc) (row_pf hcs.ro)
    clear hcs
    go_wp2_with (first | (go_at_call 11; refine hn.mono ?_; rintro e w2 ⟨rfl, hb2⟩; have T2 : Turns (fun _ => False) colA (paint colA W1.heap.size 0) W1 w2 := Turns.below _ hb2; generalize paint colA W1.heap.size 0 = col2 at *; have bx2 := (unhide HBX1).turn T2 id; have x0 := (bx2.1.cell 0).trans (show _ = some (.slice ac lc.length cc) from rfl); have x1 := (bx2.1.cell 1).trans (show _ = some (.slice ao lo.length co) from rfl); have hn2 := newRef_any ac ao cc co lc lo w2 hok ((unhide HSC1).turn T2 id).slice ((unhide HSO1).turn T2 id).slice; have HT2 := hide T2; clear hn hb2 T2 bx2 d0 d1) | (go_at_call 62; refine hn2.mono ?_; rintro e w3 hr3; obtain ⟨rfl, hb3⟩ := newRef_none hgood hr3; have T3 : Turns (fun _ => False) col2 (paint col2 w2.heap.size 0) w2 w3 := Turns.below _ hb3; generalize paint col2 w2.heap.size 0 = col3 at *; have HT3 := hide T3; clear hn2 hr3 hb3 T3 x0 x1))
    have T33 : Turns (fun _ => False) col3 col3 w3 w3.drew := ⟨rfl, rfl, rfl, Nat.le_refl _, fun _ _ _ => rfl, fun _ _ => rfl⟩
    have T23 := ((unhide HT2).trans (unhide HT3)).trans T33
    have T13 := (unhide HT1).trans T23
    obtain ⟨sb, le, lr, lO, li, lp, hB, e1, e2, e3, e4, e5⟩ := (unhide HLAW).bk
    have hRet := returned_any (cc := cc) (co := co) ((hB.mono (J := keptBut N) (fun k hk hx => ⟨hx, unhide HFR k hk⟩)).turn T13 id (fun _ _ _ => id) (fun _ _ => id)) ((unhide HOC).turn T23 id) ((unhide HOO).turn T23 id) ((unhide HSC1).turn T23 id) ((unhide HSO1).turn T23 id) hN (by omega) (by omega) (by omega) (by omega)
    have wd3 := (unhide HWD).turn T13 id
    have bx3 := (unhide HBX1).turn T23 id
    have z0 := (wd3.1.cell 0).trans (show _ = some (.pointer (some ⟨Bk, 0, none⟩)) from rfl)
    have y0 := (bx3.1.cell 0).trans (show _ = some (.slice ac lc.length cc) from rfl)
    have y1 := (bx3.1.cell 1).trans (show _ = some (.slice ao lo.length co) from rfl)
    have HT13 := hide T13
    have HWD3 := hide wd3
    have HBX3 := hide bx3
    have E1 := hide e1
    have E2 := hide e2
    have E3 := hide e3
    have E4 := hide e4
    have E5 := hide e5
    clear T33 T23 T13 hB wd3 bx3 e1 e2 e3 e4 e5
    go_region_held3 (fun w' => w'.cell? ⟨Wd, 0, none⟩ = some (.pointer (some ⟨Bk, 0, none⟩)) ∧ w'.cell? ⟨X, 0, none⟩ = some (.slice ac lc.length cc) ∧ w'.cell? ⟨X, 1, none⟩ = some (.slice ao lo.length co))
      (first | exact ⟨z0, y0, y1⟩ | exact ⟨z4, y4, y5⟩)
      (first | (go_at_call 63; refine hRet.mono ?_; rintro e w4 ⟨rfl, ⟨s4, li4, lp4, col4, B4, q1, q2, q3, T4⟩⟩; have wd4 := (unhide HWD3).turn T4 (by omega); have bx4 := (unhide HBX3).turn T4 (by omega); have z4 := (wd4.1.cell 0).trans (show _ = some (.pointer (some ⟨Bk, 0, none⟩)) from rfl); have y4 := (bx4.1.cell 0).trans (show _ = some (.slice ac lc.length cc) from rfl); have y5 := (bx4.1.cell 1).trans (show _ = some (.slice ao lo.length co) from rfl); have HB4 := hide B4; have Q1 := hide q1; have Q2 := hide q2; have Q3 := hide q3; have HT4 := hide T4; have HWD4 := hide wd4; clear B4 q1 q2 q3 T4 bx4 wd4 hRet))
    all_goals
      clear z0 y0 y1 z4 y4 y5
      go_wp2_with (first | (go_at_call 65; refine (plain_any _ _).mono ?_; rintro e w5 ⟨rfl, hb5⟩; have HB5 := hide hb5; clear hb5) | (go_at_call 64; refine (agree_errno _ 1 (by decide)).mono ?_; rintro e w6 ⟨rfl, hb6⟩; have HB6 := hide (below_seq (unhide HB5) hb6); clear hb6))
      go_ret
      have hlaw := unhide HLAW
      have T4 := unhide HT4
      have T13 := unhide HT13
      have T5 : Turns (fun _ => False) col4 (paint col4 w4.heap.size 0) w4 w6 := Turns.below 0 (unhide HB6)
      have T45 := (T4.mono (D := fun x => x = 1 ∨ 26 ≤ x ∧ x ≤ 29 ∨ x = N ∨ x = N + 1) (fun x hx => by omega)).trans (T5.mono (fun _ h => h.elim))
      refine ⟨rfl, _, ps, ⟨⟨_, (unhide HWD4).turn T5 id, (((unhide HPV).turn T13 id).turn T45 (by omega))⟩, fun j hj => ((hlaw.each j hj).turn T13 id id).turn T45 (by omega) (by omega), ⟨s4, le, lr, lO, li4, lp4, ((unhide HB4).turn T5 id (fun _ _ _ => id) (fun _ _ => id)).mono (fun k _ hk => hk.1), ?_, unhide E2, unhide E3, ?_, ?_⟩, (hlaw.et.turn T13 id).turn T45 ?_, ?_, hlaw.few⟩, by simp, ?_⟩
      · have := unhide Q1; have := unhide E1; omega
      · have := unhide Q2; have := unhide E4; omega
      · have := unhide Q3; have := unhide E5; omega
      · rw [T13.hue 0 (World.block_lt_of_cell? w _ hlaw.et), hlaw.e0]; omega
      · exact ((T45.hue 0 (Nat.lt_of_lt_of_le (World.block_lt_of_cell? w _ hlaw.et) T13.size)).trans (T13.hue 0 (World.block_lt_of_cell? w _ hlaw.et))).trans hlaw.e0
      · exact (T13.mono (fun _ h => h.elim)).trans (T45.mono (fun x hx => by omega))

end Go.Proofs.YtdnpeefnobjfaaaGreatDoor
