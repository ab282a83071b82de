/- A table so many ticks later: (Table).Later. -/
import Derived.Test.YtdnpeefnobjfaaaGreatDoorTDelete
namespace Go.Proofs.YtdnpeefnobjfaaaGreatDoor
open Go.RowKit
attribute [local go_sem ↓] Go.wp_at_zero Go.wp_at_succ

/-- One tick. -/
def tickL (L : List Rw) : List Rw := keptL (L.map rwOlder)
def laterL : Nat → List Rw → List Rw
  | 0, L => L
  | n + 1, L => tickL (laterL n L)
/-- No age is beyond a bound. -/
def agesIn (b : Int) (L : List Rw) : Prop := ∀ r ∈ L, 0 ≤ r.age ∧ r.age ≤ b
theorem older_age {r : Rw} {b : Int} (h0 : 0 ≤ r.age) (h1 : r.age ≤ b) : 0 ≤ (rwOlder r).age ∧ (rwOlder r).age ≤ b + 1 := by
  unfold rwOlder
  split
  · omega
  · split
    · unfold rwLost
      split
      · show 0 ≤ r.age + 1 ∧ r.age + 1 ≤ b + 1; omega
      · show (0 : Int) ≤ 0 ∧ (0 : Int) ≤ b + 1; omega
    · show 0 ≤ r.age + 1 ∧ r.age + 1 ≤ b + 1; omega
theorem tick_ages {b : Int} {L : List Rw} (h : agesIn b L) : agesIn (b + 1) (tickL L) := by
  intro r hr
  have hr' := (List.mem_filter.1 hr).1
  obtain ⟨q, hq, rfl⟩ := List.mem_map.1 hr'
  exact older_age (h q hq).1 (h q hq).2
theorem later_ages {b : Int} {L : List Rw} (h : agesIn b L) : ∀ n : Nat, agesIn (b + n) (laterL n L)
  | 0 => by simpa [laterL] using h
  | n + 1 => by
    have := tick_ages (later_ages h n)
    have e : b + (n : Int) + 1 = b + ((n + 1 : Nat) : Int) := by omega
    rw [e] at this
    exact this
theorem tick_length (L : List Rw) : (tickL L).length ≤ L.length := by
  unfold tickL keptL
  exact Nat.le_trans (List.length_filter_le _ _) (by simp)
theorem later_length (L : List Rw) : ∀ n, (laterL n L).length ≤ L.length
  | 0 => Nat.le_refl _
  | n + 1 => Nat.le_trans (tick_length _) (later_length L n)

set_option maxRecDepth 100000 in
set_option maxHeartbeats 4000000 in
theorem later_any (base : Nat) (ao : Option Addr) (cap N : Nat) (L : List Rw) (w : World) (hn : L.length ≤ 1000000) (hN : N ≤ 1000) (hage : agesIn 10000 L) (hown : w.ownsRow base 137 7 (.slice ao L.length cap) L.length (rwList L)) :
    Calls Tryz.prog 48 #[.agg #[.slice ao L.length cap], .int .i64 N] w fun e w' => ∃ v, e = .returned (.agg #[v]) ∧ w'.ownsRow w.heap.size 137 7 v (laterL N L).length (rwList (laterL N L)) ∧ Below w.heap.size w w' := by
  have bT := outBlk w #[.slice ao L.length cap] 120 #[.slice none 0 0] 120
  have hb0 := (((Grows.refl w).alloc (.cells #[.slice ao L.length cap] 120)).alloc (.cells #[.slice none 0 0] 120)).below
  have hsz : ((w.alloc (.cells #[.slice ao L.length cap] 120)).alloc (.cells #[.slice none 0 0] 120)).heap.size = w.heap.size + 2 := by simp
  have hcl := cloneRow_any base (.slice ao L.length cap) L ((w.alloc (.cells #[.slice ao L.length cap] 120)).alloc (.cells #[.slice none 0 0] 120)) hn (ownsRow_below hown hb0 (Nat.le_refl _))
  have HT := hide bT
  have HB0 := hide hb0
  have HSZ := hide hsz
  have HAGE := hide (fun t => later_ages hage t)
  clear bT hb0 hown hsz hage
  go_enter Tryz.func48, Tryz.ntmps48
  go_wp2_with fail
  refine hcl.mono ?_
  rintro e w1 ⟨v', rfl, hown1, hb1⟩
  rw [unhide HSZ] at hown1 hb1
  obtain ⟨ao', cap', rfl⟩ := ownsRow_slice hown1
  have HB1 := hide hb1
  have hs1 : w.heap.size + 2 ≤ w1.heap.size := by have := hb1.size; rw [unhide HSZ] at this; exact this
  have bT1 := (unhide HT).below hb1 (by omega)
  clear hcl hb1
  go_wp2_with fail
  go_loopw [5, 12] (fun d i wr => ∃ t : Nat, t ≤ N ∧ i = .int .i64 t ∧ wr.ownsRow (w.heap.size + 2) 137 7 d (laterL t L).length (rwList (laterL t L)) ∧ Below (w.heap.size + 2) w1 wr) (fun _ i _ => N - (intOf i).toNat)
  case atStart => exact ⟨0, by omega, rfl, hown1, Below.refl _ _⟩
  case round =>
    obtain ⟨t, ht, rfl, hown, hb⟩ := hrel
    clear hown1
    obtain ⟨ao2, cap2, rfl⟩ := ownsRow_slice hown
    have hlen2 : (laterL t L).length ≤ 1000000 := Nat.le_trans (later_length L t) hn
    by_cases hlt : t < N
    · have hages := unhide HAGE t
      have HSTEP := hide (show laterL (t + 1) L = tickL (laterL t L) from rfl)
      generalize laterL t L = M at *
      have ht0 : (t : Int) < (N : Int) := by omega
      have HBo := hide hb
      have hown0 := hown
      clear hown hb
      go_wp2_with fail
      go_loopw [16] (fun i wr2 => ∃ k : Nat, k ≤ M.length ∧ i = .int .i64 k ∧ wr2.ownsRow (w.heap.size + 2) 137 7 (.slice ao2 M.length cap2) M.length (rwList (mapUpto rwOlder M k)) ∧ Below (w.heap.size + 2) w1 wr2) (fun i _ => M.length - (intOf i).toNat)
      case atStart => exact ⟨0, by omega, rfl, by rw [mapUpto_zero]; exact hown0, unhide HBo⟩
      case round =>
        obtain ⟨k, hk, rfl, hown, hb⟩ := hrel
        clear hown0
        by_cases hltk : k < M.length
        · obtain ⟨g, rfl⟩ : ∃ g, ao2 = some ⟨g, 0, none⟩ := by
            rcases hown.2 with ⟨_, h0⟩ | ⟨g, c, cur, hv, _⟩
            · omega
            · simp at hv; exact ⟨g, hv.1⟩
          have hlt' : k < (mapUpto rwOlder M k).length := by rw [mapUpto_length]; exact hltk
          have hgb : w.heap.size + 2 ≤ g := by
            rcases hown.2 with ⟨hv, _⟩ | ⟨g', c, cur, hv, hbg, _⟩
            · simp at hv
            · simp at hv; omega
          obtain ⟨_, hce⟩ := ownsRow_cellsOf hown hlt'
          have hcek := hce k hlt'
          rw [mapUpto_at _ _ _ hltk hlt'] at hcek
          simp only [Nat.zero_add] at hcek
          obtain ⟨c0, c1, c2, c3, c4, c5, c6⟩ := hcek
          have HSET := hide (mapUpto_set rwOlder M k hltk)
          have HOWN := hide hown
          have HB := hide hb
          have hagek := hages M[k] (List.getElem_mem _)
          have hL := fun W => older_any M[k] W hagek.1 (by omega)
          have j0 : (0 : Int) ≤ (k : Int) := by omega
          have j1 : (k : Int) < (M.length : Int) := by omega
          clear hown hce hb
          generalize hE : M[k] = E at *
          clear hE hagek
          generalize rwOlder E = r2 at hL HSET
          go_wp2_with (go_at_call 98; refine (hL _).mono ?_; rintro e w4 ⟨rfl, hg4⟩; have hg4' := ((Grows.refl wr).alloc _).trans hg4; have hown4 := ownsRow_block (unhide HOWN) (hg4'.below.block _ (ownsRow_lt (unhide HOWN))); obtain ⟨⟨cur, bG, hcur⟩, _⟩ := ownsRow_cellsOf hown4 hlt'; obtain ⟨u0, s0⟩ := cell_there bG hcur hltk 0 (by decide); obtain ⟨u1, s1⟩ := cell_there bG hcur hltk 1 (by decide); obtain ⟨u2, s2⟩ := cell_there bG hcur hltk 2 (by decide); obtain ⟨u3, s3⟩ := cell_there bG hcur hltk 3 (by decide); obtain ⟨u4, s4⟩ := cell_there bG hcur hltk 4 (by decide); obtain ⟨u5, s5⟩ := cell_there bG hcur hltk 5 (by decide); obtain ⟨u6, s6⟩ := cell_there bG hcur hltk 6 (by decide); rw [Nat.add_zero] at s0; have z0 := bG.frozen (k * 7); have z1 := bG.frozen (k * 7 + 1); have z2 := bG.frozen (k * 7 + 2); have z3 := bG.frozen (k * 7 + 3); have z4 := bG.frozen (k * 7 + 4); have z5 := bG.frozen (k * 7 + 5); have z6 := bG.frozen (k * 7 + 6); have HO4 := hide hown4; have HG4 := hide hg4'; clear hown4 hg4 hg4' hcur bG)
          go_roundw
          case rel =>
            refine ⟨k + 1, by omega, by go_num, by rw [← unhide HSET]; exact ownsRow_put (unhide HO4) hlt' r2, ?_⟩
            have h4 := (unhide HB).trans ((unhide HG4).below.mono (by have := (unhide HB).size; omega))
            exact ((((((h4.setCell (p := ⟨g, _, none⟩) hgb _).setCell (p := ⟨g, _, none⟩) hgb _).setCell (p := ⟨g, _, none⟩) hgb _).setCell (p := ⟨g, _, none⟩) hgb _).setCell (p := ⟨g, _, none⟩) hgb _).setCell (p := ⟨g, _, none⟩) hgb _).setCell (p := ⟨g, _, none⟩) hgb _
          case measure => simp [intOf]; omega
        · have hkn : k = M.length := by omega
          subst hkn
          rw [mapUpto_all] at hown
          have hlm : (M.map rwOlder).length = M.length := by simp
          rw [← hlm] at hown
          have hD := deleteFunc_any (w.heap.size + 2) _ (M.map rwOlder) wr (by omega) hown
          rw [hlm] at hD
          have HB := hide hb
          have HOB := hide (show ∀ q, (Value.slice ao2 M.length cap2).ownBlock = some q → w.heap.size + 2 ≤ q from fun q hq => by
            rw [hlm] at hown
            rcases hown.2 with ⟨hv, _⟩ | ⟨g', c, cur, hv, hbg, _⟩
            · rw [hv] at hq; simp [Value.ownBlock] at hq
            · rw [hv] at hq; simp [Value.ownBlock] at hq; omega)
          clear hown hb hlm
          go_wp2_with (go_at_call 99; refine hD.mono ?_; rintro e w5 ⟨v5, rfl, hown5, hg5⟩)
          go_roundw
          case rel =>
            refine ⟨t + 1, by omega, by go_num, by rw [unhide HSTEP]; exact hown5, ?_⟩
            exact (unhide HB).grown hg5 (by have := (unhide HB).size; omega) (unhide HOB)
          case measure => simp [intOf]; omega
    · have htn : t = N := by omega
      subst htn
      have bT2 := bT1.below hb (by omega)
      have s0 := bT2.cell 0
      have z0 := bT2.frozen 0
      have HOWN := hide hown
      have HB := hide hb
      clear hown hb
      go_wp2
      have bT3 := bT2.set 0 (.slice ao2 (laterL t L).length cap2)
      have t0 := bT3.cell 0
      simp at t0
      refine bodyPost_ret (v := .agg #[.slice ao2 (laterL t L).length cap2]) (by simp [results, Tryz.results48, go_sem, t0]) rfl ⟨_, rfl, ?_, ?_⟩
      · exact ownsRow_mono (ownsRow_other (unhide HOWN) bT2 (by decide)) (by omega)
      · exact ((unhide HB0).trans (((unhide HB1).mono (by omega)).trans ((unhide HB).mono (by omega)))).setCell (p := ⟨w.heap.size + 1, 0, none⟩) (by simp) _

end Go.Proofs.YtdnpeefnobjfaaaGreatDoor
