/- (*Router).Tick, (*Router).Down. -/
import Derived.Test.YtdnpeefnobjfaaaGreatDoorTChange
import Derived.Test.YtdnpeefnobjfaaaGreatDoorTHear
namespace Go.Proofs.YtdnpeefnobjfaaaGreatDoor
open Go.RowKit Go.Shelf Go.Lib
attribute [local go_sem ↓] Go.wp_at_zero Go.wp_at_succ

theorem RouterAt.below {w w' : World} {base R V : Nat} {costs : List Int} {L : List Rw} {cv rv : Value} (h : RouterAt w base R costs L V cv rv) (hb : Below w.heap.size w w') : RouterAt w' base R costs L V cv rv :=
  ⟨h.blk.below hb h.blk.lt, h.view.below hb h.view.lt, ownsRow_below h.costs hb (Nat.le_refl _), ownsRow_below h.rows hb (Nat.le_refl _), h.new⟩
theorem RouterAt.base_le {w : World} {base R V : Nat} {costs : List Int} {L : List Rw} {cv rv : Value} (h : RouterAt w base R costs L V cv rv) : base ≤ w.heap.size := Nat.le_trans h.new.1 (Nat.le_of_lt h.blk.lt)
/-- The rows stay as they are under the lock. -/
theorem RouterAt.locked {w : World} {base R V : Nat} {costs : List Int} {L : List Rw} {cv rv : Value} (h : RouterAt w base R costs L V cv rv) {W : World} (hb : Below w.heap.size (w.setCell ⟨R, 1, none⟩ (.int .i32 1)) W) : W.ownsRow base 137 7 rv L.length (rwList L) :=
  ownsRow_below (ownsRow_other h.rows h.blk (by decide)) hb (by simp)
theorem RouterAt.lockedCosts {w : World} {base R V : Nat} {costs : List Int} {L : List Rw} {cv rv : Value} (h : RouterAt w base R costs L V cv rv) {W : World} (hb : Below w.heap.size (w.setCell ⟨R, 1, none⟩ (.int .i32 1)) W) : W.ownsRow base 3 1 cv costs.length (numList costs) :=
  ownsRow_below (ownsRow_other h.costs h.blk (by decide)) hb (by simp)

set_option maxRecDepth 100000 in
set_option maxHeartbeats 1000000 in
theorem tickStep_any (bn base N : Nat) (rv : Value) (L : List Rw) (W : World) (hc : W.cell? ⟨bn, 0, none⟩ = some (.int .i64 N)) (hn : L.length ≤ 1000000) (hN : N ≤ 1000) (hage : agesIn 10000 L) (hown : W.ownsRow base 137 7 rv L.length (rwList L)) :
    Calls Tryz.prog 47 #[.agg #[rv], .pointer (some ⟨bn, 0, none⟩)] W fun e W' => ∃ v', e = .returned (.agg #[v']) ∧ W'.ownsRow W.heap.size 137 7 v' (laterL N L).length (rwList (laterL N L)) ∧ Below W.heap.size W W' := by
  obtain ⟨ao, cap, rfl⟩ := ownsRow_slice hown
  have bT := outBlk W #[.slice ao L.length cap] 120 #[.slice none 0 0] 120
  have hb0 := (((Grows.refl W).alloc (.cells #[.slice ao L.length cap] 120)).alloc (.cells #[.slice none 0 0] 120)).below
  have hsz : ((W.alloc (.cells #[.slice ao L.length cap] 120)).alloc (.cells #[.slice none 0 0] 120)).heap.size = W.heap.size + 2 := by simp
  have hL := later_any base ao cap N L ((W.alloc (.cells #[.slice ao L.length cap] 120)).alloc (.cells #[.slice none 0 0] 120)) hn hN hage (ownsRow_below hown hb0 (Nat.le_refl _))
  have hc2 := (hb0.cell (p := ⟨bn, 0, none⟩) (World.block_lt_of_cell? W _ hc)).trans hc
  have HT := hide bT
  have HB0 := hide hb0
  have HSZ := hide hsz
  clear bT hb0 hsz hown hage
  go_enter Tryz.func47, Tryz.ntmps47
  go_wp2_with (go_at_call 48; refine hL.mono ?_; rintro e w1 ⟨v', rfl, hown1, hb1⟩; obtain ⟨a1, c1, rfl⟩ := ownsRow_slice hown1; have bT1 := (unhide HT).below hb1 (by rw [unhide HSZ]; omega); have s0 := bT1.cell 0; have z0 := bT1.frozen 0; have HO1 := hide hown1; have HB1 := hide hb1; clear hown1 hb1)
  have bT3 := bT1.set 0 (.slice a1 (laterL N L).length c1)
  have t0 := bT3.cell 0
  simp at t0
  have hs := unhide HSZ
  refine bodyPost_ret (v := .agg #[.slice a1 (laterL N L).length c1]) (by simp [results, Tryz.results47, go_sem, t0]) rfl ⟨_, rfl, ?_, ?_⟩
  · exact ownsRow_mono (ownsRow_other (unhide HO1) bT1 (by decide)) (by omega)
  · exact ((unhide HB0).trans ((unhide HB1).mono (by omega))).setCell (p := ⟨W.heap.size + 1, 0, none⟩) (by simp) _

set_option maxRecDepth 100000 in
set_option maxHeartbeats 1000000 in
theorem tick_any (R V base N : Nat) (costs : List Int) (L : List Rw) (cv rv : Value) (w : World) (hR : RouterAt w base R costs L V cv rv) (hn : L.length ≤ 1000000) (hN : N ≤ 1000) (hage : agesIn 10000 L) :
    Calls Tryz.prog 16 #[.pointer (some ⟨R, 0, none⟩), .int .i64 N] w fun e w' => e = .returned .nilIface ∧ ∃ V' rv', RouterAt w' base R costs (laterL N L) V' cv rv' ∧ w.grownBy w' (some R) := by
  have hR1 := hR.below (below_new w (.cells #[.int .i64 N] 3))
  have hRl := hR.blk.lt
  have hch := change_tick w.heap.size R V base costs L (laterL N L) cv rv (w.alloc (.cells #[.int .i64 N] 3)) hR1 hR1.base_le (fun W hb => tickStep_any w.heap.size base N rv L W
    ((hb.cell (p := ⟨w.heap.size, 0, none⟩) (by simp)).trans ((((Blk.new w #[.int .i64 N] 3).other (p := ⟨R, 1, none⟩) (Nat.ne_of_lt hRl) _).cell 0).trans rfl)) hn hN hage (hR1.locked hb))
  have g0 : w.grownBy (w.alloc (.cells #[.int .i64 N] 3)) (some R) := World.grownBy_alloc w _ _
  have i0 : ¬ (N : Int) < 0 := by omega
  have i1 : ¬ (1000 : Int) < (N : Int) := by omega
  clear hR hR1 hage
  go_enter Tryz.func16, Tryz.ntmps16
  go_wp2_with (go_at_call 44; refine hch.mono ?_; rintro e w1 ⟨rfl, V', rv', hR', hg'⟩)
  go_ret
  exact ⟨rfl, V', rv', hR', grown_trans g0 hg'⟩

end Go.Proofs.YtdnpeefnobjfaaaGreatDoor
