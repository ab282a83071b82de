/- (*Router).change: a step of the table under the lock, published. -/
import Derived.Test.YtdnpeefnobjfaaaGreatDoorTTake
import Derived.Test.YtdnpeefnobjfaaaGreatDoorLock
namespace Go.Proofs.YtdnpeefnobjfaaaGreatDoor
open Go.RowKit Go.Shelf Go.Lib
attribute [local go_sem ↓] Go.wp_at_zero Go.wp_at_succ

/-- A piece of code that is left in the ordinary way alone. -/
theorem wp_strict {P : Program} {c : Code} {Q : Exit → Act → World → Prop} {a : Act} {w : World} (h : c.wp P (fun e a w => match e with | .normal => Q .normal a w | _ => False) a w) : c.wp P Q a w := Code.wp_mono (fun e a w h => by cases e <;> first | exact h | exact h.elim) h

set_option maxRecDepth 100000 in
set_option maxHeartbeats 4000000 in
theorem change_tick (bn R V base : Nat) (costs : List Int) (L L' : List Rw) (cv rv : Value) (w : World) (hR : RouterAt w base R costs L V cv rv) (hbase : base ≤ w.heap.size)
    (hstep : ∀ W, Below w.heap.size (w.setCell ⟨R, 1, none⟩ (.int .i32 1)) W → Calls Tryz.prog 47 #[.agg #[rv], .pointer (some ⟨bn, 0, none⟩)] W fun e W' => ∃ v', e = .returned (.agg #[v']) ∧ W'.ownsRow W.heap.size 137 7 v' L'.length (rwList L') ∧ Below W.heap.size W W') :
    Calls Tryz.prog 44 #[.pointer (some ⟨R, 0, none⟩), .func (.func 47) #[] #[.pointer (some ⟨bn, 0, none⟩)]] w fun e w' => e = .returned (.tuple #[]) ∧ ∃ V' rv', RouterAt w' base R costs L' V' cv rv' ∧ w.grownBy w' (some R) := by
  have hVR : V ≠ R := fun e => by
    have h1 := hR.blk
    have h2 := hR.view
    rw [e] at h2
    unfold Blk at h1 h2
    rw [h1] at h2
    simp at h2
  have h1 := (hR.blk.cell 1).trans (show _ = some (.int .i32 0) from rfl)
  have f1 := hR.blk.frozen 1
  have bR1 : Blk (w.setCell ⟨R, 1, none⟩ (.int .i32 1)) R #[cv, .int .i32 1, .int .u32 0, .pointer (some ⟨V, 0, none⟩)] 116 := hR.blk.set 1 (.int .i32 1)
  have bV1 : Blk (w.setCell ⟨R, 1, none⟩ (.int .i32 1)) V #[rv] 122 := hR.view.other (p := ⟨R, 1, none⟩) (fun e => hVR e.symm) _
  have c1 : (w.setCell ⟨R, 1, none⟩ (.int .i32 1)).ownsRow base 3 1 cv costs.length (numList costs) := ownsRow_other hR.costs hR.blk (by decide)
  have g1 : w.grownBy (w.setCell ⟨R, 1, none⟩ (.int .i32 1)) (some R) := ⟨rfl, rfl, rfl, by simp, fun k _ hk => Below.heap_setCell _ _ _ _ (fun e => hk (by rw [e]))⟩
  have s1 : (w.setCell ⟨R, 1, none⟩ (.int .i32 1)).heap.size = w.heap.size := by simp
  have hbR : base ≤ R := hR.new.1
  have hRl : R < w.heap.size := hR.blk.lt
  have hVl : V < w.heap.size := hR.view.lt
  have HC1 := hide c1
  have HG1 := hide g1
  have HS1 := hide s1
  clear hR c1 g1 s1
  go_enter_defers Tryz.func44, Tryz.ntmps44
  go_wp2_with (go_at_call 93; refine (Go.MuLone.lock_free Tryz.muLib ⟨R, 1, none⟩ _ h1 f1).mono ?_; rintro e w1 ⟨rfl, rfl⟩)
  generalize w.setCell ⟨R, 1, none⟩ (.int .i32 1) = W0 at *
  have v0 := (bV1.cell 0).trans (show _ = some rv from rfl)
  clear h1 f1
  have hfol := prog_follows
  refine wp_strict ?_
  go_region_with_o (first | (go_at_call 49; refine (load_any R 3 V rv W0.drew ((bR1.cell 3).trans rfl) bV1).mono ?_; rintro e w2 ⟨rfl, rfl⟩) | (go_at_call 47; refine (hstep W0.drew (Below.refl _ W0).drew).mono ?_; rintro e w3 ⟨v', rfl, hown3, hb3⟩; have HB3 := hide (show Below W0.heap.size W0 w3 from Below.trans ((Below.refl _ W0).drew) hb3); have HO3 := hide hown3; have bR3 := bR1.below (unhide HB3) bR1.lt; have r0 := (bR3.cell 0).trans (show _ = some cv from rfl); clear hown3 hb3) | (go_at_call 37; refine (store_any R 3 w3.heap.size v' (.pointer (some ⟨V, 0, none⟩)) _ (((bR3.alloc (.cells #[v'] 122)).cell 3).trans rfl) ((bR3.alloc _).frozen 3) (Blk.new w3 _ _)).mono ?_; rintro e w4 ⟨rfl, rfl⟩))
  dsimp only
  go_wp2
  refine leaves_cons (f := 94) (args := #[.pointer (some ⟨R, 1, none⟩)]) (by simp) (by simp [go_sem]) ?_
  have bR4 := (bR3.alloc (.cells #[v'] 122)).set 3 (.pointer (some ⟨w3.heap.size, 0, none⟩))
  refine (Go.MuLone.unlock_deferred Tryz.muLib ⟨R, 1, none⟩ .returning _ ((bR4.cell 1).trans rfl) (bR4.frozen 1)).mono ?_
  rintro e u' w'' ⟨rfl, rfl, rfl⟩
  have hs0 : W0.heap.size = w.heap.size := unhide HS1
  have hs3 : w.heap.size ≤ w3.heap.size := by have := (unhide HB3).size; omega
  have hRne : w3.heap.size ≠ R := by omega
  have hB := unhide HB3
  refine ⟨_, results_none rfl _ _ _, rfl, w3.heap.size, v', ⟨?_, ?_, ?_, ?_, hbR, by omega⟩, ?_⟩
  · exact bR4.set 1 _
  · exact ((Blk.new w3 _ _).other (p := ⟨R, 3, none⟩) hRne.symm _).other (p := ⟨R, 1, none⟩) hRne.symm _
  · exact ownsRow_other (ownsRow_other (ownsRow_below (ownsRow_below (unhide HC1) hB (Nat.le_refl _)) (below_new w3 _) (Nat.le_refl _)) (bR3.alloc _) (by decide)) bR4 (by decide)
  · exact ownsRow_other (ownsRow_other (ownsRow_below (ownsRow_mono (unhide HO3) (show base ≤ W0.heap.size by omega)) (below_new w3 _) (Nat.le_refl _)) (bR3.alloc _) (by decide)) bR4 (by decide)
  · exact grown_trans (unhide HG1) (grown_trans (grown_weak ⟨hB.os, hB.tape, hB.output, hB.size, fun k hk _ => hB.block k hk⟩) (grown_trans (grown_weak (World.grownBy_alloc w3 _ none)) (grown_trans (grown_set _ _ _ _) (grown_set _ _ _ _))))

set_option maxRecDepth 100000 in
set_option maxHeartbeats 4000000 in
theorem change_recv (bf br bp R V base : Nat) (costs : List Int) (L L' : List Rw) (cv rv : Value) (w : World) (hR : RouterAt w base R costs L V cv rv) (hbase : base ≤ w.heap.size)
    (hstep : ∀ W, Below w.heap.size (w.setCell ⟨R, 1, none⟩ (.int .i32 1)) W → Calls Tryz.prog 45 #[.agg #[rv], .pointer (some ⟨bf, 0, none⟩), .pointer (some ⟨br, 0, none⟩), .pointer (some ⟨bp, 0, none⟩)] W fun e W' => ∃ v', e = .returned (.agg #[v']) ∧ W'.ownsRow W.heap.size 137 7 v' L'.length (rwList L') ∧ Below W.heap.size W W') :
    Calls Tryz.prog 44 #[.pointer (some ⟨R, 0, none⟩), .func (.func 45) #[] #[.pointer (some ⟨bf, 0, none⟩), .pointer (some ⟨br, 0, none⟩), .pointer (some ⟨bp, 0, none⟩)]] w fun e w' => e = .returned (.tuple #[]) ∧ ∃ V' rv', RouterAt w' base R costs L' V' cv rv' ∧ w.grownBy w' (some R) := by
  have hVR : V ≠ R := fun e => by
    have h1 := hR.blk
    have h2 := hR.view
    rw [e] at h2
    unfold Blk at h1 h2
    rw [h1] at h2
    simp at h2
  have h1 := (hR.blk.cell 1).trans (show _ = some (.int .i32 0) from rfl)
  have f1 := hR.blk.frozen 1
  have bR1 : Blk (w.setCell ⟨R, 1, none⟩ (.int .i32 1)) R #[cv, .int .i32 1, .int .u32 0, .pointer (some ⟨V, 0, none⟩)] 116 := hR.blk.set 1 (.int .i32 1)
  have bV1 : Blk (w.setCell ⟨R, 1, none⟩ (.int .i32 1)) V #[rv] 122 := hR.view.other (p := ⟨R, 1, none⟩) (fun e => hVR e.symm) _
  have c1 : (w.setCell ⟨R, 1, none⟩ (.int .i32 1)).ownsRow base 3 1 cv costs.length (numList costs) := ownsRow_other hR.costs hR.blk (by decide)
  have g1 : w.grownBy (w.setCell ⟨R, 1, none⟩ (.int .i32 1)) (some R) := ⟨rfl, rfl, rfl, by simp, fun k _ hk => Below.heap_setCell _ _ _ _ (fun e => hk (by rw [e]))⟩
  have s1 : (w.setCell ⟨R, 1, none⟩ (.int .i32 1)).heap.size = w.heap.size := by simp
  have hbR : base ≤ R := hR.new.1
  have hRl : R < w.heap.size := hR.blk.lt
  have hVl : V < w.heap.size := hR.view.lt
  have HC1 := hide c1
  have HG1 := hide g1
  have HS1 := hide s1
  clear hR c1 g1 s1
  go_enter_defers Tryz.func44, Tryz.ntmps44
  go_wp2_with (go_at_call 93; refine (Go.MuLone.lock_free Tryz.muLib ⟨R, 1, none⟩ _ h1 f1).mono ?_; rintro e w1 ⟨rfl, rfl⟩)
  generalize w.setCell ⟨R, 1, none⟩ (.int .i32 1) = W0 at *
  have v0 := (bV1.cell 0).trans (show _ = some rv from rfl)
  clear h1 f1
  have hfol := prog_follows
  refine wp_strict ?_
  go_region_with_o (first | (go_at_call 49; refine (load_any R 3 V rv W0.drew ((bR1.cell 3).trans rfl) bV1).mono ?_; rintro e w2 ⟨rfl, rfl⟩) | (go_at_call 45; refine (hstep W0.drew (Below.refl _ W0).drew).mono ?_; rintro e w3 ⟨v', rfl, hown3, hb3⟩; have HB3 := hide (show Below W0.heap.size W0 w3 from Below.trans ((Below.refl _ W0).drew) hb3); have HO3 := hide hown3; have bR3 := bR1.below (unhide HB3) bR1.lt; have r0 := (bR3.cell 0).trans (show _ = some cv from rfl); clear hown3 hb3) | (go_at_call 37; refine (store_any R 3 w3.heap.size v' (.pointer (some ⟨V, 0, none⟩)) _ (((bR3.alloc (.cells #[v'] 122)).cell 3).trans rfl) ((bR3.alloc _).frozen 3) (Blk.new w3 _ _)).mono ?_; rintro e w4 ⟨rfl, rfl⟩))
  dsimp only
  go_wp2
  refine leaves_cons (f := 94) (args := #[.pointer (some ⟨R, 1, none⟩)]) (by simp) (by simp [go_sem]) ?_
  have bR4 := (bR3.alloc (.cells #[v'] 122)).set 3 (.pointer (some ⟨w3.heap.size, 0, none⟩))
  refine (Go.MuLone.unlock_deferred Tryz.muLib ⟨R, 1, none⟩ .returning _ ((bR4.cell 1).trans rfl) (bR4.frozen 1)).mono ?_
  rintro e u' w'' ⟨rfl, rfl, rfl⟩
  have hs0 : W0.heap.size = w.heap.size := unhide HS1
  have hs3 : w.heap.size ≤ w3.heap.size := by have := (unhide HB3).size; omega
  have hRne : w3.heap.size ≠ R := by omega
  have hB := unhide HB3
  refine ⟨_, results_none rfl _ _ _, rfl, w3.heap.size, v', ⟨?_, ?_, ?_, ?_, hbR, by omega⟩, ?_⟩
  · exact bR4.set 1 _
  · exact ((Blk.new w3 _ _).other (p := ⟨R, 3, none⟩) hRne.symm _).other (p := ⟨R, 1, none⟩) hRne.symm _
  · exact ownsRow_other (ownsRow_other (ownsRow_below (ownsRow_below (unhide HC1) hB (Nat.le_refl _)) (below_new w3 _) (Nat.le_refl _)) (bR3.alloc _) (by decide)) bR4 (by decide)
  · exact ownsRow_other (ownsRow_other (ownsRow_below (ownsRow_mono (unhide HO3) (show base ≤ W0.heap.size by omega)) (below_new w3 _) (Nat.le_refl _)) (bR3.alloc _) (by decide)) bR4 (by decide)
  · exact grown_trans (unhide HG1) (grown_trans (grown_weak ⟨hB.os, hB.tape, hB.output, hB.size, fun k hk _ => hB.block k hk⟩) (grown_trans (grown_weak (World.grownBy_alloc w3 _ none)) (grown_trans (grown_set _ _ _ _) (grown_set _ _ _ _))))

set_option maxRecDepth 100000 in
set_option maxHeartbeats 4000000 in
theorem change_down (bn R V base : Nat) (costs : List Int) (L L' : List Rw) (cv rv : Value) (w : World) (hR : RouterAt w base R costs L V cv rv) (hbase : base ≤ w.heap.size)
    (hstep : ∀ W, Below w.heap.size (w.setCell ⟨R, 1, none⟩ (.int .i32 1)) W → Calls Tryz.prog 59 #[.agg #[rv], .pointer (some ⟨bn, 0, none⟩)] W fun e W' => ∃ v', e = .returned (.agg #[v']) ∧ W'.ownsRow W.heap.size 137 7 v' L'.length (rwList L') ∧ Below W.heap.size W W') :
    Calls Tryz.prog 44 #[.pointer (some ⟨R, 0, none⟩), .func (.func 59) #[] #[.pointer (some ⟨bn, 0, none⟩)]] w fun e w' => e = .returned (.tuple #[]) ∧ ∃ V' rv', RouterAt w' base R costs L' V' cv rv' ∧ w.grownBy w' (some R) := by
  have hVR : V ≠ R := fun e => by
    have h1 := hR.blk
    have h2 := hR.view
    rw [e] at h2
    unfold Blk at h1 h2
    rw [h1] at h2
    simp at h2
  have h1 := (hR.blk.cell 1).trans (show _ = some (.int .i32 0) from rfl)
  have f1 := hR.blk.frozen 1
  have bR1 : Blk (w.setCell ⟨R, 1, none⟩ (.int .i32 1)) R #[cv, .int .i32 1, .int .u32 0, .pointer (some ⟨V, 0, none⟩)] 116 := hR.blk.set 1 (.int .i32 1)
  have bV1 : Blk (w.setCell ⟨R, 1, none⟩ (.int .i32 1)) V #[rv] 122 := hR.view.other (p := ⟨R, 1, none⟩) (fun e => hVR e.symm) _
  have c1 : (w.setCell ⟨R, 1, none⟩ (.int .i32 1)).ownsRow base 3 1 cv costs.length (numList costs) := ownsRow_other hR.costs hR.blk (by decide)
  have g1 : w.grownBy (w.setCell ⟨R, 1, none⟩ (.int .i32 1)) (some R) := ⟨rfl, rfl, rfl, by simp, fun k _ hk => Below.heap_setCell _ _ _ _ (fun e => hk (by rw [e]))⟩
  have s1 : (w.setCell ⟨R, 1, none⟩ (.int .i32 1)).heap.size = w.heap.size := by simp
  have hbR : base ≤ R := hR.new.1
  have hRl : R < w.heap.size := hR.blk.lt
  have hVl : V < w.heap.size := hR.view.lt
  have HC1 := hide c1
  have HG1 := hide g1
  have HS1 := hide s1
  clear hR c1 g1 s1
  go_enter_defers Tryz.func44, Tryz.ntmps44
  go_wp2_with (go_at_call 93; refine (Go.MuLone.lock_free Tryz.muLib ⟨R, 1, none⟩ _ h1 f1).mono ?_; rintro e w1 ⟨rfl, rfl⟩)
  generalize w.setCell ⟨R, 1, none⟩ (.int .i32 1) = W0 at *
  have v0 := (bV1.cell 0).trans (show _ = some rv from rfl)
  clear h1 f1
  have hfol := prog_follows
  refine wp_strict ?_
  go_region_with_o (first | (go_at_call 49; refine (load_any R 3 V rv W0.drew ((bR1.cell 3).trans rfl) bV1).mono ?_; rintro e w2 ⟨rfl, rfl⟩) | (go_at_call 59; refine (hstep W0.drew (Below.refl _ W0).drew).mono ?_; rintro e w3 ⟨v', rfl, hown3, hb3⟩; have HB3 := hide (show Below W0.heap.size W0 w3 from Below.trans ((Below.refl _ W0).drew) hb3); have HO3 := hide hown3; have bR3 := bR1.below (unhide HB3) bR1.lt; have r0 := (bR3.cell 0).trans (show _ = some cv from rfl); clear hown3 hb3) | (go_at_call 37; refine (store_any R 3 w3.heap.size v' (.pointer (some ⟨V, 0, none⟩)) _ (((bR3.alloc (.cells #[v'] 122)).cell 3).trans rfl) ((bR3.alloc _).frozen 3) (Blk.new w3 _ _)).mono ?_; rintro e w4 ⟨rfl, rfl⟩))
  dsimp only
  go_wp2
  refine leaves_cons (f := 94) (args := #[.pointer (some ⟨R, 1, none⟩)]) (by simp) (by simp [go_sem]) ?_
  have bR4 := (bR3.alloc (.cells #[v'] 122)).set 3 (.pointer (some ⟨w3.heap.size, 0, none⟩))
  refine (Go.MuLone.unlock_deferred Tryz.muLib ⟨R, 1, none⟩ .returning _ ((bR4.cell 1).trans rfl) (bR4.frozen 1)).mono ?_
  rintro e u' w'' ⟨rfl, rfl, rfl⟩
  have hs0 : W0.heap.size = w.heap.size := unhide HS1
  have hs3 : w.heap.size ≤ w3.heap.size := by have := (unhide HB3).size; omega
  have hRne : w3.heap.size ≠ R := by omega
  have hB := unhide HB3
  refine ⟨_, results_none rfl _ _ _, rfl, w3.heap.size, v', ⟨?_, ?_, ?_, ?_, hbR, by omega⟩, ?_⟩
  · exact bR4.set 1 _
  · exact ((Blk.new w3 _ _).other (p := ⟨R, 3, none⟩) hRne.symm _).other (p := ⟨R, 1, none⟩) hRne.symm _
  · exact ownsRow_other (ownsRow_other (ownsRow_below (ownsRow_below (unhide HC1) hB (Nat.le_refl _)) (below_new w3 _) (Nat.le_refl _)) (bR3.alloc _) (by decide)) bR4 (by decide)
  · exact ownsRow_other (ownsRow_other (ownsRow_below (ownsRow_mono (unhide HO3) (show base ≤ W0.heap.size by omega)) (below_new w3 _) (Nat.le_refl _)) (bR3.alloc _) (by decide)) bR4 (by decide)
  · exact grown_trans (unhide HG1) (grown_trans (grown_weak ⟨hB.os, hB.tape, hB.output, hB.size, fun k hk _ => hB.block k hk⟩) (grown_trans (grown_weak (World.grownBy_alloc w3 _ none)) (grown_trans (grown_set _ _ _ _) (grown_set _ _ _ _))))

end Go.Proofs.YtdnpeefnobjfaaaGreatDoor
