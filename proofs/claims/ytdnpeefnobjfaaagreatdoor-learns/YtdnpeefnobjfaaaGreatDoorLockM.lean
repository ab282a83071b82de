/- The numbers under which this program holds sync.Mutex's functions and types, and that it holds them. -/
import Derived.Test.YtdnpeefnobjfaaaGreatDoorProg
import Derived.Conc.MuLone
import Derived.KernelRfl
import Derived.Test.YtdnpeefnobjfaaaGreatDoorTTakeM
namespace Go.Proofs
abbrev Tryz.muLink : Go.Conc.Locks.MuLink := { lock := 93, unlock := 94, ilock := 144, iunlock := 145, lockSlow := 188, unlockSlow := 191, disable := 184, enable := 186, acquire := 187, relMerge := 189, cas32 := 185, add32 := 190, tMutex := 109, tIMutex := 107, tPMutex := 244, tPIMutex := 302, tPI32 := 304, tUP := 112, tNoCopy := 105, tU32 := 30 }
theorem Tryz.muLib : Go.Conc.Locks.MuLib Tryz.prog Tryz.muLink :=
  ⟨Tryz.func93, Tryz.func94, Tryz.func144, Tryz.func145, Tryz.func184, Tryz.func186, Tryz.func187, Tryz.func189, Tryz.func185, Tryz.func190,
    Tryz.underlying107, Tryz.runUnderlying107, Tryz.sizeOf107, Tryz.isAgg107, Tryz.zeroValue107,
    Tryz.underlying109, Tryz.runUnderlying109, Tryz.sizeOf109, Tryz.isAgg109, Tryz.zeroValue109,
    Tryz.underlying244, Tryz.runUnderlying244, Tryz.sizeOf244, Tryz.isAgg244, Tryz.zeroValue244,
    Tryz.underlying302, Tryz.runUnderlying302, Tryz.sizeOf302, Tryz.isAgg302, Tryz.zeroValue302,
    Tryz.underlying304, Tryz.runUnderlying304, Tryz.sizeOf304, Tryz.isAgg304, Tryz.zeroValue304,
    Tryz.underlying112, Tryz.runUnderlying112, Tryz.sizeOf112, Tryz.isAgg112, Tryz.zeroValue112,
    Tryz.underlying105, Tryz.runUnderlying105, Tryz.sizeOf105, Tryz.isAgg105, Tryz.zeroValue105,
    Tryz.underlying21, Tryz.runUnderlying21, Tryz.sizeOf21, Tryz.isAgg21, Tryz.zeroValue21, (by kernel_rfl)⟩
end Go.Proofs

/- (*Router).change: a step of the table under the lock, published. -/
namespace Go.Proofs.YtdnpeefnobjfaaaGreatDoor
open Go.RowKit Go.Shelf Go.Lib
attribute [local go_sem ↓] Go.wp_at_zero Go.wp_at_succ

/-- A piece of code that is left in the ordinary way alone. -/
theorem wp_strict {P : Program} {c : Code} {Q : Exit → Act → World → Prop} {a : Act} {w : World} (h : c.wp P (fun e a w => match e with | .normal => Q .normal a w | _ => False) a w) : c.wp P Q a w := Code.wp_mono (fun e a w h => by cases e <;> first | exact h | exact h.elim) h

set_option maxRecDepth 100000 in
set_option maxHeartbeats 4000000 in
theorem change_tick (bn R V base : Nat) (costs : List Int) (L L' : List Rw) (cv rv : Value) (w : World) (hR : RouterAt w base R costs L V cv rv) (hbase : base ≤ w.heap.size)
    (hstep : ∀ W, Below w.heap.size (w.setCell ⟨R, 1, none⟩ (.int .i32 1)) W → Calls Tryz.prog 47 #[.agg #[rv], .pointer (some ⟨bn, 0, none⟩)] W fun e W' => ∃ v', e = .returned (.agg #[v']) ∧ W'.ownsRow W.heap.size 137 7 v' L'.length (rwList L') ∧ Below W.heap.size W W') :
    Calls Tryz.prog 44 #[.pointer (some ⟨R, 0, none⟩), .func (.func 47) #[] #[.pointer (some ⟨bn, 0, none⟩)]] w fun e w' => e = .returned (.tuple #[]) ∧ ∃ V' rv', RouterAt w' base R costs L' V' cv rv' ∧ w.grownBy w' (some R) ∧ w.heap.size ≤ V' ∧ w'.ownsRow w.heap.size 137 7 rv' L'.length (rwList L') := by
  have hVR : V ≠ R := fun e => by
    have h1 := hR.blk
    have h2 := hR.view
    rw [e] at h2
    unfold Blk at h1 h2
    rw [h1] at h2
    simp at h2
  have h1 := (hR.blk.cell 1).trans (show _ = some (.int .i32 0) from rfl)
  have f1 := hR.blk.frozen 1
  have bR1 : Blk (w.setCell ⟨R, 1, none⟩ (.int .i32 1)) R #[cv, .int .i32 1, .int .u32 0, .pointer (some ⟨V, 0, none⟩)] 116 := hR.blk.set 1 (.int .i32 1)
  have bV1 : Blk (w.setCell ⟨R, 1, none⟩ (.int .i32 1)) V #[rv] 122 := hR.view.other (p := ⟨R, 1, none⟩) (fun e => hVR e.symm) _
  have c1 : (w.setCell ⟨R, 1, none⟩ (.int .i32 1)).ownsRow base 3 1 cv costs.length (numList costs) := ownsRow_other hR.costs hR.blk (by decide)
  have g1 : w.grownBy (w.setCell ⟨R, 1, none⟩ (.int .i32 1)) (some R) := ⟨rfl, rfl, rfl, by simp, fun k _ hk => Below.heap_setCell _ _ _ _ (fun e => hk (by rw [e]))⟩
  have s1 : (w.setCell ⟨R, 1, none⟩ (.int .i32 1)).heap.size = w.heap.size := by simp
  have hbR : base ≤ R := hR.new.1
  have hRl : R < w.heap.size := hR.blk.lt
  have hVl : V < w.heap.size := hR.view.lt
  have HC1 := hide c1
  have HG1 := hide g1
  have HS1 := hide s1
  clear hR c1 g1 s1
  go_enter_defers Tryz.func44, Tryz.ntmps44
  go_wp2_with (go_at_call 93; refine (Go.MuLone.lock_free Tryz.muLib ⟨R, 1, none⟩ _ h1 f1).mono ?_; rintro e w1 ⟨rfl, rfl⟩)
  generalize w.setCell ⟨R, 1, none⟩ (.int .i32 1) = W0 at *
  have v0 := (bV1.cell 0).trans (show _ = some rv from rfl)
  clear h1 f1
  have hfol := prog_follows
  refine wp_strict ?_
  go_region_with_o (first | (go_at_call 49; refine (load_any R 3 V rv W0.drew ((bR1.cell 3).trans rfl) bV1).mono ?_; rintro e w2 ⟨rfl, rfl⟩) | (go_at_call 47; refine (hstep W0.drew (Below.refl _ W0).drew).mono ?_; rintro e w3 ⟨v', rfl, hown3, hb3⟩; have HB3 := hide (show Below W0.heap.size W0 w3 from Below.trans ((Below.refl _ W0).drew) hb3); have HO3 := hide hown3; have bR3 := bR1.below (unhide HB3) bR1.lt; have r0 := (bR3.cell 0).trans (show _ = some cv from rfl); clear hown3 hb3) | (go_at_call 37; refine (store_any R 3 w3.heap.size v' (.pointer (some ⟨V, 0, none⟩)) _ (((bR3.alloc (.cells #[v'] 122)).cell 3).trans rfl) ((bR3.alloc _).frozen 3) (Blk.new w3 _ _)).mono ?_; rintro e w4 ⟨rfl, rfl⟩))
  dsimp only
  go_wp2
  refine leaves_cons (f := 94) (args := #[.pointer (some ⟨R, 1, none⟩)]) (by simp) (by simp [go_sem]) ?_
  have bR4 := (bR3.alloc (.cells #[v'] 122)).set 3 (.pointer (some ⟨w3.heap.size, 0, none⟩))
  refine (Go.MuLone.unlock_deferred Tryz.muLib ⟨R, 1, none⟩ .returning _ ((bR4.cell 1).trans rfl) (bR4.frozen 1)).mono ?_
  rintro e u' w'' ⟨rfl, rfl, rfl⟩
  have hs0 : W0.heap.size = w.heap.size := unhide HS1
  have hs3 : w.heap.size ≤ w3.heap.size := by have := (unhide HB3).size; omega
  have hRne : w3.heap.size ≠ R := by omega
  have hB := unhide HB3
  refine ⟨_, results_none rfl _ _ _, rfl, w3.heap.size, v', ⟨?_, ?_, ?_, ?_, hbR, by omega⟩, ?_, hs3, ?_⟩
  · exact bR4.set 1 _
  · exact ((Blk.new w3 _ _).other (p := ⟨R, 3, none⟩) hRne.symm _).other (p := ⟨R, 1, none⟩) hRne.symm _
  · exact ownsRow_other (ownsRow_other (ownsRow_below (ownsRow_below (unhide HC1) hB (Nat.le_refl _)) (below_new w3 _) (Nat.le_refl _)) (bR3.alloc _) (by decide)) bR4 (by decide)
  · exact ownsRow_other (ownsRow_other (ownsRow_below (ownsRow_mono (unhide HO3) (show base ≤ W0.heap.size by omega)) (below_new w3 _) (Nat.le_refl _)) (bR3.alloc _) (by decide)) bR4 (by decide)
  · exact grown_trans (unhide HG1) (grown_trans (grown_weak ⟨hB.os, hB.tape, hB.output, hB.size, fun k hk _ => hB.block k hk⟩) (grown_trans (grown_weak (World.grownBy_alloc w3 _ none)) (grown_trans (grown_set _ _ _ _) (grown_set _ _ _ _))))
  · exact ownsRow_other (ownsRow_other (ownsRow_below (ownsRow_mono (unhide HO3) (show w.heap.size ≤ W0.heap.size by omega)) (below_new w3 _) (Nat.le_refl _)) (bR3.alloc _) (by decide)) bR4 (by decide)

set_option maxRecDepth 100000 in
set_option maxHeartbeats 4000000 in
theorem change_recv (bf br bp R V base : Nat) (costs : List Int) (L L' : List Rw) (cv rv : Value) (w : World) (hR : RouterAt w base R costs L V cv rv) (hbase : base ≤ w.heap.size)
    (hstep : ∀ W, Below w.heap.size (w.setCell ⟨R, 1, none⟩ (.int .i32 1)) W → Calls Tryz.prog 45 #[.agg #[rv], .pointer (some ⟨bf, 0, none⟩), .pointer (some ⟨br, 0, none⟩), .pointer (some ⟨bp, 0, none⟩)] W fun e W' => ∃ v', e = .returned (.agg #[v']) ∧ W'.ownsRow W.heap.size 137 7 v' L'.length (rwList L') ∧ Below W.heap.size W W') :
    Calls Tryz.prog 44 #[.pointer (some ⟨R, 0, none⟩), .func (.func 45) #[] #[.pointer (some ⟨bf, 0, none⟩), .pointer (some ⟨br, 0, none⟩), .pointer (some ⟨bp, 0, none⟩)]] w fun e w' => e = .returned (.tuple #[]) ∧ ∃ V' rv', RouterAt w' base R costs L' V' cv rv' ∧ w.grownBy w' (some R) ∧ w.heap.size ≤ V' ∧ w'.ownsRow w.heap.size 137 7 rv' L'.length (rwList L') := by
  have hVR : V ≠ R := fun e => by
    have h1 := hR.blk
    have h2 := hR.view
    rw [e] at h2
    unfold Blk at h1 h2
    rw [h1] at h2
    simp at h2
  have h1 := (hR.blk.cell 1).trans (show _ = some (.int .i32 0) from rfl)
  have f1 := hR.blk.frozen 1
  have bR1 : Blk (w.setCell ⟨R, 1, none⟩ (.int .i32 1)) R #[cv, .int .i32 1, .int .u32 0, .pointer (some ⟨V, 0, none⟩)] 116 := hR.blk.set 1 (.int .i32 1)
  have bV1 : Blk (w.setCell ⟨R, 1, none⟩ (.int .i32 1)) V #[rv] 122 := hR.view.other (p := ⟨R, 1, none⟩) (fun e => hVR e.symm) _
  have c1 : (w.setCell ⟨R, 1, none⟩ (.int .i32 1)).ownsRow base 3 1 cv costs.length (numList costs) := ownsRow_other hR.costs hR.blk (by decide)
  have g1 : w.grownBy (w.setCell ⟨R, 1, none⟩ (.int .i32 1)) (some R) := ⟨rfl, rfl, rfl, by simp, fun k _ hk => Below.heap_setCell _ _ _ _ (fun e => hk (by rw [e]))⟩
  have s1 : (w.setCell ⟨R, 1, none⟩ (.int .i32 1)).heap.size = w.heap.size := by simp
  have hbR : base ≤ R := hR.new.1
  have hRl : R < w.heap.size := hR.blk.lt
  have hVl : V < w.heap.size := hR.view.lt
  have HC1 := hide c1
  have HG1 := hide g1
  have HS1 := hide s1
  clear hR c1 g1 s1
  go_enter_defers Tryz.func44, Tryz.ntmps44
  go_wp2_with (go_at_call 93; refine (Go.MuLone.lock_free Tryz.muLib ⟨R, 1, none⟩ _ h1 f1).mono ?_; rintro e w1 ⟨rfl, rfl⟩)
  generalize w.setCell ⟨R, 1, none⟩ (.int .i32 1) = W0 at *
  have v0 := (bV1.cell 0).trans (show _ = some rv from rfl)
  clear h1 f1
  have hfol := prog_follows
  refine wp_strict ?_
  go_region_with_o (first | (go_at_call 49; refine (load_any R 3 V rv W0.drew ((bR1.cell 3).trans rfl) bV1).mono ?_; rintro e w2 ⟨rfl, rfl⟩) | (go_at_call 45; refine (hstep W0.drew (Below.refl _ W0).drew).mono ?_; rintro e w3 ⟨v', rfl, hown3, hb3⟩; have HB3 := hide (show Below W0.heap.size W0 w3 from Below.trans ((Below.refl _ W0).drew) hb3); have HO3 := hide hown3; have bR3 := bR1.below (unhide HB3) bR1.lt; have r0 := (bR3.cell 0).trans (show _ = some cv from rfl); clear hown3 hb3) | (go_at_call 37; refine (store_any R 3 w3.heap.size v' (.pointer (some ⟨V, 0, none⟩)) _ (((bR3.alloc (.cells #[v'] 122)).cell 3).trans rfl) ((bR3.alloc _).frozen 3) (Blk.new w3 _ _)).mono ?_; rintro e w4 ⟨rfl, rfl⟩))
  dsimp only
  go_wp2
  refine leaves_cons (f := 94) (args := #[.pointer (some ⟨R, 1, none⟩)]) (by simp) (by simp [go_sem]) ?_
  have bR4 := (bR3.alloc (.cells #[v'] 122)).set 3 (.pointer (some ⟨w3.heap.size, 0, none⟩))
  refine (Go.MuLone.unlock_deferred Tryz.muLib ⟨R, 1, none⟩ .returning _ ((bR4.cell 1).trans rfl) (bR4.frozen 1)).mono ?_
  rintro e u' w'' ⟨rfl, rfl, rfl⟩
  have hs0 : W0.heap.size = w.heap.size := unhide HS1
  have hs3 : w.heap.size ≤ w3.heap.size := by have := (unhide HB3).size; omega
  have hRne : w3.heap.size ≠ R := by omega
  have hB := unhide HB3
  refine ⟨_, results_none rfl _ _ _, rfl, w3.heap.size, v', ⟨?_, ?_, ?_, ?_, hbR, by omega⟩, ?_, hs3, ?_⟩
  · exact bR4.set 1 _
  · exact ((Blk.new w3 _ _).other (p := ⟨R, 3, none⟩) hRne.symm _).other (p := ⟨R, 1, none⟩) hRne.symm _
  · exact ownsRow_other (ownsRow_other (ownsRow_below (ownsRow_below (unhide HC1) hB (Nat.le_refl _)) (below_new w3 _) (Nat.le_refl _)) (bR3.alloc _) (by decide)) bR4 (by decide)
  · exact ownsRow_other (ownsRow_other (ownsRow_below (ownsRow_mono (unhide HO3) (show base ≤ W0.heap.size by omega)) (below_new w3 _) (Nat.le_refl _)) (bR3.alloc _) (by decide)) bR4 (by decide)
  · exact grown_trans (unhide HG1) (grown_trans (grown_weak ⟨hB.os, hB.tape, hB.output, hB.size, fun k hk _ => hB.block k hk⟩) (grown_trans (grown_weak (World.grownBy_alloc w3 _ none)) (grown_trans (grown_set _ _ _ _) (grown_set _ _ _ _))))
  · exact ownsRow_other (ownsRow_other (ownsRow_below (ownsRow_mono (unhide HO3) (show w.heap.size ≤ W0.heap.size by omega)) (below_new w3 _) (Nat.le_refl _)) (bR3.alloc _) (by decide)) bR4 (by decide)

set_option maxRecDepth 100000 in
set_option maxHeartbeats 4000000 in
theorem change_down (bn R V base : Nat) (costs : List Int) (L L' : List Rw) (cv rv : Value) (w : World) (hR : RouterAt w base R costs L V cv rv) (hbase : base ≤ w.heap.size)
    (hstep : ∀ W, Below w.heap.size (w.setCell ⟨R, 1, none⟩ (.int .i32 1)) W → Calls Tryz.prog 59 #[.agg #[rv], .pointer (some ⟨bn, 0, none⟩)] W fun e W' => ∃ v', e = .returned (.agg #[v']) ∧ W'.ownsRow W.heap.size 137 7 v' L'.length (rwList L') ∧ Below W.heap.size W W') :
    Calls Tryz.prog 44 #[.pointer (some ⟨R, 0, none⟩), .func (.func 59) #[] #[.pointer (some ⟨bn, 0, none⟩)]] w fun e w' => e = .returned (.tuple #[]) ∧ ∃ V' rv', RouterAt w' base R costs L' V' cv rv' ∧ w.grownBy w' (some R) ∧ w.heap.size ≤ V' ∧ w'.ownsRow w.heap.size 137 7 rv' L'.length (rwList L') := by
  have hVR : V ≠ R := fun e => by
    have h1 := hR.blk
    have h2 := hR.view
    rw [e] at h2
    unfold Blk at h1 h2
    rw [h1] at h2
    simp at h2
  have h1 := (hR.blk.cell 1).trans (show _ = some (.int .i32 0) from rfl)
  have f1 := hR.blk.frozen 1
  have bR1 : Blk (w.setCell ⟨R, 1, none⟩ (.int .i32 1)) R #[cv, .int .i32 1, .int .u32 0, .pointer (some ⟨V, 0, none⟩)] 116 := hR.blk.set 1 (.int .i32 1)
  have bV1 : Blk (w.setCell ⟨R, 1, none⟩ (.int .i32 1)) V #[rv] 122 := hR.view.other (p := ⟨R, 1, none⟩) (fun e => hVR e.symm) _
  have c1 : (w.setCell ⟨R, 1, none⟩ (.int .i32 1)).ownsRow base 3 1 cv costs.length (numList costs) := ownsRow_other hR.costs hR.blk (by decide)
  have g1 : w.grownBy (w.setCell ⟨R, 1, none⟩ (.int .i32 1)) (some R) := ⟨rfl, rfl, rfl, by simp, fun k _ hk => Below.heap_setCell _ _ _ _ (fun e => hk (by rw [e]))⟩
  have s1 : (w.setCell ⟨R, 1, none⟩ (.int .i32 1)).heap.size = w.heap.size := by simp
  have hbR : base ≤ R := hR.new.1
  have hRl : R < w.heap.size := hR.blk.lt
  have hVl : V < w.heap.size := hR.view.lt
  have HC1 := hide c1
  have HG1 := hide g1
  have HS1 := hide s1
  clear hR c1 g1 s1
  go_enter_defers Tryz.func44, Tryz.ntmps44
  go_wp2_with (go_at_call 93; refine (Go.MuLone.lock_free Tryz.muLib ⟨R, 1, none⟩ _ h1 f1).mono ?_; rintro e w1 ⟨rfl, rfl⟩)
  generalize w.setCell ⟨R, 1, none⟩ (.int .i32 1) = W0 at *
  have v0 := (bV1.cell 0).trans (show _ = some rv from rfl)
  clear h1 f1
  have hfol := prog_follows
  refine wp_strict ?_
  go_region_with_o (first | (go_at_call 49; refine (load_any R 3 V rv W0.drew ((bR1.cell 3).trans rfl) bV1).mono ?_; rintro e w2 ⟨rfl, rfl⟩) | (go_at_call 59; refine (hstep W0.drew (Below.refl _ W0).drew).mono ?_; rintro e w3 ⟨v', rfl, hown3, hb3⟩; have HB3 := hide (show Below W0.heap.size W0 w3 from Below.trans ((Below.refl _ W0).drew) hb3); have HO3 := hide hown3; have bR3 := bR1.below (unhide HB3) bR1.lt; have r0 := (bR3.cell 0).trans (show _ = some cv from rfl); clear hown3 hb3) | (go_at_call 37; refine (store_any R 3 w3.heap.size v' (.pointer (some ⟨V, 0, none⟩)) _ (((bR3.alloc (.cells #[v'] 122)).cell 3).trans rfl) ((bR3.alloc _).frozen 3) (Blk.new w3 _ _)).mono ?_; rintro e w4 ⟨rfl, rfl⟩))
  dsimp only
  go_wp2
  refine leaves_cons (f := 94) (args := #[.pointer (some ⟨R, 1, none⟩)]) (by simp) (by simp [go_sem]) ?_
  have bR4 := (bR3.alloc (.cells #[v'] 122)).set 3 (.pointer (some ⟨w3.heap.size, 0, none⟩))
  refine (Go.MuLone.unlock_deferred Tryz.muLib ⟨R, 1, none⟩ .returning _ ((bR4.cell 1).trans rfl) (bR4.frozen 1)).mono ?_
  rintro e u' w'' ⟨rfl, rfl, rfl⟩
  have hs0 : W0.heap.size = w.heap.size := unhide HS1
  have hs3 : w.heap.size ≤ w3.heap.size := by have := (unhide HB3).size; omega
  have hRne : w3.heap.size ≠ R := by omega
  have hB := unhide HB3
  refine ⟨_, results_none rfl _ _ _, rfl, w3.heap.size, v', ⟨?_, ?_, ?_, ?_, hbR, by omega⟩, ?_, hs3, ?_⟩
  · exact bR4.set 1 _
  · exact ((Blk.new w3 _ _).other (p := ⟨R, 3, none⟩) hRne.symm _).other (p := ⟨R, 1, none⟩) hRne.symm _
  · exact ownsRow_other (ownsRow_other (ownsRow_below (ownsRow_below (unhide HC1) hB (Nat.le_refl _)) (below_new w3 _) (Nat.le_refl _)) (bR3.alloc _) (by decide)) bR4 (by decide)
  · exact ownsRow_other (ownsRow_other (ownsRow_below (ownsRow_mono (unhide HO3) (show base ≤ W0.heap.size by omega)) (below_new w3 _) (Nat.le_refl _)) (bR3.alloc _) (by decide)) bR4 (by decide)
  · exact grown_trans (unhide HG1) (grown_trans (grown_weak ⟨hB.os, hB.tape, hB.output, hB.size, fun k hk _ => hB.block k hk⟩) (grown_trans (grown_weak (World.grownBy_alloc w3 _ none)) (grown_trans (grown_set _ _ _ _) (grown_set _ _ _ _))))
  · exact ownsRow_other (ownsRow_other (ownsRow_below (ownsRow_mono (unhide HO3) (show w.heap.size ≤ W0.heap.size by omega)) (below_new w3 _) (Nat.le_refl _)) (bR3.alloc _) (by decide)) bR4 (by decide)

end Go.Proofs.YtdnpeefnobjfaaaGreatDoor

/- (*Router).Tick, (*Router).Down. -/
namespace Go.Proofs.YtdnpeefnobjfaaaGreatDoor
open Go.RowKit Go.Shelf Go.Lib
attribute [local go_sem ↓] Go.wp_at_zero Go.wp_at_succ

theorem RouterAt.below {w w' : World} {base R V : Nat} {costs : List Int} {L : List Rw} {cv rv : Value} (h : RouterAt w base R costs L V cv rv) (hb : Below w.heap.size w w') : RouterAt w' base R costs L V cv rv :=
  ⟨h.blk.below hb h.blk.lt, h.view.below hb h.view.lt, ownsRow_below h.costs hb (Nat.le_refl _), ownsRow_below h.rows hb (Nat.le_refl _), h.new⟩
theorem RouterAt.base_le {w : World} {base R V : Nat} {costs : List Int} {L : List Rw} {cv rv : Value} (h : RouterAt w base R costs L V cv rv) : base ≤ w.heap.size := Nat.le_trans h.new.1 (Nat.le_of_lt h.blk.lt)
/-- The rows stay as they are under the lock. -/
theorem RouterAt.locked {w : World} {base R V : Nat} {costs : List Int} {L : List Rw} {cv rv : Value} (h : RouterAt w base R costs L V cv rv) {W : World} (hb : Below w.heap.size (w.setCell ⟨R, 1, none⟩ (.int .i32 1)) W) : W.ownsRow base 137 7 rv L.length (rwList L) :=
  ownsRow_below (ownsRow_other h.rows h.blk (by decide)) hb (by simp)
theorem RouterAt.lockedCosts {w : World} {base R V : Nat} {costs : List Int} {L : List Rw} {cv rv : Value} (h : RouterAt w base R costs L V cv rv) {W : World} (hb : Below w.heap.size (w.setCell ⟨R, 1, none⟩ (.int .i32 1)) W) : W.ownsRow base 3 1 cv costs.length (numList costs) :=
  ownsRow_below (ownsRow_other h.costs h.blk (by decide)) hb (by simp)

set_option maxRecDepth 100000 in
set_option maxHeartbeats 1000000 in
theorem tickStep_any (bn base N : Nat) (rv : Value) (L : List Rw) (W : World) (hc : W.cell? ⟨bn, 0, none⟩ = some (.int .i64 N)) (hn : L.length ≤ 1000000) (hN : N ≤ 1000) (hage : agesIn 10000 L) (hown : W.ownsRow base 137 7 rv L.length (rwList L)) :
    Calls Tryz.prog 47 #[.agg #[rv], .pointer (some ⟨bn, 0, none⟩)] W fun e W' => ∃ v', e = .returned (.agg #[v']) ∧ W'.ownsRow W.heap.size 137 7 v' (laterL N L).length (rwList (laterL N L)) ∧ Below W.heap.size W W' := by
  obtain ⟨ao, cap, rfl⟩ := ownsRow_slice hown
  have bT := outBlk W #[.slice ao L.length cap] 120 #[.slice none 0 0] 120
  have hb0 := (((Grows.refl W).alloc (.cells #[.slice ao L.length cap] 120)).alloc (.cells #[.slice none 0 0] 120)).below
  have hsz : ((W.alloc (.cells #[.slice ao L.length cap] 120)).alloc (.cells #[.slice none 0 0] 120)).heap.size = W.heap.size + 2 := by simp
  have hL := later_any base ao cap N L ((W.alloc (.cells #[.slice ao L.length cap] 120)).alloc (.cells #[.slice none 0 0] 120)) hn hN hage (ownsRow_below hown hb0 (Nat.le_refl _))
  have hc2 := (hb0.cell (p := ⟨bn, 0, none⟩) (World.block_lt_of_cell? W _ hc)).trans hc
  have HT := hide bT
  have HB0 := hide hb0
  have HSZ := hide hsz
  clear bT hb0 hsz hown hage
  go_enter Tryz.func47, Tryz.ntmps47
  go_wp2_with (go_at_call 48; refine hL.mono ?_; rintro e w1 ⟨v', rfl, hown1, hb1⟩; obtain ⟨a1, c1, rfl⟩ := ownsRow_slice hown1; have bT1 := (unhide HT).below hb1 (by rw [unhide HSZ]; omega); have s0 := bT1.cell 0; have z0 := bT1.frozen 0; have HO1 := hide hown1; have HB1 := hide hb1; clear hown1 hb1)
  have bT3 := bT1.set 0 (.slice a1 (laterL N L).length c1)
  have t0 := bT3.cell 0
  simp at t0
  have hs := unhide HSZ
  refine bodyPost_ret (v := .agg #[.slice a1 (laterL N L).length c1]) (by simp [results, Tryz.results47, go_sem, t0]) rfl ⟨_, rfl, ?_, ?_⟩
  · exact ownsRow_mono (ownsRow_other (unhide HO1) bT1 (by decide)) (by omega)
  · exact ((unhide HB0).trans ((unhide HB1).mono (by omega))).setCell (p := ⟨W.heap.size + 1, 0, none⟩) (by simp) _

set_option maxRecDepth 100000 in
set_option maxHeartbeats 1000000 in
theorem tick_any (R V base N : Nat) (costs : List Int) (L : List Rw) (cv rv : Value) (w : World) (hR : RouterAt w base R costs L V cv rv) (hn : L.length ≤ 1000000) (hN : N ≤ 1000) (hage : agesIn 10000 L) :
    Calls Tryz.prog 16 #[.pointer (some ⟨R, 0, none⟩), .int .i64 N] w fun e w' => e = .returned .nilIface ∧ ∃ V' rv', RouterAt w' base R costs (laterL N L) V' cv rv' ∧ w.grownBy w' (some R) ∧ w.heap.size ≤ V' ∧ w'.ownsRow w.heap.size 137 7 rv' (laterL N L).length (rwList (laterL N L)) := by
  have hR1 := hR.below (below_new w (.cells #[.int .i64 N] 3))
  have hRl := hR.blk.lt
  have hch := change_tick w.heap.size R V base costs L (laterL N L) cv rv (w.alloc (.cells #[.int .i64 N] 3)) hR1 hR1.base_le (fun W hb => tickStep_any w.heap.size base N rv L W
    ((hb.cell (p := ⟨w.heap.size, 0, none⟩) (by simp)).trans ((((Blk.new w #[.int .i64 N] 3).other (p := ⟨R, 1, none⟩) (Nat.ne_of_lt hRl) _).cell 0).trans rfl)) hn hN hage (hR1.locked hb))
  have g0 : w.grownBy (w.alloc (.cells #[.int .i64 N] 3)) (some R) := World.grownBy_alloc w _ _
  have i0 : ¬ (N : Int) < 0 := by omega
  have i1 : ¬ (1000 : Int) < (N : Int) := by omega
  clear hR hR1 hage
  go_enter Tryz.func16, Tryz.ntmps16
  go_wp2_with (go_at_call 44; refine hch.mono ?_; rintro e w1 ⟨rfl, V', rv', hR', hg', hv', ho'⟩)
  go_ret
  simp only [World.size_alloc] at hv' ho'
  exact ⟨rfl, V', rv', hR', grown_trans g0 hg', by omega, ownsRow_mono ho' (by omega)⟩

end Go.Proofs.YtdnpeefnobjfaaaGreatDoor

/- (*Router).Receive of a Response. -/
namespace Go.Proofs.YtdnpeefnobjfaaaGreatDoor
open Go.RowKit Go.Shelf Go.Lib
attribute [local go_sem ↓] Go.wp_at_zero Go.wp_at_succ

theorem owned_num {w : World} {base nc cc : Nat} {ac : Option Addr} {costs : List Int} (h : w.ownsRow base 3 1 (.slice ac nc cc) nc (numList costs)) {k : Nat} (hk : k < costs.length) : ∃ g, ac = some ⟨g, 0, none⟩ ∧ w.cell? ⟨g, k, none⟩ = some (.int .i64 costs[k]) ∧ g < w.heap.size := by
  have hl := h.1
  have hlen : (numList costs).length = costs.length := by simp [numList]
  obtain ⟨g, rfl⟩ : ∃ g, ac = some ⟨g, 0, none⟩ := by
    rcases h.2 with ⟨_, h0⟩ | ⟨g, c, cur, hv, _⟩
    · omega
    · simp at hv; exact ⟨g, hv.1⟩
  have := owned_cells h k (.int .i64 costs[k]) (by simp [numList, hk])
  rw [Addr.add_lit, Nat.zero_add] at this
  exact ⟨g, rfl, this, ownsRow_lt h⟩

theorem cell_far {w : World} {B b o : Nat} {v u : Value} (h : w.cell? ⟨b, o, none⟩ = some u) (hne : B ≠ b) : (w.setCell ⟨B, 0, none⟩ v).cell? ⟨b, o, none⟩ = some u := (World.cell?_setCell_far w ⟨B, 0, none⟩ ⟨b, o, none⟩ v hne).trans h

set_option maxRecDepth 100000 in
set_option maxHeartbeats 4000000 in
theorem recvStep_any (bf br bp base R frm ne ce : Nat) (ae : Option Addr) (costs : List Int) (cv rv : Value) (L : List Rw) (es : List Ent) (W : World) (hf : frm < costs.length) (hcost : ∀ c ∈ costs, 1 ≤ c ∧ c ≤ 15) (h60 : L.length ≤ 60) (hso : rwSorted L) (hne : es.length = ne) (hbig : ne ≤ 1000000) (hmet : ∀ e ∈ es, 0 ≤ e.met ∧ e.met ≤ 16)
    (c1 : W.cell? ⟨bf, 0, none⟩ = some (.int .i64 frm)) (c2 : W.cell? ⟨br, 0, none⟩ = some (.pointer (some ⟨R, 0, none⟩))) (c3 : W.cell? ⟨R, 0, none⟩ = some cv) (c4 : W.cell? ⟨bp, 1, none⟩ = some (.slice ae ne ce)) (hes : entSlice W ae es) (hcv : W.ownsRow base 3 1 cv costs.length (numList costs)) (hown : W.ownsRow base 137 7 rv L.length (rwList L)) :
    Calls Tryz.prog 45 #[.agg #[rv], .pointer (some ⟨bf, 0, none⟩), .pointer (some ⟨br, 0, none⟩), .pointer (some ⟨bp, 0, none⟩)] W fun e W' => ∃ v', e = .returned (.agg #[v']) ∧ W'.ownsRow W.heap.size 137 7 v' (heardL L frm costs[frm] es).length (rwList (heardL L frm costs[frm] es)) ∧ Below W.heap.size W W' := by
  obtain ⟨ao, cap, rfl⟩ := ownsRow_slice hown
  obtain ⟨ac, cc, rfl⟩ := ownsRow_slice hcv
  obtain ⟨gc, rfl, c5, hgc⟩ := owned_num hcv hf
  obtain ⟨k0, k1⟩ := hcost costs[frm] (List.getElem_mem _)
  have bT := outBlk W #[.slice ao L.length cap] 120 #[.slice none 0 0] 120
  have bI := (Blk.new W #[.slice ao L.length cap] 120).alloc (.cells #[.slice none 0 0] 120)
  have hb0 := (((Grows.refl W).alloc (.cells #[.slice ao L.length cap] 120)).alloc (.cells #[.slice none 0 0] 120)).below
  have hsz : ((W.alloc (.cells #[.slice ao L.length cap] 120)).alloc (.cells #[.slice none 0 0] 120)).heap.size = W.heap.size + 2 := by simp
  have hL := tableHeard_any base ao ae cap ne ce L es frm costs[frm] ((W.alloc (.cells #[.slice ao L.length cap] 120)).alloc (.cells #[.slice none 0 0] 120)).drew h60 hso hne hbig hmet (by omega) (by omega) (entSlice_below hes hb0.drew) (ownsRow_below hown hb0.drew (Nat.le_refl _))
  have l1 : bf < W.heap.size := World.block_lt_of_cell? W _ c1
  have l2 : br < W.heap.size := World.block_lt_of_cell? W _ c2
  have l3 : R < W.heap.size := World.block_lt_of_cell? W _ c3
  have l4 : bp < W.heap.size := World.block_lt_of_cell? W _ c4
  have d0 := (bI.cell 0).trans (show _ = some (.slice ao L.length cap) from rfl)
  have d1 := (hb0.cell (p := ⟨bf, 0, none⟩) l1).trans c1
  have d2 := (hb0.cell (p := ⟨br, 0, none⟩) l2).trans c2
  have d3 := (hb0.cell (p := ⟨R, 0, none⟩) l3).trans c3
  have d4 := (hb0.cell (p := ⟨bp, 1, none⟩) l4).trans c4
  have d5 := (hb0.cell (p := ⟨gc, frm, none⟩) hgc).trans c5
  have HT := hide bT
  have HB0 := hide hb0
  have HSZ := hide hsz
  have HL := hide hL
  have j0 : (0 : Int) ≤ (frm : Int) := by omega
  have j1 : (frm : Int) < (costs.length : Int) := by omega
  have n0 : W.heap.size + 1 ≠ W.heap.size := by omega
  have n1 : W.heap.size + 1 ≠ bf := by omega
  have n2 : W.heap.size + 1 ≠ br := by omega
  have n3 : W.heap.size + 1 ≠ R := by omega
  have n4 : W.heap.size + 1 ≠ bp := by omega
  have n5 : W.heap.size + 1 ≠ gc := by omega
  clear hL bT bI hb0 hown hes hcv hso hmet hcost c1 c2 c3 c4 c5
  generalize costs[frm] = cost at *
  go_enter Tryz.func45, Tryz.ntmps45
  go_wp2_with fail
  generalize hW2 : (W.alloc (.cells #[.slice ao L.length cap] 120)).alloc (.cells #[.slice none 0 0] 120) = W2 at *
  clear hW2
  go_region_held3 (fun w' => w'.cell? ⟨W.heap.size, 0, none⟩ = some (.slice ao L.length cap) ∧ w'.cell? ⟨bf, 0, none⟩ = some (.int .i64 frm) ∧ w'.cell? ⟨br, 0, none⟩ = some (.pointer (some ⟨R, 0, none⟩)) ∧ w'.cell? ⟨R, 0, none⟩ = some (.slice (some ⟨gc, 0, none⟩) costs.length cc) ∧ w'.cell? ⟨bp, 1, none⟩ = some (.slice ae ne ce) ∧ w'.cell? ⟨gc, frm, none⟩ = some (.int .i64 cost))
    (first | go_keep | exact ⟨cell_far e0 n0, cell_far e1 n1, cell_far e2 n2, cell_far e3 n3, cell_far e4 n4, cell_far e5 n5⟩)
    (first | (go_at_call 46; refine (unhide HL).mono ?_; rintro e w3 ⟨v', rfl, hown3, hb3⟩; obtain ⟨a3, c3, rfl⟩ := ownsRow_slice hown3; have hsz2 : W2.drew.heap.size = W.heap.size + 2 := unhide HSZ; have e0 := (hb3.cell (p := ⟨W.heap.size, 0, none⟩) (by rw [hsz2]; show W.heap.size < W.heap.size + 2; omega)).trans d0; have e1 := (hb3.cell (p := ⟨bf, 0, none⟩) (by rw [hsz2]; show bf < W.heap.size + 2; omega)).trans d1; have e2 := (hb3.cell (p := ⟨br, 0, none⟩) (by rw [hsz2]; show br < W.heap.size + 2; omega)).trans d2; have e3 := (hb3.cell (p := ⟨R, 0, none⟩) (by rw [hsz2]; show R < W.heap.size + 2; omega)).trans d3; have e4 := (hb3.cell (p := ⟨bp, 1, none⟩) (by rw [hsz2]; show bp < W.heap.size + 2; omega)).trans d4; have e5 := (hb3.cell (p := ⟨gc, frm, none⟩) (by rw [hsz2]; show gc < W.heap.size + 2; omega)).trans d5; have bT3 := (unhide HT).below (show Below (W.heap.size + 2) W2 w3 from Below.trans ((Below.refl _ W2).drew) (hb3.mono (by rw [hsz2]; omega))) (by omega); have s0 := bT3.cell 0; have z0 := bT3.frozen 0; have HO3 := hide hown3; have HB3 := hide (show Below (W.heap.size + 2) W2 w3 from Below.trans ((Below.refl _ W2).drew) (hb3.mono (by rw [hsz2]; omega))); clear hown3 hb3 hsz2))
  go_wp2
  have bT4 := bT3.set 0 (.slice a3 (heardL L frm cost es).length c3)
  have t0 := bT4.cell 0
  simp at t0
  refine bodyPost_ret (v := .agg #[.slice a3 (heardL L frm cost es).length c3]) (by simp [results, Tryz.results45, go_sem, t0]) rfl ⟨_, rfl, ?_, ?_⟩
  · have hs : W2.drew.heap.size = W.heap.size + 2 := unhide HSZ
    exact ownsRow_mono (ownsRow_other (unhide HO3) bT3 (by decide)) (by omega)
  · exact ((unhide HB0).trans ((unhide HB3).mono (by omega))).setCell (p := ⟨W.heap.size + 1, 0, none⟩) (by simp) _

set_option maxHeartbeats 1000000 in
theorem isNeighbour_any (R : Nat) (n : Int) (ac : Option Addr) (nc cc : Nat) (w : World) (c0 : w.cell? ⟨R, 0, none⟩ = some (.slice ac nc cc)) :
    Calls Tryz.prog 40 #[.pointer (some ⟨R, 0, none⟩), .int .i64 n] w fun e w' => e = .returned (.bool (decide (0 ≤ n) && decide (n < nc))) ∧ w' = w := by
  by_cases h0 : 0 ≤ n
  · by_cases h1 : n < nc
    · go_enter Tryz.func40, Tryz.ntmps40
      go_wp2
      go_ret
      simp [h0, h1]
    · go_enter Tryz.func40, Tryz.ntmps40
      go_wp2
      go_ret
      simp [h1]
  · go_enter Tryz.func40, Tryz.ntmps40
    go_wp2
    go_ret
    have h0' : ¬ (0 : Int) ≤ n := by omega
    simp [h0']

end Go.Proofs.YtdnpeefnobjfaaaGreatDoor
