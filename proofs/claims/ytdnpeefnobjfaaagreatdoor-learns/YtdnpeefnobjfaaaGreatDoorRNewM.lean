/- The atomic pointer to a view; milepost.New, (*Router).View, (*View).Lookup. -/
import Derived.Test.YtdnpeefnobjfaaaGreatDoorRStartM
import Derived.Laws.LoneSync
namespace Go.Proofs.YtdnpeefnobjfaaaGreatDoor
open Go.RowKit Go.Shelf Go.Sort
attribute [local go_sem ↓] Go.wp_at_zero Go.wp_at_succ

section
variable {P : Program} {f : FuncId} {fn : Func}
theorem run_call_loadP (hf : P.funcs[f]? = some fn) (hname : (fn.name == "runtime.NumGoroutine") = false) (hb : fn.body.isNone = true) (hn : Extern.findNext fn = none)
    (he : Extern.find fn = some (Extern.Atomic.loadT .ptr)) {a : Addr} {p : Option Addr} {w : World} (hc : w.cell? a = some (.pointer p)) :
    (callFunc f #[.pointer (some a)]).run P w = .ok (.value (.pointer p)) w := by
  rw [run_callFunc_extern hf hname hb hn he]
  change (Sem.run P (do Extern.Atomic.read .ptr (← asAddr (.pointer (some a)))) w).andThen _ = _
  simp [Extern.Atomic.read, asAddr, hc, Result.andThen]
theorem run_call_storeP (hf : P.funcs[f]? = some fn) (hname : (fn.name == "runtime.NumGoroutine") = false) (hb : fn.body.isNone = true) (hn : Extern.findNext fn = none)
    (he : Extern.find fn = some Extern.Atomic.storeT) {a : Addr} {p : Option Addr} {u : Value} {w : World} (hc : w.cell? a = some u) (hz : w.frozen? a = false) :
    (callFunc f #[.pointer (some a), .pointer p]).run P w = .ok (.value (.tuple #[])) (w.setCell a (.pointer p)) := by
  rw [run_callFunc_extern hf hname hb hn he]
  change (Sem.run P (do
    store (← asAddr (.pointer (some a))) (.pointer p) .atomic
    pure Extern.Atomic.none_) w).andThen _ = _
  simp [asAddr, hc, hz, run_store P w a (.pointer p) .atomic rfl, Result.andThen, Extern.Atomic.none_]
theorem run_convert_from_unsafe {src dst t : TypeId} (hs : P.underlying src = some .unsafePointer) (hd : P.underlying dst = some (.pointer t)) (hsz : (P.info? t).map (fun i => decide (i.size = 0)) = some false)
    {B : Nat} {cs : Array Value} {w : World} (hlies : liesAt P P.depth t (cs.size / P.cellsOf t) 0 t 1 = true) (hc : Blk w B cs t) : (convert src dst (.pointer (some ⟨B, 0, none⟩))).run P w = .ok (.pointer (some ⟨B, 0, none⟩)) w := by
  obtain ⟨i, hi, hz0⟩ := Option.map_eq_some_iff.1 hsz
  have hsh : w.shape? B = some (t, cs.size) := by
    unfold Blk at hc
    simp [World.shape?, hc]
  simp [convert, run_underlying hs, run_underlying hd, Conv.unsafePointer, Conv.seenAt, viewAt, hsh, variablesAt, hlies, sizeOf, typeInfo, hi]
end

set_option maxHeartbeats 400000 in
theorem store_any (R i V : Nat) (rv u : Value) (w : World) (hc : w.cell? ⟨R, i, none⟩ = some u) (hz : w.frozen? ⟨R, i, none⟩ = false) (hv : Blk w V #[rv] 122) :
    Calls Tryz.prog 37 #[.pointer (some ⟨R, i, none⟩), .pointer (some ⟨V, 0, none⟩)] w fun e w' => e = .returned (.tuple #[]) ∧ w' = w.setCell ⟨R, i, none⟩ (.pointer (some ⟨V, 0, none⟩)) := by
  have hcv := run_convert_to_unsafe (P := Tryz.prog) (src := 54) (dst := 112) Tryz.underlying54 Tryz.underlying112 (by kernel_rfl) ((hv.cell 0).trans (show _ = some rv from rfl))
  have hst := run_call_storeP (P := Tryz.prog) Tryz.func79 (by kernel_rfl) (by kernel_rfl) (by kernel_rfl) (by kernel_rfl) (p := some ⟨V, 0, none⟩) hc hz
  clear hv
  go_enter Tryz.func37, Tryz.ntmps37
  go_wp2
  go_end0
  exact ⟨rfl, rfl⟩

set_option maxHeartbeats 400000 in
theorem load_any (R i V : Nat) (rv : Value) (w : World) (hc : w.cell? ⟨R, i, none⟩ = some (.pointer (some ⟨V, 0, none⟩))) (hv : Blk w V #[rv] 122) :
    Calls Tryz.prog 49 #[.pointer (some ⟨R, i, none⟩)] w fun e w' => e = .returned (.pointer (some ⟨V, 0, none⟩)) ∧ w' = w := by
  have hcv := run_convert_from_unsafe (P := Tryz.prog) (src := 112) (dst := 54) Tryz.underlying112 Tryz.underlying54 (by kernel_rfl) (cs := #[rv]) (by kernel_rfl) hv
  have hst := run_call_loadP (P := Tryz.prog) Tryz.func101 (by kernel_rfl) (by kernel_rfl) (by kernel_rfl) (by kernel_rfl) hc
  clear hv
  go_enter Tryz.func49, Tryz.ntmps49
  go_wp2
  go_ret
  exact ⟨rfl, rfl⟩

set_option maxHeartbeats 400000 in
theorem view_any (R V : Nat) (rv cv : Value) (st se : Int) (w : World) (hr : Blk w R #[cv, .int .i32 st, .int .u32 se, .pointer (some ⟨V, 0, none⟩)] 116) (hv : Blk w V #[rv] 122) :
    Calls Tryz.prog 17 #[.pointer (some ⟨R, 0, none⟩)] w fun e w' => e = .returned (.pointer (some ⟨V, 0, none⟩)) ∧ w' = w := by
  have hl := load_any R 3 V rv w ((hr.cell 3).trans rfl) hv
  have c0 := (hr.cell 0).trans (show _ = some cv from rfl)
  clear hr hv
  go_enter Tryz.func17, Tryz.ntmps17
  go_wp2_with (go_at_call 49; refine hl.mono ?_; rintro e w1 ⟨rfl, rfl⟩)
  go_ret
  exact ⟨rfl, rfl⟩

/-- What Lookup answers. -/
def lookOut : Option Rw → Value
  | some r => .tuple #[.agg (routeVals r), .nilIface]
  | none => .tuple #[.agg zeroRoute, .iface 102 (.int .i64 10)]

set_option maxRecDepth 100000 in
set_option maxHeartbeats 1000000 in
theorem lookup_any (V : Nat) (ao : Option Addr) (n cap : Nat) (L : List Rw) (x : Int) (w : World) (hv : Blk w V #[.slice ao n cap] 122) (hL : L.length = n) (hn : n ≤ 1000000) (hok : ∀ r ∈ L, 0 ≤ r.len ∧ r.len ≤ 32) (hx : 0 ≤ x) (hx' : x < 4294967296) (hs : rwSlice w ao L) :
    Calls Tryz.prog 18 #[.pointer (some ⟨V, 0, none⟩), .int .u32 x] w fun e w' => e = .returned (lookOut (findR L x)) ∧ Below w.heap.size w w' := by
  have bR := hide (Blk.new w zeroRoute 52)
  have c0 := ((hv.alloc (.cells zeroRoute 52)).cell 0).trans (show _ = some (.slice ao n cap) from rfl)
  simp only [zeroRoute] at c0
  have hF := find_any ao n cap L x (w.alloc (.cells zeroRoute 52)) hL hn hok hx hx' (rwSlice_below hs (below_new _ _))
  clear hs hok hL hv
  cases hq : findR L x with
  | none =>
    rw [hq] at hF
    clear hq
    simp only [findOut, zeroRoute] at hF
    go_enter Tryz.func18, Tryz.ntmps18
    go_wp2_with (go_at_call 50; refine hF.mono ?_; rintro e w1 ⟨rfl, hb⟩; have bR2 := (unhide bR).below hb (by simp); simp only [zeroRoute] at bR2; have s0 := (bR2.alloc (.cells #[.int .u32 0, .int .i64 0, .int .i64 0, .int .i64 0, .int .i64 0] 52)).cell 0; have z0 := (bR2.alloc (.cells #[.int .u32 0, .int .i64 0, .int .i64 0, .int .i64 0, .int .i64 0] 52)).frozen 0; have s1 := (bR2.alloc (.cells #[.int .u32 0, .int .i64 0, .int .i64 0, .int .i64 0, .int .i64 0] 52)).cell 1; have z1 := (bR2.alloc (.cells #[.int .u32 0, .int .i64 0, .int .i64 0, .int .i64 0, .int .i64 0] 52)).frozen 1; have s2 := (bR2.alloc (.cells #[.int .u32 0, .int .i64 0, .int .i64 0, .int .i64 0, .int .i64 0] 52)).cell 2; have z2 := (bR2.alloc (.cells #[.int .u32 0, .int .i64 0, .int .i64 0, .int .i64 0, .int .i64 0] 52)).frozen 2; have s3 := (bR2.alloc (.cells #[.int .u32 0, .int .i64 0, .int .i64 0, .int .i64 0, .int .i64 0] 52)).cell 3; have z3 := (bR2.alloc (.cells #[.int .u32 0, .int .i64 0, .int .i64 0, .int .i64 0, .int .i64 0] 52)).frozen 3; have s4 := (bR2.alloc (.cells #[.int .u32 0, .int .i64 0, .int .i64 0, .int .i64 0, .int .i64 0] 52)).cell 4; have z4 := (bR2.alloc (.cells #[.int .u32 0, .int .i64 0, .int .i64 0, .int .i64 0, .int .i64 0] 52)).frozen 4; have HB := hide hb; clear hb)
    have bR3 := ((((((bR2.alloc (.cells #[.int .u32 0, .int .i64 0, .int .i64 0, .int .i64 0, .int .i64 0] 52)).set 0 (.int .u32 0)).set 1 (.int .i64 0)).set 2 (.int .i64 0)).set 3 (.int .i64 0)).set 4 (.int .i64 0))
    have t0 := bR3.cell 0
    have t1 := bR3.cell 1
    have t2 := bR3.cell 2
    have t3 := bR3.cell 3
    have t4 := bR3.cell 4
    simp at t0 t1 t2 t3 t4
    refine bodyPost_ret (v := .tuple #[.agg #[.int .u32 0, .int .i64 0, .int .i64 0, .int .i64 0, .int .i64 0], .iface 102 (.int .i64 10)]) (by simp [results, Tryz.results18, go_sem, t0, t1, t2, t3, t4]) rfl ⟨rfl, ?_⟩
    exact (((((((below_new w _).trans ((unhide HB).mono (by simp))).alloc (by have := (unhide HB).size; simp at this; omega) _).setCell (p := ⟨w.heap.size, 0, none⟩) (Nat.le_refl _) _).setCell (p := ⟨w.heap.size, 1, none⟩) (Nat.le_refl _) _).setCell (p := ⟨w.heap.size, 2, none⟩) (Nat.le_refl _) _).setCell (p := ⟨w.heap.size, 3, none⟩) (Nat.le_refl _) _).setCell (p := ⟨w.heap.size, 4, none⟩) (Nat.le_refl _) _
  | some r =>
    rw [hq] at hF
    clear hq
    simp only [findOut, zeroRoute, routeVals] at hF
    go_enter Tryz.func18, Tryz.ntmps18
    go_wp2_with (go_at_call 50; refine hF.mono ?_; rintro e w1 ⟨rfl, hb⟩; have bR2 := (unhide bR).below hb (by simp); simp only [zeroRoute] at bR2; have s0 := (bR2.alloc (.cells #[.int .u32 r.addr, .int .i64 r.len, .int .i64 r.tag, .int .i64 r.met, .int .i64 r.frm] 52)).cell 0; have z0 := (bR2.alloc (.cells #[.int .u32 r.addr, .int .i64 r.len, .int .i64 r.tag, .int .i64 r.met, .int .i64 r.frm] 52)).frozen 0; have s1 := (bR2.alloc (.cells #[.int .u32 r.addr, .int .i64 r.len, .int .i64 r.tag, .int .i64 r.met, .int .i64 r.frm] 52)).cell 1; have z1 := (bR2.alloc (.cells #[.int .u32 r.addr, .int .i64 r.len, .int .i64 r.tag, .int .i64 r.met, .int .i64 r.frm] 52)).frozen 1; have s2 := (bR2.alloc (.cells #[.int .u32 r.addr, .int .i64 r.len, .int .i64 r.tag, .int .i64 r.met, .int .i64 r.frm] 52)).cell 2; have z2 := (bR2.alloc (.cells #[.int .u32 r.addr, .int .i64 r.len, .int .i64 r.tag, .int .i64 r.met, .int .i64 r.frm] 52)).frozen 2; have s3 := (bR2.alloc (.cells #[.int .u32 r.addr, .int .i64 r.len, .int .i64 r.tag, .int .i64 r.met, .int .i64 r.frm] 52)).cell 3; have z3 := (bR2.alloc (.cells #[.int .u32 r.addr, .int .i64 r.len, .int .i64 r.tag, .int .i64 r.met, .int .i64 r.frm] 52)).frozen 3; have s4 := (bR2.alloc (.cells #[.int .u32 r.addr, .int .i64 r.len, .int .i64 r.tag, .int .i64 r.met, .int .i64 r.frm] 52)).cell 4; have z4 := (bR2.alloc (.cells #[.int .u32 r.addr, .int .i64 r.len, .int .i64 r.tag, .int .i64 r.met, .int .i64 r.frm] 52)).frozen 4; have HB := hide hb; clear hb)
    have bR3 := ((((((bR2.alloc (.cells #[.int .u32 r.addr, .int .i64 r.len, .int .i64 r.tag, .int .i64 r.met, .int .i64 r.frm] 52)).set 0 (.int .u32 r.addr)).set 1 (.int .i64 r.len)).set 2 (.int .i64 r.tag)).set 3 (.int .i64 r.met)).set 4 (.int .i64 r.frm))
    have t0 := bR3.cell 0
    have t1 := bR3.cell 1
    have t2 := bR3.cell 2
    have t3 := bR3.cell 3
    have t4 := bR3.cell 4
    simp at t0 t1 t2 t3 t4
    refine bodyPost_ret (v := .tuple #[.agg #[.int .u32 r.addr, .int .i64 r.len, .int .i64 r.tag, .int .i64 r.met, .int .i64 r.frm], .nilIface]) (by simp [results, Tryz.results18, go_sem, t0, t1, t2, t3, t4]) rfl ⟨rfl, ?_⟩
    exact (((((((below_new w _).trans ((unhide HB).mono (by simp))).alloc (by have := (unhide HB).size; simp at this; omega) _).setCell (p := ⟨w.heap.size, 0, none⟩) (Nat.le_refl _) _).setCell (p := ⟨w.heap.size, 1, none⟩) (Nat.le_refl _) _).setCell (p := ⟨w.heap.size, 2, none⟩) (Nat.le_refl _) _).setCell (p := ⟨w.heap.size, 3, none⟩) (Nat.le_refl _) _).setCell (p := ⟨w.heap.size, 4, none⟩) (Nat.le_refl _) _

end Go.Proofs.YtdnpeefnobjfaaaGreatDoor

/- milepost.New. -/
namespace Go.Proofs.YtdnpeefnobjfaaaGreatDoor
open Go.RowKit Go.Shelf Go.Sort
attribute [local go_sem ↓] Go.wp_at_zero Go.wp_at_succ

/-- A router in memory: its costs, its view. (The lock is free.) -/
structure RouterAt (w : World) (base R : Nat) (costs : List Int) (L : List Rw) (V : Nat) (cv rv : Value) : Prop where
  blk : Blk w R #[cv, .int .i32 0, .int .u32 0, .pointer (some ⟨V, 0, none⟩)] 116
  view : Blk w V #[rv] 122
  costs : w.ownsRow base 3 1 cv costs.length (numList costs)
  rows : w.ownsRow base 137 7 rv L.length (rwList L)
  new : base ≤ R ∧ base ≤ V

theorem ownsRow_below {w w' : World} {base e sz n B : Nat} {v : Value} {xs : List Value} (h : w.ownsRow base e sz v n xs) (hb : Below B w w') (hB : w.heap.size ≤ B) : w'.ownsRow base e sz v n xs := by
  obtain ⟨hl, ⟨hv, h0⟩ | ⟨g', c', cur, hv, hbg, hg, hr⟩⟩ := h
  · exact ⟨hl, .inl ⟨hv, h0⟩⟩
  · exact ⟨hl, .inr ⟨g', c', cur, hv, hbg, (hb.block g' (Nat.lt_of_lt_of_le (Array.getElem?_eq_some_iff.1 hg).1 hB)).trans hg, hr⟩⟩
theorem ownsRow_mono {w : World} {base base' e sz n : Nat} {v : Value} {xs : List Value} (h : w.ownsRow base e sz v n xs) (hb : base' ≤ base) : w.ownsRow base' e sz v n xs := by
  obtain ⟨hl, ⟨hv, h0⟩ | ⟨g', c', cur, hv, hbg, hr⟩⟩ := h
  · exact ⟨hl, .inl ⟨hv, h0⟩⟩
  · exact ⟨hl, .inr ⟨g', c', cur, hv, Nat.le_trans hb hbg, hr⟩⟩

theorem ownsRow_slice {w : World} {base e sz n : Nat} {v : Value} {xs : List Value} (h : w.ownsRow base e sz v n xs) : ∃ ao cap, v = .slice ao n cap := by
  obtain ⟨_, ⟨hv, h0⟩ | ⟨g', c', cur, hv, _⟩⟩ := h
  · exact ⟨_, _, by rw [hv, h0]⟩
  · exact ⟨_, _, hv⟩

theorem ownsRow_other {w : World} {base e sz n B i : Nat} {v u : Value} {xs : List Value} {cs : Array Value} {t : TypeId} (h : w.ownsRow base e sz v n xs) (hB : Blk w B cs t) (hte : t ≠ e) : (w.setCell ⟨B, i, none⟩ u).ownsRow base e sz v n xs := by
  obtain ⟨hl, ⟨hv, h0⟩ | ⟨g', c', cur, hv, hbg, hg, hr⟩⟩ := h
  · exact ⟨hl, .inl ⟨hv, h0⟩⟩
  · refine ⟨hl, .inr ⟨g', c', cur, hv, hbg, (Below.heap_setCell _ _ _ _ ?_).trans hg, hr⟩⟩
    intro e
    subst e
    unfold Blk at hB
    rw [hB] at hg
    simp at hg
    exact hte hg.2

set_option maxRecDepth 100000 in
set_option maxHeartbeats 2000000 in
theorem new_bad (ac ao : Option Addr) (cc co : Nat) (lc : List Int) (lo : List Pf) (w : World) (hb : (costsB lc && ownB lo) = false) (hok : pfsOk lo) (hco : lo.length ≤ co) (hsc : numSlice w ac lc) (hso : pfSlice w ao lo) :
    Calls Tryz.prog 11 #[.agg #[.slice ac lc.length cc, .slice ao lo.length co]] w fun e w' => e = .returned (.tuple #[.pointer none, .iface 102 (.int .i64 1)]) ∧ Below w.heap.size w w' := by
  have hC := areCosts_any ac lc.length cc lc (w.alloc (.cells #[.slice ac lc.length cc, .slice ao lo.length co] 25)) rfl (numSlice_below hsc (below_new _ _))
  have hO := areOwn_any ao lo.length co lo (w.alloc (.cells #[.slice ac lc.length cc, .slice ao lo.length co] 25)) hok rfl hco (pfSlice_below hso (below_new _ _))
  clear hsc hso hok
  cases hq : costsB lc with
  | false =>
    rw [hq] at hC
    clear hb hq hO
    go_enter Tryz.func11, Tryz.ntmps11
    go_wp2_with (go_at_call 34; refine hC.mono ?_; rintro e w1 ⟨rfl, rfl⟩)
    go_ret2
    exact ⟨rfl, below_new _ _⟩
  | true =>
    rw [hq, Bool.true_and] at hb
    rw [hq] at hC
    rw [hb] at hO
    clear hb hq
    go_enter Tryz.func11, Tryz.ntmps11
    go_wp2_with (first | (go_at_call 34; refine hC.mono ?_; rintro e w1 ⟨rfl, rfl⟩) | (go_at_call 35; refine hO.mono ?_; rintro e w1 ⟨rfl, hb1⟩))
    go_ret2
    exact ⟨rfl, (below_new _ _).trans (hb1.mono (by simp))⟩

set_option maxRecDepth 100000 in
set_option maxHeartbeats 4000000 in
theorem new_good (ac ao : Option Addr) (cc co : Nat) (lc : List Int) (lo : List Pf) (w : World) (hb : (costsB lc && ownB lo) = true) (hok : pfsOk lo) (hco : lo.length ≤ co) (hnil : ac = none → lc.length = 0 ∧ cc = 0) (hsc : numSlice w ac lc) (hso : pfSlice w ao lo) :
    Calls Tryz.prog 11 #[.agg #[.slice ac lc.length cc, .slice ao lo.length co]] w fun e w' => ∃ R V cv rv Ls, e = .returned (.tuple #[.pointer (some ⟨R, 0, none⟩), .nilIface]) ∧ RouterAt w' w.heap.size R lc (Ls.map ownRw) V cv rv ∧ Ls.Perm lo ∧ pfSorted Ls ∧ Below w.heap.size w w' := by
  obtain ⟨hb1, hb2⟩ : costsB lc = true ∧ ownB lo = true := by simpa using hb
  have h8 : lc.length ≤ 8 := by simp [costsB] at hb1; exact hb1.1
  have h20 : lo.length ≤ 20 := by simp [ownB] at hb2; exact hb2.1
  have hC := areCosts_any ac lc.length cc lc (w.alloc (.cells #[.slice ac lc.length cc, .slice ao lo.length co] 25)) rfl (numSlice_below hsc (below_new _ _))
  have hO := areOwn_any ao lo.length co lo (w.alloc (.cells #[.slice ac lc.length cc, .slice ao lo.length co] 25)) hok rfl hco (pfSlice_below hso (below_new _ _))
  rw [hb1] at hC
  rw [hb2] at hO
  have bC := hide (Blk.new w #[.slice ac lc.length cc, .slice ao lo.length co] 25)
  have HSC := hide hsc
  have HSO := hide hso
  have HNIL := hide hnil
  clear hb hb1 hb2 hok hsc hso hnil
  go_enter Tryz.func11, Tryz.ntmps11
  go_wp2_with (first | (go_at_call 34; refine hC.mono ?_; rintro e w1 ⟨rfl, rfl⟩) | (go_at_call 35; refine hO.mono ?_; rintro e w1 ⟨rfl, hb1⟩; have bC1 := (unhide bC).below hb1 (by simp); have c0 := (bC1.cell 0).trans (show _ = some (.slice ac lc.length cc) from rfl); have HB1 := hide ((below_new w (.cells #[.slice ac lc.length cc, .slice ao lo.length co] 25)).trans (hb1.mono (by simp))); clear hb1) | (go_at_call 36; refine (cloneNum_any ac lc.length cc lc w1 rfl h8 (unhide HNIL) (numSlice_below (unhide HSC) (unhide HB1))).mono ?_; rintro e w2 ⟨cv, rfl, hcv, hb2⟩; obtain ⟨ac', cc', rfl⟩ := ownsRow_slice hcv; have bC2 := bC1.below hb2 bC1.lt; have HB2 := hide hb2; have HCV := hide hcv; clear hb2 hcv))
  have bRt := Blk.new w2 #[.slice ac' lc.length cc', .int .i32 0, .int .u32 0, .pointer none] 116
  have bC3 := bC2.alloc (.cells #[.slice ac' lc.length cc', .int .i32 0, .int .u32 0, .pointer none] 116)
  have HBW := hide ((unhide HB1).trans (((unhide HB2).trans ((Below.refl _ w2).alloc (by have := (unhide HB2).size; omega) (.cells #[.slice ac' lc.length cc', .int .i32 0, .int .u32 0, .pointer none] 116))).mono (unhide HB1).size))
  have HCW := hide (ownsRow_mono (ownsRow_below (unhide HCV) ((Below.refl _ w2).alloc (Nat.le_refl _) (.cells #[.slice ac' lc.length cc', .int .i32 0, .int .u32 0, .pointer none] 116)) (Nat.le_refl _)) (unhide HB1).size)
  have hRW : w2.heap.size < (w2.alloc (.cells #[.slice ac' lc.length cc', .int .i32 0, .int .u32 0, .pointer none] 116)).heap.size := by simp
  have hwR : w.heap.size < w2.heap.size := bC2.lt
  generalize w2.heap.size = R at *
  generalize w2.alloc (.cells #[.slice ac' lc.length cc', .int .i32 0, .int .u32 0, .pointer none] 116) = W at *
  clear bC1 bC2 c0 hC hO HB1 HB2 HCV
  have hRne : R ≠ w.heap.size := by omega
  have q1 := (bC3.cell 1).trans (show _ = some (.slice ao lo.length co) from rfl)
  have r0 := (bRt.cell 0).trans (show _ = some (.slice ac' lc.length cc') from rfl)
  have r3 := (bRt.cell 3).trans (show _ = some (.pointer none) from rfl)
  go_region_held3 (fun w' => w'.cell? ⟨w.heap.size, 1, none⟩ = some (.slice ao lo.length co)) (first | go_keep | exact ((World.cell?_setCell_far _ ⟨R, 3, none⟩ ⟨w.heap.size, 1, none⟩ _ hRne).trans (World.cell?_alloc_some _ _ _ (by rw [q1']; rfl))).trans q1')
    (first | (go_at_call 38; refine (start_any ao co lo _ h20 (pfSlice_below (unhide HSO) ((unhide HBW).trans ((Below.refl _ W).drew)))).mono ?_; rintro e w3 ⟨rv, Ls, rfl, hrv, hperm, hsort, hb3⟩; obtain ⟨ar', cr', rfl⟩ := ownsRow_slice hrv; have bRt3 := bRt.below (show Below W.heap.size W w3 from Below.trans ((Below.refl _ W).drew) hb3) hRW; have q1' := (hb3.cell (p := ⟨w.heap.size, 1, none⟩) bC3.lt).trans q1; have r0' := (bRt3.cell 0).trans (show _ = some (.slice ac' lc.length cc') from rfl); have r3' := (bRt3.cell 3).trans (show _ = some (.pointer none) from rfl); have HRV := hide hrv; have HPE := hide hperm; have HSRT := hide hsort; have HB3 := hide (show Below W.heap.size W w3 from Below.trans ((Below.refl _ W).drew) hb3); clear hrv hperm hsort hb3) | (go_at_call 37; refine (store_any R 3 w3.heap.size (.slice ar' lo.length cr') (.pointer none) _ (by rw [(bRt3.alloc _).cell]; rfl) ((bRt3.alloc _).frozen 3) (Blk.new w3 _ _)).mono ?_; rintro e w4 ⟨rfl, rfl⟩))
  all_goals go_wp2
  all_goals go_ret2
  all_goals
    have hLs := (unhide HPE).length_eq
    have hbW : W.heap.size ≤ w3.heap.size := (unhide HB3).size
    have hwW : w.heap.size ≤ W.heap.size := (unhide HBW).size
    refine ⟨R, w3.heap.size, .slice ac' lc.length cc', .slice ar' lo.length cr', Ls, rfl, ⟨?_, ?_, ?_, ?_, ⟨by omega, by omega⟩⟩, unhide HPE, unhide HSRT, ?_⟩
    · exact (bRt3.alloc _).set 3 _
    · exact (Blk.new w3 _ _).other (by show R ≠ _; omega) _
    · exact ownsRow_other (ownsRow_below (ownsRow_below (unhide HCW) (unhide HB3) (Nat.le_refl _)) ((Below.refl _ w3).alloc (Nat.le_refl _) _) (Nat.le_refl _)) (bRt3.alloc _) (by decide)
    · have h1 := ownsRow_mono (unhide HRV) hwW
      rw [List.length_map, hLs]
      exact ownsRow_other (ownsRow_below h1 ((Below.refl _ w3).alloc (Nat.le_refl _) _) (Nat.le_refl _)) (bRt3.alloc _) (by decide)
    · exact (((unhide HBW).trans ((unhide HB3).mono hwW)).alloc (by omega) _).setCell (p := ⟨R, 3, none⟩) (by show _ ≤ R; omega) _

end Go.Proofs.YtdnpeefnobjfaaaGreatDoor

/- milepostkeep.begin: a router whose own prefix is found. -/
namespace Go.Proofs.YtdnpeefnobjfaaaGreatDoor
open Go.RowKit Go.Shelf Go.Sort
attribute [local go_sem ↓] Go.wp_at_zero Go.wp_at_succ

/-- A slice of rows that are owned. -/
theorem rwSlice_own {w : World} {base n cap : Nat} {ao : Option Addr} {L : List Rw} (h : w.ownsRow base 137 7 (.slice ao n cap) n (rwList L)) : rwSlice w ao L := by
  obtain ⟨hl, ⟨hv, h0⟩ | ⟨g, c, cur, hv, _, hg, _, _, _, ht⟩⟩ := h
  · subst h0
    rw [rwList_length] at hl
    exact .inl (List.eq_nil_of_length_eq_zero (by omega))
  · simp at hv
    obtain ⟨rfl, rfl⟩ := hv
    rw [rwList_length] at hl
    have hn : L.length = n := by omega
    refine .inr ⟨g, 0, rfl, fun k hk => ?_⟩
    have hc : ∀ j, j < n * 7 → w.cell? ⟨g, j, none⟩ = (rwList L)[j]? := fun j hj => by
      rw [show w.cell? ⟨g, j, none⟩ = cur[j]? by simp [World.cell?, hg], ← ht, List.getElem?_take, if_pos hj]
      simp
    have hv : ∀ i, i < 7 → (rwList L)[k * 7 + i]? = (rwVals L[k])[i]? := fun i hi => by
      clear hc ht hl hn
      induction L generalizing k with
      | nil => simp at hk
      | cons r R ih =>
        cases k with
        | zero =>
          simp only [Nat.zero_mul, Nat.zero_add, rwList, List.flatMap_cons, List.getElem_cons_zero]
          rw [List.getElem?_append_left (by simp [rwVals]; omega)]
        | succ k =>
          have := ih k (by simpa using hk)
          simp only [rwList, List.flatMap_cons, List.getElem_cons_succ] at this ⊢
          rw [List.getElem?_append_right (by simp [rwVals]; omega), ← this]
          congr 1
          simp [rwVals]; omega
    have hlt : k * 7 + 6 < n * 7 := by omega
    simp only [Nat.zero_add]
    refine ⟨?_, ?_, ?_, ?_, ?_, ?_, ?_⟩
    · have := hv 0 (by decide); rw [Nat.add_zero] at this; rw [hc _ (by omega), this]; rfl
    · rw [hc _ (by omega), hv 1 (by decide)]; rfl
    · rw [hc _ (by omega), hv 2 (by decide)]; rfl
    · rw [hc _ (by omega), hv 3 (by decide)]; rfl
    · rw [hc _ (by omega), hv 4 (by decide)]; rfl
    · rw [hc _ (by omega), hv 5 (by decide)]; rfl
    · rw [hc _ (by omega), hv 6 (by decide)]; rfl

def ten8 : Pf := ⟨167772160, 8⟩
theorem ten8_found : findR [ownRw ten8] 167838211 = some (ownRw ten8) := by decide

set_option maxRecDepth 100000 in
set_option maxHeartbeats 2000000 in
theorem begin_any (w : World) : Calls Tryz.prog 10 #[] w fun e w' => e = .returned (.bool true) ∧ Below w.heap.size w w' := by
  have hgood : (costsB [1] && ownB [ten8]) = true := by decide
  have bP := hide (((Blk.new w #[.int .u32 167772160, .int .i64 8] 32).alloc (.cells #[.int .i64 1] 3)).alloc (.cells #[.int .u32 167772160, .int .i64 8] 32))
  have bC := (Blk.new (w.alloc (.cells #[.int .u32 167772160, .int .i64 8] 32)) #[.int .i64 1] 3).alloc (.cells #[.int .u32 167772160, .int .i64 8] 32)
  have bO := Blk.new ((w.alloc (.cells #[.int .u32 167772160, .int .i64 8] 32)).alloc (.cells #[.int .i64 1] 3)) #[.int .u32 167772160, .int .i64 8] 32
  have hsz : (((w.alloc (.cells #[.int .u32 167772160, .int .i64 8] 32)).alloc (.cells #[.int .i64 1] 3)).alloc (.cells #[.int .u32 167772160, .int .i64 8] 32)).heap.size = w.heap.size + 3 := by simp
  have HB0 := hide ((((Grows.refl w).alloc (.cells #[.int .u32 167772160, .int .i64 8] 32)).alloc (.cells #[.int .i64 1] 3)).alloc (.cells #[.int .u32 167772160, .int .i64 8] 32)).below
  simp only [World.size_alloc] at bC bO
  have hnum : numCells (((w.alloc (.cells #[.int .u32 167772160, .int .i64 8] 32)).alloc (.cells #[.int .i64 1] 3)).alloc (.cells #[.int .u32 167772160, .int .i64 8] 32)) (w.heap.size + 1) 0 [1] := fun k hk => by
    obtain rfl : k = 0 := by simpa using hk
    exact bC.cell 0
  have hpf : pfCells (((w.alloc (.cells #[.int .u32 167772160, .int .i64 8] 32)).alloc (.cells #[.int .i64 1] 3)).alloc (.cells #[.int .u32 167772160, .int .i64 8] 32)) (w.heap.size + 1 + 1) 0 [ten8] := fun k hk => by
    obtain rfl : k = 0 := by simpa using hk
    exact ⟨bO.cell 0, bO.cell 1⟩
  have hN := new_good (some ⟨w.heap.size + 1, 0, none⟩) (some ⟨w.heap.size + 1 + 1, 0, none⟩) 1 1 [1] [ten8] _ hgood (by intro p hp; simp at hp; subst hp; decide) (Nat.le_refl _) (by intro h; cases h) (.inr ⟨_, _, rfl, hnum⟩) (.inr ⟨_, _, rfl, hpf⟩)
  simp only [List.length_cons, List.length_nil, Nat.zero_add] at hN
  clear hnum hpf bC bO
  go_enter Tryz.func10, Tryz.ntmps10
  go_wp2_with fail
  refine hN.mono ?_
  rintro e w1 ⟨R, V, cv, rv, Ls, rfl, hR, hperm, _, hb1⟩
  obtain rfl : Ls = [ten8] := List.perm_singleton.1 hperm
  obtain ⟨ar, cr, rfl⟩ := ownsRow_slice hR.rows
  simp only [List.map_cons, List.map_nil, List.length_cons, List.length_nil, Nat.zero_add] at hR
  have hV := view_any R V _ _ 0 0 w1 hR.blk hR.view
  have hL := lookup_any V ar 1 cr [ownRw ten8] 167838211 w1 hR.view rfl (by decide) (by intro r hr; simp at hr; subst hr; decide) (by decide) (by decide) (rwSlice_own hR.rows)
  rw [ten8_found] at hL
  simp only [lookOut, routeVals, ownRw, freshRw, ten8] at hL
  have bP1 := (unhide bP).below hb1 (by rw [hsz]; omega)
  have c0 := (bP1.cell 0).trans (show _ = some (.int .u32 167772160) from rfl)
  have c1 := (bP1.cell 1).trans (show _ = some (.int .i64 8) from rfl)
  have HB1 := hide ((unhide HB0).trans (hb1.mono (unhide HB0).size))
  clear hR hb1 hN hperm
  go_wp2_with (first | (go_at_call 17; refine hV.mono ?_; rintro e w2 ⟨rfl, rfl⟩) | (go_at_call 18; refine hL.mono ?_; rintro e w2 ⟨rfl, hb2⟩; have bP2 := (bP1.below hb2 bP1.lt).alloc (.cells #[.int .u32 167772160, .int .i64 8, .int .i64 0, .int .i64 1, .int .i64 (-1)] 52); have d0 := (bP2.cell 0).trans (show _ = some (.int .u32 167772160) from rfl); have d1 := (bP2.cell 1).trans (show _ = some (.int .i64 8) from rfl)))
  go_ret
  exact ⟨rfl, ((unhide HB1).trans (hb2.mono (unhide HB1).size)).alloc (by have := (unhide HB1).size; have := hb2.size; omega) _⟩

end Go.Proofs.YtdnpeefnobjfaaaGreatDoor
