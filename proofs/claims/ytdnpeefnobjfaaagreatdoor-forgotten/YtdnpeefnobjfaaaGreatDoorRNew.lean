/- The atomic pointer to a view; milepost.New, (*Router).View, (*View).Lookup. -/
import Derived.Test.YtdnpeefnobjfaaaGreatDoorRStart
import Derived.Laws.LoneSync
namespace Go.Proofs.YtdnpeefnobjfaaaGreatDoor
open Go.RowKit Go.Shelf Go.Sort
attribute [local go_sem ↓] Go.wp_at_zero Go.wp_at_succ

section
variable {P : Program} {f : FuncId} {fn : Func}
theorem run_call_loadP (hf : P.funcs[f]? = some fn) (hname : (fn.name == "runtime.NumGoroutine") = false) (hb : fn.body.isNone = true) (hn : Extern.findNext fn = none)
    (he : Extern.find fn = some (Extern.Atomic.loadT .ptr)) {a : Addr} {p : Option Addr} {w : World} (hc : w.cell? a = some (.pointer p)) :
    (callFunc f #[.pointer (some a)]).run P w = .ok (.value (.pointer p)) w := by
  rw [run_callFunc_extern hf hname hb hn he]
  change (Sem.run P (do Extern.Atomic.read .ptr (← asAddr (.pointer (some a)))) w).andThen _ = _
  simp [Extern.Atomic.read, asAddr, hc, Result.andThen]
theorem run_call_storeP (hf : P.funcs[f]? = some fn) (hname : (fn.name == "runtime.NumGoroutine") = false) (hb : fn.body.isNone = true) (hn : Extern.findNext fn = none)
    (he : Extern.find fn = some Extern.Atomic.storeT) {a : Addr} {p : Option Addr} {u : Value} {w : World} (hc : w.cell? a = some u) (hz : w.frozen? a = false) :
    (callFunc f #[.pointer (some a), .pointer p]).run P w = .ok (.value (.tuple #[])) (w.setCell a (.pointer p)) := by
  rw [run_callFunc_extern hf hname hb hn he]
  change (Sem.run P (do
    store (← asAddr (.pointer (some a))) (.pointer p) .atomic
    pure Extern.Atomic.none_) w).andThen _ = _
  simp [asAddr, hc, hz, run_store P w a (.pointer p) .atomic rfl, Result.andThen, Extern.Atomic.none_]
theorem run_convert_from_unsafe {src dst t : TypeId} (hs : P.underlying src = some .unsafePointer) (hd : P.underlying dst = some (.pointer t)) (hsz : (P.info? t).map (fun i => decide (i.size = 0)) = some false)
    {B : Nat} {cs : Array Value} {w : World} (hlies : liesAt P P.depth t (cs.size / P.cellsOf t) 0 t 1 = true) (hc : Blk w B cs t) : (convert src dst (.pointer (some ⟨B, 0, none⟩))).run P w = .ok (.pointer (some ⟨B, 0, none⟩)) w := by
  obtain ⟨i, hi, hz0⟩ := Option.map_eq_some_iff.1 hsz
  have hsh : w.shape? B = some (t, cs.size) := by
    unfold Blk at hc
    simp [World.shape?, hc]
  simp [convert, run_underlying hs, run_underlying hd, Conv.unsafePointer, Conv.seenAt, viewAt, hsh, variablesAt, hlies, sizeOf, typeInfo, hi]
end

set_option maxHeartbeats 400000 in
theorem store_any (R i V : Nat) (rv u : Value) (w : World) (hc : w.cell? ⟨R, i, none⟩ = some u) (hz : w.frozen? ⟨R, i, none⟩ = false) (hv : Blk w V #[rv] 122) :
    Calls Tryz.prog 37 #[.pointer (some ⟨R, i, none⟩), .pointer (some ⟨V, 0, none⟩)] w fun e w' => e = .returned (.tuple #[]) ∧ w' = w.setCell ⟨R, i, none⟩ (.pointer (some ⟨V, 0, none⟩)) := by
  have hcv := run_convert_to_unsafe (P := Tryz.prog) (src := 54) (dst := 112) Tryz.underlying54 Tryz.underlying112 (by kernel_rfl) ((hv.cell 0).trans (show _ = some rv from rfl))
  have hst := run_call_storeP (P := Tryz.prog) Tryz.func79 (by kernel_rfl) (by kernel_rfl) (by kernel_rfl) (by kernel_rfl) (p := some ⟨V, 0, none⟩) hc hz
  clear hv
  go_enter Tryz.func37, Tryz.ntmps37
  go_wp2
  go_end0
  exact ⟨rfl, rfl⟩

set_option maxHeartbeats 400000 in
theorem load_any (R i V : Nat) (rv : Value) (w : World) (hc : w.cell? ⟨R, i, none⟩ = some (.pointer (some ⟨V, 0, none⟩))) (hv : Blk w V #[rv] 122) :
    Calls Tryz.prog 49 #[.pointer (some ⟨R, i, none⟩)] w fun e w' => e = .returned (.pointer (some ⟨V, 0, none⟩)) ∧ w' = w := by
  have hcv := run_convert_from_unsafe (P := Tryz.prog) (src := 112) (dst := 54) Tryz.underlying112 Tryz.underlying54 (by kernel_rfl) (cs := #[rv]) (by kernel_rfl) hv
  have hst := run_call_loadP (P := Tryz.prog) Tryz.func101 (by kernel_rfl) (by kernel_rfl) (by kernel_rfl) (by kernel_rfl) hc
  clear hv
  go_enter Tryz.func49, Tryz.ntmps49
  go_wp2
  go_ret
  exact ⟨rfl, rfl⟩

set_option maxHeartbeats 400000 in
theorem view_any (R V : Nat) (rv cv : Value) (st se : Int) (w : World) (hr : Blk w R #[cv, .int .i32 st, .int .u32 se, .pointer (some ⟨V, 0, none⟩)] 116) (hv : Blk w V #[rv] 122) :
    Calls Tryz.prog 17 #[.pointer (some ⟨R, 0, none⟩)] w fun e w' => e = .returned (.pointer (some ⟨V, 0, none⟩)) ∧ w' = w := by
  have hl := load_any R 3 V rv w ((hr.cell 3).trans rfl) hv
  have c0 := (hr.cell 0).trans (show _ = some cv from rfl)
  clear hr hv
  go_enter Tryz.func17, Tryz.ntmps17
  go_wp2_with (go_at_call 49; refine hl.mono ?_; rintro e w1 ⟨rfl, rfl⟩)
  go_ret
  exact ⟨rfl, rfl⟩

/-- What Lookup answers. -/
def lookOut : Option Rw → Value
  | some r => .tuple #[.agg (routeVals r), .nilIface]
  | none => .tuple #[.agg zeroRoute, .iface 102 (.int .i64 10)]

set_option maxRecDepth 100000 in
set_option maxHeartbeats 1000000 in
theorem lookup_any (V : Nat) (ao : Option Addr) (n cap : Nat) (L : List Rw) (x : Int) (w : World) (hv : Blk w V #[.slice ao n cap] 122) (hL : L.length = n) (hn : n ≤ 1000000) (hok : ∀ r ∈ L, 0 ≤ r.len ∧ r.len ≤ 32) (hx : 0 ≤ x) (hx' : x < 4294967296) (hs : rwSlice w ao L) :
    Calls Tryz.prog 18 #[.pointer (some ⟨V, 0, none⟩), .int .u32 x] w fun e w' => e = .returned (lookOut (findR L x)) ∧ Below w.heap.size w w' := by
  have bR := hide (Blk.new w zeroRoute 52)
  have c0 := ((hv.alloc (.cells zeroRoute 52)).cell 0).trans (show _ = some (.slice ao n cap) from rfl)
  simp only [zeroRoute] at c0
  have hF := find_any ao n cap L x (w.alloc (.cells zeroRoute 52)) hL hn hok hx hx' (rwSlice_below hs (below_new _ _))
  clear hs hok hL hv
  cases hq : findR L x with
  | none =>
    rw [hq] at hF
    clear hq
    simp only [findOut, zeroRoute] at hF
    go_enter Tryz.func18, Tryz.ntmps18
    go_wp2_with (go_at_call 50; refine hF.mono ?_; rintro e w1 ⟨rfl, hb⟩; have bR2 := (unhide bR).below hb (by simp); simp only [zeroRoute] at bR2; have s0 := (bR2.alloc (.cells #[.int .u32 0, .int .i64 0, .int .i64 0, .int .i64 0, .int .i64 0] 52)).cell 0; have z0 := (bR2.alloc (.cells #[.int .u32 0, .int .i64 0, .int .i64 0, .int .i64 0, .int .i64 0] 52)).frozen 0; have s1 := (bR2.alloc (.cells #[.int .u32 0, .int .i64 0, .int .i64 0, .int .i64 0, .int .i64 0] 52)).cell 1; have z1 := (bR2.alloc (.cells #[.int .u32 0, .int .i64 0, .int .i64 0, .int .i64 0, .int .i64 0] 52)).frozen 1; have s2 := (bR2.alloc (.cells #[.int .u32 0, .int .i64 0, .int .i64 0, .int .i64 0, .int .i64 0] 52)).cell 2; have z2 := (bR2.alloc (.cells #[.int .u32 0, .int .i64 0, .int .i64 0, .int .i64 0, .int .i64 0] 52)).frozen 2; have s3 := (bR2.alloc (.cells #[.int .u32 0, .int .i64 0, .int .i64 0, .int .i64 0, .int .i64 0] 52)).cell 3; have z3 := (bR2.alloc (.cells #[.int .u32 0, .int .i64 0, .int .i64 0, .int .i64 0, .int .i64 0] 52)).frozen 3; have s4 := (bR2.alloc (.cells #[.int .u32 0, .int .i64 0, .int .i64 0, .int .i64 0, .int .i64 0] 52)).cell 4; have z4 := (bR2.alloc (.cells #[.int .u32 0, .int .i64 0, .int .i64 0, .int .i64 0, .int .i64 0] 52)).frozen 4; have HB := hide hb; clear hb)
    have bR3 := ((((((bR2.alloc (.cells #[.int .u32 0, .int .i64 0, .int .i64 0, .int .i64 0, .int .i64 0] 52)).set 0 (.int .u32 0)).set 1 (.int .i64 0)).set 2 (.int .i64 0)).set 3 (.int .i64 0)).set 4 (.int .i64 0))
    have t0 := bR3.cell 0
    have t1 := bR3.cell 1
    have t2 := bR3.cell 2
    have t3 := bR3.cell 3
    have t4 := bR3.cell 4
    simp at t0 t1 t2 t3 t4
    refine bodyPost_ret (v := .tuple #[.agg #[.int .u32 0, .int .i64 0, .int .i64 0, .int .i64 0, .int .i64 0], .iface 102 (.int .i64 10)]) (by simp [results, Tryz.results18, go_sem, t0, t1, t2, t3, t4]) rfl ⟨rfl, ?_⟩
    exact (((((((below_new w _).trans ((unhide HB).mono (by simp))).alloc (by have := (unhide HB).size; simp at this; omega) _).setCell (p := ⟨w.heap.size, 0, none⟩) (Nat.le_refl _) _).setCell (p := ⟨w.heap.size, 1, none⟩) (Nat.le_refl _) _).setCell (p := ⟨w.heap.size, 2, none⟩) (Nat.le_refl _) _).setCell (p := ⟨w.heap.size, 3, none⟩) (Nat.le_refl _) _).setCell (p := ⟨w.heap.size, 4, none⟩) (Nat.le_refl _) _
  | some r =>
    rw [hq] at hF
    clear hq
    simp only [findOut, zeroRoute, routeVals] at hF
    go_enter Tryz.func18, Tryz.ntmps18
    go_wp2_with (go_at_call 50; refine hF.mono ?_; rintro e w1 ⟨rfl, hb⟩; have bR2 := (unhide bR).below hb (by simp); simp only [zeroRoute] at bR2; have s0 := (bR2.alloc (.cells #[.int .u32 r.addr, .int .i64 r.len, .int .i64 r.tag, .int .i64 r.met, .int .i64 r.frm] 52)).cell 0; have z0 := (bR2.alloc (.cells #[.int .u32 r.addr, .int .i64 r.len, .int .i64 r.tag, .int .i64 r.met, .int .i64 r.frm] 52)).frozen 0; have s1 := (bR2.alloc (.cells #[.int .u32 r.addr, .int .i64 r.len, .int .i64 r.tag, .int .i64 r.met, .int .i64 r.frm] 52)).cell 1; have z1 := (bR2.alloc (.cells #[.int .u32 r.addr, .int .i64 r.len, .int .i64 r.tag, .int .i64 r.met, .int .i64 r.frm] 52)).frozen 1; have s2 := (bR2.alloc (.cells #[.int .u32 r.addr, .int .i64 r.len, .int .i64 r.tag, .int .i64 r.met, .int .i64 r.frm] 52)).cell 2; have z2 := (bR2.alloc (.cells #[.int .u32 r.addr, .int .i64 r.len, .int .i64 r.tag, .int .i64 r.met, .int .i64 r.frm] 52)).frozen 2; have s3 := (bR2.alloc (.cells #[.int .u32 r.addr, .int .i64 r.len, .int .i64 r.tag, .int .i64 r.met, .int .i64 r.frm] 52)).cell 3; have z3 := (bR2.alloc (.cells #[.int .u32 r.addr, .int .i64 r.len, .int .i64 r.tag, .int .i64 r.met, .int .i64 r.frm] 52)).frozen 3; have s4 := (bR2.alloc (.cells #[.int .u32 r.addr, .int .i64 r.len, .int .i64 r.tag, .int .i64 r.met, .int .i64 r.frm] 52)).cell 4; have z4 := (bR2.alloc (.cells #[.int .u32 r.addr, .int .i64 r.len, .int .i64 r.tag, .int .i64 r.met, .int .i64 r.frm] 52)).frozen 4; have HB := hide hb; clear hb)
    have bR3 := ((((((bR2.alloc (.cells #[.int .u32 r.addr, .int .i64 r.len, .int .i64 r.tag, .int .i64 r.met, .int .i64 r.frm] 52)).set 0 (.int .u32 r.addr)).set 1 (.int .i64 r.len)).set 2 (.int .i64 r.tag)).set 3 (.int .i64 r.met)).set 4 (.int .i64 r.frm))
    have t0 := bR3.cell 0
    have t1 := bR3.cell 1
    have t2 := bR3.cell 2
    have t3 := bR3.cell 3
    have t4 := bR3.cell 4
    simp at t0 t1 t2 t3 t4
    refine bodyPost_ret (v := .tuple #[.agg #[.int .u32 r.addr, .int .i64 r.len, .int .i64 r.tag, .int .i64 r.met, .int .i64 r.frm], .nilIface]) (by simp [results, Tryz.results18, go_sem, t0, t1, t2, t3, t4]) rfl ⟨rfl, ?_⟩
    exact (((((((below_new w _).trans ((unhide HB).mono (by simp))).alloc (by have := (unhide HB).size; simp at this; omega) _).setCell (p := ⟨w.heap.size, 0, none⟩) (Nat.le_refl _) _).setCell (p := ⟨w.heap.size, 1, none⟩) (Nat.le_refl _) _).setCell (p := ⟨w.heap.size, 2, none⟩) (Nat.le_refl _) _).setCell (p := ⟨w.heap.size, 3, none⟩) (Nat.le_refl _) _).setCell (p := ⟨w.heap.size, 4, none⟩) (Nat.le_refl _) _

end Go.Proofs.YtdnpeefnobjfaaaGreatDoor
