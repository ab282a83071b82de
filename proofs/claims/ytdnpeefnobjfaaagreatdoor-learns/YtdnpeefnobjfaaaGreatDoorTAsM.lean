/- errors.As of a *api.Fault into a *api.Fault variable: it is hit, and the variable is set. (After the guide's worked walk of errors.As.) -/
import Derived.Test.YtdnpeefnobjfaaaGreatDoorProg
import Derived.WalkKit
import Derived.LaidEql
import Derived.Stop.Asserts
import Derived.RowKitTokens
import Derived.Test.YtdnpeefnobjfaaaGreatDoorTReceiveM
import Derived.Test.YtdnpeefnobjfaaaGreatDoorTToM
namespace Go.Proofs.YtdnpeefnobjfaaaGreatDoor
open Go.RowKit Go.Extern.Stop Go.Stop Go.Extern

/- What the model's entries for internal/reflectlite give at this program's types. -/
theorem Tryz.rlValueFF (t : Addr) (w : World) : (ReflectliteValue.unpack (.iface 182 (.pointer (some t)))).run Tryz.prog w = .ok (.agg #[.pointer (some ⟨1, 182, none⟩), .pointer (some ⟨w.heap.size, 0, none⟩), .int .u64 150]) (w.alloc (.cells #[.pointer (some t)] 182)) := by kernel_rfl
theorem Tryz.rlTypeFF (a : Addr) (w : World) : (ReflectliteValue.methodAny (ReflectliteValue.valueError "reflectlite.Value.Type" 0) (fun t _ _ _ => ReflectliteType.toType t) #[.agg #[.pointer (some ⟨1, 182, none⟩), .pointer (some a), .int .u64 150]]).run Tryz.prog w = .ok (.iface 288 (.agg #[.pointer (some ⟨1, 182, none⟩)])) w := by kernel_rfl
theorem Tryz.rlKind (h : Value) (w : World) : (Go.method 481 288 (.agg #[h]) "Kind").run Tryz.prog w = .ok (260, h) w := by kernel_rfl
theorem Tryz.rlKindFF (w : World) : ((ReflectliteType.abiMethod fun t => (fun a : Nat => Value.int IntKind.u8 (a : Int)) <$> Rtype.kind t) #[.pointer (some ⟨1, 182, none⟩)]).run Tryz.prog w = .ok (.int .u8 22) w := by kernel_rfl
theorem Tryz.rlKindFA (w : World) : ((ReflectliteType.abiMethod fun t => (fun a : Nat => Value.int IntKind.u8 (a : Int)) <$> Rtype.kind t) #[.pointer (some ⟨1, 180, none⟩)]).run Tryz.prog w = .ok (.int .u8 22) w := by kernel_rfl
theorem rlMethod (z : Sem Value) (f : TypeId → Addr → Nat → Nat → Sem Value) (v : Value) : ReflectliteValue.method z f #[v] = (do match ← ReflectliteValue.parts v with | none => z | some (t, a, fl) => f t a fl (fl % 32)) := rfl
theorem Tryz.rlPartsFF (a : Addr) (w : World) : (ReflectliteValue.parts (.agg #[.pointer (some ⟨1, 182, none⟩), .pointer (some a), .int .u64 150])).run Tryz.prog w = .ok (some (182, a, 150)) w := by kernel_rfl
theorem Tryz.rlIsNilFF (a p : Addr) (W : World) (ha : W.cell? a = some (.pointer (some p))) : (ReflectliteValue.method (ReflectliteValue.valueError "reflectlite.Value.IsNil" 0) ReflectliteValue.isNil #[.agg #[.pointer (some ⟨1, 182, none⟩), .pointer (some a), .int .u64 150]]).run Tryz.prog W = .ok (.bool false) W := by
  rw [rlMethod]
  simp only [Sem.run_bind, Tryz.rlPartsFF, Result.andThen]
  simp [ReflectliteValue.isNil, loadVar, isAgg, underlying, Tryz.underlying182, ha, Result.andThen]
theorem Tryz.rlElem (h : Value) (w : World) : (Go.method 481 288 (.agg #[h]) "Elem").run Tryz.prog w = .ok (272, .agg #[h]) w := by kernel_rfl
theorem Tryz.rlImplements (h : Value) (w : World) : (Go.method 481 288 (.agg #[h]) "Implements").run Tryz.prog w = .ok (273, .agg #[h]) w := by kernel_rfl
theorem Tryz.rlAssignable (h : Value) (w : World) : (Go.method 481 288 (.agg #[h]) "AssignableTo").run Tryz.prog w = .ok (270, .agg #[h]) w := by kernel_rfl
theorem Tryz.rlElemFF (w : World) : (ReflectliteType.method ReflectliteType.elem #[.agg #[.pointer (some ⟨1, 182, none⟩)]]).run Tryz.prog w = .ok (.iface 288 (.agg #[.pointer (some ⟨1, 180, none⟩)])) w := by kernel_rfl
theorem Tryz.rlImplementsFA (w : World) : (ReflectliteType.relation "Implements" ReflectliteType.implements_ #[.agg #[.pointer (some ⟨1, 180, none⟩)], .iface 288 (.agg #[.pointer (some ⟨1, 35, none⟩)])]).run Tryz.prog w = .ok (.bool true) w := by kernel_rfl
theorem Tryz.rlTypeOfFA (v : Value) (w : World) : (ReflectliteType.typeOf #[.iface 180 v]).run Tryz.prog w = .ok (.iface 288 (.agg #[.pointer (some ⟨1, 180, none⟩)])) w := by kernel_rfl
theorem Tryz.rlAssignableFA (w : World) : (ReflectliteType.relation "AssignableTo" ReflectliteType.assignableTo #[.agg #[.pointer (some ⟨1, 180, none⟩)], .iface 288 (.agg #[.pointer (some ⟨1, 180, none⟩)])]).run Tryz.prog w = .ok (.bool true) w := by kernel_rfl
theorem Tryz.rlValueFA (e : Addr) (w : World) : (ReflectliteValue.unpack (.iface 180 (.pointer (some e)))).run Tryz.prog w = .ok (.agg #[.pointer (some ⟨1, 180, none⟩), .pointer (some ⟨w.heap.size, 0, none⟩), .int .u64 150]) (w.alloc (.cells #[.pointer (some e)] 180)) := by kernel_rfl
theorem Tryz.rlElemOfFF (w : World) : (Rtype.elem? 182).run Tryz.prog w = .ok (some 180) w := by kernel_rfl
theorem Tryz.rlMkFA (p : Addr) (w : World) : (ReflectliteValue.mk 180 p ReflectliteValue.flagAddr).run Tryz.prog w = .ok (.agg #[.pointer (some ⟨1, 180, none⟩), .pointer (some p), .int .u64 406]) w := by kernel_rfl
theorem Tryz.rlElemVFF (a p : Addr) (W : World) (ha : W.cell? a = some (.pointer (some p))) : (ReflectliteValue.method (ReflectliteValue.valueError "reflectlite.Value.Elem" 0) ReflectliteValue.elem #[.agg #[.pointer (some ⟨1, 182, none⟩), .pointer (some a), .int .u64 150]]).run Tryz.prog W = .ok (.agg #[.pointer (some ⟨1, 180, none⟩), .pointer (some p), .int .u64 406]) W := by
  rw [rlMethod]
  simp only [Sem.run_bind, Tryz.rlPartsFF, Result.andThen]
  simp [ReflectliteValue.elem, loadVar, isAgg, underlying, Tryz.underlying182, ha, Result.andThen, Tryz.rlElemOfFF, Tryz.rlMkFA]
theorem Tryz.rlPartsFAa (a : Addr) (w : World) : (ReflectliteValue.parts (.agg #[.pointer (some ⟨1, 180, none⟩), .pointer (some a), .int .u64 406])).run Tryz.prog w = .ok (some (180, a, 406)) w := by kernel_rfl
theorem Tryz.rlPartsFA (a : Addr) (w : World) : (ReflectliteValue.parts (.agg #[.pointer (some ⟨1, 180, none⟩), .pointer (some a), .int .u64 150])).run Tryz.prog w = .ok (some (180, a, 150)) w := by kernel_rfl
theorem Tryz.rlDirectFA (w : World) : (Rtype.directlyAssignable 180 180).run Tryz.prog w = .ok true w := by kernel_rfl
theorem Tryz.rlSetFA (ta b e : Addr) (old : Value) (W : World) (hb : W.cell? b = some (.pointer (some e))) (ht : W.cell? ta = some old) (hf : W.frozen? ta = false) :
    (ReflectliteValue.set #[.agg #[.pointer (some ⟨1, 180, none⟩), .pointer (some ta), .int .u64 406], .agg #[.pointer (some ⟨1, 180, none⟩), .pointer (some b), .int .u64 150]]).run Tryz.prog W = .ok (.tuple #[]) (W.setCell ta (.pointer (some e))) := by
  show Sem.run Tryz.prog (ReflectliteValue.parts (.agg #[.pointer (some ⟨1, 180, none⟩), .pointer (some ta), .int .u64 406]) >>= fun _ => ReflectliteValue.parts (.agg #[.pointer (some ⟨1, 180, none⟩), .pointer (some b), .int .u64 150]) >>= _) W = _
  simp only [Sem.run_bind, Tryz.rlPartsFAa, Tryz.rlPartsFA, Result.andThen]
  simp [ReflectliteValue.flagAddr, loadVar, isAgg, underlying, Tryz.underlying180, hb, Result.andThen, Tryz.rlDirectFA, storeVar, Value.cells, storeCells, Addr.add]
  rw [run_store Tryz.prog W ta _ _ (by rfl)]
  simp [ht, hf]

set_option maxRecDepth 100000 in
set_option maxHeartbeats 4000000 in
theorem as_hit (e t : Addr) (old : Value) (w : World) (hg : w.cell? ⟨0, 0, none⟩ = some (.iface 288 (.agg #[.pointer (some ⟨1, 35, none⟩)]))) (ht0 : w.cell? t = some old) (hf0 : w.frozen? t = false) :
    Calls Tryz.prog 89 #[.iface 180 (.pointer (some e)), .iface 182 (.pointer (some t))] w fun ev w' => ev = .returned (.bool true) ∧ w' = ((((w.alloc (.cells #[.pointer (some t)] 182)).alloc (.cells #[.pointer (some ⟨1, 182, none⟩), .pointer (some ⟨w.heap.size, 0, none⟩), .int .u64 150] 232)).alloc (.cells #[.pointer (some ⟨1, 182, none⟩), .pointer (some ⟨w.heap.size, 0, none⟩), .int .u64 150] 232)).alloc (.cells #[.pointer (some e)] 180)).setCell t (.pointer (some e)) := by
  have h6 := @run_callFunc_extern Tryz.prog 139 _ (fun args => ReflectliteValue.unpack (args.getD 0 (.tuple #[]))) Tryz.func139 (by kernel_rfl) (by kernel_rfl) (by kernel_rfl) (by kernel_rfl)
  have h7 := @run_callFunc_extern Tryz.prog 140 _ (ReflectliteValue.methodAny (ReflectliteValue.valueError "reflectlite.Value.Type" 0) (fun t _ _ _ => ReflectliteType.toType t)) Tryz.func140 (by kernel_rfl) (by kernel_rfl) (by kernel_rfl) (by kernel_rfl)
  have h8 := @run_callFunc_extern Tryz.prog 141 _ (ReflectliteValue.method (ReflectliteValue.valueError "reflectlite.Value.IsNil" 0) ReflectliteValue.isNil) Tryz.func141 (by kernel_rfl) (by kernel_rfl) (by kernel_rfl) (by kernel_rfl)
  have h27 := @run_callFunc_extern Tryz.prog 260 _ (ReflectliteType.abiMethod fun t => do pure (.int .u8 (← Rtype.kind t))) Tryz.func260 (by kernel_rfl) (by kernel_rfl) (by kernel_rfl) (by kernel_rfl)
  have h37 := @run_callFunc_extern Tryz.prog 272 _ (ReflectliteType.method ReflectliteType.elem) Tryz.func272 (by kernel_rfl) (by kernel_rfl) (by kernel_rfl) (by kernel_rfl)
  have h38 := @run_callFunc_extern Tryz.prog 273 _ (ReflectliteType.relation "Implements" ReflectliteType.implements_) Tryz.func273 (by kernel_rfl) (by kernel_rfl) (by kernel_rfl) (by kernel_rfl)
  have h10 := @run_callFunc_extern Tryz.prog 180 _ ReflectliteType.typeOf Tryz.func180 (by kernel_rfl) (by kernel_rfl) (by kernel_rfl) (by kernel_rfl)
  have h35 := @run_callFunc_extern Tryz.prog 270 _ (ReflectliteType.relation "AssignableTo" ReflectliteType.assignableTo) Tryz.func270 (by kernel_rfl) (by kernel_rfl) (by kernel_rfl) (by kernel_rfl)
  have h11 := @run_callFunc_extern Tryz.prog 181 _ (ReflectliteValue.method (ReflectliteValue.valueError "reflectlite.Value.Elem" 0) ReflectliteValue.elem) Tryz.func181 (by kernel_rfl) (by kernel_rfl) (by kernel_rfl) (by kernel_rfl)
  have h12 := @run_callFunc_extern Tryz.prog 182 _ ReflectliteValue.set Tryz.func182 (by kernel_rfl) (by kernel_rfl) (by kernel_rfl) (by kernel_rfl)
  have tO := Tryz.rlTypeOfFA
  have mA := Tryz.rlAssignable
  have a25 := Tryz.rlAssignableFA
  have v25 := Tryz.rlValueFA
  have f6 := Tryz.rlValueFF
  have f7 := Tryz.rlTypeFF
  have mK := Tryz.rlKind
  have mE := Tryz.rlElem
  have mI := Tryz.rlImplements
  have k27 := Tryz.rlKindFF
  have k25 := Tryz.rlKindFA
  have e27 := Tryz.rlElemFF
  have i25 := Tryz.rlImplementsFA
  have n8 := Tryz.rlIsNilFF ⟨w.heap.size, 0, none⟩ t ((w.alloc (.cells #[.pointer (some t)] 182)).alloc (.cells #[.pointer (some ⟨1, 182, none⟩), .pointer (some ⟨w.heap.size, 0, none⟩), .int .u64 150] 232)) (by simp)
  have hlt : 0 < w.heap.size := by
    rcases Nat.eq_zero_or_pos w.heap.size with h0 | h
    · simp [World.cell?, h0] at hg
    · exact h
  have hg2 : ((w.alloc (.cells #[.pointer (some t)] 182)).alloc (.cells #[.pointer (some ⟨1, 182, none⟩), .pointer (some ⟨w.heap.size, 0, none⟩), .int .u64 150] 232)).cell? ⟨0, 0, none⟩ = some (.iface 288 (.agg #[.pointer (some ⟨1, 35, none⟩)])) := by
    rw [World.cell?_alloc_lt _ _ ⟨0, 0, none⟩ (by simp), World.cell?_alloc_lt _ _ ⟨0, 0, none⟩ hlt]; exact hg
  have htl : t.block < w.heap.size := by
    rcases Nat.lt_or_ge t.block w.heap.size with h | h
    · exact h
    · simp [World.cell?, Array.getElem?_eq_none h] at ht0
  have el := Tryz.rlElemVFF ⟨w.heap.size, 0, none⟩ t (((w.alloc (.cells #[.pointer (some t)] 182)).alloc (.cells #[.pointer (some ⟨1, 182, none⟩), .pointer (some ⟨w.heap.size, 0, none⟩), .int .u64 150] 232)).alloc (.cells #[.pointer (some ⟨1, 182, none⟩), .pointer (some ⟨w.heap.size, 0, none⟩), .int .u64 150] 232)) (by rw [World.cell?_alloc_lt _ _ ⟨w.heap.size, 0, none⟩ (by simp; omega)]; simp)
  have st := Tryz.rlSetFA t ⟨w.heap.size + 1 + 1 + 1, 0, none⟩ e old ((((w.alloc (.cells #[.pointer (some t)] 182)).alloc (.cells #[.pointer (some ⟨1, 182, none⟩), .pointer (some ⟨w.heap.size, 0, none⟩), .int .u64 150] 232)).alloc (.cells #[.pointer (some ⟨1, 182, none⟩), .pointer (some ⟨w.heap.size, 0, none⟩), .int .u64 150] 232)).alloc (.cells #[.pointer (some e)] 180))
    (by rw [World.cell?_alloc_at _ _ _ _ (by simp)]; rfl)
    (by rw [World.cell?_alloc_lt _ _ t (by simp; omega), World.cell?_alloc_lt _ _ t (by simp; omega), World.cell?_alloc_lt _ _ t (by simp; omega), World.cell?_alloc_lt _ _ t htl]; exact ht0)
    (by rw [World.frozen?_alloc_old _ _ t (by simp; omega), World.frozen?_alloc_old _ _ t (by simp; omega), World.frozen?_alloc_old _ _ t (by simp; omega), World.frozen?_alloc_old _ _ t (Nat.ne_of_lt htl)]; exact hf0)
  go_enter Tryz.func89, Tryz.ntmps89
  go_wp2
  refine wp_loop_rounds 1 ?_
  rw [rounds_succ]
  go_wp2
  go_ret
  exact ⟨rfl, rfl⟩

end Go.Proofs.YtdnpeefnobjfaaaGreatDoor

/- (*Router).Receive of what may not be, of what can't be read, of a Request. -/
namespace Go.Proofs.YtdnpeefnobjfaaaGreatDoor
open Go.RowKit Go.Shelf Go.Lib
attribute [local go_sem ↓] Go.wp_at_zero Go.wp_at_succ

/-- The listed variable. -/
def etHolds (w : World) : Prop := w.cell? ⟨0, 0, none⟩ = some (.iface 288 (.agg #[.pointer (some ⟨1, 35, none⟩)]))
theorem etHolds.below {w w' : World} {B : Nat} (h : etHolds w) (hb : Below B w w') (hB : 0 < B) : etHolds w' := (hb.cell (p := ⟨0, 0, none⟩) hB).trans h

set_option maxRecDepth 100000 in
set_option maxHeartbeats 1000000 in
theorem faultIn_any (b : Nat) (w : World) (het : etHolds w) :
    Calls Tryz.prog 42 #[.iface 180 (.pointer (some ⟨b, 0, none⟩))] w fun e w' => e = .returned (.iface 180 (.pointer (some ⟨b, 0, none⟩))) ∧ Below w.heap.size w w' := by
  have hlt : 0 < w.heap.size := World.block_lt_of_cell? w _ het
  have bF := Blk.new w #[.pointer none] 180
  have hA := as_hit ⟨b, 0, none⟩ ⟨w.heap.size, 0, none⟩ (.pointer none) (w.alloc (.cells #[.pointer none] 180)) (het.below (below_new w _) hlt) ((bF.cell 0).trans rfl) (bF.frozen 0)
  clear het
  go_enter Tryz.func42, Tryz.ntmps42
  go_wp2_with fail
  refine hA.mono ?_
  rintro e w1 ⟨rfl, rfl⟩
  have bF2 := (((((bF.alloc (.cells #[.pointer (some ⟨w.heap.size, 0, none⟩)] 182)).alloc (.cells #[.pointer (some ⟨1, 182, none⟩), .pointer (some ⟨w.heap.size + 1, 0, none⟩), .int .u64 150] 232)).alloc (.cells #[.pointer (some ⟨1, 182, none⟩), .pointer (some ⟨w.heap.size + 1, 0, none⟩), .int .u64 150] 232)).alloc (.cells #[.pointer (some ⟨b, 0, none⟩)] 180))).set 0 (.pointer (some ⟨b, 0, none⟩))
  have q0 := bF2.cell 0
  simp at q0
  go_wp2
  go_ret
  exact ⟨rfl, ((((((Grows.refl w).alloc _).alloc _).alloc _).alloc _).alloc _).below⟩

set_option maxHeartbeats 1000000 in
theorem receive_noone (R : Nat) (n : Int) (s : ByteArray) (ac : Option Addr) (nc cc : Nat) (w : World) (c0 : w.cell? ⟨R, 0, none⟩ = some (.slice ac nc cc)) (h : n < 0 ∨ (nc : Int) ≤ n) :
    Calls Tryz.prog 14 #[.pointer (some ⟨R, 0, none⟩), .int .i64 n, .string s] w fun e w' => e = .returned (.tuple #[.slice none 0 0, .iface 102 (.int .i64 2)]) ∧ Below w.heap.size w w' := by
  have hb0 := (((Grows.refl w).alloc (.cells #[.pointer (some ⟨R, 0, none⟩)] 33)).alloc (.cells #[.int .i64 n] 3)).below
  have hI := isNeighbour_any R n ac nc cc ((w.alloc (.cells #[.pointer (some ⟨R, 0, none⟩)] 33)).alloc (.cells #[.int .i64 n] 3)) ((hb0.cell (p := ⟨R, 0, none⟩) (World.block_lt_of_cell? w _ c0)).trans c0)
  have hin : (decide ((0 : Int) ≤ n) && decide (n < (nc : Nat))) = false := by
    rcases h with h | h
    · have : ¬ (0 : Int) ≤ n := by omega
      simp [this]
    · have : ¬ n < (nc : Int) := by omega
      simp [this]
  rw [hin] at hI
  have HB0 := hide hb0
  clear hin h c0 hb0
  go_enter Tryz.func14, Tryz.ntmps14
  go_wp2_with (go_at_call 40; refine hI.mono ?_; rintro e w1 ⟨rfl, rfl⟩)
  go_ret2
  exact ⟨rfl, unhide HB0⟩

set_option maxRecDepth 100000 in
set_option maxHeartbeats 2000000 in
theorem receive_err (R frm nc cc : Nat) (s : ByteArray) (ac : Option Addr) (x : Int × Int) (w : World) (c0 : w.cell? ⟨R, 0, none⟩ = some (.slice ac nc cc)) (hf : frm < nc) (het : etHolds w) (hm : s.size ≤ 9223372036854775807) (hx : decErr s.data.toList = some x) :
    Calls Tryz.prog 14 #[.pointer (some ⟨R, 0, none⟩), .int .i64 frm, .string s] w fun e w' => ∃ ve, e = .returned (.tuple #[.slice none 0 0, ve]) ∧ errIs w' ve (some x) ∧ Below w.heap.size w w' := by
  have hlt : 0 < w.heap.size := World.block_lt_of_cell? w _ het
  have hb0 := (((Grows.refl w).alloc (.cells #[.pointer (some ⟨R, 0, none⟩)] 33)).alloc (.cells #[.int .i64 frm] 3)).below
  have hI := isNeighbour_any R frm ac nc cc ((w.alloc (.cells #[.pointer (some ⟨R, 0, none⟩)] 33)).alloc (.cells #[.int .i64 frm] 3)) ((hb0.cell (p := ⟨R, 0, none⟩) (World.block_lt_of_cell? w _ c0)).trans c0)
  have hD := Decode_any s ((w.alloc (.cells #[.pointer (some ⟨R, 0, none⟩)] 33)).alloc (.cells #[.int .i64 frm] 3)) hm
  have hin : (decide ((0 : Int) ≤ (frm : Int)) && decide ((frm : Int) < (nc : Nat))) = true := by simp; omega
  rw [hin] at hI
  have HB0 := hide hb0
  have HET := hide het
  clear hin c0 hb0 het
  go_enter Tryz.func14, Tryz.ntmps14
  go_wp2_with (go_at_call 40; refine hI.mono ?_; rintro e w1 ⟨rfl, rfl⟩)
  refine hD.mono ?_
  rintro e w2 ⟨V2, ve, rfl, ⟨ae, ne, ce, rfl, hne, hown2, herr⟩, hb2⟩
  rw [hx] at herr
  obtain ⟨bf, rfl, e0, e1⟩ := herr
  have hb3 := ((unhide HB0).trans (hb2.mono (unhide HB0).size)).alloc (by have := (unhide HB0).size; have := hb2.size; omega) (.cells #[.int .i64 (decCmd s.data.toList), .slice ae ne ce] 45)
  have hFI := faultIn_any bf _ ((unhide HET).below hb3 hlt)
  have hbf := World.block_lt_of_cell? w2 _ e0
  have e0' := ((below_new w2 (.cells #[.int .i64 (decCmd s.data.toList), .slice ae ne ce] 45)).cell (p := ⟨bf, 0, none⟩) hbf).trans e0
  have e1' := ((below_new w2 (.cells #[.int .i64 (decCmd s.data.toList), .slice ae ne ce] 45)).cell (p := ⟨bf, 1, none⟩) hbf).trans e1
  have HB3 := hide hb3
  have HE0 := hide e0'
  have HE1 := hide e1'
  clear hown2 hb2 hb3 e0 e1 e0' e1' hD hI hne HB0
  go_wp2_with (go_at_call 42; refine hFI.mono ?_; rintro e w4 ⟨rfl, hb4⟩)
  go_ret2
  refine ⟨_, rfl, ⟨bf, rfl, ?_, ?_⟩, (unhide HB3).trans (hb4.mono (unhide HB3).size)⟩
  · exact (hb4.cell (p := ⟨bf, 0, none⟩) (World.block_lt_of_cell? _ _ (unhide HE0))).trans (unhide HE0)
  · exact (hb4.cell (p := ⟨bf, 1, none⟩) (World.block_lt_of_cell? _ _ (unhide HE1))).trans (unhide HE1)

set_option maxRecDepth 100000 in
set_option maxHeartbeats 2000000 in
theorem receive_req (R V base frm : Nat) (s : ByteArray) (costs : List Int) (L : List Rw) (cv rv : Value) (w : World) (hR : RouterAt w base R costs L V cv rv) (hf : frm < costs.length) (h60 : L.length ≤ 1000) (hfine : rowsFine L)
    (hm : s.size ≤ 9223372036854775807) (hx : decErr s.data.toList = none) (hcmd : decCmd s.data.toList = 1) :
    Calls Tryz.prog 14 #[.pointer (some ⟨R, 0, none⟩), .int .i64 frm, .string s] w fun e w' => ∃ v, e = .returned (.tuple #[v, .nilIface]) ∧ w'.ownsRow w.heap.size 64 2 v (nParts L.length) (outsTo frm (hearL frm L) (nParts L.length)) ∧ Below w.heap.size w w' := by
  obtain ⟨ac, cc, rfl⟩ := ownsRow_slice hR.costs
  obtain ⟨ar, cr, rfl⟩ := ownsRow_slice hR.rows
  have hb0 := (((Grows.refl w).alloc (.cells #[.pointer (some ⟨R, 0, none⟩)] 33)).alloc (.cells #[.int .i64 frm] 3)).below
  have hsz : ((w.alloc (.cells #[.pointer (some ⟨R, 0, none⟩)] 33)).alloc (.cells #[.int .i64 frm] 3)).heap.size = w.heap.size + 2 := by simp
  have bA := (Blk.new w #[.pointer (some ⟨R, 0, none⟩)] 33).alloc (.cells #[.int .i64 frm] 3)
  have bB := outBlk w #[.pointer (some ⟨R, 0, none⟩)] 33 #[.int .i64 frm] 3
  have hR0 := hR.below hb0
  have hI := isNeighbour_any R frm ac costs.length cc ((w.alloc (.cells #[.pointer (some ⟨R, 0, none⟩)] 33)).alloc (.cells #[.int .i64 frm] 3)) ((hR0.blk.cell 0).trans rfl)
  have hD := Decode_any s ((w.alloc (.cells #[.pointer (some ⟨R, 0, none⟩)] 33)).alloc (.cells #[.int .i64 frm] 3)) hm
  have hin : (decide ((0 : Int) ≤ (frm : Int)) && decide ((frm : Int) < (costs.length : Nat))) = true := by simp; omega
  rw [hin] at hI
  have HA := hide bA
  have HBB := hide bB
  have HB0 := hide hb0
  have HSZ := hide hsz
  have HR0 := hide hR0
  clear hR hR0 bA bB hb0 hsz hin
  go_enter Tryz.func14, Tryz.ntmps14
  go_wp2_with (go_at_call 40; refine hI.mono ?_; rintro e w1 ⟨rfl, rfl⟩)
  refine hD.mono ?_
  rintro e w2 ⟨V2, ve, rfl, ⟨ae, ne, ce, rfl, hne, hown2, herr⟩, hb2⟩
  rw [hx] at herr
  obtain rfl : ve = .nilIface := herr
  rw [hcmd]
  have hs2 : w.heap.size + 2 ≤ w2.heap.size := by have := hb2.size; rw [unhide HSZ] at this; exact this
  have hR3 := ((unhide HR0).below hb2).below (below_new w2 (.cells #[.int .i64 1, .slice ae ne ce] 45))
  have bA3 := ((unhide HA).below hb2 (by rw [unhide HSZ]; omega)).alloc (.cells #[.int .i64 1, .slice ae ne ce] 45)
  have bB3 := ((unhide HBB).below hb2 (by rw [unhide HSZ]; omega)).alloc (.cells #[.int .i64 1, .slice ae ne ce] 45)
  have hb3 := ((unhide HB0).trans (hb2.mono (unhide HB0).size)).alloc (by have := (unhide HB0).size; have := hb2.size; omega) (.cells #[.int .i64 1, .slice ae ne ce] 45)
  have a0 := (bA3.cell 0).trans (show _ = some (.pointer (some ⟨R, 0, none⟩)) from rfl)
  have b0 := (bB3.cell 0).trans (show _ = some (.int .i64 frm) from rfl)
  have p0 := ((Blk.new w2 #[.int .i64 1, .slice ae ne ce] 45).cell 0).trans (show _ = some (.int .i64 1) from rfl)
  go_wp2_with fail
  obtain ⟨W3, hW3⟩ : ∃ W3, w2.alloc (.cells #[.int .i64 1, .slice ae ne ce] 45) = W3 := ⟨_, rfl⟩
  rw [hW3] at hR3 bA3 bB3 hb3 a0 b0 p0 ⊢
  have v0 := (hR3.view.cell 0).trans (show _ = some (.slice ar L.length cr) from rfl)
  have hV := view_any R V _ _ 0 0 W3.drew hR3.blk hR3.view
  have hT := to_any frm ar cr L W3.drew h60 hfine (rwSlice_below (rwSlice_own hR3.rows) (Below.refl _ W3).drew)
  have HB3 := hide hb3
  have hfol := prog_follows
  clear hW3 hR3 bA3 bB3 hb3 hown2 hb2 hD hI hne HA HBB HB0 HR0 HSZ hfine
  go_region_with_o (first | (go_at_call 17; refine hV.mono ?_; rintro e wv ⟨rfl, rfl⟩) | (go_at_call 43; refine hT.mono ?_; rintro e w4 ⟨v4, rfl, hown4, hb4⟩))
  all_goals go_wp2
  all_goals go_ret2
  all_goals
    have hsz3 : w.heap.size ≤ W3.drew.heap.size := (unhide HB3).size
    exact ⟨_, rfl, ownsRow_mono hown4 hsz3, (unhide HB3).drew.trans (hb4.mono hsz3)⟩

end Go.Proofs.YtdnpeefnobjfaaaGreatDoor
