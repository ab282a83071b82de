/- What packet.readEntry and readEntries answer. -/
import Derived.Test.YtdnpeefnobjfaaaGreatDoorDLeaf
import Derived.Test.YtdnpeefnobjfaaaGreatDoorBook
namespace Go.Proofs.YtdnpeefnobjfaaaGreatDoor
open Go.RowKit
attribute [local go_sem ↓] Go.wp_at_zero Go.wp_at_succ

abbrev zeroE : Value := .agg #[.int .u32 0, .int .i64 0, .int .i64 0, .int .i64 0]
abbrev zeroO : Obj := .cells #[.int .u32 0, .int .i64 0, .int .i64 0, .int .i64 0] 42

/-- The result's box is there, and may be written. -/
theorem resE {w w1 : World} (hb : Below (w.alloc zeroO).heap.size (w.alloc zeroO) w1) :
    w1.cell? ⟨w.heap.size, 0, none⟩ = some (.int .u32 0) ∧ w1.cell? ⟨w.heap.size, 1, none⟩ = some (.int .i64 0) ∧ w1.cell? ⟨w.heap.size, 2, none⟩ = some (.int .i64 0) ∧ w1.cell? ⟨w.heap.size, 3, none⟩ = some (.int .i64 0) ∧
    w1.frozen? ⟨w.heap.size, 0, none⟩ = false ∧ w1.frozen? ⟨w.heap.size, 1, none⟩ = false ∧ w1.frozen? ⟨w.heap.size, 2, none⟩ = false ∧ w1.frozen? ⟨w.heap.size, 3, none⟩ = false ∧ w.heap.size < w1.heap.size ∧ Below w.heap.size w w1 :=
  ⟨(hb.cell (p := ⟨w.heap.size, 0, none⟩) (by simp)).trans (by simp), (hb.cell (p := ⟨w.heap.size, 1, none⟩) (by simp)).trans (by simp), (hb.cell (p := ⟨w.heap.size, 2, none⟩) (by simp)).trans (by simp), (hb.cell (p := ⟨w.heap.size, 3, none⟩) (by simp)).trans (by simp),
    (hb.frozen (p := ⟨w.heap.size, 0, none⟩) (by simp)).trans (by simp), (hb.frozen (p := ⟨w.heap.size, 1, none⟩) (by simp)).trans (by simp), (hb.frozen (p := ⟨w.heap.size, 2, none⟩) (by simp)).trans (by simp), (hb.frozen (p := ⟨w.heap.size, 3, none⟩) (by simp)).trans (by simp),
    by have := hb.size; simp at this; omega, below_box hb⟩
theorem errIs_faultS {X : World} {h : Nat} (hX : X.heap.size = h) (e n : Int) : errIs (X.alloc (.cells #[.int .i64 e, .int .i64 n] 203)) (.iface 180 (.pointer (some ⟨h, 0, none⟩))) (some (e, n)) := by
  rw [← hX]; exact errIs_fault X e n
theorem short_b (s : ByteArray) (i : Nat) (w : World) (h : i + 1 < s.size) (hs : s.size ≤ 9223372036854775807) :
    Calls Tryz.prog 177 #[.string s, .int .i64 i] w fun e w' => e = .returned (.int .u16 (sh s.data.toList i)) ∧ Below w.heap.size w w' := by
  refine (short_any s i w h hs).mono ?_
  rintro e w' ⟨rfl, n, rfl⟩
  exact ⟨rfl, below_drewN (Below.refl _ _) n⟩
theorem word_b (s : ByteArray) (i : Nat) (w : World) (h : i + 3 < s.size) (hs : s.size ≤ 9223372036854775807) :
    Calls Tryz.prog 179 #[.string s, .int .i64 i] w fun e w' => e = .returned (.int .u32 (wd s.data.toList i)) ∧ Below w.heap.size w w' := by
  refine (word_any s i w h hs).mono ?_
  rintro e w' ⟨rfl, n, rfl⟩
  exact ⟨rfl, below_drewN (Below.refl _ _) n⟩
theorem size_set4 (w : World) (a b c d : Addr) (x y z u : Value) : ((((w.setCell a x).setCell b y).setCell c z).setCell d u).heap.size = w.heap.size := by simp [World.setCell]

theorem below_drew1 (w : World) : Below w.heap.size w w.drew := (Below.refl _ _).drew
/-- A prefix in a box of its own. -/
theorem pbox {w w1 : World} {a l : Int} (hb : Below (w.alloc (.cells #[.int .u32 a, .int .i64 l] 32)).heap.size (w.alloc (.cells #[.int .u32 a, .int .i64 l] 32)) w1) :
    w1.cell? ⟨w.heap.size, 0, none⟩ = some (.int .u32 a) ∧ w1.cell? ⟨w.heap.size, 1, none⟩ = some (.int .i64 l) ∧ w.heap.size < w1.heap.size :=
  ⟨(hb.cell (p := ⟨w.heap.size, 0, none⟩) (by simp)).trans (by simp), (hb.cell (p := ⟨w.heap.size, 1, none⟩) (by simp)).trans (by simp), by have := hb.size; simp at this; omega⟩
theorem pbox_below {w w1 : World} {P : Nat} {a l : Int} (h : w.cell? ⟨P, 0, none⟩ = some (.int .u32 a) ∧ w.cell? ⟨P, 1, none⟩ = some (.int .i64 l) ∧ P < w.heap.size) (hb : Below w.heap.size w w1) :
    w1.cell? ⟨P, 0, none⟩ = some (.int .u32 a) ∧ w1.cell? ⟨P, 1, none⟩ = some (.int .i64 l) ∧ P < w1.heap.size :=
  ⟨(hb.cell (p := ⟨P, 0, none⟩) h.2.2).trans h.1, (hb.cell (p := ⟨P, 1, none⟩) h.2.2).trans h.2.1, Nat.lt_of_lt_of_le h.2.2 hb.size⟩

set_option maxHeartbeats 1000000 in
theorem readEntry_fam (s : ByteArray) (n : Int) (w : World) (hs : s.size = 20) (h : sh s.data.toList 0 ≠ 2) :
    Calls Tryz.prog 138 #[.string s, .int .i64 n] w fun e w' => ∃ v, e = .returned (.tuple #[zeroE, v]) ∧ errIs w' v (some (5, n)) ∧ Below w.heap.size w w' := by
  have HS := hide (fun W => short_b s 0 W (by omega) (by omega))
  have hne : (sh s.data.toList 0 != 2) = true := by simp [h]
  generalize sh s.data.toList 0 = F at *
  clear h hs
  go_enter Tryz.func138, Tryz.ntmps138
  go_wp2_with fail
  refine (unhide HS _).mono ?_
  rintro e w1 ⟨rfl, hb1⟩
  obtain ⟨r0, r1, r2, r3, f0, f1, f2, f3, hz, hb⟩ := resE hb1
  clear hb1
  go_wp2_with fail
  refine (fault_any _ _ _).mono ?_
  rintro e w2 ⟨rfl, rfl⟩
  go_wp2
  refine bodyPost_ret (v := .tuple #[zeroE, .iface 180 (.pointer (some ⟨w1.heap.size, 0, none⟩))]) (by simp [results, Tryz.results138, go_sem, r0, r1, r2, r3, hz]) rfl ⟨_, rfl, errIs_faultS (size_set4 _ _ _ _ _ _ _ _ _) _ _, ?_⟩
  exact ((((hb.setCell (by simp) _).setCell (by simp) _).setCell (by simp) _).setCell (by simp) _).alloc (by rw [size_set4]; omega) _

set_option maxHeartbeats 1000000 in
theorem readEntry_pfx (s : ByteArray) (n : Int) (w : World) (hs : s.size = 20) (hf : sh s.data.toList 0 = 2) (hp : pfxB (wd s.data.toList 4) (maskLen (wd s.data.toList 8)) = false) :
    Calls Tryz.prog 138 #[.string s, .int .i64 n] w fun e w' => ∃ v, e = .returned (.tuple #[zeroE, v]) ∧ errIs w' v (some (6, n)) ∧ Below w.heap.size w w' := by
  have r0' := sh_range s.data.toList 2
  have r4 := wd_range s.data.toList 4
  have r8 := wd_range s.data.toList 8
  have r16 := wd_range s.data.toList 16
  have HS0 := hide (fun W => short_b s 0 W (by omega) (by omega))
  have HS2 := hide (fun W => short_b s 2 W (by omega) (by omega))
  have HW4 := hide (fun W => word_b s 4 W (by omega) (by omega))
  have HW8 := hide (fun W => word_b s 8 W (by omega) (by omega))
  have HW12 := hide (fun W => word_b s 12 W (by omega) (by omega))
  have HW16 := hide (fun W => word_b s 16 W (by omega) (by omega))
  rw [hf] at HS0
  clear hf
  generalize sh s.data.toList 2 = T at *
  generalize wd s.data.toList 4 = A at *
  generalize wd s.data.toList 8 = M at *
  generalize wd s.data.toList 12 = Hp at *
  generalize wd s.data.toList 16 = Mt at *
  have HOF := hide (fun W => Of_any A M false W r4.1 r4.2 r8.1 r8.2 hp)
  simp only [if_false, Bool.false_eq_true] at HOF
  clear hs hp
  go_enter Tryz.func138, Tryz.ntmps138
  go_wp2_with fail
  refine (unhide HS0 _).mono ?_
  rintro e w1 ⟨rfl, hb1⟩
  have k1 := hide hb1
  clear hb1
  go_wp2_with fail
  refine (unhide HW4 _).mono ?_
  rintro e w2 ⟨rfl, hb2⟩
  have k2 := hide (below_seq (unhide k1) hb2)
  clear hb2 k1
  go_wp2_with fail
  refine (unhide HW8 _).mono ?_
  rintro e w3 ⟨rfl, hb3⟩
  have k3 := hide (below_seq (unhide k2) hb3)
  clear hb3 k2
  go_wp2_with fail
  refine (unhide HOF _).mono ?_
  rintro e w4 ⟨rfl, hb4⟩
  have k4 := hide (below_seq (unhide k3) hb4)
  clear hb4 k3
  go_wp2_with fail
  refine (fault_any _ _ _).mono ?_
  rintro e wf ⟨rfl, rfl⟩
  obtain ⟨r0, r1, r2, r3, f0, f1, f2, f3, hz, hb⟩ := resE (unhide k4)
  go_wp2
  refine bodyPost_ret (v := .tuple #[zeroE, .iface 180 (.pointer (some ⟨w4.heap.size + 1, 0, none⟩))]) (by simp [results, Tryz.results138, go_sem, r0, r1, r2, r3, hz]) rfl ⟨_, rfl, errIs_faultS (by simp) _ _, ?_⟩
  exact (((((hb.setCell (by simp) _).setCell (by simp) _).setCell (by simp) _).setCell (by simp) _).alloc (by rw [size_set4]; omega) _).alloc (by simp; omega) _

set_option maxHeartbeats 1000000 in
theorem readEntry_hop (s : ByteArray) (n : Int) (w : World) (hs : s.size = 20) (hf : sh s.data.toList 0 = 2) (hp : pfxB (wd s.data.toList 4) (maskLen (wd s.data.toList 8)) = true) (hh : wd s.data.toList 12 ≠ 0) :
    Calls Tryz.prog 138 #[.string s, .int .i64 n] w fun e w' => ∃ v, e = .returned (.tuple #[zeroE, v]) ∧ errIs w' v (some (7, n)) ∧ Below w.heap.size w w' := by
  have r0' := sh_range s.data.toList 2
  have r4 := wd_range s.data.toList 4
  have r8 := wd_range s.data.toList 8
  have r16 := wd_range s.data.toList 16
  have HS0 := hide (fun W => short_b s 0 W (by omega) (by omega))
  have HS2 := hide (fun W => short_b s 2 W (by omega) (by omega))
  have HW4 := hide (fun W => word_b s 4 W (by omega) (by omega))
  have HW8 := hide (fun W => word_b s 8 W (by omega) (by omega))
  have HW12 := hide (fun W => word_b s 12 W (by omega) (by omega))
  have HW16 := hide (fun W => word_b s 16 W (by omega) (by omega))
  have hne : (wd s.data.toList 12 != 0) = true := by simp [hh]
  clear hh
  rw [hf] at HS0
  clear hf
  generalize sh s.data.toList 2 = T at *
  generalize wd s.data.toList 4 = A at *
  generalize wd s.data.toList 8 = M at *
  generalize wd s.data.toList 12 = Hp at *
  generalize wd s.data.toList 16 = Mt at *
  have HOF := hide (fun W => Of_any A M true W r4.1 r4.2 r8.1 r8.2 hp)
  simp only [if_true] at HOF
  clear hs hp
  go_enter Tryz.func138, Tryz.ntmps138
  go_wp2_with fail
  refine (unhide HS0 _).mono ?_
  rintro e w1 ⟨rfl, hb1⟩
  have k1 := hide hb1
  clear hb1
  go_wp2_with fail
  refine (unhide HW4 _).mono ?_
  rintro e w2 ⟨rfl, hb2⟩
  have k2 := hide (below_seq (unhide k1) hb2)
  clear hb2 k1
  go_wp2_with fail
  refine (unhide HW8 _).mono ?_
  rintro e w3 ⟨rfl, hb3⟩
  have k3 := hide (below_seq (unhide k2) hb3)
  clear hb3 k2
  go_wp2_with fail
  refine (unhide HOF _).mono ?_
  rintro e w4 ⟨rfl, hb4⟩
  have k4 := hide (below_seq (unhide k3) hb4)
  clear hb4 k3
  go_wp2_with fail
  refine (unhide HW12 _).mono ?_
  rintro e w5 ⟨rfl, hb5⟩
  have k5 := hide (below_seq (below_seq (unhide k4) (below_new w4 _)) hb5)
  have P5 := hide (pbox hb5)
  clear hb5 k4
  go_wp2_with fail
  refine (fault_any _ _ _).mono ?_
  rintro e wf ⟨rfl, rfl⟩
  obtain ⟨r0, r1, r2, r3, f0, f1, f2, f3, hz, hb⟩ := resE (unhide k5)
  go_wp2
  refine bodyPost_ret (v := .tuple #[zeroE, .iface 180 (.pointer (some ⟨w5.heap.size, 0, none⟩))]) (by simp [results, Tryz.results138, go_sem, r0, r1, r2, r3, hz]) rfl ⟨_, rfl, errIs_faultS (size_set4 _ _ _ _ _ _ _ _ _) _ _, ?_⟩
  exact ((((hb.setCell (by simp) _).setCell (by simp) _).setCell (by simp) _).setCell (by simp) _).alloc (by rw [size_set4]; omega) _

set_option maxHeartbeats 1000000 in
theorem readEntry_met (s : ByteArray) (n : Int) (w : World) (hs : s.size = 20) (hf : sh s.data.toList 0 = 2) (hp : pfxB (wd s.data.toList 4) (maskLen (wd s.data.toList 8)) = true) (hh : wd s.data.toList 12 = 0) (hm : metB (wd s.data.toList 16) = false) :
    Calls Tryz.prog 138 #[.string s, .int .i64 n] w fun e w' => ∃ v, e = .returned (.tuple #[zeroE, v]) ∧ errIs w' v (some (8, n)) ∧ Below w.heap.size w w' := by
  have r0' := sh_range s.data.toList 2
  have r4 := wd_range s.data.toList 4
  have r8 := wd_range s.data.toList 8
  have r16 := wd_range s.data.toList 16
  have HS0 := hide (fun W => short_b s 0 W (by omega) (by omega))
  have HS2 := hide (fun W => short_b s 2 W (by omega) (by omega))
  have HW4 := hide (fun W => word_b s 4 W (by omega) (by omega))
  have HW8 := hide (fun W => word_b s 8 W (by omega) (by omega))
  have HW12 := hide (fun W => word_b s 12 W (by omega) (by omega))
  have HW16 := hide (fun W => word_b s 16 W (by omega) (by omega))
  have hne : (wd s.data.toList 12 != 0) = false := by simp [hh]
  clear hh
  rw [hf] at HS0
  clear hf
  generalize sh s.data.toList 2 = T at *
  generalize wd s.data.toList 4 = A at *
  generalize wd s.data.toList 8 = M at *
  generalize wd s.data.toList 12 = Hp at *
  generalize wd s.data.toList 16 = Mt at *
  have HOF := hide (fun W => Of_any A M true W r4.1 r4.2 r8.1 r8.2 hp)
  simp only [if_true] at HOF
  clear hs hp
  go_enter Tryz.func138, Tryz.ntmps138
  go_wp2_with fail
  refine (unhide HS0 _).mono ?_
  rintro e w1 ⟨rfl, hb1⟩
  have k1 := hide hb1
  clear hb1
  go_wp2_with fail
  refine (unhide HW4 _).mono ?_
  rintro e w2 ⟨rfl, hb2⟩
  have k2 := hide (below_seq (unhide k1) hb2)
  clear hb2 k1
  go_wp2_with fail
  refine (unhide HW8 _).mono ?_
  rintro e w3 ⟨rfl, hb3⟩
  have k3 := hide (below_seq (unhide k2) hb3)
  clear hb3 k2
  go_wp2_with fail
  refine (unhide HOF _).mono ?_
  rintro e w4 ⟨rfl, hb4⟩
  have k4 := hide (below_seq (unhide k3) hb4)
  clear hb4 k3
  go_wp2_with fail
  refine (unhide HW12 _).mono ?_
  rintro e w5 ⟨rfl, hb5⟩
  have k5 := hide (below_seq (below_seq (unhide k4) (below_new w4 _)) hb5)
  have P5 := hide (pbox hb5)
  clear hb5 k4
  go_wp2_with fail
  refine (unhide HW16 _).mono ?_
  rintro e w6 ⟨rfl, hb6⟩
  have k6 := hide (below_seq (unhide k5) hb6)
  have P6 := hide (pbox_below (unhide P5) hb6)
  clear hb6 k5 P5
  go_wp2_with (go_at_call 174; refine (isMetric_any _ _).mono ?_; rintro e w' ⟨rfl, rfl⟩)
  go_wp2_with fail
  refine (fault_any _ _ _).mono ?_
  rintro e wf ⟨rfl, rfl⟩
  obtain ⟨r0, r1, r2, r3, f0, f1, f2, f3, hz, hb⟩ := resE (unhide k6)
  go_wp2
  refine bodyPost_ret (v := .tuple #[zeroE, .iface 180 (.pointer (some ⟨w'.heap.size, 0, none⟩))]) (by simp [results, Tryz.results138, go_sem, r0, r1, r2, r3, hz]) rfl ⟨_, rfl, errIs_faultS (size_set4 _ _ _ _ _ _ _ _ _) _ _, ?_⟩
  exact ((((hb.setCell (by simp) _).setCell (by simp) _).setCell (by simp) _).setCell (by simp) _).alloc (by rw [size_set4]; omega) _

set_option maxHeartbeats 1000000 in
theorem readEntry_ok (s : ByteArray) (n : Int) (w : World) (hs : s.size = 20) (hf : sh s.data.toList 0 = 2) (hp : pfxB (wd s.data.toList 4) (maskLen (wd s.data.toList 8)) = true) (hh : wd s.data.toList 12 = 0) (hm : metB (wd s.data.toList 16) = true) :
    Calls Tryz.prog 138 #[.string s, .int .i64 n] w fun e w' => e = .returned (.tuple #[.agg #[.int .u32 (wd s.data.toList 4), .int .i64 (maskLen (wd s.data.toList 8)), .int .i64 (sh s.data.toList 2), .int .i64 (wd s.data.toList 16)], .nilIface]) ∧ Below w.heap.size w w' := by
  have r0' := sh_range s.data.toList 2
  have r4 := wd_range s.data.toList 4
  have r8 := wd_range s.data.toList 8
  have r16 := wd_range s.data.toList 16
  have HS0 := hide (fun W => short_b s 0 W (by omega) (by omega))
  have HS2 := hide (fun W => short_b s 2 W (by omega) (by omega))
  have HW4 := hide (fun W => word_b s 4 W (by omega) (by omega))
  have HW8 := hide (fun W => word_b s 8 W (by omega) (by omega))
  have HW12 := hide (fun W => word_b s 12 W (by omega) (by omega))
  have HW16 := hide (fun W => word_b s 16 W (by omega) (by omega))
  have hne : (wd s.data.toList 12 != 0) = false := by simp [hh]
  clear hh
  rw [hf] at HS0
  clear hf
  generalize sh s.data.toList 2 = T at *
  generalize wd s.data.toList 4 = A at *
  generalize wd s.data.toList 8 = M at *
  generalize wd s.data.toList 12 = Hp at *
  generalize wd s.data.toList 16 = Mt at *
  have HOF := hide (fun W => Of_any A M true W r4.1 r4.2 r8.1 r8.2 hp)
  simp only [if_true] at HOF
  clear hs hp
  go_enter Tryz.func138, Tryz.ntmps138
  go_wp2_with fail
  refine (unhide HS0 _).mono ?_
  rintro e w1 ⟨rfl, hb1⟩
  have k1 := hide hb1
  clear hb1
  go_wp2_with fail
  refine (unhide HW4 _).mono ?_
  rintro e w2 ⟨rfl, hb2⟩
  have k2 := hide (below_seq (unhide k1) hb2)
  clear hb2 k1
  go_wp2_with fail
  refine (unhide HW8 _).mono ?_
  rintro e w3 ⟨rfl, hb3⟩
  have k3 := hide (below_seq (unhide k2) hb3)
  clear hb3 k2
  go_wp2_with fail
  refine (unhide HOF _).mono ?_
  rintro e w4 ⟨rfl, hb4⟩
  have k4 := hide (below_seq (unhide k3) hb4)
  clear hb4 k3
  go_wp2_with fail
  refine (unhide HW12 _).mono ?_
  rintro e w5 ⟨rfl, hb5⟩
  have k5 := hide (below_seq (below_seq (unhide k4) (below_new w4 _)) hb5)
  have P5 := hide (pbox hb5)
  have hPR : w.heap.size < w4.heap.size := (resE (unhide k4)).2.2.2.2.2.2.2.2.1
  clear hb5 k4
  go_wp2_with fail
  refine (unhide HW16 _).mono ?_
  rintro e w6 ⟨rfl, hb6⟩
  have k6 := hide (below_seq (unhide k5) hb6)
  have P6 := hide (pbox_below (unhide P5) hb6)
  clear hb6 k5 P5
  go_wp2_with (go_at_call 174; refine (isMetric_any _ _).mono ?_; rintro e w' ⟨rfl, rfl⟩)
  obtain ⟨r0, r1, r2, r3, f0, f1, f2, f3, hz, hb⟩ := resE (unhide k6)
  obtain ⟨q0, q1, hpz⟩ := unhide P6
  have z1 : w4.heap.size ≠ w.heap.size := by omega
  have kT : IntKind.i64.wrap T = T := by rw [IntKind.wrap_i64]; omega
  clear r0 r1 r2 r3 f0 f1 f2 f3 hb
  go_region_held3 (fun w' => w'.cell? ⟨w4.heap.size, 0, none⟩ = some (.int .u32 A) ∧ w'.cell? ⟨w4.heap.size, 1, none⟩ = some (.int .i64 (maskLen M))) (first | go_keep | exact ⟨(cell_set4 _ z1 _ _ _ _ _ _ _ _ _).trans q0', (cell_set4 _ z1 _ _ _ _ _ _ _ _ _).trans q1'⟩)
    (first
      | (go_at_call 177; refine (unhide HS2 _).mono ?_; rintro e w7 ⟨rfl, hb7⟩; have q0' := (pbox_below (unhide P6) (Below.trans (below_drew1 w') hb7)).1; have q1' := (pbox_below (unhide P6) (Below.trans (below_drew1 w') hb7)).2.1; obtain ⟨r0, r1, r2, r3, f0, f1, f2, f3, hz7, hb8⟩ := resE (below_seq (unhide k6) (Below.trans (below_drew1 w') hb7)); clear hb7))
  go_wp2
  exact bodyPost_ret (v := .tuple #[.agg #[.int .u32 A, .int .i64 (maskLen M), .int .i64 T, .int .i64 Mt], .nilIface]) (by simp [results, Tryz.results138, go_sem, r0, r1, r2, r3]) rfl ⟨rfl, (((hb8.setCell (by simp) _).setCell (by simp) _).setCell (by simp) _).setCell (by simp) _⟩

/-- One entry: it is read, or its first fault is told. -/
theorem readEntry_good (s : ByteArray) (n : Int) (w : World) (hs : s.size = 20) (h : errAt s.data.toList 0 = 0) :
    Calls Tryz.prog 138 #[.string s, .int .i64 n] w fun e w' => e = .returned (.tuple #[.agg #[.int .u32 (entAt s.data.toList 0).addr, .int .i64 (entAt s.data.toList 0).len, .int .i64 (entAt s.data.toList 0).tag, .int .i64 (entAt s.data.toList 0).met], .nilIface]) ∧ Below w.heap.size w w' := by
  unfold errAt at h
  split at h
  · simp at h
  · rename_i h1
    split at h
    · simp at h
    · rename_i h2
      split at h
      · simp at h
      · rename_i h3
        split at h
        · simp at h
        · rename_i h4
          exact readEntry_ok s n w hs (by simpa using h1) (by simpa using h2) (by simpa using h3) (by simpa using h4)
theorem readEntry_bad (s : ByteArray) (n : Int) (w : World) (hs : s.size = 20) (h : errAt s.data.toList 0 ≠ 0) :
    Calls Tryz.prog 138 #[.string s, .int .i64 n] w fun e w' => ∃ v, e = .returned (.tuple #[zeroE, v]) ∧ errIs w' v (some (errAt s.data.toList 0, n)) ∧ Below w.heap.size w w' := by
  unfold errAt at h ⊢
  split
  · rename_i h1; exact readEntry_fam s n w hs h1
  · rename_i h1
    split
    · rename_i h2; exact readEntry_pfx s n w hs (by simpa using h1) h2
    · rename_i h2
      split
      · rename_i h3; exact readEntry_hop s n w hs (by simpa using h1) (by simpa using h2) h3
      · rename_i h3
        split
        · rename_i h4; exact readEntry_met s n w hs (by simpa using h1) (by simpa using h2) (by simpa using h3) h4
        · rename_i h4
          rw [if_neg h1, if_neg h2, if_neg h3, if_neg h4] at h
          exact absurd rfl h

end Go.Proofs.YtdnpeefnobjfaaaGreatDoor
