/- milepostlaw's step: kinds up to KLook. -/
import Derived.Test.YtdnpeefnobjfaaaGreatDoorQLawCM
import Derived.Deep.RegionHeld3
namespace Go.Proofs.YtdnpeefnobjfaaaGreatDoor
open Go.RowKit Go.Shelf
attribute [local go_sem ↓] Go.wp_at_zero Go.wp_at_succ

abbrev boxO (w : World) (k on n : Int) (d : ByteArray) (cmd : Int) (es cs os : Value) : World := w.alloc (.cells (opV k on n d cmd es cs os) 93)
abbrev boxP (w : World) (k on n : Int) (d : ByteArray) (cmd : Int) (es cs os : Value) (R Q : Nat) : World := (boxO w k on n d cmd es cs os).alloc (.cells (pairV R Q) 97)
theorem boxP_below (w : World) (k on n : Int) (d : ByteArray) (cmd : Int) (es cs os : Value) (R Q j : Nat) : Below w.heap.size w ((boxP w k on n d cmd es cs os R Q).drewN j) := ((((Grows.refl w).alloc _).alloc _).drewN j).below

set_option maxRecDepth 100000 in
set_option maxHeartbeats 4000000 in
theorem stepNone {Wd Bk : Nat} {ps : List Pr} {on n : Int} {d : ByteArray} {cmd : Int} {es cs os : Value} {m : Int} {nr no ni np : Nat} {col : Col} {w : World} {k : Int} (h : LawC col w Wd Bk ps m nr no ni np) (h1 : 0 < ps.length) (hon : -9223372036854775808 ≤ on ∧ on < 9223372036854775808) (hk : ∀ j : Int, 1 ≤ j → j ≤ 12 → (k == j) = false) :
    Calls Tryz.prog 30 #[.pointer (some ⟨Wd, 0, none⟩), .agg #[.int .i64 k, .int .i64 on, .int .i64 n, .string d, .int .i64 cmd, es, cs, os]] w fun e w' => e = .returned (.bool true) ∧ Stepped col w Wd Bk ps m nr no ni np w' := by
  obtain ⟨pv, hwd, hpv⟩ := h.wd
  have hfew := h.few
  obtain ⟨ap, cp, rfl⟩ := ownsRow_slice hpv.1
  obtain ⟨gp, kp, hfp, _, hglt⟩ := hpv.1.form h1
  obtain ⟨rfl, rfl⟩ : ap = some ⟨gp, 0, none⟩ ∧ cp = kp := by simpa using hfp
  clear hfp
  obtain ⟨i, hid⟩ : ∃ i, i = pickN on ps.length := ⟨_, rfl⟩
  have hi : i < ps.length := by rw [hid]; exact pickN_lt on h1
  have hpick := pick_any on ps.length h1 hfew hon
  rw [← hid] at hpick
  obtain ⟨q0, q1⟩ := prCells_at ps i hi
  have g0 := owned_cells hpv.1 _ _ q0
  have g1 := owned_cells hpv.1 _ _ q1
  rw [Addr.add_lit, Nat.zero_add] at g0 g1
  obtain ⟨WO, hWO⟩ : ∃ W, W = w.alloc (.cells #[.int .i64 k, .int .i64 on, .int .i64 n, .string d, .int .i64 cmd, es, cs, os] 93) := ⟨_, rfl⟩
  have bO : Blk WO w.heap.size #[.int .i64 k, .int .i64 on, .int .i64 n, .string d, .int .i64 cmd, es, cs, os] 93 := by rw [hWO]; exact Blk.new w _ _
  have hbo : Below w.heap.size w WO := by rw [hWO]; exact below_new _ _
  have hszO : WO.heap.size = w.heap.size + 1 := by rw [hWO]; simp
  have c1 := (hbo.cell (p := ⟨Wd, 1, none⟩) hwd.1.lt).trans ((hwd.1.cell 1).trans rfl)
  have e0 := (hbo.cell (p := ⟨gp, i * 2, none⟩) hglt).trans g0
  have e1 := (hbo.cell (p := ⟨gp, i * 2 + 1, none⟩) hglt).trans g1
  have o1 := (bO.cell 1).trans (show _ = some (.int .i64 on) from rfl)
  have o0 := (bO.cell 0).trans (show _ = some (.int .i64 k) from rfl)
  have HBO := hide hbo
  have HSZ := hide hszO
  have HO := hide bO
  have l1 : Wd < WO.heap.size := by have := hwd.1.lt; omega
  have l2 : gp < WO.heap.size := by omega
  have l3 : w.heap.size < WO.heap.size := by omega
  obtain ⟨⟨R, Q, costs, L⟩, hP⟩ : ∃ P, ps[i] = P := ⟨_, rfl⟩
  have hprc := h.each i hi
  rw [hP] at e0 e1 hprc
  dsimp only at e0 e1 hprc
  have HPI := hide (show ∃ h : i < ps.length, ps[i] = ⟨R, Q, costs, L⟩ from ⟨hi, hP⟩)
  have HPR := hide hprc
  have HLAW := hide h
  have j0 : (0 : Int) ≤ (i : Int) := by omega
  obtain ⟨pl, hpl⟩ : ∃ pl, ps.length = pl := ⟨_, rfl⟩
  have j1 : (i : Int) < (pl : Int) := by omega
  rw [hpl] at c1 hpick
  have hfol := prog_follows
  clear hwd hpv hid q0 q1 g0 g1 hbo bO hglt hi hP hprc hpl h1 hfew h hszO
  have k1 := hk 1 (by decide) (by decide)
  have k2 := hk 2 (by decide) (by decide)
  have k3 := hk 3 (by decide) (by decide)
  have k4 := hk 4 (by decide) (by decide)
  have k5 := hk 5 (by decide) (by decide)
  have k6 := hk 6 (by decide) (by decide)
  have k7 := hk 7 (by decide) (by decide)
  have k8 := hk 8 (by decide) (by decide)
  have k9 := hk 9 (by decide) (by decide)
  have k10 := hk 10 (by decide) (by decide)
  have k11 := hk 11 (by decide) (by decide)
  have k12 := hk 12 (by decide) (by decide)
  clear hk
  go_enter Tryz.func30, Tryz.ntmps30
  go_wp2_with fail
  rw [← hWO]
  clear hWO
  go_region_held3 (fun w' => w'.cell? ⟨Wd, 1, none⟩ = some (.slice (some ⟨gp, 0, none⟩) pl cp) ∧ w'.cell? ⟨gp, i * 2, none⟩ = some (.pointer (some ⟨R, 0, none⟩)) ∧ w'.cell? ⟨gp, i * 2 + 1, none⟩ = some (.pointer (some ⟨Q, 0, none⟩)) ∧ w'.cell? ⟨w.heap.size, 1, none⟩ = some (.int .i64 on))
    (first | go_keep | (trace_state; fail))
    (first | (go_at_call 66; refine (hpick _).mono ?_; rintro e wv ⟨rfl, rfl⟩))
  all_goals
    obtain ⟨WP, hWP⟩ : ∃ W, W = (WO.alloc (.cells #[.pointer (some ⟨R, 0, none⟩), .pointer (some ⟨Q, 0, none⟩)] 97)).drew := ⟨_, rfl⟩
    have hgw : Below WO.heap.size WO WP := by rw [hWP]; exact (((Grows.refl WO).alloc _).drew).below
    have hbW : Below w.heap.size w WP := below_seq (unhide HBO) hgw
    have bO := (unhide HO).below hgw (unhide HO).lt
    have bP : Blk WP WO.heap.size #[.pointer (some ⟨R, 0, none⟩), .pointer (some ⟨Q, 0, none⟩)] 97 := by rw [hWP]; exact Blk.new WO _ _
    obtain ⟨X, hX⟩ : ∃ X, X = w.heap.size := ⟨_, rfl⟩
    obtain ⟨Y, hY⟩ : ∃ Y, Y = WO.heap.size := ⟨_, rfl⟩
    have hXY : w.heap.size ≤ X ∧ w.heap.size ≤ Y := by have := unhide HSZ; omega
    rw [← hWP, ← hX, ← hY]
    rw [← hX] at bO
    rw [← hY] at bP
    have HBW := hide hbW
    have HXY := hide hXY
    clear hWP hgw hbW hX hY hXY c1 e0 e1 o1 o0 l1 l2 l3 HBO HSZ HO j0 j1 hpick
    have y0 := (bO.cell 0).trans (show _ = some (.int .i64 k) from rfl)
    go_wp2_with fail
    go_ret
    have ht : Turns (fun _ => False) col (paint col w.heap.size 0) w WP := Turns.below 0 (unhide HBW)
    exact ⟨rfl, (Stepped.same ((unhide HLAW).turn ht (fun _ => id))).from ht⟩

set_option maxRecDepth 100000 in
set_option maxHeartbeats 4000000 in
theorem stepC1 {Wd Bk : Nat} {ps : List Pr} {on n : Int} {d : ByteArray} {cmd : Int} {es cs os : Value} {m : Int} {nr no ni np : Nat} {col : Col} {w : World} (h : LawC col w Wd Bk ps m nr no ni np) (h1 : 0 < ps.length) (hon : -9223372036854775808 ≤ on ∧ on < 9223372036854775808) (hC : ∀ (i R Q : Nat) (costs : List Int) (L : List Rw) (W : World), (∃ h : i < ps.length, ps[i] = ⟨R, Q, costs, L⟩) → PrC col i w R Q costs L → Below w.heap.size w W → Calls Tryz.prog 67 #[.pointer (some ⟨Wd, 0, none⟩), .agg #[.pointer (some ⟨R, 0, none⟩), .pointer (some ⟨Q, 0, none⟩)], .agg #[.int .i64 1, .int .i64 on, .int .i64 n, .string d, .int .i64 cmd, es, cs, os]] W fun e w' => e = .returned (.bool true) ∧ Changed i (paint col w.heap.size 0) W Bk R Q costs m nr no ni np w') :
    Calls Tryz.prog 30 #[.pointer (some ⟨Wd, 0, none⟩), .agg #[.int .i64 1, .int .i64 on, .int .i64 n, .string d, .int .i64 cmd, es, cs, os]] w fun e w' => e = .returned (.bool true) ∧ Stepped col w Wd Bk ps m nr no ni np w' := by
  obtain ⟨pv, hwd, hpv⟩ := h.wd
  have hfew := h.few
  obtain ⟨ap, cp, rfl⟩ := ownsRow_slice hpv.1
  obtain ⟨gp, kp, hfp, _, hglt⟩ := hpv.1.form h1
  obtain ⟨rfl, rfl⟩ : ap = some ⟨gp, 0, none⟩ ∧ cp = kp := by simpa using hfp
  clear hfp
  obtain ⟨i, hid⟩ : ∃ i, i = pickN on ps.length := ⟨_, rfl⟩
  have hi : i < ps.length := by rw [hid]; exact pickN_lt on h1
  have hpick := pick_any on ps.length h1 hfew hon
  rw [← hid] at hpick
  obtain ⟨q0, q1⟩ := prCells_at ps i hi
  have g0 := owned_cells hpv.1 _ _ q0
  have g1 := owned_cells hpv.1 _ _ q1
  rw [Addr.add_lit, Nat.zero_add] at g0 g1
  obtain ⟨WO, hWO⟩ : ∃ W, W = w.alloc (.cells #[.int .i64 1, .int .i64 on, .int .i64 n, .string d, .int .i64 cmd, es, cs, os] 93) := ⟨_, rfl⟩
  have bO : Blk WO w.heap.size #[.int .i64 1, .int .i64 on, .int .i64 n, .string d, .int .i64 cmd, es, cs, os] 93 := by rw [hWO]; exact Blk.new w _ _
  have hbo : Below w.heap.size w WO := by rw [hWO]; exact below_new _ _
  have hszO : WO.heap.size = w.heap.size + 1 := by rw [hWO]; simp
  have c1 := (hbo.cell (p := ⟨Wd, 1, none⟩) hwd.1.lt).trans ((hwd.1.cell 1).trans rfl)
  have e0 := (hbo.cell (p := ⟨gp, i * 2, none⟩) hglt).trans g0
  have e1 := (hbo.cell (p := ⟨gp, i * 2 + 1, none⟩) hglt).trans g1
  have o1 := (bO.cell 1).trans (show _ = some (.int .i64 on) from rfl)
  have o0 := (bO.cell 0).trans (show _ = some (.int .i64 1) from rfl)
  have HBO := hide hbo
  have HSZ := hide hszO
  have HO := hide bO
  have l1 : Wd < WO.heap.size := by have := hwd.1.lt; omega
  have l2 : gp < WO.heap.size := by omega
  have l3 : w.heap.size < WO.heap.size := by omega
  obtain ⟨⟨R, Q, costs, L⟩, hP⟩ : ∃ P, ps[i] = P := ⟨_, rfl⟩
  have hprc := h.each i hi
  rw [hP] at e0 e1 hprc
  dsimp only at e0 e1 hprc
  have HPI := hide (show ∃ h : i < ps.length, ps[i] = ⟨R, Q, costs, L⟩ from ⟨hi, hP⟩)
  have HPR := hide hprc
  have HLAW := hide h
  have j0 : (0 : Int) ≤ (i : Int) := by omega
  obtain ⟨pl, hpl⟩ : ∃ pl, ps.length = pl := ⟨_, rfl⟩
  have j1 : (i : Int) < (pl : Int) := by omega
  rw [hpl] at c1 hpick
  have hfol := prog_follows
  clear hwd hpv hid q0 q1 g0 g1 hbo bO hglt hi hP hprc hpl h1 hfew h hszO
  have HC := hide hC
  clear hC
  go_enter Tryz.func30, Tryz.ntmps30
  go_wp2_with fail
  rw [← hWO]
  clear hWO
  go_region_held3 (fun w' => w'.cell? ⟨Wd, 1, none⟩ = some (.slice (some ⟨gp, 0, none⟩) pl cp) ∧ w'.cell? ⟨gp, i * 2, none⟩ = some (.pointer (some ⟨R, 0, none⟩)) ∧ w'.cell? ⟨gp, i * 2 + 1, none⟩ = some (.pointer (some ⟨Q, 0, none⟩)) ∧ w'.cell? ⟨w.heap.size, 1, none⟩ = some (.int .i64 on))
    (first | go_keep | (trace_state; fail))
    (first | (go_at_call 66; refine (hpick _).mono ?_; rintro e wv ⟨rfl, rfl⟩))
  all_goals
    obtain ⟨WP, hWP⟩ : ∃ W, W = (WO.alloc (.cells #[.pointer (some ⟨R, 0, none⟩), .pointer (some ⟨Q, 0, none⟩)] 97)).drew := ⟨_, rfl⟩
    have hgw : Below WO.heap.size WO WP := by rw [hWP]; exact (((Grows.refl WO).alloc _).drew).below
    have hbW : Below w.heap.size w WP := below_seq (unhide HBO) hgw
    have bO := (unhide HO).below hgw (unhide HO).lt
    have bP : Blk WP WO.heap.size #[.pointer (some ⟨R, 0, none⟩), .pointer (some ⟨Q, 0, none⟩)] 97 := by rw [hWP]; exact Blk.new WO _ _
    obtain ⟨X, hX⟩ : ∃ X, X = w.heap.size := ⟨_, rfl⟩
    obtain ⟨Y, hY⟩ : ∃ Y, Y = WO.heap.size := ⟨_, rfl⟩
    have hXY : w.heap.size ≤ X ∧ w.heap.size ≤ Y := by have := unhide HSZ; omega
    rw [← hWP, ← hX, ← hY]
    rw [← hX] at bO
    rw [← hY] at bP
    have HBW := hide hbW
    have HXY := hide hXY
    clear hWP hgw hbW hX hY hXY c1 e0 e1 o1 o0 l1 l2 l3 HBO HSZ HO j0 j1 hpick
    have y0 := (bO.cell 0).trans (show _ = some (.int .i64 1) from rfl)
    have x0 := (bP.cell 0).trans (show _ = some (.pointer (some ⟨R, 0, none⟩)) from rfl)
    have x1 := (bP.cell 1).trans (show _ = some (.pointer (some ⟨Q, 0, none⟩)) from rfl)
    have y1 := (bO.cell 1).trans (show _ = some (.int .i64 on) from rfl)
    have y2 := (bO.cell 2).trans (show _ = some (.int .i64 n) from rfl)
    have y3 := (bO.cell 3).trans (show _ = some (.string d) from rfl)
    have y4 := (bO.cell 4).trans (show _ = some (.int .i64 cmd) from rfl)
    have y5 := (bO.cell 5).trans (show _ = some es from rfl)
    have y6 := (bO.cell 6).trans (show _ = some cs from rfl)
    have y7 := (bO.cell 7).trans (show _ = some os from rfl)
    have hq := unhide HC i R Q costs L WP (unhide HPI) (unhide HPR) (unhide HBW)
    clear bO bP
    go_wp2_with (go_at_call 67; refine hq.mono ?_; rintro e w9 ⟨rfl, h9⟩; have H9 := hide h9; clear h9 hq)
    go_ret
    have ht : Turns (fun _ => False) col (paint col w.heap.size 0) w WP := Turns.below 0 (unhide HBW)
    obtain ⟨hi, hP⟩ := unhide HPI
    refine ⟨rfl, (((unhide HLAW).turn ht (fun _ => id)).changed hi ?_).from ht⟩
    rw [hP]
    exact unhide H9

set_option maxRecDepth 100000 in
set_option maxHeartbeats 4000000 in
theorem stepC2 {Wd Bk : Nat} {ps : List Pr} {on n : Int} {d : ByteArray} {cmd : Int} {es cs os : Value} {m : Int} {nr no ni np : Nat} {col : Col} {w : World} (h : LawC col w Wd Bk ps m nr no ni np) (h1 : 0 < ps.length) (hon : -9223372036854775808 ≤ on ∧ on < 9223372036854775808) (hC : ∀ (i R Q : Nat) (costs : List Int) (L : List Rw) (W : World), (∃ h : i < ps.length, ps[i] = ⟨R, Q, costs, L⟩) → PrC col i w R Q costs L → Below w.heap.size w W → Calls Tryz.prog 67 #[.pointer (some ⟨Wd, 0, none⟩), .agg #[.pointer (some ⟨R, 0, none⟩), .pointer (some ⟨Q, 0, none⟩)], .agg #[.int .i64 2, .int .i64 on, .int .i64 n, .string d, .int .i64 cmd, es, cs, os]] W fun e w' => e = .returned (.bool true) ∧ Changed i (paint col w.heap.size 0) W Bk R Q costs m nr no ni np w') :
    Calls Tryz.prog 30 #[.pointer (some ⟨Wd, 0, none⟩), .agg #[.int .i64 2, .int .i64 on, .int .i64 n, .string d, .int .i64 cmd, es, cs, os]] w fun e w' => e = .returned (.bool true) ∧ Stepped col w Wd Bk ps m nr no ni np w' := by
  obtain ⟨pv, hwd, hpv⟩ := h.wd
  have hfew := h.few
  obtain ⟨ap, cp, rfl⟩ := ownsRow_slice hpv.1
  obtain ⟨gp, kp, hfp, _, hglt⟩ := hpv.1.form h1
  obtain ⟨rfl, rfl⟩ : ap = some ⟨gp, 0, none⟩ ∧ cp = kp := by simpa using hfp
  clear hfp
  obtain ⟨i, hid⟩ : ∃ i, i = pickN on ps.length := ⟨_, rfl⟩
  have hi : i < ps.length := by rw [hid]; exact pickN_lt on h1
  have hpick := pick_any on ps.length h1 hfew hon
  rw [← hid] at hpick
  obtain ⟨q0, q1⟩ := prCells_at ps i hi
  have g0 := owned_cells hpv.1 _ _ q0
  have g1 := owned_cells hpv.1 _ _ q1
  rw [Addr.add_lit, Nat.zero_add] at g0 g1
  obtain ⟨WO, hWO⟩ : ∃ W, W = w.alloc (.cells #[.int .i64 2, .int .i64 on, .int .i64 n, .string d, .int .i64 cmd, es, cs, os] 93) := ⟨_, rfl⟩
  have bO : Blk WO w.heap.size #[.int .i64 2, .int .i64 on, .int .i64 n, .string d, .int .i64 cmd, es, cs, os] 93 := by rw [hWO]; exact Blk.new w _ _
  have hbo : Below w.heap.size w WO := by rw [hWO]; exact below_new _ _
  have hszO : WO.heap.size = w.heap.size + 1 := by rw [hWO]; simp
  have c1 := (hbo.cell (p := ⟨Wd, 1, none⟩) hwd.1.lt).trans ((hwd.1.cell 1).trans rfl)
  have e0 := (hbo.cell (p := ⟨gp, i * 2, none⟩) hglt).trans g0
  have e1 := (hbo.cell (p := ⟨gp, i * 2 + 1, none⟩) hglt).trans g1
  have o1 := (bO.cell 1).trans (show _ = some (.int .i64 on) from rfl)
  have o0 := (bO.cell 0).trans (show _ = some (.int .i64 2) from rfl)
  have HBO := hide hbo
  have HSZ := hide hszO
  have HO := hide bO
  have l1 : Wd < WO.heap.size := by have := hwd.1.lt; omega
  have l2 : gp < WO.heap.size := by omega
  have l3 : w.heap.size < WO.heap.size := by omega
  obtain ⟨⟨R, Q, costs, L⟩, hP⟩ : ∃ P, ps[i] = P := ⟨_, rfl⟩
  have hprc := h.each i hi
  rw [hP] at e0 e1 hprc
  dsimp only at e0 e1 hprc
  have HPI := hide (show ∃ h : i < ps.length, ps[i] = ⟨R, Q, costs, L⟩ from ⟨hi, hP⟩)
  have HPR := hide hprc
  have HLAW := hide h
  have j0 : (0 : Int) ≤ (i : Int) := by omega
  obtain ⟨pl, hpl⟩ : ∃ pl, ps.length = pl := ⟨_, rfl⟩
  have j1 : (i : Int) < (pl : Int) := by omega
  rw [hpl] at c1 hpick
  have hfol := prog_follows
  clear hwd hpv hid q0 q1 g0 g1 hbo bO hglt hi hP hprc hpl h1 hfew h hszO
  have HC := hide hC
  clear hC
  go_enter Tryz.func30, Tryz.ntmps30
  go_wp2_with fail
  rw [← hWO]
  clear hWO
  go_region_held3 (fun w' => w'.cell? ⟨Wd, 1, none⟩ = some (.slice (some ⟨gp, 0, none⟩) pl cp) ∧ w'.cell? ⟨gp, i * 2, none⟩ = some (.pointer (some ⟨R, 0, none⟩)) ∧ w'.cell? ⟨gp, i * 2 + 1, none⟩ = some (.pointer (some ⟨Q, 0, none⟩)) ∧ w'.cell? ⟨w.heap.size, 1, none⟩ = some (.int .i64 on))
    (first | go_keep | (trace_state; fail))
    (first | (go_at_call 66; refine (hpick _).mono ?_; rintro e wv ⟨rfl, rfl⟩))
  all_goals
    obtain ⟨WP, hWP⟩ : ∃ W, W = (WO.alloc (.cells #[.pointer (some ⟨R, 0, none⟩), .pointer (some ⟨Q, 0, none⟩)] 97)).drew := ⟨_, rfl⟩
    have hgw : Below WO.heap.size WO WP := by rw [hWP]; exact (((Grows.refl WO).alloc _).drew).below
    have hbW : Below w.heap.size w WP := below_seq (unhide HBO) hgw
    have bO := (unhide HO).below hgw (unhide HO).lt
    have bP : Blk WP WO.heap.size #[.pointer (some ⟨R, 0, none⟩), .pointer (some ⟨Q, 0, none⟩)] 97 := by rw [hWP]; exact Blk.new WO _ _
    obtain ⟨X, hX⟩ : ∃ X, X = w.heap.size := ⟨_, rfl⟩
    obtain ⟨Y, hY⟩ : ∃ Y, Y = WO.heap.size := ⟨_, rfl⟩
    have hXY : w.heap.size ≤ X ∧ w.heap.size ≤ Y := by have := unhide HSZ; omega
    rw [← hWP, ← hX, ← hY]
    rw [← hX] at bO
    rw [← hY] at bP
    have HBW := hide hbW
    have HXY := hide hXY
    clear hWP hgw hbW hX hY hXY c1 e0 e1 o1 o0 l1 l2 l3 HBO HSZ HO j0 j1 hpick
    have y0 := (bO.cell 0).trans (show _ = some (.int .i64 2) from rfl)
    have x0 := (bP.cell 0).trans (show _ = some (.pointer (some ⟨R, 0, none⟩)) from rfl)
    have x1 := (bP.cell 1).trans (show _ = some (.pointer (some ⟨Q, 0, none⟩)) from rfl)
    have y1 := (bO.cell 1).trans (show _ = some (.int .i64 on) from rfl)
    have y2 := (bO.cell 2).trans (show _ = some (.int .i64 n) from rfl)
    have y3 := (bO.cell 3).trans (show _ = some (.string d) from rfl)
    have y4 := (bO.cell 4).trans (show _ = some (.int .i64 cmd) from rfl)
    have y5 := (bO.cell 5).trans (show _ = some es from rfl)
    have y6 := (bO.cell 6).trans (show _ = some cs from rfl)
    have y7 := (bO.cell 7).trans (show _ = some os from rfl)
    have hq := unhide HC i R Q costs L WP (unhide HPI) (unhide HPR) (unhide HBW)
    clear bO bP
    go_wp2_with (go_at_call 67; refine hq.mono ?_; rintro e w9 ⟨rfl, h9⟩; have H9 := hide h9; clear h9 hq)
    go_ret
    have ht : Turns (fun _ => False) col (paint col w.heap.size 0) w WP := Turns.below 0 (unhide HBW)
    obtain ⟨hi, hP⟩ := unhide HPI
    refine ⟨rfl, (((unhide HLAW).turn ht (fun _ => id)).changed hi ?_).from ht⟩
    rw [hP]
    exact unhide H9

set_option maxRecDepth 100000 in
set_option maxHeartbeats 4000000 in
theorem stepC3 {Wd Bk : Nat} {ps : List Pr} {on n : Int} {d : ByteArray} {cmd : Int} {es cs os : Value} {m : Int} {nr no ni np : Nat} {col : Col} {w : World} (h : LawC col w Wd Bk ps m nr no ni np) (h1 : 0 < ps.length) (hon : -9223372036854775808 ≤ on ∧ on < 9223372036854775808) (hC : ∀ (i R Q : Nat) (costs : List Int) (L : List Rw) (W : World), (∃ h : i < ps.length, ps[i] = ⟨R, Q, costs, L⟩) → PrC col i w R Q costs L → Below w.heap.size w W → Calls Tryz.prog 67 #[.pointer (some ⟨Wd, 0, none⟩), .agg #[.pointer (some ⟨R, 0, none⟩), .pointer (some ⟨Q, 0, none⟩)], .agg #[.int .i64 3, .int .i64 on, .int .i64 n, .string d, .int .i64 cmd, es, cs, os]] W fun e w' => e = .returned (.bool true) ∧ Changed i (paint col w.heap.size 0) W Bk R Q costs m nr no ni np w') :
    Calls Tryz.prog 30 #[.pointer (some ⟨Wd, 0, none⟩), .agg #[.int .i64 3, .int .i64 on, .int .i64 n, .string d, .int .i64 cmd, es, cs, os]] w fun e w' => e = .returned (.bool true) ∧ Stepped col w Wd Bk ps m nr no ni np w' := by
  obtain ⟨pv, hwd, hpv⟩ := h.wd
  have hfew := h.few
  obtain ⟨ap, cp, rfl⟩ := ownsRow_slice hpv.1
  obtain ⟨gp, kp, hfp, _, hglt⟩ := hpv.1.form h1
  obtain ⟨rfl, rfl⟩ : ap = some ⟨gp, 0, none⟩ ∧ cp = kp := by simpa using hfp
  clear hfp
  obtain ⟨i, hid⟩ : ∃ i, i = pickN on ps.length := ⟨_, rfl⟩
  have hi : i < ps.length := by rw [hid]; exact pickN_lt on h1
  have hpick := pick_any on ps.length h1 hfew hon
  rw [← hid] at hpick
  obtain ⟨q0, q1⟩ := prCells_at ps i hi
  have g0 := owned_cells hpv.1 _ _ q0
  have g1 := owned_cells hpv.1 _ _ q1
  rw [Addr.add_lit, Nat.zero_add] at g0 g1
  obtain ⟨WO, hWO⟩ : ∃ W, W = w.alloc (.cells #[.int .i64 3, .int .i64 on, .int .i64 n, .string d, .int .i64 cmd, es, cs, os] 93) := ⟨_, rfl⟩
  have bO : Blk WO w.heap.size #[.int .i64 3, .int .i64 on, .int .i64 n, .string d, .int .i64 cmd, es, cs, os] 93 := by rw [hWO]; exact Blk.new w _ _
  have hbo : Below w.heap.size w WO := by rw [hWO]; exact below_new _ _
  have hszO : WO.heap.size = w.heap.size + 1 := by rw [hWO]; simp
  have c1 := (hbo.cell (p := ⟨Wd, 1, none⟩) hwd.1.lt).trans ((hwd.1.cell 1).trans rfl)
  have e0 := (hbo.cell (p := ⟨gp, i * 2, none⟩) hglt).trans g0
  have e1 := (hbo.cell (p := ⟨gp, i * 2 + 1, none⟩) hglt).trans g1
  have o1 := (bO.cell 1).trans (show _ = some (.int .i64 on) from rfl)
  have o0 := (bO.cell 0).trans (show _ = some (.int .i64 3) from rfl)
  have HBO := hide hbo
  have HSZ := hide hszO
  have HO := hide bO
  have l1 : Wd < WO.heap.size := by have := hwd.1.lt; omega
  have l2 : gp < WO.heap.size := by omega
  have l3 : w.heap.size < WO.heap.size := by omega
  obtain ⟨⟨R, Q, costs, L⟩, hP⟩ : ∃ P, ps[i] = P := ⟨_, rfl⟩
  have hprc := h.each i hi
  rw [hP] at e0 e1 hprc
  dsimp only at e0 e1 hprc
  have HPI := hide (show ∃ h : i < ps.length, ps[i] = ⟨R, Q, costs, L⟩ from ⟨hi, hP⟩)
  have HPR := hide hprc
  have HLAW := hide h
  have j0 : (0 : Int) ≤ (i : Int) := by omega
  obtain ⟨pl, hpl⟩ : ∃ pl, ps.length = pl := ⟨_, rfl⟩
  have j1 : (i : Int) < (pl : Int) := by omega
  rw [hpl] at c1 hpick
  have hfol := prog_follows
  clear hwd hpv hid q0 q1 g0 g1 hbo bO hglt hi hP hprc hpl h1 hfew h hszO
  have HC := hide hC
  clear hC
  go_enter Tryz.func30, Tryz.ntmps30
  go_wp2_with fail
  rw [← hWO]
  clear hWO
  go_region_held3 (fun w' => w'.cell? ⟨Wd, 1, none⟩ = some (.slice (some ⟨gp, 0, none⟩) pl cp) ∧ w'.cell? ⟨gp, i * 2, none⟩ = some (.pointer (some ⟨R, 0, none⟩)) ∧ w'.cell? ⟨gp, i * 2 + 1, none⟩ = some (.pointer (some ⟨Q, 0, none⟩)) ∧ w'.cell? ⟨w.heap.size, 1, none⟩ = some (.int .i64 on))
    (first | go_keep | (trace_state; fail))
    (first | (go_at_call 66; refine (hpick _).mono ?_; rintro e wv ⟨rfl, rfl⟩))
  all_goals
    obtain ⟨WP, hWP⟩ : ∃ W, W = (WO.alloc (.cells #[.pointer (some ⟨R, 0, none⟩), .pointer (some ⟨Q, 0, none⟩)] 97)).drew := ⟨_, rfl⟩
    have hgw : Below WO.heap.size WO WP := by rw [hWP]; exact (((Grows.refl WO).alloc _).drew).below
    have hbW : Below w.heap.size w WP := below_seq (unhide HBO) hgw
    have bO := (unhide HO).below hgw (unhide HO).lt
    have bP : Blk WP WO.heap.size #[.pointer (some ⟨R, 0, none⟩), .pointer (some ⟨Q, 0, none⟩)] 97 := by rw [hWP]; exact Blk.new WO _ _
    obtain ⟨X, hX⟩ : ∃ X, X = w.heap.size := ⟨_, rfl⟩
    obtain ⟨Y, hY⟩ : ∃ Y, Y = WO.heap.size := ⟨_, rfl⟩
    have hXY : w.heap.size ≤ X ∧ w.heap.size ≤ Y := by have := unhide HSZ; omega
    rw [← hWP, ← hX, ← hY]
    rw [← hX] at bO
    rw [← hY] at bP
    have HBW := hide hbW
    have HXY := hide hXY
    clear hWP hgw hbW hX hY hXY c1 e0 e1 o1 o0 l1 l2 l3 HBO HSZ HO j0 j1 hpick
    have y0 := (bO.cell 0).trans (show _ = some (.int .i64 3) from rfl)
    have x0 := (bP.cell 0).trans (show _ = some (.pointer (some ⟨R, 0, none⟩)) from rfl)
    have x1 := (bP.cell 1).trans (show _ = some (.pointer (some ⟨Q, 0, none⟩)) from rfl)
    have y1 := (bO.cell 1).trans (show _ = some (.int .i64 on) from rfl)
    have y2 := (bO.cell 2).trans (show _ = some (.int .i64 n) from rfl)
    have y3 := (bO.cell 3).trans (show _ = some (.string d) from rfl)
    have y4 := (bO.cell 4).trans (show _ = some (.int .i64 cmd) from rfl)
    have y5 := (bO.cell 5).trans (show _ = some es from rfl)
    have y6 := (bO.cell 6).trans (show _ = some cs from rfl)
    have y7 := (bO.cell 7).trans (show _ = some os from rfl)
    have hq := unhide HC i R Q costs L WP (unhide HPI) (unhide HPR) (unhide HBW)
    clear bO bP
    go_wp2_with (go_at_call 67; refine hq.mono ?_; rintro e w9 ⟨rfl, h9⟩; have H9 := hide h9; clear h9 hq)
    go_ret
    have ht : Turns (fun _ => False) col (paint col w.heap.size 0) w WP := Turns.below 0 (unhide HBW)
    obtain ⟨hi, hP⟩ := unhide HPI
    refine ⟨rfl, (((unhide HLAW).turn ht (fun _ => id)).changed hi ?_).from ht⟩
    rw [hP]
    exact unhide H9

set_option maxRecDepth 100000 in
set_option maxHeartbeats 4000000 in
theorem stepC4 {Wd Bk : Nat} {ps : List Pr} {on n : Int} {d : ByteArray} {cmd : Int} {es cs os : Value} {m : Int} {nr no ni np : Nat} {col : Col} {w : World} (h : LawC col w Wd Bk ps m nr no ni np) (h1 : 0 < ps.length) (hon : -9223372036854775808 ≤ on ∧ on < 9223372036854775808) (hC : ∀ (i R Q : Nat) (costs : List Int) (L : List Rw) (W : World), (∃ h : i < ps.length, ps[i] = ⟨R, Q, costs, L⟩) → PrC col i w R Q costs L → Below w.heap.size w W → Calls Tryz.prog 67 #[.pointer (some ⟨Wd, 0, none⟩), .agg #[.pointer (some ⟨R, 0, none⟩), .pointer (some ⟨Q, 0, none⟩)], .agg #[.int .i64 4, .int .i64 on, .int .i64 n, .string d, .int .i64 cmd, es, cs, os]] W fun e w' => e = .returned (.bool true) ∧ Changed i (paint col w.heap.size 0) W Bk R Q costs m nr no ni np w') :
    Calls Tryz.prog 30 #[.pointer (some ⟨Wd, 0, none⟩), .agg #[.int .i64 4, .int .i64 on, .int .i64 n, .string d, .int .i64 cmd, es, cs, os]] w fun e w' => e = .returned (.bool true) ∧ Stepped col w Wd Bk ps m nr no ni np w' := by
  obtain ⟨pv, hwd, hpv⟩ := h.wd
  have hfew := h.few
  obtain ⟨ap, cp, rfl⟩ := ownsRow_slice hpv.1
  obtain ⟨gp, kp, hfp, _, hglt⟩ := hpv.1.form h1
  obtain ⟨rfl, rfl⟩ : ap = some ⟨gp, 0, none⟩ ∧ cp = kp := by simpa using hfp
  clear hfp
  obtain ⟨i, hid⟩ : ∃ i, i = pickN on ps.length := ⟨_, rfl⟩
  have hi : i < ps.length := by rw [hid]; exact pickN_lt on h1
  have hpick := pick_any on ps.length h1 hfew hon
  rw [← hid] at hpick
  obtain ⟨q0, q1⟩ := prCells_at ps i hi
  have g0 := owned_cells hpv.1 _ _ q0
  have g1 := owned_cells hpv.1 _ _ q1
  rw [Addr.add_lit, Nat.zero_add] at g0 g1
  obtain ⟨WO, hWO⟩ : ∃ W, W = w.alloc (.cells #[.int .i64 4, .int .i64 on, .int .i64 n, .string d, .int .i64 cmd, es, cs, os] 93) := ⟨_, rfl⟩
  have bO : Blk WO w.heap.size #[.int .i64 4, .int .i64 on, .int .i64 n, .string d, .int .i64 cmd, es, cs, os] 93 := by rw [hWO]; exact Blk.new w _ _
  have hbo : Below w.heap.size w WO := by rw [hWO]; exact below_new _ _
  have hszO : WO.heap.size = w.heap.size + 1 := by rw [hWO]; simp
  have c1 := (hbo.cell (p := ⟨Wd, 1, none⟩) hwd.1.lt).trans ((hwd.1.cell 1).trans rfl)
  have e0 := (hbo.cell (p := ⟨gp, i * 2, none⟩) hglt).trans g0
  have e1 := (hbo.cell (p := ⟨gp, i * 2 + 1, none⟩) hglt).trans g1
  have o1 := (bO.cell 1).trans (show _ = some (.int .i64 on) from rfl)
  have o0 := (bO.cell 0).trans (show _ = some (.int .i64 4) from rfl)
  have HBO := hide hbo
  have HSZ := hide hszO
  have HO := hide bO
  have l1 : Wd < WO.heap.size := by have := hwd.1.lt; omega
  have l2 : gp < WO.heap.size := by omega
  have l3 : w.heap.size < WO.heap.size := by omega
  obtain ⟨⟨R, Q, costs, L⟩, hP⟩ : ∃ P, ps[i] = P := ⟨_, rfl⟩
  have hprc := h.each i hi
  rw [hP] at e0 e1 hprc
  dsimp only at e0 e1 hprc
  have HPI := hide (show ∃ h : i < ps.length, ps[i] = ⟨R, Q, costs, L⟩ from ⟨hi, hP⟩)
  have HPR := hide hprc
  have HLAW := hide h
  have j0 : (0 : Int) ≤ (i : Int) := by omega
  obtain ⟨pl, hpl⟩ : ∃ pl, ps.length = pl := ⟨_, rfl⟩
  have j1 : (i : Int) < (pl : Int) := by omega
  rw [hpl] at c1 hpick
  have hfol := prog_follows
  clear hwd hpv hid q0 q1 g0 g1 hbo bO hglt hi hP hprc hpl h1 hfew h hszO
  have HC := hide hC
  clear hC
  go_enter Tryz.func30, Tryz.ntmps30
  go_wp2_with fail
  rw [← hWO]
  clear hWO
  go_region_held3 (fun w' => w'.cell? ⟨Wd, 1, none⟩ = some (.slice (some ⟨gp, 0, none⟩) pl cp) ∧ w'.cell? ⟨gp, i * 2, none⟩ = some (.pointer (some ⟨R, 0, none⟩)) ∧ w'.cell? ⟨gp, i * 2 + 1, none⟩ = some (.pointer (some ⟨Q, 0, none⟩)) ∧ w'.cell? ⟨w.heap.size, 1, none⟩ = some (.int .i64 on))
    (first | go_keep | (trace_state; fail))
    (first | (go_at_call 66; refine (hpick _).mono ?_; rintro e wv ⟨rfl, rfl⟩))
  all_goals
    obtain ⟨WP, hWP⟩ : ∃ W, W = (WO.alloc (.cells #[.pointer (some ⟨R, 0, none⟩), .pointer (some ⟨Q, 0, none⟩)] 97)).drew := ⟨_, rfl⟩
    have hgw : Below WO.heap.size WO WP := by rw [hWP]; exact (((Grows.refl WO).alloc _).drew).below
    have hbW : Below w.heap.size w WP := below_seq (unhide HBO) hgw
    have bO := (unhide HO).below hgw (unhide HO).lt
    have bP : Blk WP WO.heap.size #[.pointer (some ⟨R, 0, none⟩), .pointer (some ⟨Q, 0, none⟩)] 97 := by rw [hWP]; exact Blk.new WO _ _
    obtain ⟨X, hX⟩ : ∃ X, X = w.heap.size := ⟨_, rfl⟩
    obtain ⟨Y, hY⟩ : ∃ Y, Y = WO.heap.size := ⟨_, rfl⟩
    have hXY : w.heap.size ≤ X ∧ w.heap.size ≤ Y := by have := unhide HSZ; omega
    rw [← hWP, ← hX, ← hY]
    rw [← hX] at bO
    rw [← hY] at bP
    have HBW := hide hbW
    have HXY := hide hXY
    clear hWP hgw hbW hX hY hXY c1 e0 e1 o1 o0 l1 l2 l3 HBO HSZ HO j0 j1 hpick
    have y0 := (bO.cell 0).trans (show _ = some (.int .i64 4) from rfl)
    have x0 := (bP.cell 0).trans (show _ = some (.pointer (some ⟨R, 0, none⟩)) from rfl)
    have x1 := (bP.cell 1).trans (show _ = some (.pointer (some ⟨Q, 0, none⟩)) from rfl)
    have y1 := (bO.cell 1).trans (show _ = some (.int .i64 on) from rfl)
    have y2 := (bO.cell 2).trans (show _ = some (.int .i64 n) from rfl)
    have y3 := (bO.cell 3).trans (show _ = some (.string d) from rfl)
    have y4 := (bO.cell 4).trans (show _ = some (.int .i64 cmd) from rfl)
    have y5 := (bO.cell 5).trans (show _ = some es from rfl)
    have y6 := (bO.cell 6).trans (show _ = some cs from rfl)
    have y7 := (bO.cell 7).trans (show _ = some os from rfl)
    have hq := unhide HC i R Q costs L WP (unhide HPI) (unhide HPR) (unhide HBW)
    clear bO bP
    go_wp2_with (go_at_call 67; refine hq.mono ?_; rintro e w9 ⟨rfl, h9⟩; have H9 := hide h9; clear h9 hq)
    go_ret
    have ht : Turns (fun _ => False) col (paint col w.heap.size 0) w WP := Turns.below 0 (unhide HBW)
    obtain ⟨hi, hP⟩ := unhide HPI
    refine ⟨rfl, (((unhide HLAW).turn ht (fun _ => id)).changed hi ?_).from ht⟩
    rw [hP]
    exact unhide H9

set_option maxRecDepth 100000 in
set_option maxHeartbeats 4000000 in
theorem stepLook {Wd Bk : Nat} {ps : List Pr} {on n : Int} {d : ByteArray} {cmd : Int} {es cs os : Value} {m : Int} {nr no ni np : Nat} {col : Col} {w : World} (h : LawC col w Wd Bk ps m nr no ni np) (h1 : 0 < ps.length) (hon : -9223372036854775808 ≤ on ∧ on < 9223372036854775808) (hm0 : 0 ≤ m) (hm1 : m ≤ 100000000000000000) (hit : ((nr + 8) + (nr + 8) / 4 + 192) * 24 ≤ 281474976710656) :
    Calls Tryz.prog 30 #[.pointer (some ⟨Wd, 0, none⟩), .agg #[.int .i64 5, .int .i64 on, .int .i64 n, .string d, .int .i64 cmd, es, cs, os]] w fun e w' => e = .returned (.bool true) ∧ Stepped col w Wd Bk ps m nr no ni np w' := by
  obtain ⟨pv, hwd, hpv⟩ := h.wd
  have hfew := h.few
  obtain ⟨ap, cp, rfl⟩ := ownsRow_slice hpv.1
  obtain ⟨gp, kp, hfp, _, hglt⟩ := hpv.1.form h1
  obtain ⟨rfl, rfl⟩ : ap = some ⟨gp, 0, none⟩ ∧ cp = kp := by simpa using hfp
  clear hfp
  obtain ⟨i, hid⟩ : ∃ i, i = pickN on ps.length := ⟨_, rfl⟩
  have hi : i < ps.length := by rw [hid]; exact pickN_lt on h1
  have hpick := pick_any on ps.length h1 hfew hon
  rw [← hid] at hpick
  obtain ⟨q0, q1⟩ := prCells_at ps i hi
  have g0 := owned_cells hpv.1 _ _ q0
  have g1 := owned_cells hpv.1 _ _ q1
  rw [Addr.add_lit, Nat.zero_add] at g0 g1
  obtain ⟨WO, hWO⟩ : ∃ W, W = w.alloc (.cells #[.int .i64 5, .int .i64 on, .int .i64 n, .string d, .int .i64 cmd, es, cs, os] 93) := ⟨_, rfl⟩
  have bO : Blk WO w.heap.size #[.int .i64 5, .int .i64 on, .int .i64 n, .string d, .int .i64 cmd, es, cs, os] 93 := by rw [hWO]; exact Blk.new w _ _
  have hbo : Below w.heap.size w WO := by rw [hWO]; exact below_new _ _
  have hszO : WO.heap.size = w.heap.size + 1 := by rw [hWO]; simp
  have c1 := (hbo.cell (p := ⟨Wd, 1, none⟩) hwd.1.lt).trans ((hwd.1.cell 1).trans rfl)
  have e0 := (hbo.cell (p := ⟨gp, i * 2, none⟩) hglt).trans g0
  have e1 := (hbo.cell (p := ⟨gp, i * 2 + 1, none⟩) hglt).trans g1
  have o1 := (bO.cell 1).trans (show _ = some (.int .i64 on) from rfl)
  have o0 := (bO.cell 0).trans (show _ = some (.int .i64 5) from rfl)
  have HBO := hide hbo
  have HSZ := hide hszO
  have HO := hide bO
  have l1 : Wd < WO.heap.size := by have := hwd.1.lt; omega
  have l2 : gp < WO.heap.size := by omega
  have l3 : w.heap.size < WO.heap.size := by omega
  obtain ⟨⟨R, Q, costs, L⟩, hP⟩ : ∃ P, ps[i] = P := ⟨_, rfl⟩
  have hprc := h.each i hi
  rw [hP] at e0 e1 hprc
  dsimp only at e0 e1 hprc
  have HPI := hide (show ∃ h : i < ps.length, ps[i] = ⟨R, Q, costs, L⟩ from ⟨hi, hP⟩)
  have HPR := hide hprc
  have HLAW := hide h
  have j0 : (0 : Int) ≤ (i : Int) := by omega
  obtain ⟨pl, hpl⟩ : ∃ pl, ps.length = pl := ⟨_, rfl⟩
  have j1 : (i : Int) < (pl : Int) := by omega
  rw [hpl] at c1 hpick
  have hfol := prog_follows
  clear hwd hpv hid q0 q1 g0 g1 hbo bO hglt hi hP hprc hpl h1 hfew h hszO
  go_enter Tryz.func30, Tryz.ntmps30
  go_wp2_with fail
  rw [← hWO]
  clear hWO
  go_region_held3 (fun w' => w'.cell? ⟨Wd, 1, none⟩ = some (.slice (some ⟨gp, 0, none⟩) pl cp) ∧ w'.cell? ⟨gp, i * 2, none⟩ = some (.pointer (some ⟨R, 0, none⟩)) ∧ w'.cell? ⟨gp, i * 2 + 1, none⟩ = some (.pointer (some ⟨Q, 0, none⟩)) ∧ w'.cell? ⟨w.heap.size, 1, none⟩ = some (.int .i64 on))
    (first | go_keep | (trace_state; fail))
    (first | (go_at_call 66; refine (hpick _).mono ?_; rintro e wv ⟨rfl, rfl⟩))
  all_goals
    obtain ⟨WP, hWP⟩ : ∃ W, W = (WO.alloc (.cells #[.pointer (some ⟨R, 0, none⟩), .pointer (some ⟨Q, 0, none⟩)] 97)).drew := ⟨_, rfl⟩
    have hgw : Below WO.heap.size WO WP := by rw [hWP]; exact (((Grows.refl WO).alloc _).drew).below
    have hbW : Below w.heap.size w WP := below_seq (unhide HBO) hgw
    have bO := (unhide HO).below hgw (unhide HO).lt
    have bP : Blk WP WO.heap.size #[.pointer (some ⟨R, 0, none⟩), .pointer (some ⟨Q, 0, none⟩)] 97 := by rw [hWP]; exact Blk.new WO _ _
    obtain ⟨X, hX⟩ : ∃ X, X = w.heap.size := ⟨_, rfl⟩
    obtain ⟨Y, hY⟩ : ∃ Y, Y = WO.heap.size := ⟨_, rfl⟩
    have hXY : w.heap.size ≤ X ∧ w.heap.size ≤ Y := by have := unhide HSZ; omega
    rw [← hWP, ← hX, ← hY]
    rw [← hX] at bO
    rw [← hY] at bP
    have HBW := hide hbW
    have HXY := hide hXY
    clear hWP hgw hbW hX hY hXY c1 e0 e1 o1 o0 l1 l2 l3 HBO HSZ HO j0 j1 hpick
    have y0 := (bO.cell 0).trans (show _ = some (.int .i64 5) from rfl)
    have x0 := (bP.cell 0).trans (show _ = some (.pointer (some ⟨R, 0, none⟩)) from rfl)
    have x1 := (bP.cell 1).trans (show _ = some (.pointer (some ⟨Q, 0, none⟩)) from rfl)
    have y2 := (bO.cell 2).trans (show _ = some (.int .i64 n) from rfl)
    have hbW := unhide HBW
    have ht : Turns (fun _ => False) col (paint col w.heap.size 0) w WP.drew := Turns.below 0 hbW.drew
    have hlaw := (unhide HLAW).turn ht (fun _ => id)
    have hpr := (unhide HPR).turn ht id id
    have hxy := unhide HXY
    have bPc : BlkC (paint col w.heap.size 0) 0 WP.drew Y _ _ := ⟨bP, paint_new hxy.2⟩
    have bOc : BlkC (paint col w.heap.size 0) 0 WP.drew X _ _ := ⟨bO, paint_new hxy.1⟩
    generalize paint col w.heap.size 0 = col0 at *
    obtain ⟨V, cv, rv, cv', lv, hrt, hrf, htab, hcost⟩ := hpr
    obtain ⟨pv', hwd', _⟩ := hlaw.wd
    obtain ⟨hi, hP⟩ := unhide HPI
    have hi4 : i ≤ 4 := by have := hlaw.few; omega
    have hVP := view_any R V rv cv 0 0 WP.drew hrt.blk.1 hrt.view.1
    have hVQ := viewQ 4 hrf htab
    have HV := hide (fun (wv : World) (h : Below WP.drew.heap.size WP.drew wv) => view_any R V rv cv 0 0 wv (hrt.blk.1.below h hrt.blk.1.lt) (hrt.view.1.below h hrt.view.1.lt))
    have HLK := hide (fun (wv : World) (v : Value) (colv : Col) (ho : OwnC colv 4 wv 52 5 v L.length (routeList L)) (htv : Turns (fun _ => False) col0 colv WP.drew wv) => lookLaw_any n (c := 10 + 2 * i) (d := 4) (⟨hwd'.turn htv id, hrt.view.turn htv id, hrt.rows.turn htv id, ho⟩ : LookS Wd Bk V (10 + 2 * i) 4 pv' nl rv v L colv wv) (hlaw.bk.turn htv id (fun _ _ => id)) htab (by omega) (by omega) hm0 hm1 hit)
    have HLAW2 := hide hlaw
    have HT := hide ht
    have HBP := hide bPc
    have HBO := hide bOc
    have d0 : WP.drew.cell? ⟨Y, 0, none⟩ = some (.pointer (some ⟨R, 0, none⟩)) := x0
    have d1 : WP.drew.cell? ⟨Y, 1, none⟩ = some (.pointer (some ⟨Q, 0, none⟩)) := x1
    have d2 : WP.drew.cell? ⟨X, 2, none⟩ = some (.int .i64 n) := y2
    clear hbW ht hlaw hxy bPc bOc hrt hrf htab hcost hwd' hi hP hi4 bO bP
    go_wp2_with fail
    go_region_held3 (fun w' => w'.cell? ⟨Y, 0, none⟩ = some (.pointer (some ⟨R, 0, none⟩)) ∧ w'.cell? ⟨Y, 1, none⟩ = some (.pointer (some ⟨Q, 0, none⟩)) ∧ w'.cell? ⟨X, 2, none⟩ = some (.int .i64 n))
      (first | exact ⟨d0, d1, d2⟩ | exact ⟨q0, q1, q2⟩ | exact ⟨z0, z1, z2⟩)
      (first | (go_at_call 17; refine hVP.mono ?_; rintro e wz ⟨rfl, rfl⟩) | (go_at_call 33; refine hVQ.mono ?_; rintro e wv ⟨v, rfl, ho, htv⟩; have bp := ((unhide HBP).turn htv id); have bo := ((unhide HBO).turn htv id); have q0 := (bp.1.cell 0).trans (show _ = some (.pointer (some ⟨R, 0, none⟩)) from rfl); have q1 := (bp.1.cell 1).trans (show _ = some (.pointer (some ⟨Q, 0, none⟩)) from rfl); have q2 := (bo.1.cell 2).trans (show _ = some (.int .i64 n) from rfl); have hLK := unhide HLK wv v _ ho htv; have hVP2 := unhide HV wv ⟨htv.os, htv.tape, htv.output, htv.size, fun k hk => htv.keep k hk id⟩; have HTV := hide htv; have HBP2 := hide bp; have HBO2 := hide bo; generalize paint col0 WP.drew.heap.size 4 = colv at *; clear ho htv bp bo) | (go_at_call 17; refine hVP2.mono ?_; rintro e wz ⟨rfl, rfl⟩) | (go_at_call 32; refine hLK.mono ?_; rintro e w9 ⟨rfl, h9⟩; obtain ⟨col9, hb9, ht9⟩ := h9; have bp := ((unhide HBP2).turn ht9 (by omega)); have bo := ((unhide HBO2).turn ht9 (by omega)); have z0 := (bp.1.cell 0).trans (show _ = some (.pointer (some ⟨R, 0, none⟩)) from rfl); have z1 := (bp.1.cell 1).trans (show _ = some (.pointer (some ⟨Q, 0, none⟩)) from rfl); have z2 := (bo.1.cell 2).trans (show _ = some (.int .i64 n) from rfl); have H9 := hide (show Looked colv wv Bk m nr no ni np w9 from ⟨col9, hb9, ht9⟩); clear hb9 ht9 bp bo hLK))
    all_goals
      go_wp2_with fail
      go_ret
      have htv := unhide HTV
      exact ⟨rfl, ((((unhide HLAW2).turn htv (fun _ => id)).looked (unhide H9)).from htv).from (unhide HT)⟩

end Go.Proofs.YtdnpeefnobjfaaaGreatDoor
