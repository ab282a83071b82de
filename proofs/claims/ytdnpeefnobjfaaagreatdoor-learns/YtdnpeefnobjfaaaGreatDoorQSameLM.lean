/- milepostlaw.sameRoutes, sameOuts, agree: they say yes where both are the same. -/
import Derived.Test.YtdnpeefnobjfaaaGreatDoorQHasM
import Derived.Test.YtdnpeefnobjfaaaGreatDoorQListsM
import Derived.Test.YtdnpeefnobjfaaaGreatDoorQKeepOM
import Derived.Test.YtdnpeefnobjfaaaGreatDoorTCloneM
namespace Go.Proofs.YtdnpeefnobjfaaaGreatDoor
open Go.RowKit Go.Shelf
attribute [local go_sem ↓] Go.wp_at_zero Go.wp_at_succ

theorem neqRoute_same (r : Rw) (w : World) : (binOp .neq 52 (.agg #[.int .u32 r.addr, .int .i64 r.len, .int .i64 r.tag, .int .i64 r.met, .int .i64 r.frm]) (.agg #[.int .u32 r.addr, .int .i64 r.len, .int .i64 r.tag, .int .i64 r.met, .int .i64 r.frm])).run Tryz.prog w = .ok (.bool false) w := by
  have h := neqRoute_run r r w
  have e : sameRoute r r = true := by simp [sameRoute]
  rw [e] at h
  exact h
set_option maxRecDepth 100000 in
set_option maxHeartbeats 1000000 in
theorem neqOut_same (m : Int) (s : ByteArray) (w : World) : (binOp .neq 64 (.agg #[.int .i64 m, .string s]) (.agg #[.int .i64 m, .string s])).run Tryz.prog w = .ok (.bool false) w := by
  have u3 := Tryz.underlying3
  have a3 := Tryz.isAgg3
  have z3 := Tryz.sizeOf3
  have u4 := Tryz.underlying9
  have a4 := Tryz.isAgg9
  have z4 := Tryz.sizeOf9
  rw [run_neq_struct, show (10000 : Nat) = 9998 + 1 + 1 from rfl, run_equalIn_agg w (9998 + 1) 64 _ _ (by kernel_rfl) (by kernel_rfl)]
  simp only [Program.fieldsOf, Tryz.underlying64]
  go_simp

set_option maxRecDepth 100000 in
set_option maxHeartbeats 1000000 in
theorem sameRoutes_any (a1 a2 : Option Addr) (c1 c2 : Nat) (L : List Rw) (w : World) (hn : L.length ≤ 1000000) (h1 : w.ownsRow 0 52 5 (.slice a1 L.length c1) L.length (routeList L)) (h2 : w.ownsRow 0 52 5 (.slice a2 L.length c2) L.length (routeList L)) :
    Calls Tryz.prog 72 #[.slice a1 L.length c1, .slice a2 L.length c2] w fun e w' => e = .returned (.bool true) ∧ Below w.heap.size w w' := by
  have H1 := hide h1
  have H2 := hide h2
  clear h1 h2
  generalize hnl : L.length = n at *
  have HL := hide hnl
  clear hnl
  go_enter Tryz.func72, Tryz.ntmps72
  go_wp2
  go_loopw [5] (fun i wr => ∃ (k d : Nat), k ≤ n ∧ i = .int .i64 k ∧ wr = w.drewN d) (fun i _ => n - (intOf i).toNat)
  case atStart => exact ⟨0, 0, by omega, rfl, rfl⟩
  case round =>
    obtain ⟨k, d, hk, rfl, rfl⟩ := hrel
    by_cases hlt : k < n
    · have hkL : k < L.length := by rw [unhide HL]; exact hlt
      obtain ⟨g1, cp1, hv1, _⟩ := (unhide H1).form (by omega)
      obtain ⟨g2, cp2, hv2, _⟩ := (unhide H2).form (by omega)
      obtain ⟨rfl, rfl⟩ : a1 = some ⟨g1, 0, none⟩ ∧ c1 = cp1 := by simpa using hv1
      obtain ⟨rfl, rfl⟩ : a2 = some ⟨g2, 0, none⟩ ∧ c2 = cp2 := by simpa using hv2
      obtain ⟨d0, d1, d2, d3, d4⟩ := route_cells (unhide H1) k hkL
      obtain ⟨y0, y1, y2, y3, y4⟩ := route_cells (unhide H2) k hkL
      have j0 : (0 : Int) ≤ (k : Int) := by omega
      have j1 : (k : Int) < (n : Int) := by omega
      generalize L[k] = E at *
      have hEq := neqRoute_same E
      clear hv1 hv2
      go_wp2_with fail
      go_quiet (fail)
      go_wp2
      go_roundw
      case rel => exact ⟨k + 1, d + _, by omega, by go_num, rfl⟩
      case measure => simp [intOf]; omega
    · have hkn : k = n := by omega
      subst hkn
      go_wp2
      go_ret
      exact ⟨rfl, below_drewN (Below.refl _ _) _⟩

/-- Packets with whom they go to. -/
def outL (O : List (Int × ByteArray)) : List Value := O.flatMap fun p => [.int .i64 p.1, .string p.2]
theorem outL_length (O : List (Int × ByteArray)) : (outL O).length = O.length * 2 := by
  induction O with
  | nil => rfl
  | cons p O ih => simp [outL] at ih ⊢; omega
theorem outL_at (O : List (Int × ByteArray)) (k : Nat) (hk : k < O.length) : (outL O)[k * 2]? = some (.int .i64 O[k].1) ∧ (outL O)[k * 2 + 1]? = some (.string O[k].2) := by
  induction O generalizing k with
  | nil => simp at hk
  | cons p O ih =>
    cases k with
    | zero => simp [outL]
    | succ k =>
      have := ih k (by simpa using hk)
      have e : ∀ j, (outL (p :: O))[(k + 1) * 2 + j]? = (outL O)[k * 2 + j]? := fun j => by
        rw [show outL (p :: O) = [.int .i64 p.1, .string p.2] ++ outL O by simp [outL], List.getElem?_append_right (by simp; omega)]
        congr 1
        simp
        omega
      have e0 := e 0
      simp only [Nat.add_zero] at e0
      rw [e0, e 1]
      simpa using this
theorem outsTo_outL (tq : Int) (l : List Ent) (k : Nat) : outsTo tq l k = outL ((List.range k).map fun j => (tq, strB (encBytes 2 (partOf l j)))) := by
  simp [outsTo, outL, pktOf, List.flatMap_map]
theorem out_cells {w : World} {base g n cap : Nat} {O : List (Int × ByteArray)} (h : w.ownsRow base 64 2 (.slice (some ⟨g, 0, none⟩) n cap) n (outL O)) (k : Nat) (hk : k < O.length) :
    w.cell? ⟨g, k * 2, none⟩ = some (.int .i64 O[k].1) ∧ w.cell? ⟨g, k * 2 + 1, none⟩ = some (.string O[k].2) := by
  obtain ⟨q1, q2⟩ := outL_at O k hk
  have h1 := owned_cells h _ _ q1
  have h2 := owned_cells h _ _ q2
  rw [Addr.add_lit, Nat.zero_add] at h1 h2
  exact ⟨h1, h2⟩

set_option maxRecDepth 100000 in
set_option maxHeartbeats 1000000 in
theorem sameOuts_any (a1 a2 : Option Addr) (c1 c2 : Nat) (O : List (Int × ByteArray)) (w : World) (hn : O.length ≤ 1000000) (h1 : w.ownsRow 0 64 2 (.slice a1 O.length c1) O.length (outL O)) (h2 : w.ownsRow 0 64 2 (.slice a2 O.length c2) O.length (outL O)) :
    Calls Tryz.prog 118 #[.slice a1 O.length c1, .slice a2 O.length c2] w fun e w' => e = .returned (.bool true) ∧ Below w.heap.size w w' := by
  have H1 := hide h1
  have H2 := hide h2
  clear h1 h2
  generalize hnl : O.length = n at *
  have HL := hide hnl
  clear hnl
  go_enter Tryz.func118, Tryz.ntmps118
  go_wp2
  go_loopw [5] (fun i wr => ∃ (k d : Nat), k ≤ n ∧ i = .int .i64 k ∧ wr = w.drewN d) (fun i _ => n - (intOf i).toNat)
  case atStart => exact ⟨0, 0, by omega, rfl, rfl⟩
  case round =>
    obtain ⟨k, d, hk, rfl, rfl⟩ := hrel
    by_cases hlt : k < n
    · have hkL : k < O.length := by rw [unhide HL]; exact hlt
      obtain ⟨g1, cp1, hv1, _⟩ := (unhide H1).form (by omega)
      obtain ⟨g2, cp2, hv2, _⟩ := (unhide H2).form (by omega)
      obtain ⟨rfl, rfl⟩ : a1 = some ⟨g1, 0, none⟩ ∧ c1 = cp1 := by simpa using hv1
      obtain ⟨rfl, rfl⟩ : a2 = some ⟨g2, 0, none⟩ ∧ c2 = cp2 := by simpa using hv2
      obtain ⟨d0, d1⟩ := out_cells (unhide H1) k hkL
      obtain ⟨y0, y1⟩ := out_cells (unhide H2) k hkL
      have j0 : (0 : Int) ≤ (k : Int) := by omega
      have j1 : (k : Int) < (n : Int) := by omega
      generalize O[k] = E at *
      obtain ⟨Em, Es⟩ := E
      dsimp only at d0 d1 y0 y1
      have hEq := neqOut_same Em Es
      clear hv1 hv2
      go_wp2_with fail
      go_quiet (fail)
      go_wp2
      go_roundw
      case rel => exact ⟨k + 1, d + _, by omega, by go_num, rfl⟩
      case measure => simp [intOf]; omega
    · have hkn : k = n := by omega
      subst hkn
      go_wp2
      go_ret
      exact ⟨rfl, below_drewN (Below.refl _ _) _⟩

theorem assert_errno2 (x : Int) (W : World) : (Instr.typeAssert (.iface 102 (.int .i64 x)) 35 102 true).run Tryz.prog W = .ok (.tuple #[.int .i64 x, .bool true]) W := by kernel_rfl
set_option maxHeartbeats 400000 in
theorem agree_errno (w : World) (x : Int) (hx : x ≠ 0) :
    Calls Tryz.prog 64 #[.iface 102 (.int .i64 x), .agg #[.int .i64 x, .int .i64 0, .bool false]] w fun e w' => e = .returned (.bool true) ∧ Below w.heap.size w w' := by
  have t1 := assert_errno2 x
  have hx' : (x != 0) = true := by simpa using hx
  have hx2 : decide (x = 0) = false := by simpa using hx
  go_enter Tryz.func64, Tryz.ntmps64
  go_wp2_with fail
  go_quiet ((go_at_call 113; exact Calls.quiet_of_same (num_any _ _)))
  go_wp2
  go_ret
  exact ⟨rfl, below_drewN (below_new _ _) _⟩
set_option maxHeartbeats 400000 in
theorem plain_any (w : World) (x : Int) :
    Calls Tryz.prog 65 #[.int .i64 x] w fun e w' => e = .returned (.agg #[.int .i64 x, .int .i64 0, .bool false]) ∧ Below w.heap.size w w' := by
  go_enter Tryz.func65, Tryz.ntmps65
  go_wp2
  exact bodyPost_ret (v := .agg #[.int .i64 x, .int .i64 0, .bool false]) (by simp [results, Tryz.results65, go_sem]) rfl ⟨rfl, by first | exact below_new _ _ | exact ((((below_new _ _).setCell (by simp) _).setCell (by simp) _).setCell (by simp) _)⟩

end Go.Proofs.YtdnpeefnobjfaaaGreatDoor

/- milepostlaw's looks at a view: it says yes, and keeps what came out. -/
namespace Go.Proofs.YtdnpeefnobjfaaaGreatDoor
open Go.RowKit Go.Shelf
attribute [local go_sem ↓] Go.wp_at_zero Go.wp_at_succ

/-- The Book, by its counts. -/
def BookN (col : Col) (w : World) (Bk : Nat) (m : Int) (nr no ni np : Nat) : Prop := ∃ s le lr lo li lp, BookC kept col w Bk s le lr lo li lp ∧ s.m = m ∧ lr.length = nr ∧ lo.length = no ∧ li.length = ni ∧ lp.length = np
theorem BookN.turn {C : Nat → Prop} {col col' : Col} {w w' : World} {Bk : Nat} {m : Int} {nr no ni np : Nat} (h : BookN col w Bk m nr no ni np) (ht : Turns C col col' w w') (h1 : ¬ C 1) (h2 : ∀ x, 20 ≤ x → ¬ C x) : BookN col' w' Bk m nr no ni np := by
  obtain ⟨s, le, lr, lo, li, lp, hb, r⟩ := h
  exact ⟨s, le, lr, lo, li, lp, hb.turn ht h1 (fun x hx _ => h2 x hx) (fun x hx => h2 x (Nat.le_trans (by decide) hx)), r⟩
/-- What a look leans on. -/
structure LookS (Wd Bk V c d : Nat) (pv vv rv lv : Value) (L : List Rw) (col : Col) (w : World) : Prop where
  wd : BlkC col 2 w Wd #[.pointer (some ⟨Bk, 0, none⟩), pv, vv] 88
  view : BlkC col c w V #[rv] 122
  rows : OwnC col c w 137 7 rv L.length (rwList L)
  list : OwnC col d w 52 5 lv L.length (routeList L)
theorem LookS.turn {C : Nat → Prop} {Wd Bk V c d : Nat} {pv vv rv lv : Value} {L : List Rw} {col col' : Col} {w w' : World} (h : LookS Wd Bk V c d pv vv rv lv L col w) (ht : Turns C col col' w w') (h1 : ¬ C 2) (h2 : ¬ C c) (h3 : ¬ C d) : LookS Wd Bk V c d pv vv rv lv L col' w' :=
  ⟨h.wd.turn ht h1, h.view.turn ht h2, h.rows.turn ht h2, h.list.turn ht h3⟩
theorem eqRoute_same (r : Rw) (w : World) : (binOp .eql 52 (.agg #[.int .u32 r.addr, .int .i64 r.len, .int .i64 r.tag, .int .i64 r.met, .int .i64 r.frm]) (.agg #[.int .u32 r.addr, .int .i64 r.len, .int .i64 r.tag, .int .i64 r.met, .int .i64 r.frm])).run Tryz.prog w = .ok (.bool true) w := by
  have h := neqRoute_same r w
  rw [run_neq_struct] at h
  rw [run_eql_struct]
  revert h
  cases hq : (Op.equalIn 10000 52 (.agg #[.int .u32 r.addr, .int .i64 r.len, .int .i64 r.tag, .int .i64 r.met, .int .i64 r.frm]) (.agg #[.int .u32 r.addr, .int .i64 r.len, .int .i64 r.tag, .int .i64 r.met, .int .i64 r.frm])).run Tryz.prog w <;> simp
theorem wide_less {l : Nat} (h : ((l + 8) + (l + 8) / 4 + 192) * 24 ≤ 281474976710656) : ((l + 4) + (l + 4) / 4 + 192) * 24 ≤ 281474976710656 := by
  have hd : (l + 4) / 4 ≤ (l + 8) / 4 := Nat.div_le_div_right (by omega)
  exact Nat.le_trans (Nat.mul_le_mul_right 24 (Nat.add_le_add_right (Nat.add_le_add (by omega) hd) 192)) h
theorem wide_len {lr nw : List Itm} (h : ((lr.length + 8) + (lr.length + 8) / 4 + 192) * 24 ≤ 281474976710656) (hl : nw.length = 4) : (((lr ++ nw).length + 4) + ((lr ++ nw).length + 4) / 4 + 192) * 24 ≤ 281474976710656 := by
  rw [List.length_append, hl]
  exact h
theorem rows_len {L : List Rw} (h : TabOk L) : ∀ r ∈ L, 0 ≤ r.len ∧ r.len ≤ 32 := fun r hr => by
  have := (h.fine r hr).2.1
  simp only [pfxB, Bool.and_eq_true, decide_eq_true_eq] at this
  omega
/-- What a look leaves. -/
def Looked (col : Col) (w : World) (Bk : Nat) (m : Int) (nr no ni np : Nat) (w' : World) : Prop := ∃ col', BookN col' w' Bk (m + 2) (nr + 8) no ni np ∧ Turns (fun x => x = 1 ∨ x = 22 ∨ x = 23) col col' w w'

set_option maxRecDepth 100000 in
set_option maxHeartbeats 4000000 in
theorem lookLaw_some {Wd Bk V c d : Nat} {pv vv rv lv : Value} {L : List Rw} {col : Col} {w : World} {m : Int} {nr no ni np : Nat} (x : Int) (h : LookS Wd Bk V c d pv vv rv lv L col w) (hb : BookN col w Bk m nr no ni np) (hk : TabOk L) (hc : 2 ≤ c ∧ c < 20) (hd : 2 ≤ d ∧ d < 20) (hm0 : 0 ≤ m) (hm1 : m ≤ 100000000000000000) (hit : ((nr + 8) + (nr + 8) / 4 + 192) * 24 ≤ 281474976710656) (q : Rw) (hq : findR L (x % 4294967296) = some q) :
    Calls Tryz.prog 32 #[.pointer (some ⟨Wd, 0, none⟩), .pointer (some ⟨V, 0, none⟩), lv, .int .i64 x] w fun e w' => e = .returned (.bool true) ∧ Looked col w Bk m nr no ni np w' := by
  obtain ⟨s, le, lr, lo, li, lp, hbk, rfl, rfl, rfl, rfl, rfl⟩ := hb
  obtain ⟨ar, cr, rfl⟩ := ownsRow_slice h.rows.1
  obtain ⟨al, cl, rfl⟩ := ownsRow_slice h.list.1
  obtain ⟨N, hN, hfr⟩ := fresh_colour col w.heap.size
  have hn : L.length ≤ 60 := hk.len
  have HS := hide h
  have HB := hide (hbk.mono (J := keptBut N) (fun k hk hx => ⟨hx, hfr k hk⟩))
  have hR1 := routes_any V ar cr L w (by omega) h.view.1 (rwSlice_own h.rows.1)
  have HFR := hide hfr
  have HK := hide hk
  have HQ := hide hq
  have HIT := hide hit
  clear h hbk hfr hk hq hit
  go_enter Tryz.func32, Tryz.ntmps32
  go_wp2_with (first | (go_at_call 19; refine hR1.mono ?_; rintro e w1 ⟨v1, rfl, ho1, hb1⟩; obtain ⟨a1, c1, rfl⟩ := ownsRow_slice ho1; have T1 : Turns (fun _ => False) col (paint col w.heap.size N) w w1 := Turns.below N hb1; have S1 := (unhide HS).turn T1 id id id; have B1 := (unhide HB).turn T1 id (fun _ _ _ => id) (fun _ _ => id); have O1 : OwnC (paint col w.heap.size N) N w1 52 5 _ _ _ := OwnC.new ho1; generalize paint col w.heap.size N = col1 at *; have hR2 := routes_any V ar cr L w1 (by omega) S1.view.1 (rwSlice_own S1.rows.1); have HT1 := hide T1; have HS1 := hide S1; have HB1 := hide B1; have HO1 := hide O1; clear hR1 ho1 hb1 T1 S1 B1 O1 HS HB) | (go_at_call 19; refine hR2.mono ?_; rintro e w2 ⟨v2, rfl, ho2, hb2⟩; obtain ⟨a2, c2, rfl⟩ := ownsRow_slice ho2; have T2 : Turns (fun _ => False) col1 (paint col1 w1.heap.size (N + 1)) w1 w2 := Turns.below (N + 1) hb2; have S2 := (unhide HS1).turn T2 id id id; have B2 := (unhide HB1).turn T2 id (fun _ _ _ => id) (fun _ _ => id); have O1 := (unhide HO1).turn T2 id; have O2 : OwnC (paint col1 w1.heap.size (N + 1)) (N + 1) w2 52 5 _ _ _ := OwnC.new ho2; generalize paint col1 w1.heap.size (N + 1) = col2 at *; have hq1 := sameRoutes_any a1 al c1 cl L w2 (by omega) O1.1 S2.list.1; have HT2 := hide ((unhide HT1).trans T2); have HS2 := hide S2; have HB2 := hide B2; have HO1 := hide O1; have HO2 := hide O2; clear hR2 ho2 hb2 T2 S2 B2 O1 O2 HS1 HB1 HT1) | (go_at_call 72; refine hq1.mono ?_; rintro e w3 ⟨rfl, hb3⟩; have T3 : Turns (fun _ => False) col2 (paint col2 w2.heap.size 0) w2 w3 := Turns.below 0 hb3; have hq2 := sameRoutes_any a2 al c2 cl L w3 (by omega) ((unhide HO2).turn T3 id).1 ((unhide HS2).turn T3 id id id).list.1; have HT3 := hide T3; generalize paint col2 w2.heap.size 0 = col3 at *; clear hq1 hb3 T3) | (go_at_call 72; refine hq2.mono ?_; rintro e w4 ⟨rfl, hb4⟩; have T4 := (unhide HT3).trans (Turns.below 0 hb4 : Turns (fun _ => False) col3 (paint col3 w3.heap.size 0) w3 w4); have S4 := (unhide HS2).turn T4 id id id; have B4 := (unhide HB2).turn T4 id (fun _ _ _ => id) (fun _ _ => id); have O1 := (unhide HO1).turn T4 id; have O2 := (unhide HO2).turn T4 id; have HT4 := hide ((unhide HT2).trans T4); generalize paint col3 w3.heap.size 0 = col4 at *; have hk1 := keepRoutes_any B4 O1 hN (by omega) hm0 (by omega) (wide_less (unhide HIT)); have z4 := (S4.wd.1.cell 0).trans (show _ = some (.pointer (some ⟨Bk, 0, none⟩)) from rfl); have HS4 := hide S4; have HO2 := hide O2; clear hq2 hb4 T4 S4 B4 O1 O2 HT3 HS2 HB2 HO1) | (go_at_call 73; refine hk1.mono ?_; rintro e w5 ⟨rfl, ⟨vR, vM, nw, col5, B5, hl5, T5⟩⟩; have S5 := (unhide HS4).turn T5 (by omega) (by omega) (by omega); have O2 := (unhide HO2).turn T5 (by omega); have HT5 := hide (((unhide HT4).mono (D := fun x => x = 1 ∨ x = 22 ∨ x = 23 ∨ x = N ∨ x = N + 1) (fun _ h => h.elim)).trans (T5.mono (fun x hx => by omega))); have hk2 := keepRoutes_any B5 O2 (by omega) (by omega) (by show 0 ≤ s.m + 1; omega) (by show s.m + 1 ≤ _; omega) (wide_len (unhide HIT) hl5); have z5 := (S5.wd.1.cell 0).trans (show _ = some (.pointer (some ⟨Bk, 0, none⟩)) from rfl); have HS5 := hide S5; clear hk1 S5 O2 T5 B5 HT4 HS4 HO2 z4) | (go_at_call 73; refine hk2.mono ?_; rintro e w6 ⟨rfl, ⟨vR2, vM2, nw2, col6, B6, hl6, T6⟩⟩; have S6 := (unhide HS5).turn T6 (by omega) (by omega) (by omega); have HT6 := hide ((unhide HT5).trans (T6.mono (fun x hx => by omega))); have HL1 := lookup_any V ar L.length cr L (x % 4294967296) w6 S6.view.1 rfl (by omega) (fun r hr => rows_len (unhide HK) r hr) (by omega) (by omega) (rwSlice_own S6.rows.1); rw [unhide HQ] at HL1; simp only [lookOut, routeVals] at HL1; have HS6 := hide S6; have HB6 := hide B6; have HL5 := hide hl5; have HL6 := hide hl6; clear hk2 S6 T6 B6 HT5 HS5 z5 hl5 hl6) | (go_at_call 18; refine HL1.mono ?_; rintro e w7 ⟨rfl, hb7⟩; have S7 := (unhide HS6).turn (Turns.below 0 hb7 : Turns (fun _ => False) col6 (paint col6 w6.heap.size 0) w6 w7) id id id; have hL2 := (fun o => lookRef_any 0 al L.length cl L (x % 4294967296) (w7.alloc o) (S7.list.1.alloc o) rfl (by omega) (unhide HK).sorted (unhide HK).fine); rw [unhide HQ] at hL2; simp only [findOut, routeVals] at hL2; have HB7 := hide hb7; clear HL1 hb7 S7) | (go_at_call 74; refine (hL2 _).mono ?_; rintro e w8 ⟨rfl, hb8⟩; have bx8 := (Blk.new w7 #[.int .u32 q.addr, .int .i64 q.len, .int .i64 q.tag, .int .i64 q.met, .int .i64 q.frm] 52).below hb8 (by simp); have HB8 := hide (below_seq (unhide HB7) (below_seq (below_new w7 _) hb8)); clear hL2 hb8 HB7) | (go_at_call 65; refine (plain_any _ _).mono ?_; rintro e w9 ⟨rfl, hb9⟩; have bx9 := (bx8.alloc (.cells #[.int .u32 q.addr, .int .i64 q.len, .int .i64 q.tag, .int .i64 q.met, .int .i64 q.frm] 52)).below hb9 (bx8.alloc _).lt; have by9 := (Blk.new w8 #[.int .u32 q.addr, .int .i64 q.len, .int .i64 q.tag, .int .i64 q.met, .int .i64 q.frm] 52).below hb9 (by simp); have HB9 := hide (below_seq (unhide HB8) (below_seq (below_new w8 _) hb9)); clear bx8 hb9 HB8) | (go_at_call 64; refine (agree_none _).mono ?_; rintro e w10 ⟨rfl, hb10⟩; have bx10 := (bx9.alloc (.cells #[.int .i64 0, .int .i64 0, .bool false] 150)).below hb10 (bx9.alloc _).lt; have by10 := (by9.alloc (.cells #[.int .i64 0, .int .i64 0, .bool false] 150)).below hb10 (by9.alloc _).lt; have HB10 := hide (below_seq (unhide HB9) (below_seq (below_new w9 _) hb10)); have x0 := (bx10.cell 0).trans (show _ = some (.int .u32 q.addr) from rfl); have x1 := (bx10.cell 1).trans (show _ = some (.int .i64 q.len) from rfl); have x2 := (bx10.cell 2).trans (show _ = some (.int .i64 q.tag) from rfl); have x3 := (bx10.cell 3).trans (show _ = some (.int .i64 q.met) from rfl); have x4 := (bx10.cell 4).trans (show _ = some (.int .i64 q.frm) from rfl); have y0 := (by10.cell 0).trans (show _ = some (.int .u32 q.addr) from rfl); have y1 := (by10.cell 1).trans (show _ = some (.int .i64 q.len) from rfl); have y2 := (by10.cell 2).trans (show _ = some (.int .i64 q.tag) from rfl); have y3 := (by10.cell 3).trans (show _ = some (.int .i64 q.met) from rfl); have y4 := (by10.cell 4).trans (show _ = some (.int .i64 q.frm) from rfl); have hEq := eqRoute_same q; clear bx9 by9 hb10 HB9 bx10 by10))
  go_ret
  refine ⟨rfl, _, ⟨_, le, lr ++ nw ++ nw2, lo, li, lp, ((unhide HB6).turn (Turns.below 0 (unhide HB10) : Turns (fun _ => False) col6 (paint col6 w6.heap.size 0) w6 w10) id (fun _ _ _ => id) (fun _ _ => id)).mono (fun k _ hk => hk.1), ?_, ?_, rfl, rfl, rfl⟩, ?_⟩
  · show s.m + 1 + 1 = s.m + 2
    omega
  · rw [List.length_append, List.length_append, unhide HL5, unhide HL6]
  · refine (((unhide HT6).trans ((Turns.below 0 (unhide HB10) : Turns (fun _ => False) col6 (paint col6 w6.heap.size 0) w6 w10).mono (fun _ h => h.elim))).fresh (unhide HFR)).mono (fun x hx => by omega)

set_option maxRecDepth 100000 in
set_option maxHeartbeats 4000000 in
theorem lookLaw_none {Wd Bk V c d : Nat} {pv vv rv lv : Value} {L : List Rw} {col : Col} {w : World} {m : Int} {nr no ni np : Nat} (x : Int) (h : LookS Wd Bk V c d pv vv rv lv L col w) (hb : BookN col w Bk m nr no ni np) (hk : TabOk L) (hc : 2 ≤ c ∧ c < 20) (hd : 2 ≤ d ∧ d < 20) (hm0 : 0 ≤ m) (hm1 : m ≤ 100000000000000000) (hit : ((nr + 8) + (nr + 8) / 4 + 192) * 24 ≤ 281474976710656) (hq : findR L (x % 4294967296) = none) :
    Calls Tryz.prog 32 #[.pointer (some ⟨Wd, 0, none⟩), .pointer (some ⟨V, 0, none⟩), lv, .int .i64 x] w fun e w' => e = .returned (.bool true) ∧ Looked col w Bk m nr no ni np w' := by
  obtain ⟨s, le, lr, lo, li, lp, hbk, rfl, rfl, rfl, rfl, rfl⟩ := hb
  obtain ⟨ar, cr, rfl⟩ := ownsRow_slice h.rows.1
  obtain ⟨al, cl, rfl⟩ := ownsRow_slice h.list.1
  obtain ⟨N, hN, hfr⟩ := fresh_colour col w.heap.size
  have hn : L.length ≤ 60 := hk.len
  have HS := hide h
  have HB := hide (hbk.mono (J := keptBut N) (fun k hk hx => ⟨hx, hfr k hk⟩))
  have hR1 := routes_any V ar cr L w (by omega) h.view.1 (rwSlice_own h.rows.1)
  have HFR := hide hfr
  have HK := hide hk
  have HQ := hide hq
  have HIT := hide hit
  clear h hbk hfr hk hq hit
  go_enter Tryz.func32, Tryz.ntmps32
  go_wp2_with (first | (go_at_call 19; refine hR1.mono ?_; rintro e w1 ⟨v1, rfl, ho1, hb1⟩; obtain ⟨a1, c1, rfl⟩ := ownsRow_slice ho1; have T1 : Turns (fun _ => False) col (paint col w.heap.size N) w w1 := Turns.below N hb1; have S1 := (unhide HS).turn T1 id id id; have B1 := (unhide HB).turn T1 id (fun _ _ _ => id) (fun _ _ => id); have O1 : OwnC (paint col w.heap.size N) N w1 52 5 _ _ _ := OwnC.new ho1; generalize paint col w.heap.size N = col1 at *; have hR2 := routes_any V ar cr L w1 (by omega) S1.view.1 (rwSlice_own S1.rows.1); have HT1 := hide T1; have HS1 := hide S1; have HB1 := hide B1; have HO1 := hide O1; clear hR1 ho1 hb1 T1 S1 B1 O1 HS HB) | (go_at_call 19; refine hR2.mono ?_; rintro e w2 ⟨v2, rfl, ho2, hb2⟩; obtain ⟨a2, c2, rfl⟩ := ownsRow_slice ho2; have T2 : Turns (fun _ => False) col1 (paint col1 w1.heap.size (N + 1)) w1 w2 := Turns.below (N + 1) hb2; have S2 := (unhide HS1).turn T2 id id id; have B2 := (unhide HB1).turn T2 id (fun _ _ _ => id) (fun _ _ => id); have O1 := (unhide HO1).turn T2 id; have O2 : OwnC (paint col1 w1.heap.size (N + 1)) (N + 1) w2 52 5 _ _ _ := OwnC.new ho2; generalize paint col1 w1.heap.size (N + 1) = col2 at *; have hq1 := sameRoutes_any a1 al c1 cl L w2 (by omega) O1.1 S2.list.1; have HT2 := hide ((unhide HT1).trans T2); have HS2 := hide S2; have HB2 := hide B2; have HO1 := hide O1; have HO2 := hide O2; clear hR2 ho2 hb2 T2 S2 B2 O1 O2 HS1 HB1 HT1) | (go_at_call 72; refine hq1.mono ?_; rintro e w3 ⟨rfl, hb3⟩; have T3 : Turns (fun _ => False) col2 (paint col2 w2.heap.size 0) w2 w3 := Turns.below 0 hb3; have hq2 := sameRoutes_any a2 al c2 cl L w3 (by omega) ((unhide HO2).turn T3 id).1 ((unhide HS2).turn T3 id id id).list.1; have HT3 := hide T3; generalize paint col2 w2.heap.size 0 = col3 at *; clear hq1 hb3 T3) | (go_at_call 72; refine hq2.mono ?_; rintro e w4 ⟨rfl, hb4⟩; have T4 := (unhide HT3).trans (Turns.below 0 hb4 : Turns (fun _ => False) col3 (paint col3 w3.heap.size 0) w3 w4); have S4 := (unhide HS2).turn T4 id id id; have B4 := (unhide HB2).turn T4 id (fun _ _ _ => id) (fun _ _ => id); have O1 := (unhide HO1).turn T4 id; have O2 := (unhide HO2).turn T4 id; have HT4 := hide ((unhide HT2).trans T4); generalize paint col3 w3.heap.size 0 = col4 at *; have hk1 := keepRoutes_any B4 O1 hN (by omega) hm0 (by omega) (wide_less (unhide HIT)); have z4 := (S4.wd.1.cell 0).trans (show _ = some (.pointer (some ⟨Bk, 0, none⟩)) from rfl); have HS4 := hide S4; have HO2 := hide O2; clear hq2 hb4 T4 S4 B4 O1 O2 HT3 HS2 HB2 HO1) | (go_at_call 73; refine hk1.mono ?_; rintro e w5 ⟨rfl, ⟨vR, vM, nw, col5, B5, hl5, T5⟩⟩; have S5 := (unhide HS4).turn T5 (by omega) (by omega) (by omega); have O2 := (unhide HO2).turn T5 (by omega); have HT5 := hide (((unhide HT4).mono (D := fun x => x = 1 ∨ x = 22 ∨ x = 23 ∨ x = N ∨ x = N + 1) (fun _ h => h.elim)).trans (T5.mono (fun x hx => by omega))); have hk2 := keepRoutes_any B5 O2 (by omega) (by omega) (by show 0 ≤ s.m + 1; omega) (by show s.m + 1 ≤ _; omega) (wide_len (unhide HIT) hl5); have z5 := (S5.wd.1.cell 0).trans (show _ = some (.pointer (some ⟨Bk, 0, none⟩)) from rfl); have HS5 := hide S5; clear hk1 S5 O2 T5 B5 HT4 HS4 HO2 z4) | (go_at_call 73; refine hk2.mono ?_; rintro e w6 ⟨rfl, ⟨vR2, vM2, nw2, col6, B6, hl6, T6⟩⟩; have S6 := (unhide HS5).turn T6 (by omega) (by omega) (by omega); have HT6 := hide ((unhide HT5).trans (T6.mono (fun x hx => by omega))); have HL1 := lookup_any V ar L.length cr L (x % 4294967296) w6 S6.view.1 rfl (by omega) (fun r hr => rows_len (unhide HK) r hr) (by omega) (by omega) (rwSlice_own S6.rows.1); rw [unhide HQ] at HL1; simp only [lookOut, zeroRoute] at HL1; have HS6 := hide S6; have HB6 := hide B6; have HL5 := hide hl5; have HL6 := hide hl6; clear hk2 S6 T6 B6 HT5 HS5 z5 hl5 hl6) | (go_at_call 18; refine HL1.mono ?_; rintro e w7 ⟨rfl, hb7⟩; have S7 := (unhide HS6).turn (Turns.below 0 hb7 : Turns (fun _ => False) col6 (paint col6 w6.heap.size 0) w6 w7) id id id; have hL2 := (fun o => lookRef_any 0 al L.length cl L (x % 4294967296) (w7.alloc o) (S7.list.1.alloc o) rfl (by omega) (unhide HK).sorted (unhide HK).fine); rw [unhide HQ] at hL2; simp only [findOut, zeroRoute] at hL2; have HB7 := hide hb7; clear HL1 hb7 S7) | (go_at_call 74; refine (hL2 _).mono ?_; rintro e w8 ⟨rfl, hb8⟩; have bx8 := (Blk.new w7 #[.int .u32 0, .int .i64 0, .int .i64 0, .int .i64 0, .int .i64 0] 52).below hb8 (by simp); have HB8 := hide (below_seq (unhide HB7) (below_seq (below_new w7 _) hb8)); clear hL2 hb8 HB7) | (go_at_call 65; refine (plain_any _ _).mono ?_; rintro e w9 ⟨rfl, hb9⟩; have bx9 := (bx8.alloc (.cells #[.int .u32 0, .int .i64 0, .int .i64 0, .int .i64 0, .int .i64 0] 52)).below hb9 (bx8.alloc _).lt; have by9 := (Blk.new w8 #[.int .u32 0, .int .i64 0, .int .i64 0, .int .i64 0, .int .i64 0] 52).below hb9 (by simp); have HB9 := hide (below_seq (unhide HB8) (below_seq (below_new w8 _) hb9)); clear bx8 hb9 HB8) | (go_at_call 65; refine (plain_any _ _).mono ?_; rintro e wA ⟨rfl, hbA⟩; have bF := (Blk.new w9 #[.int .i64 0, .int .i64 0, .bool false] 150).below hbA (by simp); have bxA := (bx9.alloc (.cells #[.int .i64 0, .int .i64 0, .bool false] 150)).below hbA (bx9.alloc _).lt; have byA := (by9.alloc (.cells #[.int .i64 0, .int .i64 0, .bool false] 150)).below hbA (by9.alloc _).lt; have q0 := (bF.cell 0).trans (show _ = some (.int .i64 0) from rfl); have q1 := (bF.cell 1).trans (show _ = some (.int .i64 0) from rfl); have q2 := (bF.cell 2).trans (show _ = some (.bool false) from rfl); have z0 := bF.frozen 0; have z1 := bF.frozen 1; have z2 := bF.frozen 2; have hl7 := bx9.lt; have hl8 := by9.lt; have HBA := hide (below_seq (unhide HB9) (below_seq (below_new w9 _) hbA)); have H69 := hide (unhide HB9).size; clear bx9 by9 hbA HB9) | (go_at_call 64; refine (agree_errno _ 10 (by decide)).mono ?_; rintro e w10 ⟨rfl, hb10⟩; have bxB := (((bxA.other (p := ⟨w9.heap.size, 0, none⟩) (by simp; omega) (.int .i64 10)).other (p := ⟨w9.heap.size, 1, none⟩) (by simp; omega) (.int .i64 0)).other (p := ⟨w9.heap.size, 2, none⟩) (by simp; omega) (.bool false)); have byB := (((byA.other (p := ⟨w9.heap.size, 0, none⟩) (by simp; omega) (.int .i64 10)).other (p := ⟨w9.heap.size, 1, none⟩) (by simp; omega) (.int .i64 0)).other (p := ⟨w9.heap.size, 2, none⟩) (by simp; omega) (.bool false)); have bx10 := bxB.below hb10 bxB.lt; have by10 := byB.below hb10 byB.lt; have x0 := (bx10.cell 0).trans (show _ = some (.int .u32 0) from rfl); have x1 := (bx10.cell 1).trans (show _ = some (.int .i64 0) from rfl); have x2 := (bx10.cell 2).trans (show _ = some (.int .i64 0) from rfl); have x3 := (bx10.cell 3).trans (show _ = some (.int .i64 0) from rfl); have x4 := (bx10.cell 4).trans (show _ = some (.int .i64 0) from rfl); have y0 := (by10.cell 0).trans (show _ = some (.int .u32 0) from rfl); have y1 := (by10.cell 1).trans (show _ = some (.int .i64 0) from rfl); have y2 := (by10.cell 2).trans (show _ = some (.int .i64 0) from rfl); have y3 := (by10.cell 3).trans (show _ = some (.int .i64 0) from rfl); have y4 := (by10.cell 4).trans (show _ = some (.int .i64 0) from rfl); have hEq := eqRoute_same ⟨0, 0, 0, 0, 0, 0, false⟩; have HB10 := hide (below_seq ((((unhide HBA).setCell (p := ⟨w9.heap.size, 0, none⟩) (unhide H69) (.int .i64 10)).setCell (p := ⟨w9.heap.size, 1, none⟩) (unhide H69) (.int .i64 0)).setCell (p := ⟨w9.heap.size, 2, none⟩) (unhide H69) (.bool false)) hb10); clear bxA byA hb10 bx10 by10 bxB byB q0 q1 q2 z0 z1 z2))
  go_ret
  refine ⟨rfl, _, ⟨_, le, lr ++ nw ++ nw2, lo, li, lp, ((unhide HB6).turn (Turns.below 0 (unhide HB10) : Turns (fun _ => False) col6 (paint col6 w6.heap.size 0) w6 w10) id (fun _ _ _ => id) (fun _ _ => id)).mono (fun k _ hk => hk.1), ?_, ?_, rfl, rfl, rfl⟩, ?_⟩
  · show s.m + 1 + 1 = s.m + 2
    omega
  · rw [List.length_append, List.length_append, unhide HL5, unhide HL6]
  · refine (((unhide HT6).trans ((Turns.below 0 (unhide HB10) : Turns (fun _ => False) col6 (paint col6 w6.heap.size 0) w6 w10).mono (fun _ h => h.elim))).fresh (unhide HFR)).mono (fun x hx => by omega)

theorem lookLaw_any {Wd Bk V c d : Nat} {pv vv rv lv : Value} {L : List Rw} {col : Col} {w : World} {m : Int} {nr no ni np : Nat} (x : Int) (h : LookS Wd Bk V c d pv vv rv lv L col w) (hb : BookN col w Bk m nr no ni np) (hk : TabOk L) (hc : 2 ≤ c ∧ c < 20) (hd : 2 ≤ d ∧ d < 20) (hm0 : 0 ≤ m) (hm1 : m ≤ 100000000000000000) (hit : ((nr + 8) + (nr + 8) / 4 + 192) * 24 ≤ 281474976710656) :
    Calls Tryz.prog 32 #[.pointer (some ⟨Wd, 0, none⟩), .pointer (some ⟨V, 0, none⟩), lv, .int .i64 x] w fun e w' => e = .returned (.bool true) ∧ Looked col w Bk m nr no ni np w' := by
  cases hq : findR L (x % 4294967296) with
  | none => exact lookLaw_none x h hb hk hc hd hm0 hm1 hit hq
  | some q => exact lookLaw_some x h hb hk hc hd hm0 hm1 hit q hq

end Go.Proofs.YtdnpeefnobjfaaaGreatDoor
