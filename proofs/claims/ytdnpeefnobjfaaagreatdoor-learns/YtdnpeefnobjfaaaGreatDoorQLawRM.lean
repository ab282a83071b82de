/- milepostlaw's receives: both routers hear the same, and answer the same. -/
import Derived.Test.YtdnpeefnobjfaaaGreatDoorQKeepOM
import Derived.Test.YtdnpeefnobjfaaaGreatDoorQSameLM
import Derived.Test.YtdnpeefnobjfaaaGreatDoorQColM
namespace Go.Proofs.YtdnpeefnobjfaaaGreatDoor
open Go.RowKit Go.Shelf
attribute [local go_sem ↓] Go.wp_at_zero Go.wp_at_succ

/-- A pair of routers that stand alike. -/
def PrC (col : Col) (i : Nat) (w : World) (R Q : Nat) (costs : List Int) (L : List Rw) : Prop := ∃ V cv rv cv' lv, RtrC col (10 + 2 * i) w R costs L V cv rv ∧ RefC col (11 + 2 * i) w Q costs L cv' lv ∧ TabOk L ∧ ∀ c ∈ costs, 1 ≤ c ∧ c ≤ 15
theorem PrC.turn {C : Nat → Prop} {col col' : Col} {i : Nat} {w w' : World} {R Q : Nat} {costs : List Int} {L : List Rw} (h : PrC col i w R Q costs L) (ht : Turns C col col' w w') (h1 : ¬ C (10 + 2 * i)) (h2 : ¬ C (11 + 2 * i)) : PrC col' i w' R Q costs L := by
  obtain ⟨V, cv, rv, cv', lv, a, b, c⟩ := h
  exact ⟨V, cv, rv, cv', lv, a.turn ht h1, b.turn ht h2, c⟩
/-- The law's World: where its Book and its pairs are. -/
abbrev WdC (col : Col) (w : World) (Wd Bk : Nat) (pv vv : Value) : Prop := BlkC col 2 w Wd #[.pointer (some ⟨Bk, 0, none⟩), pv, vv] 88
/-- Whatever came of the two: agree says yes of them, from now on. -/
def ErrOk (w : World) (ve f : Value) : Prop := ∀ W, Below w.heap.size w W → Calls Tryz.prog 64 #[ve, f] W fun e w' => e = .returned (.bool true) ∧ Below W.heap.size W w'
theorem ErrOk.below {w w' : World} {ve f : Value} (h : ErrOk w ve f) (hb : Below w.heap.size w w') : ErrOk w' ve f := fun W hW => h W (below_seq hb hW)
theorem ErrOk.is {w : World} {ve : Value} {x : Option (Int × Int)} (h : errIs w ve x) : ErrOk w ve (refF x) := fun W hW => agree_any W ve x (errIs_below h hW)
theorem ErrOk.errno (w : World) {x : Int} (hx : x ≠ 0) : ErrOk w (.iface 102 (.int .i64 x)) (.agg #[.int .i64 x, .int .i64 0, .bool false]) := fun W _ => agree_errno W x hx

/-- Behind both calls. -/
structure RecvS (i Wd Bk R Q N : Nat) (pv vv : Value) (costs : List Int) (L : List Rw) (O : List (Int × ByteArray)) (m : Int) (nr no ni np : Nat) (va ve vb f : Value) (col : Col) (w : World) : Prop where
  wd : WdC col w Wd Bk pv vv
  pr : PrC col i w R Q costs L
  bk : ∃ s le lr lo li lp, BookC (keptBut N) col w Bk s le lr lo li lp ∧ s.m = m ∧ lr.length = nr ∧ lo.length = no ∧ li.length = ni ∧ lp.length = np
  a : OwnC col N w 64 2 va O.length (outL O)
  b : OwnC col 4 w 64 2 vb O.length (outL O)
  err : ErrOk w ve f
  few : O.length ≤ 1000
  big : 100 ≤ N
theorem RecvS.below {i Wd Bk R Q N : Nat} {pv vv : Value} {costs : List Int} {L : List Rw} {O : List (Int × ByteArray)} {m : Int} {nr no ni np : Nat} {va ve vb f : Value} {col : Col} {w w' : World} (h : RecvS i Wd Bk R Q N pv vv costs L O m nr no ni np va ve vb f col w) (hb : Below w.heap.size w w') : RecvS i Wd Bk R Q N pv vv costs L O m nr no ni np va ve vb f (paint col w.heap.size 0) w' := by
  have ht : Turns (fun _ => False) col (paint col w.heap.size 0) w w' := Turns.below 0 hb
  obtain ⟨s, le, lr, lo, li, lp, hB, r⟩ := h.bk
  exact ⟨h.wd.turn ht id, h.pr.turn ht id id, ⟨s, le, lr, lo, li, lp, hB.turn ht id (fun _ _ _ => id) (fun _ _ => id), r⟩, h.a.turn ht id, h.b.turn ht id, h.err.below hb, h.few, h.big⟩

/-- Colours that receiving turns. -/
def recvC (i : Nat) : Nat → Prop := fun x => x = 1 ∨ x = 24 ∨ x = 25 ∨ x = 10 + 2 * i ∨ x = 11 + 2 * i
/-- What receives leaves. -/
def Recvd (i : Nat) (col : Col) (w : World) (Bk R Q : Nat) (costs : List Int) (m : Int) (nr no ni np : Nat) (w' : World) : Prop := ∃ col' L', PrC col' i w' R Q costs L' ∧ BookN col' w' Bk (m + 1) nr (no + 4) ni np ∧ Turns (recvC i) col col' w w'

set_option maxRecDepth 100000 in
set_option maxHeartbeats 4000000 in
theorem recvLaw_core {i Wd Bk R Q : Nat} {n : Int} {s : ByteArray} {pv vv : Value} {costs : List Int} {m : Int} {nr no ni np : Nat} {col : Col} {w : World} (M1 : Value → Value → World → Prop) (M2 : Value → Value → Value → Int → Int → Bool → World → Prop) (hi : i ≤ 4) (hm0 : 0 ≤ m) (hm1 : m ≤ 100000000000000000) (hit : ((no + 4) + (no + 4) / 4 + 192) * 24 ≤ 281474976710656)
    (hP : Calls Tryz.prog 14 #[.pointer (some ⟨R, 0, none⟩), .int .i64 n, .string s] (w.alloc (.cells #[.pointer (some ⟨R, 0, none⟩), .pointer (some ⟨Q, 0, none⟩)] 97)) fun e w1 => ∃ va ve, e = .returned (.tuple #[va, ve]) ∧ M1 va ve w1)
    (hX : ∀ va ve w1, M1 va ve w1 → Blk w1 w.heap.size #[.pointer (some ⟨R, 0, none⟩), .pointer (some ⟨Q, 0, none⟩)] 97)
    (hQ : ∀ va ve w1, M1 va ve w1 → Calls Tryz.prog 163 #[.pointer (some ⟨Q, 0, none⟩), .int .i64 n, .string s] w1 fun e w2 => ∃ vb f1 f2 f3, e = .returned (.tuple #[vb, .agg #[.int .i64 f1, .int .i64 f2, .bool f3]]) ∧ M2 va ve vb f1 f2 f3 w2)
    (hM : ∀ va ve vb f1 f2 f3 w2, M2 va ve vb f1 f2 f3 w2 → ∃ N L O col2, RecvS i Wd Bk R Q N pv vv costs L O m nr no ni np va ve vb (.agg #[.int .i64 f1, .int .i64 f2, .bool f3]) col2 w2 ∧ Turns (fun x => recvC i x ∨ x = N) col col2 w w2 ∧ ∀ k, k < w.heap.size → col k < N) :
    Calls Tryz.prog 115 #[.pointer (some ⟨Wd, 0, none⟩), .agg #[.pointer (some ⟨R, 0, none⟩), .pointer (some ⟨Q, 0, none⟩)], .int .i64 n, .string s] w fun e w' => e = .returned (.bool true) ∧ Recvd i col w Bk R Q costs m nr no ni np w' := by
  have HX := hide hX
  have HQ := hide hQ
  have HM := hide hM
  have HIT := hide hit
  clear hX hQ hM hit
  go_enter Tryz.func115, Tryz.ntmps115
  go_wp2_with (first | (go_at_call 14; refine hP.mono ?_; rintro e w1 ⟨va, ve, rfl, hm1'⟩; have hx := unhide HX va ve w1 hm1'; have hq := unhide HQ va ve w1 hm1'; have x1 := (hx.cell 1).trans (show _ = some (.pointer (some ⟨Q, 0, none⟩)) from rfl); clear hP hx hm1' HX HQ) | (go_at_call 163; refine hq.mono ?_; rintro e w2 ⟨vb, f1, f2, f3, rfl, hm2⟩; obtain ⟨N, L, O, col2, hS, hT, hF⟩ := unhide HM va ve vb f1 f2 f3 w2 hm2; obtain ⟨aa, ca, rfl⟩ := ownsRow_slice hS.a.1; obtain ⟨ab, cb, rfl⟩ := ownsRow_slice hS.b.1; have HS := hide hS; have HT := hide hT; have HF := hide hF; clear hq hm2 HM hS hT hF x1) | (go_at_call 64; refine ((unhide HS).err _ (below_new _ _)).mono ?_; rintro e w3 ⟨rfl, hb3⟩; have hS3 := (unhide HS).below (below_seq (below_new w2 _) hb3); have T3 := (unhide HT).trans ((Turns.below 0 (below_seq (below_new w2 _) hb3) : Turns (fun _ => False) col2 (paint col2 w2.heap.size 0) w2 w3).mono (fun _ h => h.elim)); generalize paint col2 w2.heap.size 0 = col3 at *; have hsm := sameOuts_any aa ab ca cb O w3 (by have := hS3.few; omega) hS3.a.1 hS3.b.1; have HS := hide hS3; have HT := hide T3; clear hb3 hS3 T3) | (go_at_call 118; refine hsm.mono ?_; rintro e w4 ⟨rfl, hb4⟩; have hS4 := (unhide HS).below hb4; have T4 := (unhide HT).trans ((Turns.below 0 hb4 : Turns (fun _ => False) col3 (paint col3 w3.heap.size 0) w3 w4).mono (fun _ h => h.elim)); generalize paint col3 w3.heap.size 0 = col4 at *; obtain ⟨sb, le, lr, lo, li, lp, hB4, e1, e2, e3, e4, e5⟩ := hS4.bk; have hkp := keepOuts_any hB4 hS4.a hS4.big hS4.few (by omega) (by omega) (by rw [e3]; exact unhide HIT); have z4 := (hS4.wd.1.cell 0).trans (show _ = some (.pointer (some ⟨Bk, 0, none⟩)) from rfl); have HS := hide hS4; have HT := hide T4; have E1 := hide e1; have E2 := hide e2; have E3 := hide e3; have E4 := hide e4; have E5 := hide e5; clear hsm hb4 hS4 T4 hB4 e1 e2 e3 e4 e5) | (go_at_call 120; refine hkp.mono ?_; rintro e w5 ⟨rfl, ⟨vR, vM, nw, col5, B5, hl5, T5⟩⟩; have HB5 := hide B5; have HL5 := hide hl5; have HT5 := hide T5; clear hkp B5 hl5 T5 z4))
  go_ret
  have hS := unhide HS
  have hl5 := unhide HL5
  refine ⟨rfl, col5, L, hS.pr.turn (unhide HT5) ?_ ?_, ⟨_, le, lr, lo ++ nw, li, lp, (unhide HB5).mono (fun k _ hk => hk.1), ?_, unhide E2, ?_, unhide E4, unhide E5⟩, ?_⟩
  · have := hS.big; omega
  · have := hS.big; omega
  · have := unhide E1
    show sb.m + 1 = m + 1
    omega
  · rw [List.length_append, hl5, unhide E3]
  · refine (((unhide HT).trans ((unhide HT5).mono (fun x hx => ?_))).fresh (unhide HF)).mono (fun x hx => ?_)
    · unfold recvC; omega
    · unfold recvC at hx ⊢; omega

end Go.Proofs.YtdnpeefnobjfaaaGreatDoor

/- milepostlaw's receives, whatever comes. -/
namespace Go.Proofs.YtdnpeefnobjfaaaGreatDoor
open Go.RowKit Go.Shelf

theorem errAt_or {b : List UInt8} {n k : Nat} {x : Int × Int} (h : scanErr b n k = some x) : x.1 ≠ 0 := by
  induction n generalizing k with
  | zero => simp [scanErr] at h
  | succ n ih =>
    unfold scanErr at h
    split at h
    · exact ih h
    · rename_i hne
      obtain rfl := Option.some.inj h
      exact hne
theorem decErr_ne {b : List UInt8} {x : Int × Int} (h : decErr b = some x) : x.1 ≠ 0 := by
  unfold decErr at h
  split at h
  · obtain rfl := Option.some.inj h; decide
  · split at h
    · cases h
    · split at h
      · obtain rfl := Option.some.inj h; decide
      · exact errAt_or h
theorem decCmd_or {b : List UInt8} (h : decErr b = none) : decCmd b = 1 ∨ decCmd b = 2 := by
  unfold decCmd
  rw [h]
  simp only [Option.isSome_none, Bool.false_eq_true, if_false]
  split
  · exact .inl rfl
  · exact .inr rfl

/-- Ahead of both calls. -/
structure RecvB (i Wd Bk R Q N : Nat) (pv vv : Value) (costs : List Int) (L : List Rw) (m : Int) (nr no ni np V : Nat) (cv rv cv' lv : Value) (col : Col) (w : World) : Prop where
  wd : WdC col w Wd Bk pv vv
  rt : RtrC col (10 + 2 * i) w R costs L V cv rv
  rf : RefC col (11 + 2 * i) w Q costs L cv' lv
  bk : ∃ s le lr lo li lp, BookC (keptBut N) col w Bk s le lr lo li lp ∧ s.m = m ∧ lr.length = nr ∧ lo.length = no ∧ li.length = ni ∧ lp.length = np
  tab : TabOk L
  cost : ∀ c ∈ costs, 1 ≤ c ∧ c ≤ 15
  big : 100 ≤ N
  small : i ≤ 4
theorem RecvB.turn {C : Nat → Prop} {i Wd Bk R Q N : Nat} {pv vv : Value} {costs : List Int} {L : List Rw} {m : Int} {nr no ni np V : Nat} {cv rv cv' lv : Value} {col col' : Col} {w w' : World} (h : RecvB i Wd Bk R Q N pv vv costs L m nr no ni np V cv rv cv' lv col w) (ht : Turns C col col' w w') (hc : ∀ x, x < N → ¬ C x) : RecvB i Wd Bk R Q N pv vv costs L m nr no ni np V cv rv cv' lv col' w' := by
  obtain ⟨s, le, lr, lo, li, lp, hB, r⟩ := h.bk
  have h1 := h.big
  have h2 := h.small
  exact ⟨h.wd.turn ht (hc _ (by omega)), h.rt.turn ht (hc _ (by omega)), h.rf.turn ht (hc _ (by omega)), ⟨s, le, lr, lo, li, lp, hB.turn ht (hc _ (by omega)) (fun x _ hx => hc x (by omega)) (fun x hx => hc x hx.2), r⟩, h.tab, h.cost, h.big, h.small⟩
theorem ownC_nil (col : Col) (c : Nat) (w : World) (e sz : Nat) : OwnC col c w e sz (.slice none 0 0) 0 [] := ⟨World.ownsRow_nil _ _ _ _, fun k hk => by simp [Value.ownBlock] at hk⟩
theorem RecvB.nothing {i Wd Bk R Q N : Nat} {pv vv : Value} {costs : List Int} {L : List Rw} {m : Int} {nr no ni np V : Nat} {cv rv cv' lv : Value} {col : Col} {w : World} (h : RecvB i Wd Bk R Q N pv vv costs L m nr no ni np V cv rv cv' lv col w) {ve f : Value} (he : ErrOk w ve f) : RecvS i Wd Bk R Q N pv vv costs L [] m nr no ni np (.slice none 0 0) ve (.slice none 0 0) f col w :=
  ⟨h.wd, ⟨V, cv, rv, cv', lv, h.rt, h.rf, h.tab, h.cost⟩, h.bk, ownC_nil _ _ _ _ _, ownC_nil _ _ _ _ _, he, by simp, h.big⟩

variable {i Wd Bk R Q N : Nat} {n : Int} {s : ByteArray} {pv vv : Value} {costs : List Int} {L : List Rw} {m : Int} {nr no ni np V : Nat} {cv rv cv' lv : Value} {col : Col} {w : World}
abbrev boxed (w : World) (R Q : Nat) : World := w.alloc (.cells #[.pointer (some ⟨R, 0, none⟩), .pointer (some ⟨Q, 0, none⟩)] 97)
theorem boxed_turn (col : Col) (w : World) (R Q : Nat) : Turns (fun _ => False) col (paint col w.heap.size 0) w (boxed w R Q) := Turns.below 0 (below_new _ _)
theorem boxed_blk (w : World) (R Q : Nat) : Blk (boxed w R Q) w.heap.size #[.pointer (some ⟨R, 0, none⟩), .pointer (some ⟨Q, 0, none⟩)] 97 := Blk.new _ _ _

theorem recv_noone (h : RecvB i Wd Bk R Q N pv vv costs L m nr no ni np V cv rv cv' lv col w) (hfr : ∀ k, k < w.heap.size → col k < N) (hm0 : 0 ≤ m) (hm1 : m ≤ 100000000000000000) (hit : ((no + 4) + (no + 4) / 4 + 192) * 24 ≤ 281474976710656) (hn : n < 0 ∨ (costs.length : Int) ≤ n) :
    Calls Tryz.prog 115 #[.pointer (some ⟨Wd, 0, none⟩), .agg #[.pointer (some ⟨R, 0, none⟩), .pointer (some ⟨Q, 0, none⟩)], .int .i64 n, .string s] w fun e w' => e = .returned (.bool true) ∧ Recvd i col w Bk R Q costs m nr no ni np w' := by
  have h0 := h.turn (boxed_turn col w R Q) (fun _ _ => id)
  obtain ⟨ac, cc, rfl⟩ := ownsRow_slice h.rt.costs.1
  obtain ⟨ac', cc', rfl⟩ := ownsRow_slice h.rf.costs.1
  refine recvLaw_core (pv := pv) (vv := vv) (fun va ve w1 => va = .slice none 0 0 ∧ ve = .iface 102 (.int .i64 2) ∧ Below (boxed w R Q).heap.size (boxed w R Q) w1)
    (fun va ve vb f1 f2 f3 w2 => va = .slice none 0 0 ∧ ve = .iface 102 (.int .i64 2) ∧ vb = .slice none 0 0 ∧ f1 = 2 ∧ f2 = 0 ∧ f3 = false ∧ Below (boxed w R Q).heap.size (boxed w R Q) w2) h.small hm0 hm1 hit ?_ ?_ ?_ ?_
  · exact (receive_noone R n s ac costs.length cc _ ((h0.rt.blk.1.cell 0).trans rfl) hn).mono fun e w1 ⟨he, hb⟩ => ⟨_, _, he, rfl, rfl, hb⟩
  · rintro va ve w1 ⟨_, _, hb⟩
    exact (boxed_blk w R Q).below hb (boxed_blk w R Q).lt
  · rintro va ve w1 ⟨rfl, rfl, hb⟩
    have h1 := h0.turn (Turns.below 0 hb : Turns (fun _ => False) _ _ _ _) (fun _ _ => id)
    exact (recvRef_noone Q n s ac' costs.length cc' w1 ((h1.rf.blk.1.cell 0).trans rfl) hn).mono fun e w2 ⟨he, hb2⟩ => ⟨_, _, _, _, he, rfl, rfl, rfl, rfl, rfl, rfl, below_seq hb hb2⟩
  · rintro va ve vb f1 f2 f3 w2 ⟨rfl, rfl, rfl, rfl, rfl, rfl, hb⟩
    have ht : Turns (fun _ => False) (paint col w.heap.size 0) (paint (paint col w.heap.size 0) (boxed w R Q).heap.size 0) (boxed w R Q) w2 := Turns.below 0 hb
    exact ⟨N, L, [], _, (h0.turn ht (fun _ _ => id)).nothing (ErrOk.errno w2 (by decide)), ((boxed_turn col w R Q).trans ht).mono (fun _ h => h.elim), hfr⟩

theorem recv_err {frm : Nat} {x : Int × Int} (h : RecvB i Wd Bk R Q N pv vv costs L m nr no ni np V cv rv cv' lv col w) (hfr : ∀ k, k < w.heap.size → col k < N) (hm0 : 0 ≤ m) (hm1 : m ≤ 100000000000000000) (hit : ((no + 4) + (no + 4) / 4 + 192) * 24 ≤ 281474976710656) (hf : frm < costs.length) (het : etHolds w) (hs : s.size ≤ 9223372036854775807) (hx : decErr s.data.toList = some x) :
    Calls Tryz.prog 115 #[.pointer (some ⟨Wd, 0, none⟩), .agg #[.pointer (some ⟨R, 0, none⟩), .pointer (some ⟨Q, 0, none⟩)], .int .i64 frm, .string s] w fun e w' => e = .returned (.bool true) ∧ Recvd i col w Bk R Q costs m nr no ni np w' := by
  have h0 := h.turn (boxed_turn col w R Q) (fun _ _ => id)
  obtain ⟨ac, cc, rfl⟩ := ownsRow_slice h.rt.costs.1
  obtain ⟨ac', cc', rfl⟩ := ownsRow_slice h.rf.costs.1
  have het0 : etHolds (boxed w R Q) := het.below (below_new w _) (World.block_lt_of_cell? w _ het)
  obtain ⟨xe, xn⟩ := x
  have hx0 := decErr_ne hx
  refine recvLaw_core (pv := pv) (vv := vv) (fun va ve w1 => va = .slice none 0 0 ∧ errIs w1 ve (some (xe, xn)) ∧ Below (boxed w R Q).heap.size (boxed w R Q) w1)
    (fun va ve vb f1 f2 f3 w2 => va = .slice none 0 0 ∧ errIs w2 ve (some (xe, xn)) ∧ vb = .slice none 0 0 ∧ f1 = xe ∧ f2 = xn ∧ f3 = true ∧ Below (boxed w R Q).heap.size (boxed w R Q) w2) h.small hm0 hm1 hit ?_ ?_ ?_ ?_
  · exact (receive_err R frm costs.length cc s ac (xe, xn) _ ((h0.rt.blk.1.cell 0).trans rfl) hf het0 hs hx).mono fun e w1 ⟨ve, he, hi, hb⟩ => ⟨_, ve, he, rfl, hi, hb⟩
  · rintro va ve w1 ⟨_, _, hb⟩
    exact (boxed_blk w R Q).below hb (boxed_blk w R Q).lt
  · rintro va ve w1 ⟨rfl, hi, hb⟩
    have h1 := h0.turn (Turns.below 0 hb : Turns (fun _ => False) _ _ _ _) (fun _ _ => id)
    exact (recvRef_err Q frm costs.length cc' s ac' (xe, xn) w1 ((h1.rf.blk.1.cell 0).trans rfl) hf hs hx hx0).mono fun e w2 ⟨he, hb2⟩ => ⟨_, _, _, _, he, rfl, errIs_below hi hb2, rfl, rfl, rfl, rfl, below_seq hb hb2⟩
  · rintro va ve vb f1 f2 f3 w2 ⟨rfl, hi, rfl, rfl, rfl, rfl, hb⟩
    have ht : Turns (fun _ => False) (paint col w.heap.size 0) (paint (paint col w.heap.size 0) (boxed w R Q).heap.size 0) (boxed w R Q) w2 := Turns.below 0 hb
    exact ⟨N, L, [], _, (h0.turn ht (fun _ _ => id)).nothing (ErrOk.is (x := some (f1, f2)) hi), ((boxed_turn col w R Q).trans ht).mono (fun _ h => h.elim), hfr⟩

theorem recv_resp {frm : Nat} (h : RecvB i Wd Bk R Q N pv vv costs L m nr no ni np V cv rv cv' lv col w) (hfr : ∀ k, k < w.heap.size → col k < N) (hm0 : 0 ≤ m) (hm1 : m ≤ 100000000000000000) (hit : ((no + 4) + (no + 4) / 4 + 192) * 24 ≤ 281474976710656) (hf : frm < costs.length) (hs : s.size ≤ 9223372036854775807) (hx : decErr s.data.toList = none) (hcmd : decCmd s.data.toList = 2) :
    Calls Tryz.prog 115 #[.pointer (some ⟨Wd, 0, none⟩), .agg #[.pointer (some ⟨R, 0, none⟩), .pointer (some ⟨Q, 0, none⟩)], .int .i64 frm, .string s] w fun e w' => e = .returned (.bool true) ∧ Recvd i col w Bk R Q costs m nr no ni np w' := by
  have h0 := h.turn (boxed_turn col w R Q) (fun _ _ => id)
  have hi := h.small
  have hb := h.big
  generalize hc0 : paint col w.heap.size 0 = col0 at *
  have ht0 : Turns (fun _ => False) col col0 w (boxed w R Q) := by rw [← hc0]; exact boxed_turn col w R Q
  have hbx : BlkC col0 0 (boxed w R Q) w.heap.size #[.pointer (some ⟨R, 0, none⟩), .pointer (some ⟨Q, 0, none⟩)] 97 := ⟨boxed_blk w R Q, by rw [← hc0]; exact paint_new (Nat.le_refl _)⟩
  have hnew : TabOk (heardL L frm costs[frm] (decEnts s.data.toList)) := h.tab.heard frm (h.cost _ (List.getElem_mem hf)).1 (fun e he => read_fine hx e he)
  refine recvLaw_core (pv := pv) (vv := vv) (fun va ve w1 => va = .slice none 0 0 ∧ ve = .nilIface ∧ ∃ V' rv' col1, RtrC col1 (10 + 2 * i) w1 R costs (heardL L frm costs[frm] (decEnts s.data.toList)) V' cv rv' ∧ Turns (· = 10 + 2 * i) col0 col1 (boxed w R Q) w1)
    (fun va ve vb f1 f2 f3 w2 => va = .slice none 0 0 ∧ ve = .nilIface ∧ vb = .slice none 0 0 ∧ f1 = 0 ∧ f2 = 0 ∧ f3 = false ∧ ∃ V' rv' lv' col2, RtrC col2 (10 + 2 * i) w2 R costs (heardL L frm costs[frm] (decEnts s.data.toList)) V' cv rv' ∧ RefC col2 (11 + 2 * i) w2 Q costs (heardL L frm costs[frm] (decEnts s.data.toList)) cv' lv' ∧ Turns (fun x => x = 10 + 2 * i ∨ x = 11 + 2 * i) col0 col2 (boxed w R Q) w2) h.small hm0 hm1 hit ?_ ?_ ?_ ?_
  · exact (respP h0.rt h0.tab hf h0.cost hs hx hcmd).mono fun e w1 ⟨he, V', rv', h1, ht⟩ => ⟨_, _, he, rfl, rfl, V', rv', _, h1, ht⟩
  · rintro va ve w1 ⟨_, _, V', rv', col1, h1, ht⟩
    exact (hbx.turn ht (by omega)).1
  · rintro va ve w1 ⟨rfl, rfl, V', rv', col1, h1, ht⟩
    exact (respQ (h0.rf.turn ht (by omega)) h0.tab hf h0.cost hs hx hcmd).mono fun e w2 ⟨he, lv', h2, ht2⟩ => ⟨_, _, _, _, he, rfl, rfl, rfl, rfl, rfl, rfl, V', rv', lv', _, h1.turn ht2 (by omega), h2, (ht.mono (fun x hx => .inl hx)).trans (ht2.mono (fun x hx => .inr hx))⟩
  · rintro va ve vb f1 f2 f3 w2 ⟨rfl, rfl, rfl, rfl, rfl, rfl, V', rv', lv', col2, h1, h2, ht⟩
    obtain ⟨sb, le, lr, lo, li, lp, hB, r⟩ := h0.bk
    refine ⟨N, _, [], col2, ⟨h0.wd.turn ht (by omega), ⟨V', cv, rv', cv', lv', h1, h2, hnew, h0.cost⟩, ⟨sb, le, lr, lo, li, lp, hB.turn ht (by omega) (fun x _ _ => by omega) (fun x hx => by have := hx.1; omega), r⟩, ownC_nil _ _ _ _ _, ownC_nil _ _ _ _ _, ErrOk.is (x := none) rfl, by simp, h.big⟩, ?_, hfr⟩
    exact (ht0.mono (fun _ h => h.elim)).trans (ht.mono (fun x hx => by unfold recvC; omega))

theorem nParts_few {n : Nat} (h : n ≤ 60) : nParts n ≤ 3 := by unfold nParts; omega
theorem recv_req {frm : Nat} (h : RecvB i Wd Bk R Q N pv vv costs L m nr no ni np V cv rv cv' lv col w) (hfr : ∀ k, k < w.heap.size → col k < N) (hm0 : 0 ≤ m) (hm1 : m ≤ 100000000000000000) (hit : ((no + 4) + (no + 4) / 4 + 192) * 24 ≤ 281474976710656) (hf : frm < costs.length) (hs : s.size ≤ 9223372036854775807) (hx : decErr s.data.toList = none) (hcmd : decCmd s.data.toList = 1) :
    Calls Tryz.prog 115 #[.pointer (some ⟨Wd, 0, none⟩), .agg #[.pointer (some ⟨R, 0, none⟩), .pointer (some ⟨Q, 0, none⟩)], .int .i64 frm, .string s] w fun e w' => e = .returned (.bool true) ∧ Recvd i col w Bk R Q costs m nr no ni np w' := by
  have h0 := h.turn (boxed_turn col w R Q) (fun _ _ => id)
  have hi := h.small
  have hb := h.big
  generalize hc0 : paint col w.heap.size 0 = col0 at *
  have ht0 : Turns (fun _ => False) col col0 w (boxed w R Q) := by rw [← hc0]; exact boxed_turn col w R Q
  obtain ⟨O, hO⟩ : ∃ O, O = (List.range (nParts L.length)).map fun j => ((frm : Int), strB (encBytes 2 (partOf (hearL frm L) j))) := ⟨_, rfl⟩
  have hOl : O.length = nParts L.length := by rw [hO]; simp
  have hOo : outsTo frm (hearL frm L) (nParts L.length) = outL O := by rw [hO]; exact outsTo_outL _ _ _
  refine recvLaw_core (pv := pv) (vv := vv) (fun va ve w1 => ve = .nilIface ∧ ∃ col1, OwnC col1 N w1 64 2 va O.length (outL O) ∧ Turns (fun _ => False) col0 col1 (boxed w R Q) w1)
    (fun va ve vb f1 f2 f3 w2 => ve = .nilIface ∧ f1 = 0 ∧ f2 = 0 ∧ f3 = false ∧ ∃ col2, OwnC col2 N w2 64 2 va O.length (outL O) ∧ OwnC col2 4 w2 64 2 vb O.length (outL O) ∧ Turns (fun _ => False) col0 col2 (boxed w R Q) w2) h.small hm0 hm1 hit ?_ ?_ ?_ ?_
  · exact (reqP N h0.rt h0.tab hf hs hx hcmd).mono fun e w1 ⟨v, he, ho, ht⟩ => ⟨v, _, he, rfl, _, by rw [hOl, ← hOo]; exact ho, ht⟩
  · rintro va ve w1 ⟨_, col1, _, ht⟩
    exact (ht.keep _ (boxed_blk w R Q).lt id).trans (boxed_blk w R Q)
  · rintro va ve w1 ⟨rfl, col1, ho, ht⟩
    exact (reqQ 4 (h0.rf.turn ht id) h0.tab hf hs hx hcmd).mono fun e w2 ⟨v, he, ho2, ht2⟩ => ⟨v, _, _, _, he, rfl, rfl, rfl, rfl, _, ho.turn ht2 id, by rw [hOl, ← hOo]; exact ho2, ht.trans ht2⟩
  · rintro va ve vb f1 f2 f3 w2 ⟨rfl, rfl, rfl, rfl, col2, h1, h2, ht⟩
    have h2' := h0.turn ht (fun _ _ => id)
    refine ⟨N, L, O, col2, ⟨h2'.wd, ⟨V, cv, rv, cv', lv, h2'.rt, h2'.rf, h2'.tab, h2'.cost⟩, h2'.bk, h1, h2, ErrOk.is (x := none) rfl, by rw [hOl]; have := nParts_few h.tab.len; omega, h.big⟩, (ht0.trans ht).mono (fun _ h => h.elim), hfr⟩

/-- Whatever comes. -/
theorem recvLaw_any (hwd : WdC col w Wd Bk pv vv) (hp : PrC col i w R Q costs L) (hb : BookN col w Bk m nr no ni np) (het : etHolds w) (hi : i ≤ 4) (hm0 : 0 ≤ m) (hm1 : m ≤ 100000000000000000) (hit : ((no + 4) + (no + 4) / 4 + 192) * 24 ≤ 281474976710656) (hs : s.size ≤ 9223372036854775807) :
    Calls Tryz.prog 115 #[.pointer (some ⟨Wd, 0, none⟩), .agg #[.pointer (some ⟨R, 0, none⟩), .pointer (some ⟨Q, 0, none⟩)], .int .i64 n, .string s] w fun e w' => e = .returned (.bool true) ∧ Recvd i col w Bk R Q costs m nr no ni np w' := by
  obtain ⟨V, cv, rv, cv', lv, h1, h2, h3, h4⟩ := hp
  obtain ⟨N, hN, hfr⟩ := fresh_colour col w.heap.size
  obtain ⟨sb, le, lr, lo, li, lp, hB, r⟩ := hb
  have hR : RecvB i Wd Bk R Q N pv vv costs L m nr no ni np V cv rv cv' lv col w := ⟨hwd, h1, h2, ⟨sb, le, lr, lo, li, lp, hB.mono (fun k hk hx => ⟨hx, hfr k hk⟩), r⟩, h3, h4, hN, hi⟩
  by_cases hn : n < 0 ∨ (costs.length : Int) ≤ n
  · exact recv_noone hR hfr hm0 hm1 hit hn
  · obtain ⟨frm, rfl⟩ : ∃ k : Nat, n = k := ⟨n.toNat, by omega⟩
    have hf : frm < costs.length := by omega
    cases hx : decErr s.data.toList with
    | some x => exact recv_err hR hfr hm0 hm1 hit hf het hs hx
    | none =>
      rcases decCmd_or hx with hc | hc
      · exact recv_req hR hfr hm0 hm1 hit hf hs hx hc
      · exact recv_resp hR hfr hm0 hm1 hit hf hs hx hc

end Go.Proofs.YtdnpeefnobjfaaaGreatDoor
