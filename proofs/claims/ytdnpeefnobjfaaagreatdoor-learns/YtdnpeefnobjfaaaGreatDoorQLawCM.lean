/- milepostlaw's changes: a step that may change a pair of routers. -/
import Derived.Test.YtdnpeefnobjfaaaGreatDoorQLawRM
import Derived.Test.YtdnpeefnobjfaaaGreatDoorRNewM
import Derived.Test.YtdnpeefnobjfaaaGreatDoorDecM
import Derived.Shelf.RegionOpen
namespace Go.Proofs.YtdnpeefnobjfaaaGreatDoor
open Go.RowKit Go.Shelf
attribute [local go_sem ↓] Go.wp_at_zero Go.wp_at_succ

/-- What a change leaves. -/
def Changed (i : Nat) (col : Col) (w : World) (Bk R Q : Nat) (costs : List Int) (m : Int) (nr no ni np : Nat) (w' : World) : Prop := ∃ col' L' m' no', PrC col' i w' R Q costs L' ∧ BookN col' w' Bk m' nr no' ni np ∧ (m ≤ m' ∧ m' ≤ m + 1 ∧ no' ≤ no + 4) ∧ Turns (recvC i) col col' w w'
abbrev pairV (R Q : Nat) : Array Value := #[.pointer (some ⟨R, 0, none⟩), .pointer (some ⟨Q, 0, none⟩)]
abbrev opV (k on n : Int) (d : ByteArray) (cmd : Int) (es cs os : Value) : Array Value := #[.int .i64 k, .int .i64 on, .int .i64 n, .string d, .int .i64 cmd, es, cs, os]
abbrev boxed2 (w : World) (R Q : Nat) (k on n : Int) (d : ByteArray) (cmd : Int) (es cs os : Value) : World := (w.alloc (.cells (pairV R Q) 97)).alloc (.cells (opV k on n d cmd es cs os) 93)
theorem boxed2_turn (col : Col) (w : World) (R Q : Nat) (k on n : Int) (d : ByteArray) (cmd : Int) (es cs os : Value) : Turns (fun _ => False) col (paint col w.heap.size 0) w (boxed2 w R Q k on n d cmd es cs os) := Turns.below 0 (((Grows.refl w).alloc _).alloc _).below
theorem boxed2_pair (w : World) (R Q : Nat) (k on n : Int) (d : ByteArray) (cmd : Int) (es cs os : Value) : Blk (boxed2 w R Q k on n d cmd es cs os) w.heap.size (pairV R Q) 97 := (Blk.new w _ _).alloc _
theorem boxed2_op (w : World) (R Q : Nat) (k on n : Int) (d : ByteArray) (cmd : Int) (es cs os : Value) : Blk (boxed2 w R Q k on n d cmd es cs os) (w.heap.size + 1) (opV k on n d cmd es cs os) 93 := by
  have := Blk.new (w.alloc (.cells (pairV R Q) 97)) (opV k on n d cmd es cs os) 93
  simpa only [World.size_alloc] using this

set_option maxRecDepth 100000 in
set_option maxHeartbeats 4000000 in
theorem changeT_core {i Wd Bk R Q : Nat} {on n : Int} {d : ByteArray} {cmd : Int} {es cs os : Value} {costs : List Int} {m : Int} {nr no ni np : Nat} {col : Col} {w : World} (M1 : Value → World → Prop) (M2 : Value → Int → World → Prop)
    (hP : Calls Tryz.prog 16 #[.pointer (some ⟨R, 0, none⟩), .int .i64 n] (boxed2 w R Q 3 on n d cmd es cs os) fun e w1 => ∃ ve, e = .returned ve ∧ M1 ve w1)
    (hX : ∀ ve w1, M1 ve w1 → Blk w1 w.heap.size (pairV R Q) 97 ∧ Blk w1 (w.heap.size + 1) (opV 3 on n d cmd es cs os) 93)
    (hQ : ∀ ve w1, M1 ve w1 → Calls Tryz.prog 116 #[.pointer (some ⟨Q, 0, none⟩), .int .i64 n] w1 fun e w2 => ∃ f, e = .returned (.int .i64 f) ∧ M2 ve f w2)
    (hM : ∀ ve f w2, M2 ve f w2 → ErrOk w2 ve (.agg #[.int .i64 f, .int .i64 0, .bool false]) ∧ ∃ col2 L, PrC col2 i w2 R Q costs L ∧ BookN col2 w2 Bk m nr no ni np ∧ Turns (recvC i) col col2 w w2) :
    Calls Tryz.prog 67 #[.pointer (some ⟨Wd, 0, none⟩), .agg (pairV R Q), .agg (opV 3 on n d cmd es cs os)] w fun e w' => e = .returned (.bool true) ∧ Changed i col w Bk R Q costs m nr no ni np w' := by
  have HX := hide hX
  have HQ := hide hQ
  have HM := hide hM
  clear hX hQ hM
  go_enter Tryz.func67, Tryz.ntmps67
  go_wp2_with (first | (go_at_call 16; refine hP.mono ?_; rintro e w1 ⟨ve, rfl, hm1⟩; obtain ⟨hx, ho⟩ := unhide HX ve w1 hm1; have hq := unhide HQ ve w1 hm1; have x1 := (hx.cell 1).trans (show _ = some (.pointer (some ⟨Q, 0, none⟩)) from rfl); have y2 := (ho.cell 2).trans (show _ = some (.int .i64 n) from rfl); clear hP hx ho hm1 HX HQ) | (go_at_call 116; refine hq.mono ?_; rintro e w2 ⟨f, rfl, hm2⟩; obtain ⟨hE, hS⟩ := unhide HM ve f w2 hm2; have HE := hide hE; have HS := hide hS; clear hq hm2 HM hE hS x1 y2) | (go_at_call 65; refine (plain_any _ _).mono ?_; rintro e w3 ⟨rfl, hb3⟩; have HB3 := hide hb3; clear hb3) | (go_at_call 64; refine (unhide HE _ (unhide HB3)).mono ?_; rintro e w4 ⟨rfl, hb4⟩; have HB4 := hide (below_seq (unhide HB3) hb4); clear hb4 HB3))
  go_ret
  obtain ⟨col2, L, h1, h2, h3⟩ := unhide HS
  have ht : Turns (fun _ => False) col2 (paint col2 w2.heap.size 0) w2 w4 := Turns.below 0 (unhide HB4)
  exact ⟨rfl, _, L, m, no, h1.turn ht id id, h2.turn ht id (fun _ _ => id), ⟨by omega, by omega, by omega⟩, h3.trans (ht.mono (fun _ h => h.elim))⟩

set_option maxRecDepth 100000 in
set_option maxHeartbeats 4000000 in
theorem changeD_core {i Wd Bk R Q : Nat} {on n : Int} {d : ByteArray} {cmd : Int} {es cs os : Value} {costs : List Int} {m : Int} {nr no ni np : Nat} {col : Col} {w : World} (M1 : Value → World → Prop) (M2 : Value → Int → World → Prop)
    (hP : Calls Tryz.prog 26 #[.pointer (some ⟨R, 0, none⟩), .int .i64 n] (boxed2 w R Q 4 on n d cmd es cs os) fun e w1 => ∃ ve, e = .returned ve ∧ M1 ve w1)
    (hX : ∀ ve w1, M1 ve w1 → Blk w1 w.heap.size (pairV R Q) 97 ∧ Blk w1 (w.heap.size + 1) (opV 4 on n d cmd es cs os) 93)
    (hQ : ∀ ve w1, M1 ve w1 → Calls Tryz.prog 117 #[.pointer (some ⟨Q, 0, none⟩), .int .i64 n] w1 fun e w2 => ∃ f, e = .returned (.int .i64 f) ∧ M2 ve f w2)
    (hM : ∀ ve f w2, M2 ve f w2 → ErrOk w2 ve (.agg #[.int .i64 f, .int .i64 0, .bool false]) ∧ ∃ col2 L, PrC col2 i w2 R Q costs L ∧ BookN col2 w2 Bk m nr no ni np ∧ Turns (recvC i) col col2 w w2) :
    Calls Tryz.prog 67 #[.pointer (some ⟨Wd, 0, none⟩), .agg (pairV R Q), .agg (opV 4 on n d cmd es cs os)] w fun e w' => e = .returned (.bool true) ∧ Changed i col w Bk R Q costs m nr no ni np w' := by
  have HX := hide hX
  have HQ := hide hQ
  have HM := hide hM
  clear hX hQ hM
  go_enter Tryz.func67, Tryz.ntmps67
  go_wp2_with (first | (go_at_call 26; refine hP.mono ?_; rintro e w1 ⟨ve, rfl, hm1⟩; obtain ⟨hx, ho⟩ := unhide HX ve w1 hm1; have hq := unhide HQ ve w1 hm1; have x1 := (hx.cell 1).trans (show _ = some (.pointer (some ⟨Q, 0, none⟩)) from rfl); have y2 := (ho.cell 2).trans (show _ = some (.int .i64 n) from rfl); clear hP hx ho hm1 HX HQ) | (go_at_call 117; refine hq.mono ?_; rintro e w2 ⟨f, rfl, hm2⟩; obtain ⟨hE, hS⟩ := unhide HM ve f w2 hm2; have HE := hide hE; have HS := hide hS; clear hq hm2 HM hE hS x1 y2) | (go_at_call 65; refine (plain_any _ _).mono ?_; rintro e w3 ⟨rfl, hb3⟩; have HB3 := hide hb3; clear hb3) | (go_at_call 64; refine (unhide HE _ (unhide HB3)).mono ?_; rintro e w4 ⟨rfl, hb4⟩; have HB4 := hide (below_seq (unhide HB3) hb4); clear hb4 HB3))
  go_ret
  obtain ⟨col2, L, h1, h2, h3⟩ := unhide HS
  have ht : Turns (fun _ => False) col2 (paint col2 w2.heap.size 0) w2 w4 := Turns.below 0 (unhide HB4)
  exact ⟨rfl, _, L, m, no, h1.turn ht id id, h2.turn ht id (fun _ _ => id), ⟨by omega, by omega, by omega⟩, h3.trans (ht.mono (fun _ h => h.elim))⟩

variable {i Wd Bk R Q : Nat} {on n : Int} {d : ByteArray} {cmd : Int} {es cs os : Value} {pv vv : Value} {costs : List Int} {L : List Rw} {m : Int} {nr no ni np : Nat} {col : Col} {w : World}
/-- Nothing turns but what is said. -/
theorem same_core (hp : PrC col i w R Q costs L) (hb : BookN col w Bk m nr no ni np) {w2 : World} (ht : Turns (fun _ => False) col (paint col w.heap.size 0) w w2) : ∃ col2 L, PrC col2 i w2 R Q costs L ∧ BookN col2 w2 Bk m nr no ni np ∧ Turns (recvC i) col col2 w w2 :=
  ⟨_, L, hp.turn ht id id, hb.turn ht id (fun _ _ => id), ht.mono (fun _ h => h.elim)⟩

theorem changeT_any (hp : PrC col i w R Q costs L) (hb : BookN col w Bk m nr no ni np) (hi : i ≤ 4) :
    Calls Tryz.prog 67 #[.pointer (some ⟨Wd, 0, none⟩), .agg (pairV R Q), .agg (opV 3 on n d cmd es cs os)] w fun e w' => e = .returned (.bool true) ∧ Changed i col w Bk R Q costs m nr no ni np w' := by
  have ht0 := boxed2_turn col w R Q 3 on n d cmd es cs os
  have hbl : Below w.heap.size w (boxed2 w R Q 3 on n d cmd es cs os) := (((Grows.refl w).alloc _).alloc _).below
  have hbp := boxed2_pair w R Q 3 on n d cmd es cs os
  have hbo := boxed2_op w R Q 3 on n d cmd es cs os
  by_cases hn : n < 0 ∨ 1000 < n
  · refine changeT_core (fun ve w1 => ve = .iface 102 (.int .i64 9) ∧ Below (boxed2 w R Q 3 on n d cmd es cs os).heap.size (boxed2 w R Q 3 on n d cmd es cs os) w1) (fun ve f w2 => ve = .iface 102 (.int .i64 9) ∧ f = 9 ∧ Below (boxed2 w R Q 3 on n d cmd es cs os).heap.size (boxed2 w R Q 3 on n d cmd es cs os) w2) ?_ ?_ ?_ ?_
    · exact (tick_bad R n _ hn).mono fun e w1 ⟨he, hb1⟩ => ⟨_, he, rfl, hb1⟩
    · rintro ve w1 ⟨_, hb1⟩
      exact ⟨hbp.below hb1 hbp.lt, hbo.below hb1 hbo.lt⟩
    · rintro ve w1 ⟨rfl, hb1⟩
      exact (tickRef_bad Q n w1 hn).mono fun e w2 ⟨he, e2⟩ => ⟨9, he, rfl, rfl, by rw [e2]; exact hb1⟩
    · rintro ve f w2 ⟨rfl, rfl, hb2⟩
      exact ⟨ErrOk.errno w2 (by decide), same_core hp hb (Turns.below 0 (below_seq hbl hb2))⟩
  · obtain ⟨k, rfl⟩ : ∃ k : Nat, n = k := ⟨n.toNat, by omega⟩
    have hk : k ≤ 1000 := by omega
    obtain ⟨V, cv, rv, cv', lv, a, b, ht, hc⟩ := hp
    have a0 := a.turn ht0 id
    have b0 := b.turn ht0 id
    have hb0 := hb.turn ht0 id (fun _ _ => id)
    have p0 : BlkC (paint col w.heap.size 0) 0 _ _ _ _ := ⟨hbp, paint_new (Nat.le_refl _)⟩
    have o0 : BlkC (paint col w.heap.size 0) 0 _ _ _ _ := ⟨hbo, paint_new (by omega)⟩
    generalize paint col w.heap.size 0 = col0 at *
    refine changeT_core (fun ve w1 => ve = .nilIface ∧ ∃ V' rv' col1, RtrC col1 (10 + 2 * i) w1 R costs (laterL k L) V' cv rv' ∧ Turns (· = 10 + 2 * i) col0 col1 (boxed2 w R Q 3 on k d cmd es cs os) w1)
      (fun ve f w2 => ve = .nilIface ∧ f = 0 ∧ ∃ V' rv' lv' col2, RtrC col2 (10 + 2 * i) w2 R costs (laterL k L) V' cv rv' ∧ RefC col2 (11 + 2 * i) w2 Q costs (laterL k L) cv' lv' ∧ Turns (fun x => x = 10 + 2 * i ∨ x = 11 + 2 * i) col0 col2 (boxed2 w R Q 3 on k d cmd es cs os) w2) ?_ ?_ ?_ ?_
    · exact (tickP a0 ht hk).mono fun e w1 ⟨he, V', rv', h1, t1⟩ => ⟨_, he, rfl, V', rv', _, h1, t1⟩
    · rintro ve w1 ⟨_, V', rv', col1, h1, t1⟩
      exact ⟨(p0.turn t1 (by omega)).1, (o0.turn t1 (by omega)).1⟩
    · rintro ve w1 ⟨rfl, V', rv', col1, h1, t1⟩
      exact (tickQ (b0.turn t1 (by omega)) ht hk).mono fun e w2 ⟨he, lv', h2, t2⟩ => ⟨0, he, rfl, rfl, V', rv', lv', _, h1.turn t2 (by omega), h2, (t1.mono (fun x hx => .inl hx)).trans (t2.mono (fun x hx => .inr hx))⟩
    · rintro ve f w2 ⟨rfl, rfl, V', rv', lv', col2, h1, h2, t2⟩
      exact ⟨ErrOk.is (x := none) rfl, col2, _, ⟨V', cv, rv', cv', lv', h1, h2, ht.later k, hc⟩, hb0.turn t2 (by omega) (fun x hx => by omega), (ht0.mono (fun _ h => h.elim)).trans (t2.mono (fun x hx => by unfold recvC; omega))⟩

theorem changeD_any (hp : PrC col i w R Q costs L) (hb : BookN col w Bk m nr no ni np) (hi : i ≤ 4) :
    Calls Tryz.prog 67 #[.pointer (some ⟨Wd, 0, none⟩), .agg (pairV R Q), .agg (opV 4 on n d cmd es cs os)] w fun e w' => e = .returned (.bool true) ∧ Changed i col w Bk R Q costs m nr no ni np w' := by
  have ht0 := boxed2_turn col w R Q 4 on n d cmd es cs os
  have hbl : Below w.heap.size w (boxed2 w R Q 4 on n d cmd es cs os) := (((Grows.refl w).alloc _).alloc _).below
  have hbp := boxed2_pair w R Q 4 on n d cmd es cs os
  have hbo := boxed2_op w R Q 4 on n d cmd es cs os
  by_cases hn : n < 0 ∨ (costs.length : Int) ≤ n
  · obtain ⟨V, cv, rv, cv', lv, a, b, ht, hc⟩ := id hp
    obtain ⟨ac, cc, rfl⟩ := ownsRow_slice a.costs.1
    obtain ⟨ac', cc', rfl⟩ := ownsRow_slice b.costs.1
    refine changeD_core (fun ve w1 => ve = .iface 102 (.int .i64 2) ∧ Below (boxed2 w R Q 4 on n d cmd es cs os).heap.size (boxed2 w R Q 4 on n d cmd es cs os) w1) (fun ve f w2 => ve = .iface 102 (.int .i64 2) ∧ f = 2 ∧ Below (boxed2 w R Q 4 on n d cmd es cs os).heap.size (boxed2 w R Q 4 on n d cmd es cs os) w2) ?_ ?_ ?_ ?_
    · exact (down_bad R n ac costs.length cc _ (((a.turn ht0 id).blk.1.cell 0).trans rfl) hn).mono fun e w1 ⟨he, hb1⟩ => ⟨_, he, rfl, hb1⟩
    · rintro ve w1 ⟨_, hb1⟩
      exact ⟨hbp.below hb1 hbp.lt, hbo.below hb1 hbo.lt⟩
    · rintro ve w1 ⟨rfl, hb1⟩
      exact (downRef_bad Q n ac' costs.length cc' w1 (((b.turn (Turns.below 0 (below_seq hbl hb1) : Turns (fun _ => False) col _ w w1) id).blk.1.cell 0).trans rfl) hn).mono fun e w2 ⟨he, e2⟩ => ⟨2, he, rfl, rfl, by rw [e2]; exact hb1⟩
    · rintro ve f w2 ⟨rfl, rfl, hb2⟩
      exact ⟨ErrOk.errno w2 (by decide), same_core hp hb (Turns.below 0 (below_seq hbl hb2))⟩
  · obtain ⟨k, rfl⟩ : ∃ k : Nat, n = k := ⟨n.toNat, by omega⟩
    have hk : k < costs.length := by omega
    obtain ⟨V, cv, rv, cv', lv, a, b, ht, hc⟩ := hp
    have a0 := a.turn ht0 id
    have b0 := b.turn ht0 id
    have hb0 := hb.turn ht0 id (fun _ _ => id)
    have p0 : BlkC (paint col w.heap.size 0) 0 _ _ _ _ := ⟨hbp, paint_new (Nat.le_refl _)⟩
    have o0 : BlkC (paint col w.heap.size 0) 0 _ _ _ _ := ⟨hbo, paint_new (by omega)⟩
    generalize paint col w.heap.size 0 = col0 at *
    refine changeD_core (fun ve w1 => ve = .nilIface ∧ ∃ V' rv' col1, RtrC col1 (10 + 2 * i) w1 R costs (lostL k L) V' cv rv' ∧ Turns (· = 10 + 2 * i) col0 col1 (boxed2 w R Q 4 on k d cmd es cs os) w1)
      (fun ve f w2 => ve = .nilIface ∧ f = 0 ∧ ∃ V' rv' lv' col2, RtrC col2 (10 + 2 * i) w2 R costs (lostL k L) V' cv rv' ∧ RefC col2 (11 + 2 * i) w2 Q costs (lostL k L) cv' lv' ∧ Turns (fun x => x = 10 + 2 * i ∨ x = 11 + 2 * i) col0 col2 (boxed2 w R Q 4 on k d cmd es cs os) w2) ?_ ?_ ?_ ?_
    · exact (downP a0 ht hk).mono fun e w1 ⟨he, V', rv', h1, t1⟩ => ⟨_, he, rfl, V', rv', _, h1, t1⟩
    · rintro ve w1 ⟨_, V', rv', col1, h1, t1⟩
      exact ⟨(p0.turn t1 (by omega)).1, (o0.turn t1 (by omega)).1⟩
    · rintro ve w1 ⟨rfl, V', rv', col1, h1, t1⟩
      exact (downQ (b0.turn t1 (by omega)) ht hk).mono fun e w2 ⟨he, lv', h2, t2⟩ => ⟨0, he, rfl, rfl, V', rv', lv', _, h1.turn t2 (by omega), h2, (t1.mono (fun x hx => .inl hx)).trans (t2.mono (fun x hx => .inr hx))⟩
    · rintro ve f w2 ⟨rfl, rfl, V', rv', lv', col2, h1, h2, t2⟩
      exact ⟨ErrOk.is (x := none) rfl, col2, _, ⟨V', cv, rv', cv', lv', h1, h2, ht.lost k, hc⟩, hb0.turn t2 (by omega) (fun x hx => by omega), (ht0.mono (fun _ h => h.elim)).trans (t2.mono (fun x hx => by unfold recvC; omega))⟩

end Go.Proofs.YtdnpeefnobjfaaaGreatDoor

/- milepostlaw's changes: what a router is told. -/
namespace Go.Proofs.YtdnpeefnobjfaaaGreatDoor
open Go.RowKit Go.Shelf
attribute [local go_sem ↓] Go.wp_at_zero Go.wp_at_succ

theorem firstErr_ne {l : List Ent} {k : Int} {x : Int × Int} (h : firstErr l k = some x) : x.1 ≠ 0 := by
  induction l generalizing k with
  | nil => simp [firstErr] at h
  | cons e r ih =>
    unfold firstErr at h
    split at h
    · exact ih h
    · rename_i hne
      obtain rfl := Option.some.inj h
      exact hne
theorem encErr_ne {cmd : Int} {l : List Ent} {x : Int × Int} (h : encErr cmd l = some x) : x.1 ≠ 0 := by
  unfold encErr at h
  split at h
  · obtain rfl := Option.some.inj h; decide
  · split at h
    · obtain rfl := Option.some.inj h; decide
    · exact firstErr_ne h
theorem enc_small {cmd : Int} {l : List Ent} (h : encErr cmd l = none) (hok : entsOk l) : (strB (encOut cmd l)).size ≤ 9223372036854775807 := by
  rw [strB_size, encOut_none h]
  have hd := (reads h hok).1
  cases hb : sizeB (encBytes cmd l).length
  · simp [decErr, hb] at hd
  · have := sizeB_facts hb
    omega

variable {i Wd Bk R Q : Nat} {on n : Int} {d : ByteArray} {cmd : Int} {es cs os : Value} {pv vv : Value} {costs : List Int} {L : List Rw} {m : Int} {nr no ni np : Nat} {col : Col} {w : World}
theorem Recvd.changed {w0 w' : World} {col0 : Col} (h : Recvd i col0 w0 Bk R Q costs m nr no ni np w') (ht : Turns (fun _ => False) col col0 w w0) : Changed i col w Bk R Q costs m nr no ni np w' := by
  obtain ⟨col', L', h1, h2, h3⟩ := h
  exact ⟨col', L', m + 1, no + 4, h1, h2, ⟨by omega, by omega, by omega⟩, (ht.mono (fun _ h => h.elim)).trans h3⟩

set_option maxRecDepth 100000 in
set_option maxHeartbeats 4000000 in
theorem changeR_any (hwd : WdC col w Wd Bk pv vv) (hp : PrC col i w R Q costs L) (hb : BookN col w Bk m nr no ni np) (het : etHolds w) (hi : i ≤ 4) (hm0 : 0 ≤ m) (hm1 : m ≤ 100000000000000000) (hit : ((no + 4) + (no + 4) / 4 + 192) * 24 ≤ 281474976710656) (hs : d.size ≤ 9223372036854775807) :
    Calls Tryz.prog 67 #[.pointer (some ⟨Wd, 0, none⟩), .agg (pairV R Q), .agg (opV 2 on n d cmd es cs os)] w fun e w' => e = .returned (.bool true) ∧ Changed i col w Bk R Q costs m nr no ni np w' := by
  have ht0 := boxed2_turn col w R Q 2 on n d cmd es cs os
  have hbl : Below w.heap.size w (boxed2 w R Q 2 on n d cmd es cs os) := (((Grows.refl w).alloc _).alloc _).below
  have hR := recvLaw_any (n := n) (s := d) (hwd.turn ht0 id) (hp.turn ht0 id id) (hb.turn ht0 id (fun _ _ => id)) (het.below hbl (World.block_lt_of_cell? w _ het)) hi hm0 hm1 hit hs
  have HT := hide ht0
  clear hwd hp hb het ht0 hbl hit
  go_enter Tryz.func67, Tryz.ntmps67
  go_wp2_with (go_at_call 115; refine hR.mono ?_; rintro e w1 ⟨rfl, h1⟩; have H1 := hide h1; clear h1 hR)
  go_ret
  exact ⟨rfl, (unhide H1).changed (unhide HT)⟩

set_option maxRecDepth 100000 in
set_option maxHeartbeats 4000000 in
theorem changeE_bad {ae : Option Addr} {ce : Nat} {l : List Ent} {x : Int × Int} (hp : PrC col i w R Q costs L) (hb : BookN col w Bk m nr no ni np) (hok : entsOk l) (hse : entSlice w ae l) (hx : encErr cmd l = some x) :
    Calls Tryz.prog 67 #[.pointer (some ⟨Wd, 0, none⟩), .agg (pairV R Q), .agg (opV 1 on n d cmd (.slice ae l.length ce) cs os)] w fun e w' => e = .returned (.bool true) ∧ Changed i col w Bk R Q costs m nr no ni np w' := by
  have hbl : Below w.heap.size w (boxed2 w R Q 1 on n d cmd (.slice ae l.length ce) cs os) := (((Grows.refl w).alloc _).alloc _).below
  have hE := rEncode_any cmd ae l.length ce l _ hok rfl (entSlice_below hse hbl)
  obtain ⟨xe, xn⟩ := x
  have hne := encErr_ne hx
  rw [hx] at hE
  simp only [refF] at hE
  have hne' : (xe != 0) = true := by simpa using hne
  have HBL := hide hbl
  have HP := hide hp
  have HB := hide hb
  clear hp hb hok hse hx hbl hne
  go_enter Tryz.func67, Tryz.ntmps67
  go_wp2_with (go_at_call 114; refine hE.mono ?_; rintro e w1 ⟨rfl, hb1⟩; have HB1 := hide (below_seq (unhide HBL) (below_seq hb1 (below_new w1 (.cells #[.int .i64 xe, .int .i64 xn, .bool true] 150)))); clear hE hb1)
  go_ret
  obtain ⟨col2, L2, h1, h2, h3⟩ := same_core (unhide HP) (unhide HB) (Turns.below 0 (unhide HB1))
  exact ⟨rfl, col2, L2, m, no, h1, h2, ⟨by omega, by omega, by omega⟩, h3⟩

set_option maxRecDepth 100000 in
set_option maxHeartbeats 4000000 in
theorem changeE_good {ae : Option Addr} {ce : Nat} {l : List Ent} (hwd : WdC col w Wd Bk pv vv) (hp : PrC col i w R Q costs L) (hb : BookN col w Bk m nr no ni np) (het : etHolds w) (hi : i ≤ 4) (hm0 : 0 ≤ m) (hm1 : m ≤ 100000000000000000) (hit : ((no + 4) + (no + 4) / 4 + 192) * 24 ≤ 281474976710656) (hok : entsOk l) (hse : entSlice w ae l) (hx : encErr cmd l = none) :
    Calls Tryz.prog 67 #[.pointer (some ⟨Wd, 0, none⟩), .agg (pairV R Q), .agg (opV 1 on n d cmd (.slice ae l.length ce) cs os)] w fun e w' => e = .returned (.bool true) ∧ Changed i col w Bk R Q costs m nr no ni np w' := by
  have hbl : Below w.heap.size w (boxed2 w R Q 1 on n d cmd (.slice ae l.length ce) cs os) := (((Grows.refl w).alloc _).alloc _).below
  have hE := rEncode_any cmd ae l.length ce l _ hok rfl (entSlice_below hse hbl)
  have hsm := enc_small hx hok
  rw [hx] at hE
  simp only [refF] at hE
  generalize strB (encOut cmd l) = s at *
  have hR := fun (w1 : World) (h : Below w.heap.size w w1) => recvLaw_any (n := n) (s := s) (hwd.turn (Turns.below 0 h : Turns (fun _ => False) col _ w w1) id) (hp.turn (Turns.below 0 h : Turns (fun _ => False) col _ w w1) id id) (hb.turn (Turns.below 0 h : Turns (fun _ => False) col _ w w1) id (fun _ _ => id)) (het.below h (World.block_lt_of_cell? w _ het)) hi hm0 hm1 hit hsm
  have hpx := boxed2_pair w R Q 1 on n d cmd (.slice ae l.length ce) cs os
  have hox := boxed2_op w R Q 1 on n d cmd (.slice ae l.length ce) cs os
  have HPX := hide hpx
  have HOX := hide hox
  have HR := hide hR
  have HBL := hide hbl
  clear hwd hp hb het hit hok hse hx hbl hR hpx hox hsm
  go_enter Tryz.func67, Tryz.ntmps67
  go_wp2_with (first | (go_at_call 114; refine hE.mono ?_; rintro e w1 ⟨rfl, hb1⟩; have hb2 := below_seq hb1 (below_new w1 (.cells #[.int .i64 0, .int .i64 0, .bool false] 150)); have p2 := (unhide HPX).below hb2 (unhide HPX).lt; have o2 := (unhide HOX).below hb2 (unhide HOX).lt; have x0 := (p2.cell 0).trans (show _ = some (.pointer (some ⟨R, 0, none⟩)) from rfl); have x1 := (p2.cell 1).trans (show _ = some (.pointer (some ⟨Q, 0, none⟩)) from rfl); have y2 := (o2.cell 2).trans (show _ = some (.int .i64 n) from rfl); have HB2 := hide (below_seq (unhide HBL) hb2); clear hE hb1 hb2 p2 o2) | (go_at_call 115; refine (unhide HR _ (unhide HB2)).mono ?_; rintro e w3 ⟨rfl, h1⟩; have H1 := hide h1; clear h1 x0 x1 y2))
  go_ret
  exact ⟨rfl, (unhide H1).changed (Turns.below 0 (unhide HB2))⟩

end Go.Proofs.YtdnpeefnobjfaaaGreatDoor

/- milepostlaw's step: facts, and pick. -/
namespace Go.Proofs.YtdnpeefnobjfaaaGreatDoor
open Go.RowKit Go.Shelf
attribute [local go_sem ↓] Go.wp_at_zero Go.wp_at_succ

/-- A pair of routers, as the law keeps it. -/
structure Pr where
  R : Nat
  Q : Nat
  costs : List Int
  L : List Rw
def prCells (ps : List Pr) : List Value := ps.flatMap fun p => [.pointer (some ⟨p.R, 0, none⟩), .pointer (some ⟨p.Q, 0, none⟩)]
theorem prCells_at (ps : List Pr) (k : Nat) (hk : k < ps.length) : (prCells ps)[k * 2]? = some (.pointer (some ⟨ps[k].R, 0, none⟩)) ∧ (prCells ps)[k * 2 + 1]? = some (.pointer (some ⟨ps[k].Q, 0, none⟩)) := by
  induction ps generalizing k with
  | nil => simp at hk
  | cons p O ih =>
    cases k with
    | zero => simp [prCells]
    | succ k =>
      have := ih k (by simpa using hk)
      have e : ∀ j, (prCells (p :: O))[(k + 1) * 2 + j]? = (prCells O)[k * 2 + j]? := fun j => by
        rw [show prCells (p :: O) = [.pointer (some ⟨p.R, 0, none⟩), .pointer (some ⟨p.Q, 0, none⟩)] ++ prCells O by simp [prCells], List.getElem?_append_right (by simp; omega)]
        congr 1
        simp
        omega
      have e0 := e 0
      simp only [Nat.add_zero] at e0
      rw [e0, e 1]
      simpa using this
theorem prCells_snoc (ps : List Pr) (p : Pr) : prCells (ps ++ [p]) = prCells ps ++ [.pointer (some ⟨p.R, 0, none⟩), .pointer (some ⟨p.Q, 0, none⟩)] := by simp [prCells]
/-- How the law's World stands. -/
structure LawC (col : Col) (w : World) (Wd Bk : Nat) (ps : List Pr) (m : Int) (nr no ni np : Nat) : Prop where
  wd : ∃ pv, WdC col w Wd Bk pv nl ∧ OwnC col 3 w 97 2 pv ps.length (prCells ps)
  each : ∀ i, (h : i < ps.length) → PrC col i w ps[i].R ps[i].Q ps[i].costs ps[i].L
  bk : BookN col w Bk m nr no ni np
  et : etHolds w
  e0 : col 0 = 0
  few : ps.length ≤ 5
theorem etHolds.turn {C : Nat → Prop} {col col' : Col} {w w' : World} (h : etHolds w) (ht : Turns C col col' w w') (hc : ¬ C (col 0)) : etHolds w' :=
  (World.cell?_of_block (a := ⟨0, 0, none⟩) (ht.keep 0 (World.block_lt_of_cell? w _ h) hc)).trans h
theorem LawC.turn {C : Nat → Prop} {col col' : Col} {w w' : World} {Wd Bk : Nat} {ps : List Pr} {m : Int} {nr no ni np : Nat} (h : LawC col w Wd Bk ps m nr no ni np) (ht : Turns C col col' w w') (hc : ∀ x, ¬ C x) : LawC col' w' Wd Bk ps m nr no ni np := by
  obtain ⟨pv, h1, h2⟩ := h.wd
  exact ⟨⟨pv, h1.turn ht (hc _), h2.turn ht (hc _)⟩, fun i hi => (h.each i hi).turn ht (hc _) (hc _), h.bk.turn ht (hc _) (fun x _ => hc x), h.et.turn ht (hc _), (ht.hue 0 (World.block_lt_of_cell? w _ h.et)).trans h.e0, h.few⟩
/-- What a step leaves. -/
def Stepped (col : Col) (w : World) (Wd Bk : Nat) (ps : List Pr) (m : Int) (nr no ni np : Nat) (w' : World) : Prop := ∃ col' ps' m' nr' no', LawC col' w' Wd Bk ps' m' nr' no' ni np ∧ ps'.length = ps.length ∧ (m ≤ m' ∧ m' ≤ m + 2 ∧ nr' ≤ nr + 8 ∧ no' ≤ no + 4) ∧ Turns (· ≠ 0) col col' w w'
/-- One of the pairs has changed. -/
theorem LawC.changed {col : Col} {w w' : World} {Wd Bk i : Nat} {ps : List Pr} {m : Int} {nr no ni np : Nat} (h : LawC col w Wd Bk ps m nr no ni np) (hi : i < ps.length) (hc : Changed i col w Bk ps[i].R ps[i].Q ps[i].costs m nr no ni np w') : Stepped col w Wd Bk ps m nr no ni np w' := by
  obtain ⟨col', L', m', no', h1, h2, h3, h4⟩ := hc
  obtain ⟨pv, w1, w2⟩ := h.wd
  have hfew := h.few
  refine ⟨col', ps.set i ⟨ps[i].R, ps[i].Q, ps[i].costs, L'⟩, m', nr, no', ⟨⟨pv, w1.turn h4 (by unfold recvC; omega), ?_⟩, fun j hj => ?_, h2, h.et.turn h4 (by rw [h.e0]; unfold recvC; omega), (h4.hue 0 (World.block_lt_of_cell? w _ h.et)).trans h.e0, by simpa using h.few⟩, by simp, ⟨h3.1, by omega, by omega, h3.2.2⟩, h4.mono (fun x hx => by unfold recvC at hx; omega)⟩
  · have e : prCells (ps.set i ⟨ps[i].R, ps[i].Q, ps[i].costs, L'⟩) = prCells ps := by
      have : (ps.set i ⟨ps[i].R, ps[i].Q, ps[i].costs, L'⟩).map (fun p => (p.R, p.Q)) = ps.map (fun p => (p.R, p.Q)) := by
        rw [List.map_set]
        apply List.ext_getElem?
        intro k
        rw [List.getElem?_set]
        split
        · rename_i e
          subst e
          simp [hi]
        · rfl
      have key : ∀ l : List Pr, prCells l = (l.map (fun p => (p.R, p.Q))).flatMap fun p => [.pointer (some ⟨p.1, 0, none⟩), .pointer (some ⟨p.2, 0, none⟩)] := fun l => by simp [prCells, List.flatMap_map]
      rw [key, this, ← key]
    rw [e, List.length_set]
    exact w2.turn h4 (by unfold recvC; omega)
  · have hj' : j < ps.length := by simpa using hj
    by_cases e : i = j
    · subst e
      simpa using h1
    · rw [List.getElem_set_ne e]
      exact (h.each j hj').turn h4 (by unfold recvC; omega) (by unfold recvC; omega)
theorem LawC.looked {col : Col} {w w' : World} {Wd Bk : Nat} {ps : List Pr} {m : Int} {nr no ni np : Nat} (h : LawC col w Wd Bk ps m nr no ni np) (hc : Looked col w Bk m nr no ni np w') : Stepped col w Wd Bk ps m nr no ni np w' := by
  obtain ⟨col', h2, h4⟩ := hc
  obtain ⟨pv, w1, w2⟩ := h.wd
  have hfew := h.few
  exact ⟨col', ps, m + 2, nr + 8, no, ⟨⟨pv, w1.turn h4 (by omega), w2.turn h4 (by omega)⟩, fun j hj => (h.each j hj).turn h4 (by omega) (by omega), h2, h.et.turn h4 (by rw [h.e0]; omega), (h4.hue 0 (World.block_lt_of_cell? w _ h.et)).trans h.e0, h.few⟩, rfl, ⟨by omega, by omega, by omega, by omega⟩, h4.mono (fun x hx => by omega)⟩
theorem Stepped.from {col col0 : Col} {w w0 w' : World} {Wd Bk : Nat} {ps : List Pr} {m : Int} {nr no ni np : Nat} (h : Stepped col0 w0 Wd Bk ps m nr no ni np w') (ht : Turns (fun _ => False) col col0 w w0) : Stepped col w Wd Bk ps m nr no ni np w' := by
  obtain ⟨col', ps', m', nr', no', h1, h2, h3, h4⟩ := h
  exact ⟨col', ps', m', nr', no', h1, h2, h3, (ht.mono (fun _ h => h.elim)).trans h4⟩
theorem Stepped.same {col : Col} {w : World} {Wd Bk : Nat} {ps : List Pr} {m : Int} {nr no ni np : Nat} (h : LawC col w Wd Bk ps m nr no ni np) : Stepped col w Wd Bk ps m nr no ni np w :=
  ⟨col, ps, m, nr, no, h, rfl, ⟨by omega, by omega, by omega, by omega⟩, Turns.refl _ _ _⟩

/-- Which of n things. -/
def pickN (c : Int) (n : Nat) : Nat := (if c < 0 then -(c + 1) else c).toNat % n
theorem pickN_lt (c : Int) {n : Nat} (h : 0 < n) : pickN c n < n := Nat.mod_lt _ h
set_option maxHeartbeats 400000 in
theorem pick_any (c : Int) (n : Nat) (hn : 0 < n) (hn5 : n ≤ 5) (hc : -9223372036854775808 ≤ c ∧ c < 9223372036854775808) (w : World) :
    Calls Tryz.prog 66 #[.int .i64 c, .int .i64 n] w fun e w' => e = .returned (.int .i64 (pickN c n)) ∧ w' = w := by
  have hz : ((n : Int) == 0) = false := by simp; omega
  by_cases h0 : c < 0
  · have hd : decide (c < 0) = true := by simp [h0]
    have kw : IntKind.i64.wrap (c + 1) = c + 1 := by rw [IntKind.wrap_i64]; omega
    have kw2 : IntKind.i64.wrap (-(c + 1)) = -(c + 1) := by rw [IntKind.wrap_i64]; omega
    have hr : (-(c + 1)).tmod n = (pickN c n : Int) := by
      unfold pickN
      rw [if_pos h0]
      obtain ⟨k, hk⟩ : ∃ k : Nat, -(c + 1) = k := ⟨(-(c + 1)).toNat, by omega⟩
      rw [hk]
      simp only [Int.toNat_natCast, Int.natCast_emod]
      exact Int.tmod_eq_emod_of_nonneg (by omega)
    have kw3 : IntKind.i64.wrap (pickN c n) = pickN c n := by have := pickN_lt c hn; rw [IntKind.wrap_i64]; omega
    go_enter Tryz.func66, Tryz.ntmps66
    go_wp2
    go_ret
    exact ⟨rfl, rfl⟩
  · have hd : decide (c < 0) = false := by simp; omega
    have hr : c.tmod n = (pickN c n : Int) := by
      unfold pickN
      rw [if_neg h0]
      obtain ⟨k, hk⟩ : ∃ k : Nat, c = k := ⟨c.toNat, by omega⟩
      rw [hk]
      simp only [Int.toNat_natCast, Int.natCast_emod]
      exact Int.tmod_eq_emod_of_nonneg (by omega)
    have kw3 : IntKind.i64.wrap (pickN c n) = pickN c n := by have := pickN_lt c hn; rw [IntKind.wrap_i64]; omega
    go_enter Tryz.func66, Tryz.ntmps66
    go_wp2
    go_ret
    exact ⟨rfl, rfl⟩

end Go.Proofs.YtdnpeefnobjfaaaGreatDoor
