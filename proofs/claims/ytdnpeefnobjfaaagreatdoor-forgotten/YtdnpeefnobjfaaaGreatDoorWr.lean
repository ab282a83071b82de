/- What packet.appendShort, appendWord, appendEntry and Encode write. -/
import Derived.Test.YtdnpeefnobjfaaaGreatDoorChk
namespace Go.Proofs.YtdnpeefnobjfaaaGreatDoor
open Go.RowKit

theorem Tryz.info5 : (Tryz.prog.info? 5).map (fun i => (i.zero, i.size, i.bytes)) = some (some (.int .u8 0), 1, 1) := by kernel_rfl

/-- The bytes of a list as cells. -/
def byteV (c : UInt8) : Value := .int .u8 c.toNat
def cells8 (l : List UInt8) : List Value := l.map byteV
theorem cells8_append (a b : List UInt8) : cells8 (a ++ b) = cells8 a ++ cells8 b := by simp [cells8]
theorem byteV_of (x : Int) : byteV (byteOf x) = .int .u8 (x % 256) := by
  have h0 : 0 ≤ x % 256 := by omega
  have h1 : x % 256 < 256 := by omega
  have e : (((x % 256).toNat % 256 : Nat) : Int) = x % 256 := by omega
  simp [byteV, byteOf, e]
theorem be1 (x : Int) : be 1 x = [byteOf x] := rfl
theorem be2 (x : Int) : be 2 x = [byteOf (x / 256), byteOf x] := rfl
theorem be4 (x : Int) : be 4 x = be 2 (x / 65536) ++ be 2 x := by
  have h1 : x / 256 / 256 = x / 65536 := by omega
  have h2 : x / 65536 / 256 = x / 256 / 256 / 256 := by omega
  simp [be, h1, h2]
theorem be_mod2 (x : Int) : be 2 (x % 65536) = be 2 x := by
  have e1 : byteOf (x % 65536 / 256) = byteOf (x / 256) := by unfold byteOf; congr 2; omega
  have e2 : byteOf (x % 65536) = byteOf x := by unfold byteOf; congr 2; omega
  rw [be2, be2, e1, e2]
theorem cells_be2 (x : Int) (h0 : 0 ≤ x) (h1 : x < 65536) : cells8 (be 2 x) = [.int .u8 (x / 256), .int .u8 (x % 256)] := by
  simp [be2, cells8, byteV_of]; omega

theorem grown_trans {w w1 w2 : World} {r : Option Nat} (h : w.grownBy w1 r) (h2 : w1.grownBy w2 r) : w.grownBy w2 r :=
  ⟨h2.os.trans h.os, h2.tape.trans h.tape, h2.output.trans h.output, Nat.le_trans h.size h2.size, fun k hk hr => (h2.block k (Nat.lt_of_lt_of_le hk h.size) hr).trans (h.block k hk hr)⟩
theorem gcell {W w1 : World} {g : Nat} (hb : W.grownBy w1 (some g)) : (∀ b o, b < W.heap.size → b ≠ g → w1.cell? ⟨b, o, none⟩ = W.cell? ⟨b, o, none⟩) ∧ (∀ b o, b < W.heap.size → b ≠ g → w1.frozen? ⟨b, o, none⟩ = W.frozen? ⟨b, o, none⟩) :=
  ⟨fun b o h hne => World.cell?_of_block (w := W) (a := ⟨b, o, none⟩) (hb.block b h (by simpa using hne)), fun b o h hne => World.frozen?_of_block (w := W) (a := ⟨b, o, none⟩) (hb.block b h (by simpa using hne))⟩

set_option maxHeartbeats 400000 in
theorem appendShort_any (base g n cap : Nat) (xs : List UInt8) (x : Int) (w : World) (hown : w.ownsRow base 5 1 (.slice (some ⟨g, 0, none⟩) n cap) n (cells8 xs)) (h0 : 0 ≤ x) (h1 : x < 65536) (hn : n + 2 ≤ cap) :
    Calls Tryz.prog 175 #[.slice (some ⟨g, 0, none⟩) n cap, .int .u16 x] w fun e w' => e = .returned (.slice (some ⟨g, 0, none⟩) (n + 2) cap) ∧ w'.ownsRow base 5 1 (.slice (some ⟨g, 0, none⟩) (n + 2) cap) (n + 2) (cells8 (xs ++ be 2 x)) ∧ w.grownBy w' (some g) := by
  obtain ⟨i0, hi, hz0, hz1, hz2⟩ := info_parts Tryz.info5
  go_enter Tryz.func175, Tryz.ntmps175
  go_wp2_with (at_builtin; refine wpList_append_fits _ rfl _ _ 226 rfl base 5 i0 1 Tryz.underlying226 hi hz1 g n cap (cells8 xs) rfl (hown.alloc _) ⟨w.heap.size, 0, none⟩ 2 2 [.int .u8 (x / 256), .int .u8 (x % 256)] rfl rfl ?c1 ?c2 hn ?_)
  case c1 =>
    intro j u hj
    match j, hj with
    | 0, hj => simp at hj; subst hj; simp [Addr.add]
    | 1, hj => simp at hj; subst hj; simp [Addr.add]
  case c2 => intro u hu; simp at hu; rcases hu with rfl | rfl <;> rfl
  · intro w1 hown' hgrow
    rw [← cells_be2 x h0 h1, ← cells8_append] at hown'
    have hg := grown_trans (World.grownBy_alloc w _ (some g)) hgrow
    clear hgrow hown
    go_wp2
    go_ret
    exact ⟨rfl, hown', hg⟩

set_option maxHeartbeats 400000 in
theorem appendWord_any (base g n cap : Nat) (xs : List UInt8) (x : Int) (w : World) (hown : w.ownsRow base 5 1 (.slice (some ⟨g, 0, none⟩) n cap) n (cells8 xs)) (h0 : 0 ≤ x) (h1 : x < 4294967296) (hn : n + 4 ≤ cap) :
    Calls Tryz.prog 176 #[.slice (some ⟨g, 0, none⟩) n cap, .int .u32 x] w fun e w' => e = .returned (.slice (some ⟨g, 0, none⟩) (n + 4) cap) ∧ w'.ownsRow base 5 1 (.slice (some ⟨g, 0, none⟩) (n + 4) cap) (n + 4) (cells8 (xs ++ be 4 x)) ∧ w.grownBy w' (some g) := by
  go_enter Tryz.func176, Tryz.ntmps176
  go_wp2_with fail
  refine (appendShort_any base g n cap xs _ _ hown (by omega) (by omega) (by omega)).mono ?_
  rintro e w1 ⟨rfl, hown1, hb1⟩
  go_wp2_with fail
  rw [IntKind.wrap_u16]
  refine (appendShort_any base g (n + 2) cap _ _ _ hown1 (by omega) (by omega) (by omega)).mono ?_
  rintro e w2 ⟨rfl, hown2, hb2⟩
  rw [List.append_assoc, be_mod2, ← be4] at hown2
  go_wp2_with fail
  go_ret
  exact ⟨rfl, hown2, grown_trans hb1 hb2⟩

/-- An entry lies in a box of its own. -/
def boxE (w : World) (H : Nat) (E : Ent) : Prop := w.cell? ⟨H, 0, none⟩ = some (.int .u32 E.addr) ∧ w.cell? ⟨H, 1, none⟩ = some (.int .i64 E.len) ∧ w.cell? ⟨H, 2, none⟩ = some (.int .i64 E.tag) ∧ w.cell? ⟨H, 3, none⟩ = some (.int .i64 E.met)
theorem boxE_new (w : World) (E : Ent) : boxE (w.alloc (.cells #[.int .u32 E.addr, .int .i64 E.len, .int .i64 E.tag, .int .i64 E.met] 42)) w.heap.size E := by simp [boxE]
theorem boxE_grown {w w1 : World} {H g : Nat} {E : Ent} (h : boxE w H E) (hb : w.grownBy w1 (some g)) (hne : H ≠ g) : boxE w1 H E :=
  ⟨hb.cell h.1 (by simpa using hne), hb.cell h.2.1 (by simpa using hne), hb.cell h.2.2.1 (by simpa using hne), hb.cell h.2.2.2 (by simpa using hne)⟩
theorem boxE_below {w w1 : World} {H : Nat} {E : Ent} (h : boxE w H E) (hb : Below w.heap.size w w1) : boxE w1 H E := by
  have hl : H < w.heap.size := World.block_lt_of_cell? w _ h.1
  exact ⟨(hb.cell (p := ⟨H, 0, none⟩) hl).trans h.1, (hb.cell (p := ⟨H, 1, none⟩) hl).trans h.2.1, (hb.cell (p := ⟨H, 2, none⟩) hl).trans h.2.2.1, (hb.cell (p := ⟨H, 3, none⟩) hl).trans h.2.2.2⟩

set_option maxHeartbeats 800000 in
theorem appendEntry_any (base g n cap : Nat) (xs : List UInt8) (E : Ent) (w : World) (hown : w.ownsRow base 5 1 (.slice (some ⟨g, 0, none⟩) n cap) n (cells8 xs)) (hok : 0 ≤ E.addr ∧ E.addr < 4294967296) (hz : entErr E = 0) (hn : n + 20 ≤ cap) :
    Calls Tryz.prog 137 #[.slice (some ⟨g, 0, none⟩) n cap, .agg #[.int .u32 E.addr, .int .i64 E.len, .int .i64 E.tag, .int .i64 E.met]] w fun e w' => e = .returned (.slice (some ⟨g, 0, none⟩) (n + 20) cap) ∧ w'.ownsRow base 5 1 (.slice (some ⟨g, 0, none⟩) (n + 20) cap) (n + 20) (cells8 (xs ++ entBytes E)) ∧ w.grownBy w' (some g) := by
  obtain ⟨hp, ht, hm⟩ := entErr_zero hz
  have hl := pfx_len hp
  simp only [tagB, metB, Bool.and_eq_true, decide_eq_true_eq] at ht hm
  obtain ⟨ht0, ht1⟩ := ht
  obtain ⟨hm0, hm1⟩ := hm
  obtain ⟨hl0, hl1⟩ := hl
  obtain ⟨ha0, ha1⟩ := hok
  clear hz hp
  have hgl : g < w.heap.size := (hown.lt g rfl).2
  have hp0 := pow_pos' (32 - E.len).toNat
  have hp1 := pow_le32 (32 - E.len).toNat (by omega)
  go_enter Tryz.func137, Tryz.ntmps137
  go_wp2_with fail
  refine (appendShort_any base g n cap xs _ _ (hown.alloc _) (by omega) (by omega) (by omega)).mono ?_
  rintro e w1 ⟨rfl, hown1, hb1⟩
  have hne : w.heap.size ≠ g := by omega
  have x1 := boxE_grown (boxE_new w E) hb1 hne
  have g1 := grown_trans (World.grownBy_alloc w _ (some g)) hb1
  clear hb1 hown
  obtain ⟨c0, c1, c2, c3⟩ := id x1
  go_wp2_with fail
  refine (appendShort_any base g (n + 2) cap _ _ _ hown1 (by omega) (by omega) (by omega)).mono ?_
  rintro e w2 ⟨rfl, hown2, hb2⟩
  have x2 := boxE_grown x1 hb2 hne
  have g2 := grown_trans g1 hb2
  clear c0 c1 c2 c3 x1 g1 hb2 hown1
  obtain ⟨c0, c1, c2, c3⟩ := id x2
  go_wp2_with fail
  refine (appendWord_any base g (n + 4) cap _ _ _ hown2 (by omega) (by omega) (by omega)).mono ?_
  rintro e w3 ⟨rfl, hown3, hb3⟩
  have x3 := boxE_grown x2 hb3 hne
  have g3 := grown_trans g2 hb3
  clear c0 c1 c2 c3 x2 g2 hb3 hown2
  obtain ⟨c0, c1, c2, c3⟩ := id x3
  go_wp2_with fail
  refine (mask_any _ _ _ hl0 hl1).mono ?_
  rintro e w3' ⟨rfl, rfl⟩
  go_wp2_with fail
  refine (appendWord_any base g (n + 8) cap _ _ _ (hown3.alloc _) (by omega) (by omega) (by omega)).mono ?_
  rintro e w4 ⟨rfl, hown4, hb4⟩
  have hb4' := grown_trans (World.grownBy_alloc w3 _ (some g)) hb4
  have x4 := boxE_grown x3 hb4' hne
  have g4 := grown_trans g3 hb4'
  clear c0 c1 c2 c3 x3 g3 hb4 hb4' hown3
  obtain ⟨c0, c1, c2, c3⟩ := id x4
  go_wp2_with fail
  refine (appendWord_any base g (n + 12) cap _ _ _ hown4 (by omega) (by omega) (by omega)).mono ?_
  rintro e w5 ⟨rfl, hown5, hb5⟩
  have x5 := boxE_grown x4 hb5 hne
  have g5 := grown_trans g4 hb5
  clear c0 c1 c2 c3 x4 g4 hb5 hown4
  obtain ⟨c0, c1, c2, c3⟩ := id x5
  go_wp2_with fail
  refine (appendWord_any base g (n + 16) cap _ _ _ hown5 (by omega) (by omega) (by omega)).mono ?_
  rintro e w6 ⟨rfl, hown6, hb6⟩
  have g6 := grown_trans g5 hb6
  clear c0 c1 c2 c3 x5 g5 hb6 hown5
  have hfin : w6.ownsRow base 5 1 (.slice (some ⟨g, 0, none⟩) (n + 20) cap) (n + 20) (cells8 (xs ++ entBytes E)) := by
    simpa [entBytes, List.append_assoc] using hown6
  clear hown6
  go_wp2_with fail
  go_ret
  exact ⟨rfl, hfin, g6⟩

end Go.Proofs.YtdnpeefnobjfaaaGreatDoor
