/- What packet.appendShort, appendWord, appendEntry and Encode write. -/
import Derived.Test.YtdnpeefnobjfaaaGreatDoorPfxM
import Derived.Lib.AppendStr
namespace Go.Proofs.YtdnpeefnobjfaaaGreatDoor
open Go.RowKit

theorem Tryz.info5 : (Tryz.prog.info? 5).map (fun i => (i.zero, i.size, i.bytes)) = some (some (.int .u8 0), 1, 1) := by kernel_rfl

/-- The bytes of a list as cells. -/
def byteV (c : UInt8) : Value := .int .u8 c.toNat
def cells8 (l : List UInt8) : List Value := l.map byteV
theorem cells8_append (a b : List UInt8) : cells8 (a ++ b) = cells8 a ++ cells8 b := by simp [cells8]
theorem byteV_of (x : Int) : byteV (byteOf x) = .int .u8 (x % 256) := by
  have h0 : 0 ≤ x % 256 := by omega
  have h1 : x % 256 < 256 := by omega
  have e : (((x % 256).toNat % 256 : Nat) : Int) = x % 256 := by omega
  simp [byteV, byteOf, e]
theorem be1 (x : Int) : be 1 x = [byteOf x] := rfl
theorem be2 (x : Int) : be 2 x = [byteOf (x / 256), byteOf x] := rfl
theorem be4 (x : Int) : be 4 x = be 2 (x / 65536) ++ be 2 x := by
  have h1 : x / 256 / 256 = x / 65536 := by omega
  have h2 : x / 65536 / 256 = x / 256 / 256 / 256 := by omega
  simp [be, h1, h2]
theorem be_mod2 (x : Int) : be 2 (x % 65536) = be 2 x := by
  have e1 : byteOf (x % 65536 / 256) = byteOf (x / 256) := by unfold byteOf; congr 2; omega
  have e2 : byteOf (x % 65536) = byteOf x := by unfold byteOf; congr 2; omega
  rw [be2, be2, e1, e2]
theorem cells_be2 (x : Int) (h0 : 0 ≤ x) (h1 : x < 65536) : cells8 (be 2 x) = [.int .u8 (x / 256), .int .u8 (x % 256)] := by
  simp [be2, cells8, byteV_of]; omega

theorem grown_trans {w w1 w2 : World} {r : Option Nat} (h : w.grownBy w1 r) (h2 : w1.grownBy w2 r) : w.grownBy w2 r :=
  ⟨h2.os.trans h.os, h2.tape.trans h.tape, h2.output.trans h.output, Nat.le_trans h.size h2.size, fun k hk hr => (h2.block k (Nat.lt_of_lt_of_le hk h.size) hr).trans (h.block k hk hr)⟩
theorem gcell {W w1 : World} {g : Nat} (hb : W.grownBy w1 (some g)) : (∀ b o, b < W.heap.size → b ≠ g → w1.cell? ⟨b, o, none⟩ = W.cell? ⟨b, o, none⟩) ∧ (∀ b o, b < W.heap.size → b ≠ g → w1.frozen? ⟨b, o, none⟩ = W.frozen? ⟨b, o, none⟩) :=
  ⟨fun b o h hne => World.cell?_of_block (w := W) (a := ⟨b, o, none⟩) (hb.block b h (by simpa using hne)), fun b o h hne => World.frozen?_of_block (w := W) (a := ⟨b, o, none⟩) (hb.block b h (by simpa using hne))⟩

set_option maxHeartbeats 400000 in
theorem appendShort_any (base g n cap : Nat) (xs : List UInt8) (x : Int) (w : World) (hown : w.ownsRow base 5 1 (.slice (some ⟨g, 0, none⟩) n cap) n (cells8 xs)) (h0 : 0 ≤ x) (h1 : x < 65536) (hn : n + 2 ≤ cap) :
    Calls Tryz.prog 175 #[.slice (some ⟨g, 0, none⟩) n cap, .int .u16 x] w fun e w' => e = .returned (.slice (some ⟨g, 0, none⟩) (n + 2) cap) ∧ w'.ownsRow base 5 1 (.slice (some ⟨g, 0, none⟩) (n + 2) cap) (n + 2) (cells8 (xs ++ be 2 x)) ∧ w.grownBy w' (some g) := by
  obtain ⟨i0, hi, hz0, hz1, hz2⟩ := info_parts Tryz.info5
  go_enter Tryz.func175, Tryz.ntmps175
  go_wp2_with (at_builtin; refine wpList_append_fits _ rfl _ _ 226 rfl base 5 i0 1 Tryz.underlying226 hi hz1 g n cap (cells8 xs) rfl (hown.alloc _) ⟨w.heap.size, 0, none⟩ 2 2 [.int .u8 (x / 256), .int .u8 (x % 256)] rfl rfl ?c1 ?c2 hn ?_)
  case c1 =>
    intro j u hj
    match j, hj with
    | 0, hj => simp at hj; subst hj; simp [Addr.add]
    | 1, hj => simp at hj; subst hj; simp [Addr.add]
  case c2 => intro u hu; simp at hu; rcases hu with rfl | rfl <;> rfl
  · intro w1 hown' hgrow
    rw [← cells_be2 x h0 h1, ← cells8_append] at hown'
    have hg := grown_trans (World.grownBy_alloc w _ (some g)) hgrow
    clear hgrow hown
    go_wp2
    go_ret
    exact ⟨rfl, hown', hg⟩

set_option maxHeartbeats 400000 in
theorem appendWord_any (base g n cap : Nat) (xs : List UInt8) (x : Int) (w : World) (hown : w.ownsRow base 5 1 (.slice (some ⟨g, 0, none⟩) n cap) n (cells8 xs)) (h0 : 0 ≤ x) (h1 : x < 4294967296) (hn : n + 4 ≤ cap) :
    Calls Tryz.prog 176 #[.slice (some ⟨g, 0, none⟩) n cap, .int .u32 x] w fun e w' => e = .returned (.slice (some ⟨g, 0, none⟩) (n + 4) cap) ∧ w'.ownsRow base 5 1 (.slice (some ⟨g, 0, none⟩) (n + 4) cap) (n + 4) (cells8 (xs ++ be 4 x)) ∧ w.grownBy w' (some g) := by
  go_enter Tryz.func176, Tryz.ntmps176
  go_wp2_with fail
  refine (appendShort_any base g n cap xs _ _ hown (by omega) (by omega) (by omega)).mono ?_
  rintro e w1 ⟨rfl, hown1, hb1⟩
  go_wp2_with fail
  rw [IntKind.wrap_u16]
  refine (appendShort_any base g (n + 2) cap _ _ _ hown1 (by omega) (by omega) (by omega)).mono ?_
  rintro e w2 ⟨rfl, hown2, hb2⟩
  rw [List.append_assoc, be_mod2, ← be4] at hown2
  go_wp2_with fail
  go_ret
  exact ⟨rfl, hown2, grown_trans hb1 hb2⟩

/-- An entry lies in a box of its own. -/
def boxE (w : World) (H : Nat) (E : Ent) : Prop := w.cell? ⟨H, 0, none⟩ = some (.int .u32 E.addr) ∧ w.cell? ⟨H, 1, none⟩ = some (.int .i64 E.len) ∧ w.cell? ⟨H, 2, none⟩ = some (.int .i64 E.tag) ∧ w.cell? ⟨H, 3, none⟩ = some (.int .i64 E.met)
theorem boxE_new (w : World) (E : Ent) : boxE (w.alloc (.cells #[.int .u32 E.addr, .int .i64 E.len, .int .i64 E.tag, .int .i64 E.met] 42)) w.heap.size E := by simp [boxE]
theorem boxE_grown {w w1 : World} {H g : Nat} {E : Ent} (h : boxE w H E) (hb : w.grownBy w1 (some g)) (hne : H ≠ g) : boxE w1 H E :=
  ⟨hb.cell h.1 (by simpa using hne), hb.cell h.2.1 (by simpa using hne), hb.cell h.2.2.1 (by simpa using hne), hb.cell h.2.2.2 (by simpa using hne)⟩
theorem boxE_below {w w1 : World} {H : Nat} {E : Ent} (h : boxE w H E) (hb : Below w.heap.size w w1) : boxE w1 H E := by
  have hl : H < w.heap.size := World.block_lt_of_cell? w _ h.1
  exact ⟨(hb.cell (p := ⟨H, 0, none⟩) hl).trans h.1, (hb.cell (p := ⟨H, 1, none⟩) hl).trans h.2.1, (hb.cell (p := ⟨H, 2, none⟩) hl).trans h.2.2.1, (hb.cell (p := ⟨H, 3, none⟩) hl).trans h.2.2.2⟩

set_option maxHeartbeats 800000 in
theorem appendEntry_any (base g n cap : Nat) (xs : List UInt8) (E : Ent) (w : World) (hown : w.ownsRow base 5 1 (.slice (some ⟨g, 0, none⟩) n cap) n (cells8 xs)) (hok : 0 ≤ E.addr ∧ E.addr < 4294967296) (hz : entErr E = 0) (hn : n + 20 ≤ cap) :
    Calls Tryz.prog 137 #[.slice (some ⟨g, 0, none⟩) n cap, .agg #[.int .u32 E.addr, .int .i64 E.len, .int .i64 E.tag, .int .i64 E.met]] w fun e w' => e = .returned (.slice (some ⟨g, 0, none⟩) (n + 20) cap) ∧ w'.ownsRow base 5 1 (.slice (some ⟨g, 0, none⟩) (n + 20) cap) (n + 20) (cells8 (xs ++ entBytes E)) ∧ w.grownBy w' (some g) := by
  obtain ⟨hp, ht, hm⟩ := entErr_zero hz
  have hl := pfx_len hp
  simp only [tagB, metB, Bool.and_eq_true, decide_eq_true_eq] at ht hm
  obtain ⟨ht0, ht1⟩ := ht
  obtain ⟨hm0, hm1⟩ := hm
  obtain ⟨hl0, hl1⟩ := hl
  obtain ⟨ha0, ha1⟩ := hok
  clear hz hp
  have hgl : g < w.heap.size := (hown.lt g rfl).2
  have hp0 := pow_pos' (32 - E.len).toNat
  have hp1 := pow_le32 (32 - E.len).toNat (by omega)
  go_enter Tryz.func137, Tryz.ntmps137
  go_wp2_with fail
  refine (appendShort_any base g n cap xs _ _ (hown.alloc _) (by omega) (by omega) (by omega)).mono ?_
  rintro e w1 ⟨rfl, hown1, hb1⟩
  have hne : w.heap.size ≠ g := by omega
  have x1 := boxE_grown (boxE_new w E) hb1 hne
  have g1 := grown_trans (World.grownBy_alloc w _ (some g)) hb1
  clear hb1 hown
  obtain ⟨c0, c1, c2, c3⟩ := id x1
  go_wp2_with fail
  refine (appendShort_any base g (n + 2) cap _ _ _ hown1 (by omega) (by omega) (by omega)).mono ?_
  rintro e w2 ⟨rfl, hown2, hb2⟩
  have x2 := boxE_grown x1 hb2 hne
  have g2 := grown_trans g1 hb2
  clear c0 c1 c2 c3 x1 g1 hb2 hown1
  obtain ⟨c0, c1, c2, c3⟩ := id x2
  go_wp2_with fail
  refine (appendWord_any base g (n + 4) cap _ _ _ hown2 (by omega) (by omega) (by omega)).mono ?_
  rintro e w3 ⟨rfl, hown3, hb3⟩
  have x3 := boxE_grown x2 hb3 hne
  have g3 := grown_trans g2 hb3
  clear c0 c1 c2 c3 x2 g2 hb3 hown2
  obtain ⟨c0, c1, c2, c3⟩ := id x3
  go_wp2_with fail
  refine (mask_any _ _ _ hl0 hl1).mono ?_
  rintro e w3' ⟨rfl, rfl⟩
  go_wp2_with fail
  refine (appendWord_any base g (n + 8) cap _ _ _ (hown3.alloc _) (by omega) (by omega) (by omega)).mono ?_
  rintro e w4 ⟨rfl, hown4, hb4⟩
  have hb4' := grown_trans (World.grownBy_alloc w3 _ (some g)) hb4
  have x4 := boxE_grown x3 hb4' hne
  have g4 := grown_trans g3 hb4'
  clear c0 c1 c2 c3 x3 g3 hb4 hb4' hown3
  obtain ⟨c0, c1, c2, c3⟩ := id x4
  go_wp2_with fail
  refine (appendWord_any base g (n + 12) cap _ _ _ hown4 (by omega) (by omega) (by omega)).mono ?_
  rintro e w5 ⟨rfl, hown5, hb5⟩
  have x5 := boxE_grown x4 hb5 hne
  have g5 := grown_trans g4 hb5
  clear c0 c1 c2 c3 x4 g4 hb5 hown4
  obtain ⟨c0, c1, c2, c3⟩ := id x5
  go_wp2_with fail
  refine (appendWord_any base g (n + 16) cap _ _ _ hown5 (by omega) (by omega) (by omega)).mono ?_
  rintro e w6 ⟨rfl, hown6, hb6⟩
  have g6 := grown_trans g5 hb6
  clear c0 c1 c2 c3 x5 g5 hb6 hown5
  have hfin : w6.ownsRow base 5 1 (.slice (some ⟨g, 0, none⟩) (n + 20) cap) (n + 20) (cells8 (xs ++ entBytes E)) := by
    simpa [entBytes, List.append_assoc] using hown6
  clear hown6
  go_wp2_with fail
  go_ret
  exact ⟨rfl, hfin, g6⟩

end Go.Proofs.YtdnpeefnobjfaaaGreatDoor

/- What packet.Encode and milepost.Encode answer. -/
namespace Go.Proofs.YtdnpeefnobjfaaaGreatDoor
open Go.RowKit

/-- The string of a list of bytes. -/
def strB (l : List UInt8) : ByteArray := ⟨l.toArray⟩

theorem strB_size (l : List UInt8) : (strB l).size = l.length := by simp [strB, ByteArray.size]
theorem strCells_strB (l : List UInt8) : Lib.strCells (strB l) = cells8 l := by simp [Lib.strCells, strB, cells8, byteV]

/-- append(row, text...) where there is room for the text: the row keeps its place. -/
theorem fits_string {P : Program} (w : World) (base : Nat) (t u ty e : TypeId) (i : TypeInfo) (ht : P.underlying t = some (.slice e)) (hu : P.underlying u = some .string) (hi : P.info? e = some i) (hs1 : i.size = 1)
    (g n cap : Nat) (xs : List Value) (hown : w.ownsRow base e 1 (.slice (some ⟨g, 0, none⟩) n cap) n xs) (s : ByteArray) (hroom : n + s.size ≤ cap) :
    ∃ w', (Builtin.append_ #[t, u] ty #[.slice (some ⟨g, 0, none⟩) n cap, .string s]).run P w = .ok (.slice (some ⟨g, 0, none⟩) (n + s.size) cap) w' ∧
      w'.ownsRow base e 1 (.slice (some ⟨g, 0, none⟩) (n + s.size) cap) (n + s.size) (xs ++ Lib.strCells s) ∧ w.grownBy w' (some g) := by
  obtain ⟨hx, hv⟩ := hown
  rcases hv with ⟨hv, _⟩ | ⟨g', cap', cur, hv, hbg, hg, hnc, hcm, hcs, htake⟩
  · simp at hv
  · simp at hv
    obtain ⟨rfl, rfl⟩ := hv
    simp only [Nat.mul_one] at hx hcs htake
    have hrun := Lib.run_append_room_string (P := P) w t u ty e i ht hu hi hs1 g n cap cur hg s hroom (by omega)
    have hxs : (xs ++ Lib.strCells s).length = n + s.size := by rw [List.length_append, hx, Lib.strCells_length]
    refine ⟨_, hrun, ⟨by omega, .inr ⟨g, cap, _, rfl, hbg, setRow_heap w g cur _ e _ hg, hroom, hcm, ?_, ?_⟩⟩, ⟨rfl, rfl, rfl, by simp, fun k _ hk => setRow_other w g k _ (fun e => hk (by rw [e]))⟩⟩
    · simp [Lib.strCells_length]; omega
    · rw [htake, Nat.mul_one, ← hxs]; exact List.take_left

theorem wpList_fits_string {P : Program} (w : World) {ops : Array Oper} {rest : List Oper} {o : Oper} {a : Act} {Q : Exit → Act → World → Prop} (hgd : o.guard = none) (sl x : Operand) (t u : TypeId)
    (ho : o.op = .call { callee := .builtin .append, args := #[sl, x], argTypes := #[t, u] })
    (base : Nat) (e : TypeId) (i : TypeInfo) (ht : P.underlying t = some (.slice e)) (hu : P.underlying u = some .string) (hi : P.info? e = some i) (hs1 : i.size = 1)
    (g n cap : Nat) (xs : List Value) (hs : a.eval sl = .slice (some ⟨g, 0, none⟩) n cap) (hown : w.ownsRow base e 1 (.slice (some ⟨g, 0, none⟩) n cap) n xs) (s : ByteArray) (hx : a.eval x = .string s) (hroom : n + s.size ≤ cap)
    (h : ∀ w', w'.ownsRow base e 1 (.slice (some ⟨g, 0, none⟩) (n + s.size) cap) (n + s.size) (xs ++ Lib.strCells s) → w.grownBy w' (some g) → wpList P ops Q rest (a.put o.dst (.slice (some ⟨g, 0, none⟩) (n + s.size) cap)) w') : wpList P ops Q (o :: rest) a w := by
  refine wpList_plain hgd fun K hK => ?_
  obtain ⟨w', hr, h2, h3⟩ := fits_string (P := P) w base t u o.type e i ht hu hi hs1 g n cap xs hown s hroom
  unfold Oper.wp
  simp [execOp, ho, resolve, invoke, builtin, hs, hx, hr, Result.andThen]
  exact hK _ _ (h w' h2 h3)

theorem cells8_at (xs : List UInt8) (j : Nat) (h : j < xs.length) : (cells8 xs)[j]? = some (.int .u8 (xs[j].toNat : Int)) := by
  simp [cells8, byteV, List.getElem?_eq_getElem h]
theorem strOfNums_nat (xs : List UInt8) : strOfNums (xs.map fun c => (c.toNat : Int)) = strB xs := by
  simp [strOfNums, strB, List.map_map, Function.comp_def]
theorem owned_string (w : World) (base g n cap : Nat) (xs : List UInt8) (hown : w.ownsRow base 5 1 (.slice (some ⟨g, 0, none⟩) n cap) n (cells8 xs)) :
    (convert 226 9 (.slice (some ⟨g, 0, none⟩) n cap)).run Tryz.prog w = .ok (.string (strB xs)) w := by
  have hl : xs.length = n := by have := hown.1; simpa [cells8] using this
  rw [← strOfNums_nat]
  refine run_convert_bytes_arg w 226 5 Tryz.underlying226 Tryz.underlying5 g 0 n cap _ (by simpa using hl) (fun i hi => ?_) 9 Tryz.underlying9
  have hx := hown.cells (g := g) rfl i _ (cells8_at xs i (by omega))
  have e : (⟨g, 0, none⟩ : Addr).add i = ⟨g, 0 + i, none⟩ := by unfold Addr.add; split <;> simp_all
  rw [← e, hx]
  simp [List.getElem?_eq_getElem (show i < xs.length by omega)]

set_option maxHeartbeats 400000 in
theorem writeResponse_any (b off cap n : Nat) (l : List Ent) (w : World) (hok : entsOk l) (hn : l.length = n) (h25 : n ≤ 25) (hB : b < w.heap.size) (hz : firstErr l 0 = none) (hc : entCells w b off l) :
    Calls Tryz.prog 85 #[.slice (some ⟨b, off, none⟩) n cap] w fun e w' => e = .returned (.string (strB (encBytes 2 l))) ∧ Below w.heap.size w w' := by
  obtain ⟨i0, hi, hz0, hz1, hz2⟩ := info_parts Tryz.info5
  have HN := hide hn
  have HZ := hide hz
  clear hn hz
  go_enter Tryz.func85, Tryz.ntmps85
  go_wp2_with (first | (at_make; go_loud (refine wpList_make_own _ rfl _ _ 226 rfl w.heap.size 5 i0 (.int .u8 0) 1 Tryz.underlying226 hi hz0 hz1 _ _ _ (4 + n * 20) rfl rfl (by omega) (by rw [hz2]; omega) (by unfold maxLen; omega) (by omega) ?_); intro w2 hown2 hg2) | (at_builtin; go_loud (refine wpList_fits_string _ rfl _ _ 226 9 rfl w.heap.size 5 i0 Tryz.underlying226 Tryz.underlying9 hi hz1 w.heap.size 0 (4 + n * 20) [] rfl hown2 (strB [2, 2, 0, 0]) rfl (by rw [strB_size]; show 0 + 4 ≤ _; omega) ?_); intro w3 hown3 hg3))
  simp only [Nat.zero_add, List.nil_append, strCells_strB, strB_size, List.length_cons, List.length_nil] at hown3
  rw [show (strB [2, 2, 0, 0]).size = 4 from rfl]
  have hb3 : Below w.heap.size w w3 := ((Below.refl _ _).grown hg2 (Nat.le_refl _) (by simp)).grown hg3 hg2.size (by simp)
  clear hown2 hg2 hg3 hz0 hz1 hz2 hi
  go_loopw [3, 15] (fun d i wr => ∃ k : Nat, k ≤ n ∧ i = .int .i64 k ∧ d = .slice (some ⟨w.heap.size, 0, none⟩) (4 + 20 * k) (4 + n * 20) ∧ wr.ownsRow w.heap.size 5 1 (.slice (some ⟨w.heap.size, 0, none⟩) (4 + 20 * k) (4 + n * 20)) (4 + 20 * k) (cells8 ([2, 2, 0, 0] ++ (l.take k).flatMap entBytes)) ∧ Below w.heap.size w wr) (fun _ i _ => n - (intOf i).toNat)
  case atStart => exact ⟨0, by omega, rfl, rfl, by simpa using hown3, hb3⟩
  case round =>
    obtain ⟨k, hk, rfl, rfl, hown, hb⟩ := hrel
    clear hown3 hb3
    by_cases hlt : k < n
    · have hlt' : k < l.length := by rw [unhide HN]; exact hlt
      have hcx := entCells_below hc hb hB k hlt'
      have hoke := hok l[k] (List.getElem_mem _)
      have hze := firstErr_all (unhide HZ) l[k] (List.getElem_mem _)
      have hsn : (l.take (k + 1)).flatMap entBytes = (l.take k).flatMap entBytes ++ entBytes l[k] := by rw [List.take_succ_eq_append_getElem hlt', List.flatMap_append]; simp
      have HSN := hide hsn
      clear hsn
      generalize hE : l[k] = E at *
      have HE := hide hE
      have HZE := hide hze
      clear hE hze
      obtain ⟨c0, c1, c2, c3⟩ := hcx
      go_wp2_with (go_at_call 137; refine (appendEntry_any w.heap.size w.heap.size (4 + 20 * k) (4 + n * 20) _ E _ (hown.alloc _) hoke (unhide HZE) (by omega)).mono ?_; rintro e w4 ⟨rfl, hown4, hg4⟩)
      go_roundw
      case rel =>
        rw [List.append_assoc, ← unhide HSN] at hown4
        exact ⟨k + 1, by omega, by go_num, rfl, hown4, (hb.alloc hb.size _).grown hg4 (by simp; have := hb.size; omega) (by simp)⟩
      case measure => simp [intOf]; omega
    · have hkn : k = n := by omega
      subst hkn
      have hcv := owned_string wr _ _ _ _ _ hown
      have hfin : [2, 2, 0, 0] ++ (l.take k).flatMap entBytes = encBytes 2 l := by rw [← unhide HN, List.take_length]; simp [encBytes]
      rw [hfin] at hcv
      clear hown
      go_wp2
      go_ret
      exact ⟨rfl, hb⟩

set_option maxHeartbeats 400000 in
theorem Encode_resp (b off cap n : Nat) (l : List Ent) (w : World) (hok : entsOk l) (hn : l.length = n) (h0 : 0 < n) (h25 : n ≤ 25) (hB : b < w.heap.size) (hz : firstErr l 0 = none) (hc : entCells w b off l) :
    Calls Tryz.prog 39 #[.agg #[.int .i64 2, .slice (some ⟨b, off, none⟩) n cap]] w fun e w' => e = .returned (.tuple #[.string (strB (encBytes 2 l)), .nilIface]) ∧ Below w.heap.size w w' := by
  have HN := hide hn
  have HZ := hide hz
  clear hn hz
  go_enter Tryz.func39, Tryz.ntmps39
  go_wp2_with fail
  refine (check_loop b off cap n l _ hok (unhide HN) h0 h25 (by simp; omega) (entCells_below hc (below_new _ _) hB)).mono ?_
  rintro e w1 ⟨v, rfl, hv, hb1⟩
  rw [unhide HZ] at hv
  obtain rfl : v = .nilIface := hv
  have q0 : w1.cell? ⟨w.heap.size, 0, none⟩ = some (.int .i64 2) := (hb1.cell (p := ⟨w.heap.size, 0, none⟩) (by simp)).trans (by simp)
  have q1 : w1.cell? ⟨w.heap.size, 1, none⟩ = some (.slice (some ⟨b, off, none⟩) n cap) := (hb1.cell (p := ⟨w.heap.size, 1, none⟩) (by simp)).trans (by simp)
  have hb1' := below_box hb1
  clear hb1
  go_wp2_with fail
  refine (writeResponse_any b off cap n l w1 hok (unhide HN) h25 (Nat.lt_of_lt_of_le hB hb1'.size) (unhide HZ) (entCells_below hc hb1' hB)).mono ?_
  rintro e w2 ⟨rfl, hb2⟩
  have hb := hb1'.trans (hb2.mono hb1'.size)
  clear hb2 hb1' q0 q1
  go_wp2
  go_ret2
  exact ⟨rfl, hb⟩

set_option maxHeartbeats 400000 in
theorem Encode_bad (cmd : Int) (ao : Option Addr) (n cap : Nat) (l : List Ent) (w : World) (x : Int × Int) (hx : encErr cmd l = some x) (hok : entsOk l) (hn : l.length = n) (hs : entSlice w ao l) :
    Calls Tryz.prog 39 #[.agg #[.int .i64 cmd, .slice ao n cap]] w fun e w' => ∃ v, e = .returned (.tuple #[.string (strB []), v]) ∧ errIs w' v (some x) ∧ Below w.heap.size w w' := by
  have HX := hide hx
  have HN := hide hn
  clear hx hn
  go_enter Tryz.func39, Tryz.ntmps39
  go_wp2_with fail
  refine (check_any cmd ao n cap l _ hok (unhide HN) (entSlice_below hs (below_new _ _))).mono ?_
  rintro e w1 ⟨v, rfl, hv, hb1⟩
  rw [unhide HX] at hv
  obtain ⟨bf, rfl, hx0, hx1⟩ := hv
  have hb := below_box hb1
  clear hb1
  go_wp2
  go_ret2
  exact ⟨_, rfl, ⟨bf, rfl, hx0, hx1⟩, hb⟩

set_option maxHeartbeats 400000 in
theorem Encode_ask (ao : Option Addr) (cap : Nat) (w : World) :
    Calls Tryz.prog 39 #[.agg #[.int .i64 1, .slice ao 0 cap]] w fun e w' => e = .returned (.tuple #[.string (strB askAll), .nilIface]) ∧ Below w.heap.size w w' := by
  go_enter Tryz.func39, Tryz.ntmps39
  go_wp2_with fail
  refine (check_ask ao cap _).mono ?_
  rintro e w1 ⟨rfl, hb1⟩
  have q0 : w1.cell? ⟨w.heap.size, 0, none⟩ = some (.int .i64 1) := (hb1.cell (p := ⟨w.heap.size, 0, none⟩) (by simp)).trans (by simp)
  have hb := below_box hb1
  clear hb1
  go_wp2
  go_ret2
  exact ⟨rfl, hb⟩

theorem encErr_two {l : List Ent} (h0 : 0 < l.length) (h25 : l.length ≤ 25) : encErr 2 l = firstErr l 0 := by
  unfold encErr; rw [if_neg (by omega), if_neg (by omega)]
/-- What Encode writes: nothing where there is a fault. -/
def encOut (cmd : Int) (l : List Ent) : List UInt8 := if (encErr cmd l).isSome then [] else encBytes cmd l
theorem encOut_some {cmd : Int} {l : List Ent} {x : Int × Int} (h : encErr cmd l = some x) : encOut cmd l = [] := by simp [encOut, h]
theorem encOut_none {cmd : Int} {l : List Ent} (h : encErr cmd l = none) : encOut cmd l = encBytes cmd l := by simp [encOut, h]

theorem Encode_any (cmd : Int) (ao : Option Addr) (n cap : Nat) (l : List Ent) (w : World) (hok : entsOk l) (hn : l.length = n) (hs : entSlice w ao l) :
    Calls Tryz.prog 39 #[.agg #[.int .i64 cmd, .slice ao n cap]] w fun e w' => ∃ v, e = .returned (.tuple #[.string (strB (encOut cmd l)), v]) ∧ errIs w' v (encErr cmd l) ∧ Below w.heap.size w w' := by
  cases hx : encErr cmd l with
  | some x =>
    rw [show encOut cmd l = [] by simp [encOut, hx]]
    exact Encode_bad cmd ao n cap l w x hx hok hn hs
  | none =>
    rw [show encOut cmd l = encBytes cmd l by simp [encOut, hx]]
    have hcmd : cmd = 1 ∧ l.length = 0 ∨ cmd = 2 ∧ 0 < l.length ∧ l.length ≤ 25 ∧ firstErr l 0 = none := by
      unfold encErr at hx
      split at hx
      · simp at hx
      · split at hx
        · simp at hx
        · by_cases h1 : cmd = 1
          · left; omega
          · right; exact ⟨by omega, by omega, by omega, hx⟩
    rcases hcmd with ⟨rfl, h0⟩ | ⟨rfl, h0, h25, hz⟩
    · have : n = 0 := by omega
      subst this
      refine (Encode_ask ao cap w).mono ?_
      rintro e w' ⟨rfl, hb⟩
      exact ⟨_, by simp [encBytes], rfl, hb⟩
    · rcases hs with rfl | ⟨b, off, rfl, hc⟩
      · simp at h0
      · refine (Encode_resp b off cap n l w hok hn (by omega) (by omega) (entCells_lt hc h0) hz hc).mono ?_
        rintro e w' ⟨rfl, hb⟩
        exact ⟨_, rfl, rfl, hb⟩

theorem errIs_below {w w1 : World} {v : Value} {x : Option (Int × Int)} (h : errIs w v x) (hb : Below w.heap.size w w1) : errIs w1 v x := by
  cases x with
  | none => exact h
  | some y =>
    obtain ⟨b, hv, h0, h1⟩ := h
    exact ⟨b, hv, (hb.cell (p := ⟨b, 0, none⟩) (World.block_lt_of_cell? w _ h0)).trans h0, (hb.cell (p := ⟨b, 1, none⟩) (World.block_lt_of_cell? w _ h1)).trans h1⟩

set_option maxHeartbeats 400000 in
theorem mEncode_any (cmd : Int) (ao : Option Addr) (n cap : Nat) (l : List Ent) (w : World) (hok : entsOk l) (hn : l.length = n) (hs : entSlice w ao l) :
    Calls Tryz.prog 13 #[.agg #[.int .i64 cmd, .slice ao n cap]] w fun e w' => ∃ v, e = .returned (.tuple #[.string (strB (encOut cmd l)), v]) ∧ errIs w' v (encErr cmd l) ∧ Below w.heap.size w w' := by
  have HN := hide hn
  clear hn
  go_enter Tryz.func13, Tryz.ntmps13
  go_wp2_with fail
  refine (Encode_any cmd ao n cap l _ hok (unhide HN) (entSlice_below hs (below_new _ _))).mono ?_
  rintro e w1 ⟨v, rfl, hv, hb1⟩
  have hb := below_box hb1
  clear hb1
  go_wp2
  go_ret2
  exact ⟨_, rfl, hv, hb⟩

end Go.Proofs.YtdnpeefnobjfaaaGreatDoor
