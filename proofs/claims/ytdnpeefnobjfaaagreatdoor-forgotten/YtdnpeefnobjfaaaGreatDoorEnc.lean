/- What packet.Encode and milepost.Encode answer. -/
import Derived.Test.YtdnpeefnobjfaaaGreatDoorWr
import Derived.Lib.AppendStr
namespace Go.Proofs.YtdnpeefnobjfaaaGreatDoor
open Go.RowKit

/-- The string of a list of bytes. -/
def strB (l : List UInt8) : ByteArray := ⟨l.toArray⟩

theorem strB_size (l : List UInt8) : (strB l).size = l.length := by simp [strB, ByteArray.size]
theorem strCells_strB (l : List UInt8) : Lib.strCells (strB l) = cells8 l := by simp [Lib.strCells, strB, cells8, byteV]

/-- append(row, text...) where there is room for the text: the row keeps its place. -/
theorem fits_string {P : Program} (w : World) (base : Nat) (t u ty e : TypeId) (i : TypeInfo) (ht : P.underlying t = some (.slice e)) (hu : P.underlying u = some .string) (hi : P.info? e = some i) (hs1 : i.size = 1)
    (g n cap : Nat) (xs : List Value) (hown : w.ownsRow base e 1 (.slice (some ⟨g, 0, none⟩) n cap) n xs) (s : ByteArray) (hroom : n + s.size ≤ cap) :
    ∃ w', (Builtin.append_ #[t, u] ty #[.slice (some ⟨g, 0, none⟩) n cap, .string s]).run P w = .ok (.slice (some ⟨g, 0, none⟩) (n + s.size) cap) w' ∧
      w'.ownsRow base e 1 (.slice (some ⟨g, 0, none⟩) (n + s.size) cap) (n + s.size) (xs ++ Lib.strCells s) ∧ w.grownBy w' (some g) := by
  obtain ⟨hx, hv⟩ := hown
  rcases hv with ⟨hv, _⟩ | ⟨g', cap', cur, hv, hbg, hg, hnc, hcm, hcs, htake⟩
  · simp at hv
  · simp at hv
    obtain ⟨rfl, rfl⟩ := hv
    simp only [Nat.mul_one] at hx hcs htake
    have hrun := Lib.run_append_room_string (P := P) w t u ty e i ht hu hi hs1 g n cap cur hg s hroom (by omega)
    have hxs : (xs ++ Lib.strCells s).length = n + s.size := by rw [List.length_append, hx, Lib.strCells_length]
    refine ⟨_, hrun, ⟨by omega, .inr ⟨g, cap, _, rfl, hbg, setRow_heap w g cur _ e _ hg, hroom, hcm, ?_, ?_⟩⟩, ⟨rfl, rfl, rfl, by simp, fun k _ hk => setRow_other w g k _ (fun e => hk (by rw [e]))⟩⟩
    · simp [Lib.strCells_length]; omega
    · rw [htake, Nat.mul_one, ← hxs]; exact List.take_left

theorem wpList_fits_string {P : Program} (w : World) {ops : Array Oper} {rest : List Oper} {o : Oper} {a : Act} {Q : Exit → Act → World → Prop} (hgd : o.guard = none) (sl x : Operand) (t u : TypeId)
    (ho : o.op = .call { callee := .builtin .append, args := #[sl, x], argTypes := #[t, u] })
    (base : Nat) (e : TypeId) (i : TypeInfo) (ht : P.underlying t = some (.slice e)) (hu : P.underlying u = some .string) (hi : P.info? e = some i) (hs1 : i.size = 1)
    (g n cap : Nat) (xs : List Value) (hs : a.eval sl = .slice (some ⟨g, 0, none⟩) n cap) (hown : w.ownsRow base e 1 (.slice (some ⟨g, 0, none⟩) n cap) n xs) (s : ByteArray) (hx : a.eval x = .string s) (hroom : n + s.size ≤ cap)
    (h : ∀ w', w'.ownsRow base e 1 (.slice (some ⟨g, 0, none⟩) (n + s.size) cap) (n + s.size) (xs ++ Lib.strCells s) → w.grownBy w' (some g) → wpList P ops Q rest (a.put o.dst (.slice (some ⟨g, 0, none⟩) (n + s.size) cap)) w') : wpList P ops Q (o :: rest) a w := by
  refine wpList_plain hgd fun K hK => ?_
  obtain ⟨w', hr, h2, h3⟩ := fits_string (P := P) w base t u o.type e i ht hu hi hs1 g n cap xs hown s hroom
  unfold Oper.wp
  simp [execOp, ho, resolve, invoke, builtin, hs, hx, hr, Result.andThen]
  exact hK _ _ (h w' h2 h3)

theorem cells8_at (xs : List UInt8) (j : Nat) (h : j < xs.length) : (cells8 xs)[j]? = some (.int .u8 (xs[j].toNat : Int)) := by
  simp [cells8, byteV, List.getElem?_eq_getElem h]
theorem strOfNums_nat (xs : List UInt8) : strOfNums (xs.map fun c => (c.toNat : Int)) = strB xs := by
  simp [strOfNums, strB, List.map_map, Function.comp_def]
theorem owned_string (w : World) (base g n cap : Nat) (xs : List UInt8) (hown : w.ownsRow base 5 1 (.slice (some ⟨g, 0, none⟩) n cap) n (cells8 xs)) :
    (convert 226 9 (.slice (some ⟨g, 0, none⟩) n cap)).run Tryz.prog w = .ok (.string (strB xs)) w := by
  have hl : xs.length = n := by have := hown.1; simpa [cells8] using this
  rw [← strOfNums_nat]
  refine run_convert_bytes_arg w 226 5 Tryz.underlying226 Tryz.underlying5 g 0 n cap _ (by simpa using hl) (fun i hi => ?_) 9 Tryz.underlying9
  have hx := hown.cells (g := g) rfl i _ (cells8_at xs i (by omega))
  have e : (⟨g, 0, none⟩ : Addr).add i = ⟨g, 0 + i, none⟩ := by unfold Addr.add; split <;> simp_all
  rw [← e, hx]
  simp [List.getElem?_eq_getElem (show i < xs.length by omega)]

set_option maxHeartbeats 400000 in
theorem writeResponse_any (b off cap n : Nat) (l : List Ent) (w : World) (hok : entsOk l) (hn : l.length = n) (h25 : n ≤ 25) (hB : b < w.heap.size) (hz : firstErr l 0 = none) (hc : entCells w b off l) :
    Calls Tryz.prog 85 #[.slice (some ⟨b, off, none⟩) n cap] w fun e w' => e = .returned (.string (strB (encBytes 2 l))) ∧ Below w.heap.size w w' := by
  obtain ⟨i0, hi, hz0, hz1, hz2⟩ := info_parts Tryz.info5
  have HN := hide hn
  have HZ := hide hz
  clear hn hz
  go_enter Tryz.func85, Tryz.ntmps85
  go_wp2_with (first | (at_make; go_loud (refine wpList_make_own _ rfl _ _ 226 rfl w.heap.size 5 i0 (.int .u8 0) 1 Tryz.underlying226 hi hz0 hz1 _ _ _ (4 + n * 20) rfl rfl (by omega) (by rw [hz2]; omega) (by unfold maxLen; omega) (by omega) ?_); intro w2 hown2 hg2) | (at_builtin; go_loud (refine wpList_fits_string _ rfl _ _ 226 9 rfl w.heap.size 5 i0 Tryz.underlying226 Tryz.underlying9 hi hz1 w.heap.size 0 (4 + n * 20) [] rfl hown2 (strB [2, 2, 0, 0]) rfl (by rw [strB_size]; show 0 + 4 ≤ _; omega) ?_); intro w3 hown3 hg3))
  simp only [Nat.zero_add, List.nil_append, strCells_strB, strB_size, List.length_cons, List.length_nil] at hown3
  rw [show (strB [2, 2, 0, 0]).size = 4 from rfl]
  have hb3 : Below w.heap.size w w3 := ((Below.refl _ _).grown hg2 (Nat.le_refl _) (by simp)).grown hg3 hg2.size (by simp)
  clear hown2 hg2 hg3 hz0 hz1 hz2 hi
  go_loopw [3, 15] (fun d i wr => ∃ k : Nat, k ≤ n ∧ i = .int .i64 k ∧ d = .slice (some ⟨w.heap.size, 0, none⟩) (4 + 20 * k) (4 + n * 20) ∧ wr.ownsRow w.heap.size 5 1 (.slice (some ⟨w.heap.size, 0, none⟩) (4 + 20 * k) (4 + n * 20)) (4 + 20 * k) (cells8 ([2, 2, 0, 0] ++ (l.take k).flatMap entBytes)) ∧ Below w.heap.size w wr) (fun _ i _ => n - (intOf i).toNat)
  case atStart => exact ⟨0, by omega, rfl, rfl, by simpa using hown3, hb3⟩
  case round =>
    obtain ⟨k, hk, rfl, rfl, hown, hb⟩ := hrel
    clear hown3 hb3
    by_cases hlt : k < n
    · have hlt' : k < l.length := by rw [unhide HN]; exact hlt
      have hcx := entCells_below hc hb hB k hlt'
      have hoke := hok l[k] (List.getElem_mem _)
      have hze := firstErr_all (unhide HZ) l[k] (List.getElem_mem _)
      have hsn : (l.take (k + 1)).flatMap entBytes = (l.take k).flatMap entBytes ++ entBytes l[k] := by rw [List.take_succ_eq_append_getElem hlt', List.flatMap_append]; simp
      have HSN := hide hsn
      clear hsn
      generalize hE : l[k] = E at *
      have HE := hide hE
      have HZE := hide hze
      clear hE hze
      obtain ⟨c0, c1, c2, c3⟩ := hcx
      go_wp2_with (go_at_call 137; refine (appendEntry_any w.heap.size w.heap.size (4 + 20 * k) (4 + n * 20) _ E _ (hown.alloc _) hoke (unhide HZE) (by omega)).mono ?_; rintro e w4 ⟨rfl, hown4, hg4⟩)
      go_roundw
      case rel =>
        rw [List.append_assoc, ← unhide HSN] at hown4
        exact ⟨k + 1, by omega, by go_num, rfl, hown4, (hb.alloc hb.size _).grown hg4 (by simp; have := hb.size; omega) (by simp)⟩
      case measure => simp [intOf]; omega
    · have hkn : k = n := by omega
      subst hkn
      have hcv := owned_string wr _ _ _ _ _ hown
      have hfin : [2, 2, 0, 0] ++ (l.take k).flatMap entBytes = encBytes 2 l := by rw [← unhide HN, List.take_length]; simp [encBytes]
      rw [hfin] at hcv
      clear hown
      go_wp2
      go_ret
      exact ⟨rfl, hb⟩

set_option maxHeartbeats 400000 in
theorem Encode_resp (b off cap n : Nat) (l : List Ent) (w : World) (hok : entsOk l) (hn : l.length = n) (h0 : 0 < n) (h25 : n ≤ 25) (hB : b < w.heap.size) (hz : firstErr l 0 = none) (hc : entCells w b off l) :
    Calls Tryz.prog 39 #[.agg #[.int .i64 2, .slice (some ⟨b, off, none⟩) n cap]] w fun e w' => e = .returned (.tuple #[.string (strB (encBytes 2 l)), .nilIface]) ∧ Below w.heap.size w w' := by
  have HN := hide hn
  have HZ := hide hz
  clear hn hz
  go_enter Tryz.func39, Tryz.ntmps39
  go_wp2_with fail
  refine (check_loop b off cap n l _ hok (unhide HN) h0 h25 (by simp; omega) (entCells_below hc (below_new _ _) hB)).mono ?_
  rintro e w1 ⟨v, rfl, hv, hb1⟩
  rw [unhide HZ] at hv
  obtain rfl : v = .nilIface := hv
  have q0 : w1.cell? ⟨w.heap.size, 0, none⟩ = some (.int .i64 2) := (hb1.cell (p := ⟨w.heap.size, 0, none⟩) (by simp)).trans (by simp)
  have q1 : w1.cell? ⟨w.heap.size, 1, none⟩ = some (.slice (some ⟨b, off, none⟩) n cap) := (hb1.cell (p := ⟨w.heap.size, 1, none⟩) (by simp)).trans (by simp)
  have hb1' := below_box hb1
  clear hb1
  go_wp2_with fail
  refine (writeResponse_any b off cap n l w1 hok (unhide HN) h25 (Nat.lt_of_lt_of_le hB hb1'.size) (unhide HZ) (entCells_below hc hb1' hB)).mono ?_
  rintro e w2 ⟨rfl, hb2⟩
  have hb := hb1'.trans (hb2.mono hb1'.size)
  clear hb2 hb1' q0 q1
  go_wp2
  go_ret2
  exact ⟨rfl, hb⟩

set_option maxHeartbeats 400000 in
theorem Encode_bad (cmd : Int) (ao : Option Addr) (n cap : Nat) (l : List Ent) (w : World) (x : Int × Int) (hx : encErr cmd l = some x) (hok : entsOk l) (hn : l.length = n) (hs : entSlice w ao l) :
    Calls Tryz.prog 39 #[.agg #[.int .i64 cmd, .slice ao n cap]] w fun e w' => ∃ v, e = .returned (.tuple #[.string (strB []), v]) ∧ errIs w' v (some x) ∧ Below w.heap.size w w' := by
  have HX := hide hx
  have HN := hide hn
  clear hx hn
  go_enter Tryz.func39, Tryz.ntmps39
  go_wp2_with fail
  refine (check_any cmd ao n cap l _ hok (unhide HN) (entSlice_below hs (below_new _ _))).mono ?_
  rintro e w1 ⟨v, rfl, hv, hb1⟩
  rw [unhide HX] at hv
  obtain ⟨bf, rfl, hx0, hx1⟩ := hv
  have hb := below_box hb1
  clear hb1
  go_wp2
  go_ret2
  exact ⟨_, rfl, ⟨bf, rfl, hx0, hx1⟩, hb⟩

set_option maxHeartbeats 400000 in
theorem Encode_ask (ao : Option Addr) (cap : Nat) (w : World) :
    Calls Tryz.prog 39 #[.agg #[.int .i64 1, .slice ao 0 cap]] w fun e w' => e = .returned (.tuple #[.string (strB askAll), .nilIface]) ∧ Below w.heap.size w w' := by
  go_enter Tryz.func39, Tryz.ntmps39
  go_wp2_with fail
  refine (check_ask ao cap _).mono ?_
  rintro e w1 ⟨rfl, hb1⟩
  have q0 : w1.cell? ⟨w.heap.size, 0, none⟩ = some (.int .i64 1) := (hb1.cell (p := ⟨w.heap.size, 0, none⟩) (by simp)).trans (by simp)
  have hb := below_box hb1
  clear hb1
  go_wp2
  go_ret2
  exact ⟨rfl, hb⟩

theorem encErr_two {l : List Ent} (h0 : 0 < l.length) (h25 : l.length ≤ 25) : encErr 2 l = firstErr l 0 := by
  unfold encErr; rw [if_neg (by omega), if_neg (by omega)]
/-- What Encode writes: nothing where there is a fault. -/
def encOut (cmd : Int) (l : List Ent) : List UInt8 := if (encErr cmd l).isSome then [] else encBytes cmd l
theorem encOut_some {cmd : Int} {l : List Ent} {x : Int × Int} (h : encErr cmd l = some x) : encOut cmd l = [] := by simp [encOut, h]
theorem encOut_none {cmd : Int} {l : List Ent} (h : encErr cmd l = none) : encOut cmd l = encBytes cmd l := by simp [encOut, h]

theorem Encode_any (cmd : Int) (ao : Option Addr) (n cap : Nat) (l : List Ent) (w : World) (hok : entsOk l) (hn : l.length = n) (hs : entSlice w ao l) :
    Calls Tryz.prog 39 #[.agg #[.int .i64 cmd, .slice ao n cap]] w fun e w' => ∃ v, e = .returned (.tuple #[.string (strB (encOut cmd l)), v]) ∧ errIs w' v (encErr cmd l) ∧ Below w.heap.size w w' := by
  cases hx : encErr cmd l with
  | some x =>
    rw [show encOut cmd l = [] by simp [encOut, hx]]
    exact Encode_bad cmd ao n cap l w x hx hok hn hs
  | none =>
    rw [show encOut cmd l = encBytes cmd l by simp [encOut, hx]]
    have hcmd : cmd = 1 ∧ l.length = 0 ∨ cmd = 2 ∧ 0 < l.length ∧ l.length ≤ 25 ∧ firstErr l 0 = none := by
      unfold encErr at hx
      split at hx
      · simp at hx
      · split at hx
        · simp at hx
        · by_cases h1 : cmd = 1
          · left; omega
          · right; exact ⟨by omega, by omega, by omega, hx⟩
    rcases hcmd with ⟨rfl, h0⟩ | ⟨rfl, h0, h25, hz⟩
    · have : n = 0 := by omega
      subst this
      refine (Encode_ask ao cap w).mono ?_
      rintro e w' ⟨rfl, hb⟩
      exact ⟨_, by simp [encBytes], rfl, hb⟩
    · rcases hs with rfl | ⟨b, off, rfl, hc⟩
      · simp at h0
      · refine (Encode_resp b off cap n l w hok hn (by omega) (by omega) (entCells_lt hc h0) hz hc).mono ?_
        rintro e w' ⟨rfl, hb⟩
        exact ⟨_, rfl, rfl, hb⟩

theorem errIs_below {w w1 : World} {v : Value} {x : Option (Int × Int)} (h : errIs w v x) (hb : Below w.heap.size w w1) : errIs w1 v x := by
  cases x with
  | none => exact h
  | some y =>
    obtain ⟨b, hv, h0, h1⟩ := h
    exact ⟨b, hv, (hb.cell (p := ⟨b, 0, none⟩) (World.block_lt_of_cell? w _ h0)).trans h0, (hb.cell (p := ⟨b, 1, none⟩) (World.block_lt_of_cell? w _ h1)).trans h1⟩

set_option maxHeartbeats 400000 in
theorem mEncode_any (cmd : Int) (ao : Option Addr) (n cap : Nat) (l : List Ent) (w : World) (hok : entsOk l) (hn : l.length = n) (hs : entSlice w ao l) :
    Calls Tryz.prog 13 #[.agg #[.int .i64 cmd, .slice ao n cap]] w fun e w' => ∃ v, e = .returned (.tuple #[.string (strB (encOut cmd l)), v]) ∧ errIs w' v (encErr cmd l) ∧ Below w.heap.size w w' := by
  have HN := hide hn
  clear hn
  go_enter Tryz.func13, Tryz.ntmps13
  go_wp2_with fail
  refine (Encode_any cmd ao n cap l _ hok (unhide HN) (entSlice_below hs (below_new _ _))).mono ?_
  rintro e w1 ⟨v, rfl, hv, hb1⟩
  have hb := below_box hb1
  clear hb1
  go_wp2
  go_ret2
  exact ⟨_, rfl, hv, hb⟩

end Go.Proofs.YtdnpeefnobjfaaaGreatDoor
