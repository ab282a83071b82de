/- slices.Chunk by 25; packet.Responses. -/
import Derived.Test.YtdnpeefnobjfaaaGreatDoorTCloneM
import Derived.Test.YtdnpeefnobjfaaaGreatDoorWrM
import Derived.Test.YtdnpeefnobjfaaaGreatDoorRSortM
import Derived.Test.YtdnpeefnobjfaaaGreatDoorTTakeM
import Derived.Maps.AppendAt
namespace Go.Proofs.YtdnpeefnobjfaaaGreatDoor
open Go.RowKit Go.Shelf
attribute [local go_sem] Oper.semAt_some

/-- The parts of a list, 25 each. -/
def partOf (l : List Ent) (k : Nat) : List Ent := (l.drop (25 * k)).take 25
abbrev Rnd (n : Nat) := { k : Nat // 25 * k < n }
def cutN (n k : Nat) : Nat := min 25 (n - 25 * k)
def rndEncs (b off n : Nat) (x : Rnd n) : Array Value := #[.slice (some ⟨b, off + 25 * x.1 * 4, none⟩) (cutN n x.1) (cutN n x.1)]
def rndsTo (n k : Nat) : List (Rnd n) := (List.range k).filterMap fun i => if h : 25 * i < n then some ⟨i, h⟩ else none
theorem rndsTo_succ (n k : Nat) (h : 25 * k < n) : rndsTo n (k + 1) = rndsTo n k ++ [⟨k, h⟩] := by
  simp [rndsTo, List.range_succ, List.filterMap_append, h]
theorem rndsTo_length (n k : Nat) : (rndsTo n k).length ≤ k := by
  have := List.length_filterMap_le (fun i => if h : 25 * i < n then some (⟨i, h⟩ : Rnd n) else none) (List.range k)
  simpa [rndsTo] using this
def nParts (n : Nat) : Nat := (n + 24) / 25

/-- What a round keeps: the two boxes. -/
def KC (Bs Bn : Nat) (W W' : World) : Prop := W'.heap[Bs]? = W.heap[Bs]? ∧ W'.heap[Bn]? = W.heap[Bn]?
theorem KC.t {Bs Bn : Nat} {A B C : World} (h : KC Bs Bn A B) (k : KC Bs Bn B C) : KC Bs Bn A C := ⟨k.1.trans h.1, k.2.trans h.2⟩
theorem KC.b {Bs Bn : Nat} {w : World} (h1 : Bs < w.heap.size) (h2 : Bn < w.heap.size) (W : World) (l : Nat) (o o' : Obj) (hl : w.heap.size ≤ l) (_ : W.heap[l]? = some o) (_ : o.isCells = false) (_ : o.isWalk = false) : KC Bs Bn W (W.putObj l o') := by
  have hg := grownBy_putObj' W l o'
  have hne : ∀ B, B < w.heap.size → (W.putObj l o').heap[B]? = W.heap[B]? := fun B hB => by
    simp [World.putObj, Array.getElem?_setIfInBounds_ne (show l ≠ B by omega)]
  exact ⟨hne _ h1, hne _ h2⟩
theorem KC.cellS {Bs Bn : Nat} {W W' : World} (h : KC Bs Bn W W') : W'.cell? ⟨Bs, 0, none⟩ = W.cell? ⟨Bs, 0, none⟩ := World.cell?_of_block (a := ⟨Bs, 0, none⟩) h.1
theorem KC.cellN {Bs Bn : Nat} {W W' : World} (h : KC Bs Bn W W') : W'.cell? ⟨Bn, 0, none⟩ = W.cell? ⟨Bn, 0, none⟩ := World.cell?_of_block (a := ⟨Bn, 0, none⟩) h.2

set_option maxRecDepth 100000 in
set_option maxHeartbeats 2000000 in
theorem chunk1_in (n : Nat) (hn : 1 ≤ n) (l Bs Bn b off len cap : Nat) (hcap : len ≤ cap) (hcap' : cap ≤ 1000000) (J Jx : List (Rnd len) → World → Prop) (W : World) (hJa : AbidesFrom W.heap.size J)
    (hY : ∀ pre x W, J pre W → pre.length < len → YieldAt Fence.wide (n - 1) Tryz.prog l (rndEncs b off len x) W fun e W' =>
      (e = .returned (.bool true) ∧ J (pre ++ [x]) W' ∧ KC Bs Bn W W') ∨ (e = .returned (.bool false) ∧ Jx (pre ++ [x]) W'))
    (hcs : W.cell? ⟨Bs, 0, none⟩ = some (.slice (some ⟨b, off, none⟩) len cap)) (hcn : W.cell? ⟨Bn, 0, none⟩ = some (.int .i64 25)) (h0 : J [] W) :
    CallsIn Fence.wide n Tryz.prog 183 #[.func (.yield l) #[] #[], .pointer (some ⟨Bs, 0, none⟩), .pointer (some ⟨Bn, 0, none⟩)] W fun e W' => (∃ v, e = .returned v) ∧
      ((∃ ys, ys = rndsTo len (nParts len) ∧ J ys W') ∨ (∃ pre, Jx pre W')) := by
  have hfol := prog_follows
  refine callsIn_of_wp Tryz.func183 rfl trivial ?_ rfl
  simp only [Tryz.ntmps183, List.size_toArray, List.length_cons, List.length_nil, Nat.reduceAdd, Nat.reduceSub, Array.replicate_succ, Array.replicate_zero, List.push_toArray, List.append_toArray, List.nil_append, List.cons_append]
  gi_wp2
  gi_loopw [4] (fun i wr => ∃ k : Nat, 25 * k < len + 25 ∧ i = .int .i64 ((25 * k : Nat) : Int) ∧ J (rndsTo len k) wr ∧ KC Bs Bn W wr)
    (fun i _ => len + 25 - (intOf i).toNat)
  case atStart => exact ⟨0, by omega, rfl, by simpa [rndsTo] using h0, rfl, rfl⟩
  case round =>
    obtain ⟨k, hk, rfl, hJs, hnx⟩ := hrel
    have c0 := hnx.cellS.trans hcs
    have c1 := hnx.cellN.trans hcn
    by_cases hlt : 25 * k < len
    · have hJd := hJa _ _ wr.drew none hJs ⟨rfl, rfl, rfl, Nat.le_refl _, fun _ _ _ => rfl⟩ (fun r e => by cases e)
      obtain ⟨fn, tmps, assign, body, hy, hR⟩ := hY _ ⟨k, hlt⟩ wr.drew hJd (by have := rndsTo_length len k; omega)
      rw [← rndsTo_succ len k hlt] at hR
      simp only [rndEncs, cutN] at hy
      generalize hi : 25 * k = i at *
      have HI := hide hi
      clear hi
      have j0 : (0 : Int) ≤ (i : Int) := by omega
      have j1 : (i : Int) < (len : Int) := by omega
      have j2 : (i : Int) ≤ (cap : Int) := by omega
      have j3 : (len : Int) ≤ (cap : Int) := by omega
      gi_wp2
      gi_big_region_o
      obtain ⟨c, hc⟩ : ∃ c : Nat, min 25 (len - i) = c := ⟨_, rfl⟩
      rw [show (min 25 ((len - i : Nat) : Int)) = (c : Int) by omega]
      rw [hc] at hy
      have k0 : 0 < c := by omega
      have k1 : (i : Int) + (c : Int) ≤ (len : Int) := by omega
      have k2 : (i : Int) + (c : Int) ≤ (cap : Int) := by omega
      have k3 : (i : Int) ≤ (i : Int) + (c : Int) := by omega
      clear hc
      gi_wp2
      refine hR.mono ?_
      rintro e W3 (⟨rfl, hJ3, hk3⟩ | ⟨rfl, hJx3⟩)
      · have hnx3 : KC Bs Bn W W3 := hnx.t hk3
        have c1' := hnx3.cellN.trans hcn
        gi_wp2
        go_roundw
        case rel => exact ⟨k + 1, by have := unhide HI; omega, by have := unhide HI; subst this; go_num, hJ3, hnx3⟩
        case measure => simp [intOf]; omega
      · gi_wp2
        refine bodyPost_ret (results_none rfl _ _ _) rfl ?_
        exact ⟨⟨_, rfl⟩, .inr ⟨_, hJx3⟩⟩
    · have hkn : rndsTo len k = rndsTo len (nParts len) := by
        have h1 : k = nParts len := by unfold nParts; omega
        rw [h1]
      rw [hkn] at hJs
      have j1 : ¬ ((25 * k : Nat) : Int) < (len : Int) := by omega
      gi_wp2
      go_end0
      exact ⟨⟨_, rfl⟩, .inl hJs⟩

theorem chunk_stops (n : Nat) (hn : 1 ≤ n) (Bs Bn b off len cap : Nat) (hcap : len ≤ cap) (hcap' : cap ≤ 1000000) (w : World) (hBs : Bs < w.heap.size) (hBn : Bn < w.heap.size)
    (hcs : w.cell? ⟨Bs, 0, none⟩ = some (.slice (some ⟨b, off, none⟩) len cap)) (hcn : w.cell? ⟨Bn, 0, none⟩ = some (.int .i64 25)) :
    SeqStopsK Fence.wide n Tryz.prog 183 #[.pointer (some ⟨Bs, 0, none⟩), .pointer (some ⟨Bn, 0, none⟩)] (rndEncs b off len) (KC Bs Bn) (fun ys => ys = rndsTo len (nParts len)) (fun _ => True) len w := fun l J Jx W hW hJ _ hY h0 => by
  have hcs' := (hW.cell (p := ⟨Bs, 0, none⟩) hBs).trans hcs
  have hcn' := (hW.cell (p := ⟨Bn, 0, none⟩) hBn).trans hcn
  refine (chunk1_in n hn l Bs Bn b off len cap hcap hcap' J Jx W hJ hY hcs' hcn' h0).mono fun e W' ⟨he, hj⟩ => ⟨he, ?_⟩
  rcases hj with h | ⟨pre, h⟩
  · exact .inl h
  · exact .inr ⟨pre, trivial, h⟩

set_option maxHeartbeats 1000000 in
theorem chunk_any (a : Option Addr) (len cap : Nat) (w : World) :
    Calls Tryz.prog 143 #[.slice a len cap, .int .i64 25] w fun e w' => e = .returned (.func (.func 183) #[] #[.pointer (some ⟨w.heap.size, 0, none⟩), .pointer (some ⟨w.heap.size + 1, 0, none⟩)]) ∧ w' = (w.alloc (.cells #[.slice a len cap] 43)).alloc (.cells #[.int .i64 25] 3) := by
  refine (callsIn_wide (n := 3)).1 ?_
  refine callsIn_of_wp Tryz.func143 rfl trivial ?_ rfl
  simp only [Tryz.ntmps143, List.size_toArray, List.length_cons, List.length_nil, Nat.reduceAdd, Nat.reduceSub, Array.replicate_succ, Array.replicate_zero, List.push_toArray, List.append_toArray, List.nil_append, List.cons_append]
  gi_wp2
  go_ret
  exact ⟨rfl, rfl⟩

end Go.Proofs.YtdnpeefnobjfaaaGreatDoor

/- packet.Responses. -/
namespace Go.Proofs.YtdnpeefnobjfaaaGreatDoor
open Go.RowKit Go.Shelf
attribute [local go_sem] Oper.semAt_some
attribute [-go_sem] Builtin.append_

/-- The packets of some rounds. -/
def pktOf (l : List Ent) (k : Nat) : Value := .string (strB (encBytes 2 (partOf l k)))
def pkts {n : Nat} (l : List Ent) (pre : List (Rnd n)) : List Value := pre.map fun x => pktOf l x.1
theorem Tryz.info9 : (Tryz.prog.info? 9).map (fun i => (i.zero, i.size, i.bytes)) = some (some (.string ⟨#[]⟩), 1, 16) := by kernel_rfl

theorem pkts_snoc {n : Nat} (l : List Ent) (pre : List (Rnd n)) (y : Rnd n) : pkts l (pre ++ [y]) = pkts l pre ++ [pktOf l y.1] := by simp [pkts]
theorem rnds_vals (n k : Nat) (h : 25 * k < n + 25) : (rndsTo n k).map (·.1) = List.range k := by
  induction k with
  | zero => rfl
  | succ k ih => rw [rndsTo_succ n k (by omega), List.map_append, ih (by omega), List.range_succ]; rfl
theorem rnds_all_length (n : Nat) : (rndsTo n (nParts n)).length = nParts n := by
  have h := congrArg List.length (rnds_vals n (nParts n) (by unfold nParts; omega))
  simpa using h
theorem pkts_all (n : Nat) (l : List Ent) : pkts l (rndsTo n (nParts n)) = (List.range (nParts n)).map (pktOf l) := by
  rw [← rnds_vals n (nParts n) (by unfold nParts; omega), List.map_map]
  rfl
theorem blk_appended {w1 w5 : World} {n₀ B k : Nat} {cs : Array Value} {t e : TypeId} {size n : Nat} {v v' : Value} {xs : List Value} {o : Obj} (h : Blk w1 k cs t) (hrow : w1.ownsRow n₀ e size v n xs) (hte : t ≠ e) (hg : (w1.alloc o).grownBy w5 v.ownBlock) (hkB : B ≠ k) : Blk (w5.setCell ⟨B, 0, none⟩ v') k cs t := by
  refine Blk.other (W := w5) ?_ (p := ⟨B, 0, none⟩) hkB v'
  refine (hg.block k (h.alloc o).lt (fun hv => ?_)).trans (h.alloc o)
  rcases hrow.2 with ⟨rfl, _⟩ | ⟨g', cap', cur', rfl, _, hg', _⟩
  · simp [Value.ownBlock] at hv
  · simp [Value.ownBlock] at hv
    subst hv
    unfold Blk at h
    rw [hg'] at h
    simp at h
    exact hte h.2.symm
theorem part_len {l : List Ent} {n : Nat} (hn : l.length = n) (k : Nat) : (partOf l k).length = cutN n k := by
  simp [partOf, cutN, hn]
theorem part_mem {l : List Ent} {k : Nat} {e : Ent} (h : e ∈ partOf l k) : e ∈ l := List.mem_of_mem_drop (List.mem_of_mem_take h)
theorem part_ok {l : List Ent} (h : entsOk l) (k : Nat) : entsOk (partOf l k) := fun e he => h e (part_mem he)
theorem fine_first {l : List Ent} (h : ∀ e ∈ l, entErr e = 0) : ∀ k, firstErr l k = none := by
  induction l with
  | nil => intro k; rfl
  | cons e r ih =>
    intro k
    unfold firstErr
    rw [if_pos (h e (by simp))]
    exact ih (fun x hx => h x (by simp [hx])) _
theorem part_fine {l : List Ent} (h : ∀ e ∈ l, entErr e = 0) (k : Nat) : firstErr (partOf l k) 0 = none := fine_first (fun e he => h e (part_mem he)) 0
theorem part_cells0 {w W : World} {g : Nat} {l : List Ent} {B : Nat} (h : entCells w g 0 l) (hb : Below B w W) (hg : g < B) (k : Nat) : entCells W g (25 * k * 4) (partOf l k) := by
  intro j hj
  have hj' : 25 * k + j < l.length := by
    have : j < min 25 (l.length - 25 * k) := by simpa [partOf] using hj
    omega
  obtain ⟨c0, c1, c2, c3⟩ := h (25 * k + j) hj'
  have e : (partOf l k)[j] = l[25 * k + j] := by simp [partOf]
  rw [e]
  have hm : 0 + (25 * k + j) * 4 = 25 * k * 4 + j * 4 := by omega
  rw [hm] at c0 c1 c2 c3
  exact ⟨(hb.cell (p := ⟨g, _, none⟩) hg).trans c0, (hb.cell (p := ⟨g, _, none⟩) hg).trans c1, (hb.cell (p := ⟨g, _, none⟩) hg).trans c2, (hb.cell (p := ⟨g, _, none⟩) hg).trans c3⟩

set_option maxRecDepth 100000 in
set_option maxHeartbeats 4000000 in
theorem responses_any (g n : Nat) (l : List Ent) (base : Nat) (w : World) (hn : l.length = n) (h60 : n ≤ 1000) (hok : entsOk l) (hz : ∀ e ∈ l, entErr e = 0) (hown : w.ownsRow base 42 4 (.slice (some ⟨g, 0, none⟩) n n) n (entList l)) :
    Calls Tryz.prog 92 #[.slice (some ⟨g, 0, none⟩) n n] w fun e w' => ∃ v, e = .returned v ∧ w'.ownsRow w.heap.size 9 1 v (nParts n) ((List.range (nParts n)).map (pktOf l)) ∧ Below w.heap.size w w' := by
  obtain ⟨i0, hi, hz0, hz1, hz2⟩ := info_parts Tryz.info9
  have hec0 := dataRow_cells (dataRow_of hown)
  have hg0 : g < w.heap.size := dataRow_lt (dataRow_of hown)
  refine (callsIn_wide (n := 6)).1 ?_
  refine callsIn_of_wp_marks Tryz.func92 rfl trivial ?_ rfl
  simp only [Tryz.ntmps92, List.size_toArray, List.length_cons, List.length_nil, Nat.reduceAdd, Nat.reduceSub, Array.replicate_succ, Array.replicate_zero, List.push_toArray, List.append_toArray, List.nil_append, List.cons_append]
  gi_wp2_with (refine ⟨trivial, ?_⟩; gi_at_call 143; refine (callsIn_wide.2 (chunk_any _ _ _ _)).mono ?_; rintro e w' ⟨rfl, rfl⟩)
  have bO := (Boxed.new w 186 (.slice none 0 0))
  have hB0 : Below w.heap.size w (((w.alloc (.cells #[.slice none 0 0] 186)).alloc (.cells #[.slice (some ⟨g, 0, none⟩) n n] 43)).alloc (.cells #[.int .i64 25] 3)) := (((Grows.refl w).alloc _).alloc _).alloc _ |>.below
  have bO := (bO.alloc (.cells #[.slice (some ⟨g, 0, none⟩) n n] 43)).alloc (.cells #[.int .i64 25] 3)
  have bS := (Blk.new (w.alloc (.cells #[.slice none 0 0] 186)) #[.slice (some ⟨g, 0, none⟩) n n] 43).alloc (.cells #[.int .i64 25] 3)
  have bN := Blk.new ((w.alloc (.cells #[.slice none 0 0] 186)).alloc (.cells #[.slice (some ⟨g, 0, none⟩) n n] 43)) #[.int .i64 25] 3
  simp only [World.size_alloc] at bS bN
  have cS := (bS.cell 0).trans (show _ = some (.slice (some ⟨g, 0, none⟩) n n) from rfl)
  have cN := (bN.cell 0).trans (show _ = some (.int .i64 25) from rfl)
  have hsz : (((w.alloc (.cells #[.slice none 0 0] 186)).alloc (.cells #[.slice (some ⟨g, 0, none⟩) n n] 43)).alloc (.cells #[.int .i64 25] 3)).heap.size = w.heap.size + 3 := by simp
  obtain ⟨W0, hW0⟩ : ∃ W0, ((w.alloc (.cells #[.slice none 0 0] 186)).alloc (.cells #[.slice (some ⟨g, 0, none⟩) n n] 43)).alloc (.cells #[.int .i64 25] 3) = W0 := ⟨_, rfl⟩
  rw [hW0] at bO hB0 hsz cS cN bS bN ⊢
  clear hW0
  refine wpIn_rangeFunc_ownH rfl (by decide) (gf := 183) (lb := #[.pointer (some ⟨w.heap.size + 1, 0, none⟩), .pointer (some ⟨w.heap.size + 1 + 1, 0, none⟩)]) rfl trivial (enters_of Tryz.func183 (by kernel_rfl) rfl)
    (chunk_stops (6 - 1) (by decide) (w.heap.size + 1) (w.heap.size + 1 + 1) g 0 n n (Nat.le_refl _) (by omega) W0 (by omega) (by omega) cS cN) KC.t (KC.b (by omega) (by omega)) (Below.refl _ _) (fun _ => rfl)
    (fun pre W => (∃ v, Boxed W w.heap.size 186 v ∧ W.ownsRow w.heap.size 9 1 v pre.length (pkts l pre) ∧ True) ∧ (Blk W (w.heap.size + 1) #[.slice (some ⟨g, 0, none⟩) n n] 43 ∧ Blk W (w.heap.size + 1 + 1) #[.int .i64 25] 3) ∧ Below w.heap.size w W)
    (fun _ _ _ => False)
    (OwnFrom.and (Own.from (holdsRow_own w.heap.size w.heap.size 186 9 1 (fun (pre : List (Rnd n)) => pre.length) (fun (pre : List (Rnd n)) => pkts l pre) (fun _ _ => True)) _) (OwnFrom.and (OwnFrom.and (Own.from (Blk.own (β := List (Rnd n)) _ (fun _ => _) _) _) (Own.from (Blk.own (β := List (Rnd n)) _ (fun _ => _) _) _)) (ownFrom_below (Nat.le_refl _) (by omega))))
    (fun _ _ _ _ _ hs _ _ => hs)
    ⟨⟨_, bO, World.ownsRow_nil _ _ _ _, trivial⟩, ⟨bS, bN⟩, hB0⟩
    (fun y a' W => a' = { tmps := #[.slice (some ⟨g, 0, none⟩) n n, undef, .slice none 0 0, .pointer (some ⟨w.heap.size, 0, none⟩), .slice (some ⟨g, 25 * y.1 * 4, none⟩) (cutN n y.1) (cutN n y.1), .slice (some ⟨g, 0, none⟩) n n, .func (.func 183) #[] #[.pointer (some ⟨w.heap.size + 1, 0, none⟩), .pointer (some ⟨w.heap.size + 1 + 1, 0, none⟩)], .slice (some ⟨g, 25 * y.1 * 4, none⟩) (cutN n y.1) (cutN n y.1), undef, undef, undef, undef, undef, undef], defers := [] })
    ?hAx ?assign ?body ?done ?stop
  case hAx =>
    intro y a' _ X Y row hs hg hr
    exact hs
  case assign =>
    rintro l' pre y W K ⟨⟨v, hv, hrow, _⟩, hbb, hB1⟩ hK
    simp only [rndEncs]
    gi_wp2
    exact hK _ _ ((KeepsOthers.refl _).from _) ⟨rfl, rfl⟩ ⟨⟨v, hv, hrow, trivial⟩, hbb, hB1⟩ rfl
  case body =>
    rintro l' pre y a' W hl ⟨r, hr⟩ ⟨⟨v, hv, hrow, _⟩, ⟨hb1, hb2⟩, hB1⟩ rfl hlt
    obtain ⟨av, cv, rfl⟩ := ownsRow_slice hrow
    have hfol := prog_follows
    have hbW : Below w.heap.size w W.drew := hB1.drew
    have hec : entCells W.drew g (25 * y.1 * 4) (partOf l y.1) := part_cells0 hec0 hbW hg0 y.1
    have hWR := writeResponse_any g (25 * y.1 * 4) (cutN n y.1) (cutN n y.1) (partOf l y.1) W.drew (part_ok hok y.1) (part_len hn y.1) (by unfold cutN; omega) (Nat.lt_of_lt_of_le hg0 hbW.size) (part_fine hz y.1) hec
    have c0 := hv.cell
    have HV := hide hv
    have HROW := hide hrow
    have HB1 := hide hB1
    have HBB := hide (And.intro hb1 hb2)
    have hpl : pre.length < 1000 := by omega
    clear hv hrow hB1 hec hbW hb1 hb2
    gi_wp2
    gi_region_with_o (refine ⟨trivial, ?_⟩; gi_at_call 85; refine (CallsIn.inRound l' (callsIn_wide.2 hWR)).mono ?_; rintro e w1 ⟨rfl, hw1⟩; have hW1 : Below W.heap.size W w1 := Below.trans (Below.refl _ W).drew hw1; have hv1 : Boxed w1 w.heap.size 186 (.slice av pre.length cv) := (unhide HV).kept (grown_below (r := none) hW1) (by simp); have hrow1 := ownsRow_below (unhide HROW) hW1 (Nat.le_refl _); have hsz1 : w.heap.size ≤ w1.heap.size := Nat.le_trans (unhide HB1).size hW1.size; obtain ⟨g5, c5, w5, hrun5, hown5, hg5, hat5, hlt5⟩ := run_append_lies (P := Tryz.prog) (w1.alloc (.cells #[pktOf l y.1] 9)) 186 186 w.heap.size 9 i0 (.string ⟨#[]⟩) 1 16 Tryz.underlying186 hi hz0 hz1 hz2 rfl (by decide) _ _ _ (hrow1.alloc _) ⟨w1.heap.size, 0, none⟩ 1 1 [pktOf l y.1] rfl (by exact World.news_of_block (heap_alloc_new w1 _)) (by intro u hu; simp at hu; subst hu; rfl) (by decide) (by unfold maxLen; omega) (by omega) (by simp; omega) _ rfl; obtain ⟨q1, q2, q3, q4, q5⟩ := hv1.appended (by decide) hrow1 hsz1 (Nat.le_refl _) hown5 hg5; have c1 := hv1.cell; have c2 := (hv1.alloc (.cells #[.string (strB (encBytes 2 (partOf l y.1)))] 9)).cell; have c5' := q1.cell; have f5 := q1.frozen; simp only [pktOf] at hrun5)
    all_goals
      have hb := unhide HBB
      have hbW := unhide HB1
      have hne0 : w.heap.size ≠ w.heap.size + 1 := by omega
      have hne1 : w.heap.size ≠ w.heap.size + 1 + 1 := by omega
      have h1 := blk_appended (B := w.heap.size) (v' := .slice (some ⟨g5, 0, none⟩) (pre.length + 1) c5) (hb.1.below hW1 hb.1.lt) hrow1 (by decide) hg5 hne0
      have h2 := blk_appended (B := w.heap.size) (v' := .slice (some ⟨g5, 0, none⟩) (pre.length + 1) c5) (hb.2.below hW1 hb.2.lt) hrow1 (by decide) hg5 hne1
      exact ⟨(KeepsFrom.of_grownBy (grown_below (r := none) hW1) (fun j e => by cases e)).trans (q4.from _), ⟨h1.trans hb.1.symm, h2.trans hb.2.symm⟩, ⟨_, q2, by rw [pkts_snoc, List.length_append]; exact q3, trivial⟩, ⟨h1, h2⟩, hbW.trans ((hW1.mono hbW.size).trans q5)⟩
  case done =>
    rintro D ys W hD rfl ⟨⟨v, hv, hrow, _⟩, _, hB⟩ hK
    have hc := hv.cell
    gi_wp2
    refine ⟨by simp, .inl ⟨_, _, rfl, run_takeDeferred hK, ?_⟩⟩
    refine ⟨_, results_tmp rfl _ _ _, v, rfl, ?_, hB.trans (belowK_b (w := w) (Nat.le_refl _) W D _ _ (by omega) hK rfl rfl)⟩
    have h0 := ownsRow_putObj hrow (.deferred none) hK rfl
    rw [rnds_all_length, pkts_all] at h0
    exact h0
  case stop =>
    rintro D c pre W _ _ h _
    exact h.elim

end Go.Proofs.YtdnpeefnobjfaaaGreatDoor
