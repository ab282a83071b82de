/- A table so many ticks later: (Table).Later. -/
import Derived.Test.YtdnpeefnobjfaaaGreatDoorTLostM
import Derived.Shelf.Spec.SlicesInsert
import Derived.Lib.AppendZerosOnto
import Derived.Laws.CopyRow
namespace Go.Proofs.YtdnpeefnobjfaaaGreatDoor
open Go.RowKit
attribute [local go_sem ↓] Go.wp_at_zero Go.wp_at_succ

/-- One tick. -/
def tickL (L : List Rw) : List Rw := keptL (L.map rwOlder)
def laterL : Nat → List Rw → List Rw
  | 0, L => L
  | n + 1, L => tickL (laterL n L)
/-- No age is beyond a bound. -/
def agesIn (b : Int) (L : List Rw) : Prop := ∀ r ∈ L, 0 ≤ r.age ∧ r.age ≤ b
theorem older_age {r : Rw} {b : Int} (h0 : 0 ≤ r.age) (h1 : r.age ≤ b) : 0 ≤ (rwOlder r).age ∧ (rwOlder r).age ≤ b + 1 := by
  unfold rwOlder
  split
  · omega
  · split
    · unfold rwLost
      split
      · show 0 ≤ r.age + 1 ∧ r.age + 1 ≤ b + 1; omega
      · show (0 : Int) ≤ 0 ∧ (0 : Int) ≤ b + 1; omega
    · show 0 ≤ r.age + 1 ∧ r.age + 1 ≤ b + 1; omega
theorem tick_ages {b : Int} {L : List Rw} (h : agesIn b L) : agesIn (b + 1) (tickL L) := by
  intro r hr
  have hr' := (List.mem_filter.1 hr).1
  obtain ⟨q, hq, rfl⟩ := List.mem_map.1 hr'
  exact older_age (h q hq).1 (h q hq).2
theorem later_ages {b : Int} {L : List Rw} (h : agesIn b L) : ∀ n : Nat, agesIn (b + n) (laterL n L)
  | 0 => by simpa [laterL] using h
  | n + 1 => by
    have := tick_ages (later_ages h n)
    have e : b + (n : Int) + 1 = b + ((n + 1 : Nat) : Int) := by omega
    rw [e] at this
    exact this
theorem tick_length (L : List Rw) : (tickL L).length ≤ L.length := by
  unfold tickL keptL
  exact Nat.le_trans (List.length_filter_le _ _) (by simp)
theorem later_length (L : List Rw) : ∀ n, (laterL n L).length ≤ L.length
  | 0 => Nat.le_refl _
  | n + 1 => Nat.le_trans (tick_length _) (later_length L n)

set_option maxRecDepth 100000 in
set_option maxHeartbeats 4000000 in
theorem later_any (base : Nat) (ao : Option Addr) (cap N : Nat) (L : List Rw) (w : World) (hn : L.length ≤ 1000000) (hN : N ≤ 1000) (hage : agesIn 10000 L) (hown : w.ownsRow base 137 7 (.slice ao L.length cap) L.length (rwList L)) :
    Calls Tryz.prog 48 #[.agg #[.slice ao L.length cap], .int .i64 N] w fun e w' => ∃ v, e = .returned (.agg #[v]) ∧ w'.ownsRow w.heap.size 137 7 v (laterL N L).length (rwList (laterL N L)) ∧ Below w.heap.size w w' := by
  have bT := outBlk w #[.slice ao L.length cap] 120 #[.slice none 0 0] 120
  have hb0 := (((Grows.refl w).alloc (.cells #[.slice ao L.length cap] 120)).alloc (.cells #[.slice none 0 0] 120)).below
  have hsz : ((w.alloc (.cells #[.slice ao L.length cap] 120)).alloc (.cells #[.slice none 0 0] 120)).heap.size = w.heap.size + 2 := by simp
  have hcl := cloneRow_any base (.slice ao L.length cap) L ((w.alloc (.cells #[.slice ao L.length cap] 120)).alloc (.cells #[.slice none 0 0] 120)) hn (ownsRow_below hown hb0 (Nat.le_refl _))
  have HT := hide bT
  have HB0 := hide hb0
  have HSZ := hide hsz
  have HAGE := hide (fun t => later_ages hage t)
  clear bT hb0 hown hsz hage
  go_enter Tryz.func48, Tryz.ntmps48
  go_wp2_with fail
  refine hcl.mono ?_
  rintro e w1 ⟨v', rfl, hown1, hb1⟩
  rw [unhide HSZ] at hown1 hb1
  obtain ⟨ao', cap', rfl⟩ := ownsRow_slice hown1
  have HB1 := hide hb1
  have hs1 : w.heap.size + 2 ≤ w1.heap.size := by have := hb1.size; rw [unhide HSZ] at this; exact this
  have bT1 := (unhide HT).below hb1 (by omega)
  clear hcl hb1
  go_wp2_with fail
  go_loopw [5, 12] (fun d i wr => ∃ t : Nat, t ≤ N ∧ i = .int .i64 t ∧ wr.ownsRow (w.heap.size + 2) 137 7 d (laterL t L).length (rwList (laterL t L)) ∧ Below (w.heap.size + 2) w1 wr) (fun _ i _ => N - (intOf i).toNat)
  case atStart => exact ⟨0, by omega, rfl, hown1, Below.refl _ _⟩
  case round =>
    obtain ⟨t, ht, rfl, hown, hb⟩ := hrel
    clear hown1
    obtain ⟨ao2, cap2, rfl⟩ := ownsRow_slice hown
    have hlen2 : (laterL t L).length ≤ 1000000 := Nat.le_trans (later_length L t) hn
    by_cases hlt : t < N
    · have hages := unhide HAGE t
      have HSTEP := hide (show laterL (t + 1) L = tickL (laterL t L) from rfl)
      generalize laterL t L = M at *
      have ht0 : (t : Int) < (N : Int) := by omega
      have HBo := hide hb
      have hown0 := hown
      clear hown hb
      go_wp2_with fail
      go_loopw [16] (fun i wr2 => ∃ k : Nat, k ≤ M.length ∧ i = .int .i64 k ∧ wr2.ownsRow (w.heap.size + 2) 137 7 (.slice ao2 M.length cap2) M.length (rwList (mapUpto rwOlder M k)) ∧ Below (w.heap.size + 2) w1 wr2) (fun i _ => M.length - (intOf i).toNat)
      case atStart => exact ⟨0, by omega, rfl, by rw [mapUpto_zero]; exact hown0, unhide HBo⟩
      case round =>
        obtain ⟨k, hk, rfl, hown, hb⟩ := hrel
        clear hown0
        by_cases hltk : k < M.length
        · obtain ⟨g, rfl⟩ : ∃ g, ao2 = some ⟨g, 0, none⟩ := by
            rcases hown.2 with ⟨_, h0⟩ | ⟨g, c, cur, hv, _⟩
            · omega
            · simp at hv; exact ⟨g, hv.1⟩
          have hlt' : k < (mapUpto rwOlder M k).length := by rw [mapUpto_length]; exact hltk
          have hgb : w.heap.size + 2 ≤ g := by
            rcases hown.2 with ⟨hv, _⟩ | ⟨g', c, cur, hv, hbg, _⟩
            · simp at hv
            · simp at hv; omega
          obtain ⟨_, hce⟩ := ownsRow_cellsOf hown hlt'
          have hcek := hce k hlt'
          rw [mapUpto_at _ _ _ hltk hlt'] at hcek
          simp only [Nat.zero_add] at hcek
          obtain ⟨c0, c1, c2, c3, c4, c5, c6⟩ := hcek
          have HSET := hide (mapUpto_set rwOlder M k hltk)
          have HOWN := hide hown
          have HB := hide hb
          have hagek := hages M[k] (List.getElem_mem _)
          have hL := fun W => older_any M[k] W hagek.1 (by omega)
          have j0 : (0 : Int) ≤ (k : Int) := by omega
          have j1 : (k : Int) < (M.length : Int) := by omega
          clear hown hce hb
          generalize hE : M[k] = E at *
          clear hE hagek
          generalize rwOlder E = r2 at hL HSET
          go_wp2_with (go_at_call 98; refine (hL _).mono ?_; rintro e w4 ⟨rfl, hg4⟩; have hg4' := ((Grows.refl wr).alloc _).trans hg4; have hown4 := ownsRow_block (unhide HOWN) (hg4'.below.block _ (ownsRow_lt (unhide HOWN))); obtain ⟨⟨cur, bG, hcur⟩, _⟩ := ownsRow_cellsOf hown4 hlt'; obtain ⟨u0, s0⟩ := cell_there bG hcur hltk 0 (by decide); obtain ⟨u1, s1⟩ := cell_there bG hcur hltk 1 (by decide); obtain ⟨u2, s2⟩ := cell_there bG hcur hltk 2 (by decide); obtain ⟨u3, s3⟩ := cell_there bG hcur hltk 3 (by decide); obtain ⟨u4, s4⟩ := cell_there bG hcur hltk 4 (by decide); obtain ⟨u5, s5⟩ := cell_there bG hcur hltk 5 (by decide); obtain ⟨u6, s6⟩ := cell_there bG hcur hltk 6 (by decide); rw [Nat.add_zero] at s0; have z0 := bG.frozen (k * 7); have z1 := bG.frozen (k * 7 + 1); have z2 := bG.frozen (k * 7 + 2); have z3 := bG.frozen (k * 7 + 3); have z4 := bG.frozen (k * 7 + 4); have z5 := bG.frozen (k * 7 + 5); have z6 := bG.frozen (k * 7 + 6); have HO4 := hide hown4; have HG4 := hide hg4'; clear hown4 hg4 hg4' hcur bG)
          go_roundw
          case rel =>
            refine ⟨k + 1, by omega, by go_num, by rw [← unhide HSET]; exact ownsRow_put (unhide HO4) hlt' r2, ?_⟩
            have h4 := (unhide HB).trans ((unhide HG4).below.mono (by have := (unhide HB).size; omega))
            exact ((((((h4.setCell (p := ⟨g, _, none⟩) hgb _).setCell (p := ⟨g, _, none⟩) hgb _).setCell (p := ⟨g, _, none⟩) hgb _).setCell (p := ⟨g, _, none⟩) hgb _).setCell (p := ⟨g, _, none⟩) hgb _).setCell (p := ⟨g, _, none⟩) hgb _).setCell (p := ⟨g, _, none⟩) hgb _
          case measure => simp [intOf]; omega
        · have hkn : k = M.length := by omega
          subst hkn
          rw [mapUpto_all] at hown
          have hlm : (M.map rwOlder).length = M.length := by simp
          rw [← hlm] at hown
          have hD := deleteFunc_any (w.heap.size + 2) _ (M.map rwOlder) wr (by omega) hown
          rw [hlm] at hD
          have HB := hide hb
          have HOB := hide (show ∀ q, (Value.slice ao2 M.length cap2).ownBlock = some q → w.heap.size + 2 ≤ q from fun q hq => by
            rw [hlm] at hown
            rcases hown.2 with ⟨hv, _⟩ | ⟨g', c, cur, hv, hbg, _⟩
            · rw [hv] at hq; simp [Value.ownBlock] at hq
            · rw [hv] at hq; simp [Value.ownBlock] at hq; omega)
          clear hown hb hlm
          go_wp2_with (go_at_call 99; refine hD.mono ?_; rintro e w5 ⟨v5, rfl, hown5, hg5⟩)
          go_roundw
          case rel =>
            refine ⟨t + 1, by omega, by go_num, by rw [unhide HSTEP]; exact hown5, ?_⟩
            exact (unhide HB).grown hg5 (by have := (unhide HB).size; omega) (unhide HOB)
          case measure => simp [intOf]; omega
    · have htn : t = N := by omega
      subst htn
      have bT2 := bT1.below hb (by omega)
      have s0 := bT2.cell 0
      have z0 := bT2.frozen 0
      have HOWN := hide hown
      have HB := hide hb
      clear hown hb
      go_wp2
      have bT3 := bT2.set 0 (.slice ao2 (laterL t L).length cap2)
      have t0 := bT3.cell 0
      simp at t0
      refine bodyPost_ret (v := .agg #[.slice ao2 (laterL t L).length cap2]) (by simp [results, Tryz.results48, go_sem, t0]) rfl ⟨_, rfl, ?_, ?_⟩
      · exact ownsRow_mono (ownsRow_other (unhide HOWN) bT2 (by decide)) (by omega)
      · exact ((unhide HB0).trans (((unhide HB1).mono (by omega)).trans ((unhide HB).mono (by omega)))).setCell (p := ⟨w.heap.size + 1, 0, none⟩) (by simp) _

end Go.Proofs.YtdnpeefnobjfaaaGreatDoor

/- slices.Insert of one row into a table's rows. -/
namespace Go.Proofs.YtdnpeefnobjfaaaGreatDoor
open Go.RowKit Go.Shelf Go.Lib
attribute [local go_sem ↓] Go.wp_at_zero Go.wp_at_succ

/-- copy between rows of elements of several cells. -/
theorem run_copy_rowK {P : Program} (w : World) (dT sT ty elem : TypeId) (sz g o dLen dCap : Nat) (a : Addr) (sLen sCap k : Nat) (cur : Array Value) (t : TypeId) (cs : List Value)
    (hu : P.underlying dT = some (.slice elem)) (hs : (P.info? elem).map (·.size) = some sz)
    (hg : w.heap[g]? = some (.cells cur t (0, 0))) (hk : k = Nat.min sLen dLen) (hn : cs.length = k * sz)
    (hsrc : ∀ j v, cs[j]? = some v → w.cell? (a.add j) = some v) (hfit : o + cs.length ≤ cur.size) (h1 : ∀ v ∈ cs, v.oneCell' = true) :
    (Builtin.copy_ #[dT, sT] ty #[.slice (some ⟨g, o, none⟩) dLen dCap, .slice (some a) sLen sCap]).run P w =
      .ok (goInt k) (w.setRow g (cur.toList.take o ++ cs ++ cur.toList.drop (o + cs.length)).toArray) := by
  have hl := run_loadCells_list (P := P) w a cs hsrc
  have hst := run_storeCells_at P g o t cs 0 cur w hg (by simpa using hfit) h1
  cases hq : P.info? elem with
  | none => simp [hq] at hs
  | some i =>
    have hi : i.size = sz := by simpa [hq] using hs
    rw [hn] at hl
    simp [Builtin.copy_, run_underlying hu, Builtin.lenOf, Builtin.firstCells, sizeOf, typeInfo, hq, hi, ← hk, hl, hst]

set_option maxRecDepth 100000 in
set_option maxHeartbeats 2000000 in
theorem insert_end (base : Nat) (v : Value) (n vb : Nat) (xs : List Value) (r : Rw) (w : World) (hn : n ≤ 1000000) (hbase : base ≤ w.heap.size) (hown : w.ownsRow base 137 7 v n xs) (hv : Blk w vb (rwVals r).toArray 137) :
    Calls Tryz.prog 149 #[v, .int .i64 n, .slice (some ⟨vb, 0, none⟩) 1 1] w fun e w' => ∃ v', e = .returned v' ∧ w'.ownsRow base 137 7 v' (n + 1) (xs ++ rwVals r) ∧ w.grownBy w' v.ownBlock := by
  obtain ⟨iR, hiR, hR0, hR1, hR2⟩ := info_parts Tryz.info137
  obtain ⟨ao, cap, rfl⟩ := ownsRow_slice hown
  have hnews : ∀ j u, (rwVals r)[j]? = some u → w.cell? ((⟨vb, 0, none⟩ : Addr).add j) = some u := World.news_of_block hv
  have hcap : n ≤ cap := by
    rcases hown.2 with ⟨hv, h0⟩ | ⟨g, c, cur, hv, _, _, h1, _⟩
    · simp at hv; omega
    · simp at hv; omega
  have hq1 : (n : Int) ≤ (cap : Int) := by omega
  have hq0 : (0 : Int) ≤ (n : Int) := by omega
  have HO := hide hown
  have HN := hide hnews
  clear hown hv hnews
  go_enter Tryz.func149, Tryz.ntmps149
  go_wp2_with (at_builtin; go_loud (refine wpList_append_lies _ rfl (.tmp 23) (.tmp 24) 118 rfl base 137 iR (.agg #[.int .u32 0, .int .i64 0, .int .i64 0, .int .i64 0, .int .i64 0, .int .i64 0, .bool false]) 7 56 Tryz.underlying118 hiR hR0 hR1 hR2 rfl (by decide) (.slice ao n cap) n xs rfl (unhide HO) ⟨vb, 0, none⟩ 1 1 (rwVals r) rfl rfl (unhide HN) (rwVals_one r) (by decide) (by unfold maxLen; omega) (by omega) hbase w.heap.size rfl ?_; intro g1 c1 w1 hown1 hg1 hat1 hlt1))
  all_goals go_ret
  all_goals exact ⟨_, rfl, hown1, by cases ao <;> exact hg1⟩

theorem rwList_append (A B : List Rw) : rwList (A ++ B) = rwList A ++ rwList B := by simp [rwList]
theorem rwList_drop (M : List Rw) (i : Nat) : (rwList M).drop (i * 7) = rwList (M.drop i) := by
  by_cases hi : i ≤ M.length
  · have h := rwList_append (M.take i) (M.drop i)
    rw [List.take_append_drop] at h
    rw [h, List.drop_append, List.drop_of_length_le (by rw [rwList_length, List.length_take]; omega), List.nil_append, rwList_length, List.length_take, Nat.min_eq_left hi, Nat.sub_self, List.drop_zero]
  · rw [List.drop_of_length_le (by rw [rwList_length]; omega), List.drop_of_length_le (by omega)]; rfl
/-- The row behind the two copies. -/
def shifted (X : List Value) (i : Nat) (D V : List Value) : List Value :=
  (X.take ((i + 1) * 7) ++ D ++ X.drop ((i + 1) * 7 + D.length)).take (i * 7) ++ V ++ (X.take ((i + 1) * 7) ++ D ++ X.drop ((i + 1) * 7 + D.length)).drop (i * 7 + V.length)
theorem shifted_eq {X : List Value} {L : List Rw} {r : Rw} {i n : Nat} (_hL : L.length = n) (hi : i < n) (hX : (n + 1) * 7 ≤ X.length) (ht : X.take (n * 7) = rwList L) :
    shifted X i (rwList (L.drop i)) (rwVals r) = rwList (L.take i ++ r :: L.drop i) ++ X.drop ((i + 1) * 7 + (rwList (L.drop i)).length) := by
  unfold shifted
  have hV : (rwVals r).length = 7 := rfl
  have h1 : (X.take ((i + 1) * 7)).length = (i + 1) * 7 := by rw [List.length_take]; omega
  have h2 : X.take (i * 7) = rwList (L.take i) := by
    have := congrArg (List.take (i * 7)) ht
    rw [List.take_take, Nat.min_eq_left (Nat.mul_le_mul_right 7 (Nat.le_of_lt hi)), rwList_take] at this
    exact this
  have h3 : (X.take ((i + 1) * 7) ++ rwList (L.drop i) ++ X.drop ((i + 1) * 7 + (rwList (L.drop i)).length)).take (i * 7) = rwList (L.take i) := by
    rw [List.append_assoc, List.take_append_of_le_length (by rw [h1]; omega), List.take_take, Nat.min_eq_left (by omega), h2]
  have h4 : (X.take ((i + 1) * 7) ++ rwList (L.drop i) ++ X.drop ((i + 1) * 7 + (rwList (L.drop i)).length)).drop (i * 7 + (rwVals r).length) = rwList (L.drop i) ++ X.drop ((i + 1) * 7 + (rwList (L.drop i)).length) := by
    rw [List.append_assoc, hV, show i * 7 + 7 = (X.take ((i + 1) * 7)).length by rw [h1]; omega, List.drop_left]
  rw [h3, h4, rwList_append, show rwList (r :: L.drop i) = rwVals r ++ rwList (L.drop i) from rfl]
  simp [List.append_assoc]

set_option maxRecDepth 100000 in
set_option maxHeartbeats 4000000 in
theorem insert_room (base g n cap i vb : Nat) (L : List Rw) (r : Rw) (w : World) (hL : L.length = n) (hn : n ≤ 1000000) (hi : i < n) (hroom : n + 1 ≤ cap) (hvg : vb ≠ g) (hown : w.ownsRow base 137 7 (.slice (some ⟨g, 0, none⟩) n cap) n (rwList L)) (hv : Blk w vb (rwVals r).toArray 137) :
    Calls Tryz.prog 149 #[.slice (some ⟨g, 0, none⟩) n cap, .int .i64 i, .slice (some ⟨vb, 0, none⟩) 1 1] w fun e w' =>
      e = .returned (.slice (some ⟨g, 0, none⟩) (n + 1) cap) ∧ w'.ownsRow base 137 7 (.slice (some ⟨g, 0, none⟩) (n + 1) cap) (n + 1) (rwList (L.take i ++ r :: L.drop i)) ∧ w.grownBy w' (some g) := by
  have hsz : (Tryz.prog.info? 137).map (·.size) = some 7 := by kernel_rfl
  obtain ⟨cur, bG, hbg, hcm, hcs, ht⟩ : ∃ cur, Blk w g cur 137 ∧ base ≤ g ∧ cap ≤ maxLen ∧ cur.size = cap * 7 ∧ cur.toList.take (n * 7) = rwList L := by
    obtain ⟨_, ⟨hv, _⟩ | ⟨g', c', cur, hv, h1, h2, h3, h4, h5, h6⟩⟩ := hown
    · simp at hv
    · simp at hv
      obtain ⟨rfl, rfl⟩ := hv
      exact ⟨cur, h2, h1, h4, h5, h6⟩
  have hov : ∀ lb cb, (callFunc 194 #[.slice (some ⟨vb, 0, none⟩) 1 1, .slice (some ⟨g, (i + 1) * 7, none⟩) lb cb]).run Tryz.prog w = .ok (.value (.bool false)) w := fun lb cb => by
    rw [run_callFunc_extern Tryz.func194 (by kernel_rfl) (by kernel_rfl) (by kernel_rfl) (e := Extern.SlicesOverlaps.overlaps #[118, 118] #[4]) (by kernel_rfl),
      Lib.run_overlaps_apart w 118 4 137 Tryz.underlying118 7 Tryz.sizeOf137 ⟨vb, 0, none⟩ ⟨g, (i + 1) * 7, none⟩ 1 1 lb cb hvg 137 137 7 (cap * 7) (by unfold Blk at hv; simp [World.shape?, hv, rwVals]) (by unfold Blk at bG; simp [World.shape?, bG, hcs]) (by omega) (hv.frozen 0) (hv.frozen 7)]
    rfl
  have hD : (rwList (L.drop i)).length = (n - i) * 7 := by rw [rwList_length, List.length_drop, hL]
  have hcsz : (n + 1) * 7 ≤ cur.size := by rw [hcs]; exact Nat.mul_le_mul_right 7 hroom
  have hcells : ∀ j u, (rwList L)[j]? = some u → w.cell? ⟨g, j, none⟩ = some u := fun j u hj => by
    have := owned_cells hown j u hj
    rw [show (⟨g, 0, none⟩ : Addr).add j = ⟨g, j, none⟩ by unfold Addr.add; split <;> simp_all] at this
    exact this
  have hcp1 : ∀ ty dc sc, (Builtin.copy_ #[118, 118] ty #[.slice (some ⟨g, (i + 1) * 7, none⟩) (n - i) dc, .slice (some ⟨g, i * 7, none⟩) (n + 1 - i) sc]).run Tryz.prog w.drew = .ok (goInt ((n - i : Nat) : Int)) (w.drew.setRow g (cur.toList.take ((i + 1) * 7) ++ rwList (L.drop i) ++ cur.toList.drop ((i + 1) * 7 + (rwList (L.drop i)).length)).toArray) := fun ty dc sc =>
    run_copy_rowK w.drew _ _ ty 137 7 g ((i + 1) * 7) _ dc ⟨g, i * 7, none⟩ _ sc (n - i) cur 137 (rwList (L.drop i)) Tryz.underlying118 hsz bG (by simp only [Nat.min_def]; split <;> omega) hD
      (fun j u hj => by
        rw [Addr.add_lit]
        refine hcells (i * 7 + j) u ?_
        rw [← rwList_drop, List.getElem?_drop] at hj
        exact hj) (by rw [hD]; omega) (rwList_one _)
  obtain ⟨cur1, hcur1⟩ : ∃ cur1, cur1 = (cur.toList.take ((i + 1) * 7) ++ rwList (L.drop i) ++ cur.toList.drop ((i + 1) * 7 + (rwList (L.drop i)).length)).toArray := ⟨_, rfl⟩
  rw [← hcur1] at hcp1
  have hsz1 : cur1.size = cur.size := by
    rw [hcur1]
    simp only [List.size_toArray, List.length_append, List.length_take, List.length_drop, Array.length_toList]
    rw [hD]; omega
  have hW1 : ∀ W : World, W = w.drew.setRow g cur1 → W.heap[g]? = some (.cells cur1 137 (0, 0)) := fun W hW => by rw [hW]; exact setRow_heap w.drew g cur cur1 137 (0, 0) bG
  have hcp2 : ∀ (W : World), W.heap = (w.drew.setRow g cur1).heap → ∀ ty dc, (Builtin.copy_ #[118, 118] ty #[.slice (some ⟨g, i * 7, none⟩) (n + 1 - i) dc, .slice (some ⟨vb, 0, none⟩) 1 1]).run Tryz.prog W = .ok (goInt 1) (W.setRow g (cur1.toList.take (i * 7) ++ rwVals r ++ cur1.toList.drop (i * 7 + (rwVals r).length)).toArray) := fun W hW ty dc =>
    run_copy_rowK W _ _ ty 137 7 g (i * 7) _ dc ⟨vb, 0, none⟩ _ 1 1 cur1 137 (rwVals r) Tryz.underlying118 hsz (by rw [hW]; exact hW1 _ rfl) (by simp only [Nat.min_def]; split <;> omega) rfl
      (World.news_of_block (t := 137) (by rw [hW]; exact (setRow_other w.drew g vb cur1 hvg).trans hv)) (by rw [hsz1]; show i * 7 + 7 ≤ _; omega) (rwVals_one r)
  have HCU := hide hcur1
  have HS1 := hide hsz1
  have HCS := hide hcs
  have HTK := hide ht
  have HBG := hide bG
  have HBB := hide hbg
  have HCM := hide hcm
  have HLL := hide hL
  have HCZ := hide hcsz
  have HDD := hide hD
  have hfol := prog_follows
  have hz2 : ¬ ((i : Int) = (n : Int)) := by omega
  have hq0 : (0 : Int) ≤ (i : Int) := by omega
  have hq1 : (i : Int) ≤ (n : Int) := by omega
  have hw1 : IntKind.i64.wrap ((i : Int) + 1) = (i : Int) + 1 := wrap_small _ (by omega) (by omega)
  have hw2 : IntKind.i64.wrap ((n : Int) + 1) = (n : Int) + 1 := wrap_small _ (by omega) (by omega)
  have hc1 : ¬ (cap : Int) < (n : Int) + 1 := by omega
  have hc2 : (n : Int) + 1 ≤ (cap : Int) := by omega
  have hc3 : (i : Int) + 1 ≤ (n : Int) + 1 := by omega
  have hc4 : (0 : Int) ≤ (i : Int) + 1 := by omega
  have hc5 : (0 : Int) ≤ (n : Int) + 1 := by omega
  have hc6 : (i : Int) ≤ (n : Int) + 1 := by omega
  have hne1 : ¬ cap = i + 1 := by omega
  have hne2 : ¬ cap = i := by omega
  have htn : ((i : Int) + 1).toNat = i + 1 := by omega
  have htm : ((n : Int) + 1).toNat = n + 1 := by omega
  have HO := hide hown
  have HV := hide hv
  clear hcells bG hv hown hcs ht hcur1 hsz1 hW1 hcm hbg hD hcsz hsz
  go_enter Tryz.func149, Tryz.ntmps149
  go_wp2_with (simp only [hov])
  go_region_law_o (refine Go.Proofs.step_copy_runI rfl _ _ 118 118 rfl _ _ (by simp [Act.eval, Act.put]) (by simp [Act.eval, Act.put]) (hcp1 _ _ _) ?_)
  go_wp2_with (at_builtin; refine Go.Proofs.wpList_copy_runI _ rfl _ _ 118 118 rfl _ _ rfl rfl (hcp2 _ rfl _ _) ?_)
  go_ret
  have hlist : List.take (i * 7) cur1.toList ++ (rwVals r ++ List.drop (i * 7 + (rwVals r).length) cur1.toList) = rwList (L.take i ++ r :: L.drop i) ++ cur.toList.drop ((i + 1) * 7 + (rwList (L.drop i)).length) := by
    rw [← shifted_eq (r := r) (unhide HLL) hi (by simpa using unhide HCZ) (unhide HTK), unhide HCU]
    simp [shifted]
  have hnl : (rwList (L.take i ++ r :: L.drop i)).length = (n + 1) * 7 := by
    rw [rwList_length, List.length_append, List.length_cons, List.length_take, List.length_drop, unhide HLL]; omega
  rw [hlist]
  refine ⟨rfl, ⟨hnl, .inr ⟨g, cap, _, rfl, unhide HBB, setRow_heap _ g cur1 _ 137 (0, 0) (setRow_heap w.drew g cur cur1 137 (0, 0) (unhide HBG)), by omega, unhide HCM, ?_, ?_⟩⟩, ?_⟩
  · have h0 := unhide HCZ
    have h1 := unhide HCS
    simp only [List.size_toArray, List.length_append, List.length_drop, Array.length_toList]
    rw [hnl, unhide HDD]
    omega
  · rw [List.toList_toArray, ← hnl, List.take_left]
  · exact ⟨rfl, rfl, rfl, by simp, fun k _ hk => (setRow_other _ g k _ (fun e => hk (by rw [e]))).trans (setRow_other w.drew g k _ (fun e => hk (by rw [e])))⟩

set_option maxRecDepth 100000 in
set_option maxHeartbeats 4000000 in
theorem insert_grow (base g n cap i vb : Nat) (L : List Rw) (r : Rw) (w : World) (hL : L.length = n) (hn : n ≤ 1000000) (hi : i < n) (hroom : cap < n + 1) (hbase : base ≤ w.heap.size) (hown : w.ownsRow base 137 7 (.slice (some ⟨g, 0, none⟩) n cap) n (rwList L)) (hv : Blk w vb (rwVals r).toArray 137) :
    Calls Tryz.prog 149 #[.slice (some ⟨g, 0, none⟩) n cap, .int .i64 i, .slice (some ⟨vb, 0, none⟩) 1 1] w fun e w' =>
      ∃ G, e = .returned (.slice (some ⟨w.heap.size, 0, none⟩) (n + 1) G) ∧ w'.ownsRow base 137 7 (.slice (some ⟨w.heap.size, 0, none⟩) (n + 1) G) (n + 1) (rwList (L.take i ++ r :: L.drop i)) ∧ w.grownBy w' (some g) := by
  obtain ⟨iR, hiR, hR0, hR1, hR2⟩ := info_parts Tryz.info137
  have hsz : (Tryz.prog.info? 137).map (·.size) = some 7 := by kernel_rfl
  have hcapn : n ≤ cap := by
    rcases hown.2 with ⟨hv, h0⟩ | ⟨g, c, cur, hv, _, _, h1, _⟩
    · simp at hv
    · simp at hv; omega
  have hglt : g < w.heap.size := ownsRow_lt hown
  have hvlt : vb < w.heap.size := hv.lt
  have hcells : ∀ j u, (rwList L)[j]? = some u → w.cell? ⟨g, j, none⟩ = some u := fun j u hj => by
    have := owned_cells hown j u hj
    rw [show (⟨g, 0, none⟩ : Addr).add j = ⟨g, j, none⟩ by unfold Addr.add; split <;> simp_all] at this
    exact this
  have hik : i + (n + 1 - i) = n + 1 := by omega
  have hold : (Builtin.firstCells iR.size i (.slice (some ⟨g, 0, none⟩) i cap)).run Tryz.prog w.drew = .ok (rwList (L.take i)).toArray w.drew := by
    rw [hR1]
    exact run_firstCells_some w.drew 7 i ⟨g, 0, none⟩ i cap (rwList (L.take i)) (by rw [rwList_length, List.length_take]; omega) (fun j u hj => by
      rw [Addr.add_lit, Nat.zero_add]
      refine hcells j u ?_
      rw [← rwList_take, List.getElem?_take] at hj
      split at hj
      · exact hj
      · cases hj)
  have hrz : ∀ ty, (Builtin.append_ #[118, 3] ty #[.slice (some ⟨g, 0, none⟩) i cap, .int .i64 ((n : Int) + 1 - (i : Int))]).run Tryz.prog w =
      .ok (.slice (some ⟨w.heap.size, 0, none⟩) (n + 1) (grownCap w (n + 1) cap 137)) (w.drew.alloc (.cells ((rwList (L.take i)).toArray ++ Builtin.zeroCells (Value.agg #[Value.int .u32 0, .int .i64 0, .int .i64 0, .int .i64 0, .int .i64 0, .int .i64 0, .bool false]).cells (n + 1 - i) ++ Builtin.zeroCells (Value.agg #[Value.int .u32 0, .int .i64 0, .int .i64 0, .int .i64 0, .int .i64 0, .int .i64 0, .bool false]).cells (grownCap w (n + 1) cap 137 - (n + 1))) 137)) := fun ty => by
    have h := Lib.run_append_grow_zeros w 118 3 ty 137 iR _ .i64 .i64 Tryz.underlying118 Tryz.underlying3 hiR hR0 (some ⟨g, 0, none⟩) i cap (rwList (L.take i)) hold (n + 1 - i) (by omega) (by omega) (by omega) (by omega) (by rw [hR2]; omega) (by rw [hR2, hik]; exact growslice_fits hroom (by omega))
    rw [hik] at h
    rw [show (n : Int) + 1 - (i : Int) = ((n + 1 - i : Nat) : Int) by omega]
    exact h
  have hGn : n + 1 ≤ grownCap w (n + 1) cap 137 := grownCap_ge w _ _ _
  have hGm := grownCap_le_maxLen w (n + 1) cap 137 (by unfold maxLen; omega)
  generalize grownCap w (n + 1) cap 137 = G at *
  obtain ⟨ROW, hROW⟩ : ∃ ROW : Array Value, ROW = (rwList (L.take i)).toArray ++ Builtin.zeroCells (Value.agg #[Value.int .u32 0, .int .i64 0, .int .i64 0, .int .i64 0, .int .i64 0, .int .i64 0, .bool false]).cells (n + 1 - i) ++ Builtin.zeroCells (Value.agg #[Value.int .u32 0, .int .i64 0, .int .i64 0, .int .i64 0, .int .i64 0, .int .i64 0, .bool false]).cells (G - (n + 1)) := ⟨_, rfl⟩
  rw [← hROW] at hrz
  have hti : (rwList (L.take i)).length = i * 7 := by rw [rwList_length, List.length_take]; omega
  have hD : (rwList (L.drop i)).length = (n - i) * 7 := by rw [rwList_length, List.length_drop, hL]
  have hRs : ROW.size = G * 7 := by
    rw [hROW]
    simp only [Array.size_append, List.size_toArray, hti, Builtin.zeroCells, Value.cells, Array.size_map, Array.size_range]
    show i * 7 + (n + 1 - i) * 7 + (G - (n + 1)) * 7 = G * 7
    omega
  have hRt : ROW.toList.take (i * 7) = rwList (L.take i) := by
    rw [hROW, Array.toList_append, Array.toList_append, List.append_assoc, List.toList_toArray, ← hti, List.take_left]
  have hW1 : (w.drew.alloc (.cells ROW 137)).heap[w.heap.size]? = some (.cells ROW 137 (0, 0)) := World.alloc_heap_new w.drew _
  have hcpA : ∀ (W : World), W.heap = (w.drew.alloc (.cells ROW 137)).heap → ∀ ty dc, (Builtin.copy_ #[118, 118] ty #[.slice (some ⟨w.heap.size, i * 7, none⟩) (n + 1 - i) dc, .slice (some ⟨vb, 0, none⟩) 1 1]).run Tryz.prog W = .ok (goInt 1) (W.setRow w.heap.size (ROW.toList.take (i * 7) ++ rwVals r ++ ROW.toList.drop (i * 7 + (rwVals r).length)).toArray) := fun W hW ty dc =>
    run_copy_rowK W _ _ ty 137 7 w.heap.size (i * 7) _ dc ⟨vb, 0, none⟩ _ 1 1 ROW 137 (rwVals r) Tryz.underlying118 hsz (by rw [hW]; exact hW1) (by simp only [Nat.min_def]; split <;> omega) rfl
      (World.news_of_block (t := 137) (by rw [hW]; exact (Below.heap_alloc w.drew _ vb hvlt).trans hv)) (by rw [hRs]; show i * 7 + 7 ≤ _; omega) (rwVals_one r)
  obtain ⟨ROW1, hROW1⟩ : ∃ ROW1, ROW1 = (ROW.toList.take (i * 7) ++ rwVals r ++ ROW.toList.drop (i * 7 + (rwVals r).length)).toArray := ⟨_, rfl⟩
  rw [← hROW1] at hcpA
  have hRs1 : ROW1.size = G * 7 := by
    rw [hROW1]
    simp only [List.size_toArray, List.length_append, List.length_take, List.length_drop, Array.length_toList, hRs, show (rwVals r).length = 7 from rfl]
    omega
  have hcpB : ∀ (W : World), W.heap = ((w.drew.alloc (.cells ROW 137)).setRow w.heap.size ROW1).heap → ∀ ty dc sc, (Builtin.copy_ #[118, 118] ty #[.slice (some ⟨w.heap.size, (i + 1) * 7, none⟩) (n - i) dc, .slice (some ⟨g, i * 7, none⟩) (n - i) sc]).run Tryz.prog W = .ok (goInt ((n - i : Nat) : Int)) (W.setRow w.heap.size (ROW1.toList.take ((i + 1) * 7) ++ rwList (L.drop i) ++ ROW1.toList.drop ((i + 1) * 7 + (rwList (L.drop i)).length)).toArray) := fun W hW ty dc sc =>
    run_copy_rowK W _ _ ty 137 7 w.heap.size ((i + 1) * 7) _ dc ⟨g, i * 7, none⟩ _ sc (n - i) ROW1 137 (rwList (L.drop i)) Tryz.underlying118 hsz (by rw [hW]; exact setRow_heap _ _ ROW ROW1 137 (0, 0) hW1) (by simp only [Nat.min_def]; split <;> omega) hD
      (fun j u hj => by
        rw [Addr.add_lit]
        have hc := hcells (i * 7 + j) u (by rw [← rwList_drop, List.getElem?_drop] at hj; exact hj)
        rw [← hc]
        refine World.cell?_of_block (w := w) (a := ⟨g, i * 7 + j, none⟩) ?_
        rw [hW]
        exact (setRow_other _ _ g _ (by omega)).trans (Below.heap_alloc w.drew _ g hglt)) (by rw [hD, hRs1]; omega) (rwList_one _)
  have hfin : (ROW1.toList.take ((i + 1) * 7) ++ rwList (L.drop i) ++ ROW1.toList.drop ((i + 1) * 7 + (rwList (L.drop i)).length)) = rwList (L.take i ++ r :: L.drop i) ++ ROW1.toList.drop ((i + 1) * 7 + (rwList (L.drop i)).length) := by
    congr 1
    rw [rwList_append, show rwList (r :: L.drop i) = rwVals r ++ rwList (L.drop i) from rfl, ← List.append_assoc]
    congr 1
    rw [hROW1, List.toList_toArray, hRt, show (i + 1) * 7 = (rwList (L.take i) ++ rwVals r).length by rw [List.length_append, hti]; show _ = i * 7 + 7; omega, List.take_left]
  have hA := hcpA ((w.alloc (.cells ROW 137)).drew) rfl
  have hB := hcpB ((((w.alloc (.cells ROW 137)).drew).setRow w.heap.size ROW1).drew) rfl
  have HFIN := hide hfin
  have HRS := hide hRs1
  have HDD := hide hD
  have HW1 := hide hW1
  have HLL := hide hL
  have hfol := prog_follows
  have hz2 : ¬ ((i : Int) = (n : Int)) := by omega
  have hq0 : (0 : Int) ≤ (i : Int) := by omega
  have hq1 : (i : Int) ≤ (n : Int) := by omega
  have hq2 : (i : Int) ≤ (cap : Int) := by omega
  have hw1 : IntKind.i64.wrap ((i : Int) + 1) = (i : Int) + 1 := wrap_small _ (by omega) (by omega)
  have hw2 : IntKind.i64.wrap ((n : Int) + 1) = (n : Int) + 1 := wrap_small _ (by omega) (by omega)
  have hw3 : IntKind.i64.wrap ((n : Int) + 1 - (i : Int)) = (n : Int) + 1 - (i : Int) := wrap_small _ (by omega) (by omega)
  have hc1 : (cap : Int) < (n : Int) + 1 := by omega
  have hc3 : (i : Int) + 1 ≤ (n : Int) + 1 := by omega
  have hc4 : (0 : Int) ≤ (i : Int) + 1 := by omega
  have hc6 : (i : Int) ≤ (n : Int) + 1 := by omega
  have hne1 : ¬ G = i + 1 := by omega
  have hne2 : ¬ G = i := by omega
  have hne3 : ¬ cap = i := by omega
  have htn : ((i : Int) + 1).toNat = i + 1 := by omega
  clear hcpA hcpB hcells hv hown hROW hROW1 hRs hRs1 hRt hW1 hD hsz hold hik hti hfin
  go_enter Tryz.func149, Tryz.ntmps149
  go_wp2_with (at_builtin; refine Lib.wpList_append_run _ rfl _ _ _ _ rfl _ _ rfl rfl _ _ (hrz _) ?_)
  go_region
  go_wp2
  go_ret
  have hlist : List.take ((i + 1) * 7) ROW1.toList ++ (rwList (List.drop i L) ++ List.drop ((i + 1) * 7 + (rwList (List.drop i L)).length) ROW1.toList) = rwList (L.take i ++ r :: L.drop i) ++ ROW1.toList.drop ((i + 1) * 7 + (rwList (L.drop i)).length) := by
    rw [← List.append_assoc]
    exact unhide HFIN
  have hnl : (rwList (L.take i ++ r :: L.drop i)).length = (n + 1) * 7 := by
    rw [rwList_length, List.length_append, List.length_cons, List.length_take, List.length_drop, unhide HLL]; omega
  rw [hlist]
  have hA1 : ((w.alloc (.cells ROW 137)).drew.setRow w.heap.size ROW1).drew.heap[w.heap.size]? = some (.cells ROW1 137 (0, 0)) := setRow_heap (w.alloc (.cells ROW 137)).drew w.heap.size ROW ROW1 137 (0, 0) (unhide HW1)
  refine ⟨G, rfl, ⟨hnl, .inr ⟨w.heap.size, G, _, rfl, hbase, setRow_heap _ _ ROW1 _ 137 (0, 0) hA1, hGn, hGm, ?_, ?_⟩⟩, ?_⟩
  · have h0 := unhide HRS
    simp only [List.size_toArray, List.length_append, List.length_drop, Array.length_toList]
    rw [hnl, unhide HDD, h0]
    omega
  · rw [List.toList_toArray, ← hnl, List.take_left]
  · refine ⟨rfl, rfl, rfl, ?_, fun k hk _ => (setRow_other _ _ k _ (by omega)).trans ((setRow_other _ _ k _ (by omega)).trans (Below.heap_alloc w.drew _ k hk))⟩
    simp

end Go.Proofs.YtdnpeefnobjfaaaGreatDoor
