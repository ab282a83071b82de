/- slices.Clone of a table's rows: what comes out is new. -/
import Derived.Test.YtdnpeefnobjfaaaGreatDoorTHeardM
import Derived.Test.YtdnpeefnobjfaaaGreatDoorRNewM
import Derived.OwnWalk
import Derived.Test.YtdnpeefnobjfaaaGreatDoorBookM
namespace Go.Proofs.YtdnpeefnobjfaaaGreatDoor
open Go.RowKit
attribute [local go_sem ↓] Go.wp_at_zero Go.wp_at_succ

theorem rwList_one (L : List Rw) : ∀ u ∈ rwList L, u.oneCell' = true := by
  intro u hu
  simp only [rwList, List.mem_flatMap] at hu
  obtain ⟨r, _, hr⟩ := hu
  exact rwVals_one r u hr
/-- A row that is owned: its block. -/
theorem owned_cells {w : World} {base g n cap : Nat} {xs : List Value} {e sz : Nat} (h : w.ownsRow base e sz (.slice (some ⟨g, 0, none⟩) n cap) n xs) : ∀ j u, xs[j]? = some u → w.cell? ((⟨g, 0, none⟩ : Addr).add j) = some u := h.cells (g := g) rfl

set_option maxHeartbeats 1000000 in
theorem cloneRow_some (base g n cap : Nat) (xs : List Value) (w : World) (h0 : 0 < n) (hn : n ≤ 1000000) (h1 : ∀ u ∈ xs, u.oneCell' = true) (hc : w.ownsRow base 137 7 (.slice (some ⟨g, 0, none⟩) n cap) n xs) :
    Calls Tryz.prog 95 #[.slice (some ⟨g, 0, none⟩) n cap] w fun e w' => ∃ v, e = .returned v ∧ w'.ownsRow w.heap.size 137 7 v n xs ∧ Below w.heap.size w w' := by
  obtain ⟨iE, hiE, hE0, hE1, hE2⟩ := info_parts Tryz.info137
  have hq : ∀ (w : World) (a : Option Addr) (n c n' c' : Nat), (binOp .eql 118 (.slice a n c) (.slice none n' c')).run Tryz.prog w = .ok (.bool a.isNone) w := fun w a n c n' c' => Lib.run_eql_slice_nil w _ _ a n c n' c' Tryz.underlying118
  have hlen : xs.length = n * 7 := hc.1
  have HC := hide (owned_cells (ownsRow_below hc (below_new w (.cells #[] 137)) (Nat.le_refl _)))
  clear hc
  go_enter Tryz.func95, Tryz.ntmps95
  go_wp2_with (at_builtin; go_loud (refine wpList_append_lies _ rfl (.tmp 5) (.tmp 6) 118 rfl w.heap.size 137 iE (.agg #[.int .u32 0, .int .i64 0, .int .i64 0, .int .i64 0, .int .i64 0, .int .i64 0, .bool false]) 7 56 Tryz.underlying118 hiE hE0 hE1 hE2 rfl (by decide) (.slice (some ⟨w.heap.size, 0, none⟩) 0 0) 0 [] rfl ⟨rfl, .inr ⟨w.heap.size, 0, #[], rfl, Nat.le_refl _, by exact heap_alloc_new w _, Nat.le_refl _, by unfold maxLen; omega, rfl, rfl⟩⟩ ⟨g, 0, none⟩ n cap xs rfl hlen (unhide HC) h1 h0 (by unfold maxLen; omega) (by omega) (by simp) (w.heap.size + 1) (by simp) ?_; intro g1 c1 w1 hown1 hg1 hat1 hlt1; simp only [Nat.zero_add, List.nil_append] at hown1))
  go_ret
  exact ⟨_, rfl, hown1, (below_new w _).trans ((Below.refl _ _).grown hg1 (by simp) (by simp [Value.ownBlock]))⟩

set_option maxHeartbeats 1000000 in
theorem cloneRow_zero (a : Addr) (cap : Nat) (w : World) :
    Calls Tryz.prog 95 #[.slice (some a) 0 cap] w fun e w' => ∃ v, e = .returned v ∧ w'.ownsRow w.heap.size 137 7 v 0 [] ∧ Below w.heap.size w w' := by
  obtain ⟨iE, hiE, hE0, hE1, hE2⟩ := info_parts Tryz.info137
  have hq : ∀ (w : World) (a : Option Addr) (n c n' c' : Nat), (binOp .eql 118 (.slice a n c) (.slice none n' c')).run Tryz.prog w = .ok (.bool a.isNone) w := fun w a n c n' c' => Lib.run_eql_slice_nil w _ _ a n c n' c' Tryz.underlying118
  go_enter Tryz.func95, Tryz.ntmps95
  go_wp2_with (at_builtin; go_loud (refine wpList_append_own _ rfl (.tmp 5) (.tmp 6) 118 rfl w.heap.size 137 iE (.agg #[.int .u32 0, .int .i64 0, .int .i64 0, .int .i64 0, .int .i64 0, .int .i64 0, .bool false]) 7 56 Tryz.underlying118 hiE hE0 hE1 hE2 rfl (by decide) (.slice (some ⟨w.heap.size, 0, none⟩) 0 0) 0 [] rfl ⟨rfl, .inr ⟨w.heap.size, 0, #[], rfl, Nat.le_refl _, by exact heap_alloc_new w _, Nat.le_refl _, by unfold maxLen; omega, rfl, rfl⟩⟩ a 0 cap [] rfl rfl (by intro j u hu; simp at hu) (by simp) (by decide) (by decide) (by simp) ?_; intro v1 w1 hown1 hg1 hn1))
  go_ret
  exact ⟨_, rfl, hown1, (below_new w _).trans ((Below.refl _ _).grown hg1 (by simp) (by simp [Value.ownBlock]))⟩

set_option maxHeartbeats 1000000 in
theorem cloneRow_nil (w : World) :
    Calls Tryz.prog 95 #[.slice none 0 0] w fun e w' => ∃ v, e = .returned v ∧ w'.ownsRow w.heap.size 137 7 v 0 [] ∧ Below w.heap.size w w' := by
  have hq : ∀ (w : World) (a : Option Addr) (n c n' c' : Nat), (binOp .eql 118 (.slice a n c) (.slice none n' c')).run Tryz.prog w = .ok (.bool a.isNone) w := fun w a n c n' c' => Lib.run_eql_slice_nil w _ _ a n c n' c' Tryz.underlying118
  go_enter Tryz.func95, Tryz.ntmps95
  go_wp2
  go_ret
  exact ⟨_, rfl, World.ownsRow_nil _ _ _ _, Below.refl _ _⟩

/-- A table's rows, cloned. -/
theorem cloneRow_any (base : Nat) (v : Value) (L : List Rw) (w : World) (hn : L.length ≤ 1000000) (hc : w.ownsRow base 137 7 v L.length (rwList L)) :
    Calls Tryz.prog 95 #[v] w fun e w' => ∃ v', e = .returned v' ∧ w'.ownsRow w.heap.size 137 7 v' L.length (rwList L) ∧ Below w.heap.size w w' := by
  have hc0 := hc
  obtain ⟨hl, ⟨rfl, h0⟩ | ⟨g, cap, cur, rfl, hr⟩⟩ := hc0
  · have : L = [] := List.eq_nil_of_length_eq_zero h0
    subst this
    exact cloneRow_nil w
  · by_cases h0 : L.length = 0
    · have : L = [] := List.eq_nil_of_length_eq_zero h0
      subst this
      exact cloneRow_zero _ cap w
    · exact cloneRow_some base g L.length cap (rwList L) w (by omega) hn (rwList_one L) hc

end Go.Proofs.YtdnpeefnobjfaaaGreatDoor

/- A view's routes: table.Write with Row.AsIs, (*View).Routes. -/
namespace Go.Proofs.YtdnpeefnobjfaaaGreatDoor
open Go.RowKit
attribute [local go_sem ↓] Go.wp_at_zero Go.wp_at_succ

def routeL (r : Rw) : List Value := [.int .u32 r.addr, .int .i64 r.len, .int .i64 r.tag, .int .i64 r.met, .int .i64 r.frm]
def routeList (L : List Rw) : List Value := L.flatMap routeL
theorem routeList_snoc (L : List Rw) (r : Rw) : routeList (L ++ [r]) = routeList L ++ routeL r := by simp [routeList]
theorem routeL_one (r : Rw) : ∀ u ∈ routeL r, u.oneCell' = true := by
  intro u hu
  simp [routeL] at hu
  rcases hu with rfl | rfl | rfl | rfl | rfl <;> rfl
theorem Tryz.info52 : (Tryz.prog.info? 52).map (fun i => (i.zero, i.size, i.bytes)) = some (some (.agg #[.int .u32 0, .int .i64 0, .int .i64 0, .int .i64 0, .int .i64 0]), 5, 40) := by kernel_rfl
theorem rwSlice_owned {w : World} {base n cap : Nat} {ao : Option Addr} {L : List Rw} (h : w.ownsRow base 137 7 (.slice ao n cap) n (rwList L)) : rwSlice w ao L := rwSlice_own h

set_option maxRecDepth 100000 in
set_option maxHeartbeats 2000000 in
theorem write_any (ao : Option Addr) (cap : Nat) (L : List Rw) (w : World) (hn : L.length ≤ 1000000) (hs : rwSlice w ao L) :
    Calls Tryz.prog 51 #[.agg #[.slice ao L.length cap], .func (.func 52) #[] #[]] w fun e w' => ∃ v, e = .returned v ∧ w'.ownsRow w.heap.size 52 5 v L.length (routeList L) ∧ Below w.heap.size w w' := by
  obtain ⟨iR, hiR, hR0, hR1, hR2⟩ := info_parts Tryz.info52
  have HS := hide hs
  have bT := hide (Blk.new w #[.slice ao L.length cap] 120)
  clear hs
  go_enter Tryz.func51, Tryz.ntmps51
  go_wp2_with (at_make; go_loud (refine wpList_make_own _ rfl _ _ 57 rfl w.heap.size 52 iR (.agg #[.int .u32 0, .int .i64 0, .int .i64 0, .int .i64 0, .int .i64 0]) 5 Tryz.underlying57 hiR hR0 hR1 _ _ _ L.length rfl rfl (by omega) (by rw [hR2]; omega) (by unfold maxLen; omega) (by simp) ?_); intro w2 hown2 hg2; have c0 := (((unhide bT).below ((Below.refl _ _).grown hg2 (Nat.le_refl _) (by simp)) (by simp)).cell 0).trans (show _ = some (.slice ao L.length cap) from rfl))
  simp only [World.size_alloc] at hown2
  have hz2 : w.heap.size + 2 ≤ w2.heap.size := ownsRow_lt hown2
  have hb2 : Below w.heap.size w w2 := (below_new w _).trans ((Below.refl _ _).grown hg2 (by simp) (by simp))
  clear hg2 c0
  go_loopw [5, 15] (fun d i wr => ∃ k : Nat, k ≤ L.length ∧ i = .int .i64 k ∧ d = .slice (some ⟨w.heap.size + 1, 0, none⟩) k L.length ∧ wr.ownsRow w.heap.size 52 5 (.slice (some ⟨w.heap.size + 1, 0, none⟩) k L.length) k (routeList (L.take k)) ∧ Below w.heap.size w wr) (fun _ i _ => L.length - (intOf i).toNat)
  case atStart => exact ⟨0, by omega, rfl, rfl, by simpa [routeList] using hown2, hb2⟩
  case round =>
    obtain ⟨k, hk, rfl, rfl, hown, hb⟩ := hrel
    by_cases hlt : k < L.length
    · rcases rwSlice_below (unhide HS) hb with h0 | ⟨g, off, rfl, hce⟩
      · rw [h0] at hlt; simp at hlt
      · obtain ⟨c0, c1, c2, c3, c4, c5, c6⟩ := hce k hlt
        have hsn : routeList (L.take (k + 1)) = routeList (L.take k) ++ routeL L[k] := by
          rw [List.take_succ_eq_append_getElem hlt, routeList_snoc]
        have HSN := hide hsn
        have HB := hide hb
        clear hsn hb hce
        have j0 : (0 : Int) ≤ (k : Int) := by omega
        have j1 : (k : Int) < (L.length : Int) := by omega
        generalize L[k] = E at *
        go_wp2_with (first | (go_at_call 52; refine (asIs_any E _).mono ?_; rintro e w4 ⟨rfl, hg4⟩; have hg4' := ((Grows.refl wr).alloc _).trans hg4; have hown4 := ownsRow_block hown (hg4'.below.block _ (ownsRow_lt hown)); have HG4 := hide hg4'; clear hg4 hg4') | (at_builtin; go_loud (refine wpList_append_fits _ rfl (.tmp 19) (.tmp 23) 57 rfl w.heap.size 52 iR 5 Tryz.underlying57 hiR hR1 (w.heap.size + 1) k L.length _ rfl (hown4.alloc _) ⟨w4.heap.size, 0, none⟩ 1 1 (routeL E) rfl rfl (by exact World.news_of_block (heap_alloc_new w4 _)) (routeL_one _) (by omega) ?_; intro w5 hown5 hg5)))
        go_roundw
        case rel =>
          refine ⟨k + 1, by omega, by go_num, rfl, by rw [unhide HSN]; exact hown5, ?_⟩
          have h4 := (unhide HB).trans ((unhide HG4).below.mono (unhide HB).size)
          exact (h4.alloc h4.size _).grown hg5 (by have := h4.size; simp; omega) (by simp)
        case measure => simp [intOf]; omega
    · have hkn : k = L.length := by omega
      subst hkn
      have HOWN := hide hown
      rw [List.take_length] at HOWN
      clear hown
      go_wp2
      go_ret
      exact ⟨_, rfl, unhide HOWN, hb⟩

set_option maxHeartbeats 1000000 in
theorem routes_any (V : Nat) (ao : Option Addr) (cap : Nat) (L : List Rw) (w : World) (hn : L.length ≤ 1000000) (hv : Blk w V #[.slice ao L.length cap] 122) (hs : rwSlice w ao L) :
    Calls Tryz.prog 19 #[.pointer (some ⟨V, 0, none⟩)] w fun e w' => ∃ v, e = .returned v ∧ w'.ownsRow w.heap.size 52 5 v L.length (routeList L) ∧ Below w.heap.size w w' := by
  have hW := write_any ao cap L w hn hs
  have c0 := (hv.cell 0).trans (show _ = some (.slice ao L.length cap) from rfl)
  clear hs hv
  go_enter Tryz.func19, Tryz.ntmps19
  go_wp2_with (go_at_call 51; refine hW.mono ?_; rintro e w1 ⟨v, rfl, hown, hb⟩)
  go_ret
  exact ⟨v, rfl, hown, hb⟩

end Go.Proofs.YtdnpeefnobjfaaaGreatDoor

/- What a neighbour is told of a row; table.Write of entries. -/
namespace Go.Proofs.YtdnpeefnobjfaaaGreatDoor
open Go.RowKit Go.Shelf
attribute [local go_sem ↓] Go.wp_at_zero Go.wp_at_succ

/-- A row as it is told to a neighbour. -/
def hearE (to : Int) (r : Rw) : Ent := ⟨r.addr, r.len, r.tag, if r.frm = to then 16 else r.met⟩

set_option maxHeartbeats 1000000 in
theorem hears_any (to : Int) (r : Rw) (w : World) :
    Calls Tryz.prog 91 #[.int .i64 to, .agg #[.int .u32 r.addr, .int .i64 r.len, .int .i64 r.tag, .int .i64 r.met, .int .i64 r.frm, .int .i64 r.age, .bool r.chg]] w fun e w' => e = .returned (.agg #[.int .u32 (hearE to r).addr, .int .i64 (hearE to r).len, .int .i64 (hearE to r).tag, .int .i64 (hearE to r).met]) ∧ Grows w w' := by
  by_cases h : r.frm = to
  · have e : (hearE to r).met = 16 := if_pos h
    rw [e]
    clear e
    go_enter Tryz.func91, Tryz.ntmps91
    go_wp2
    exact bodyPost_ret (v := .agg #[.int .u32 r.addr, .int .i64 r.len, .int .i64 r.tag, .int .i64 16]) (by simp [results, Tryz.results91, go_sem]) rfl ⟨rfl, ((Grows.refl w).alloc _).alloc _⟩
  · have e : (hearE to r).met = r.met := if_neg h
    rw [e]
    clear e
    go_enter Tryz.func91, Tryz.ntmps91
    go_wp2
    exact bodyPost_ret (v := .agg #[.int .u32 r.addr, .int .i64 r.len, .int .i64 r.tag, .int .i64 r.met]) (by simp [results, Tryz.results91, go_sem]) rfl ⟨rfl, ((Grows.refl w).alloc _).alloc _⟩

def hearL (to : Int) (L : List Rw) : List Ent := L.map (hearE to)
theorem hearL_snoc (to : Int) (L : List Rw) (k : Nat) (h : k < L.length) : entList (hearL to (L.take (k + 1))) = entList (hearL to (L.take k)) ++ entVals (hearE to L[k]) := by
  rw [List.take_succ_eq_append_getElem h]
  simp only [hearL, entList, List.map_append, List.flatMap_append, List.map_cons, List.map_nil, List.flatMap_cons, List.flatMap_nil, List.append_nil]
theorem entVals_one (e : Ent) : ∀ u ∈ entVals e, u.oneCell' = true := by
  intro u hu
  simp [entVals] at hu
  rcases hu with rfl | rfl | rfl | rfl <;> rfl

set_option maxRecDepth 100000 in
set_option maxHeartbeats 2000000 in
theorem writeE_any (to : Int) (ao : Option Addr) (cap : Nat) (L : List Rw) (w : World) (hn : L.length ≤ 1000000) (hs : rwSlice w ao L) :
    Calls Tryz.prog 90 #[.agg #[.slice ao L.length cap], .func (.func 91) #[.int .i64 to] #[]] w fun e w' => ∃ g, e = .returned (.slice (some ⟨g, 0, none⟩) L.length L.length) ∧ w'.ownsRow w.heap.size 42 4 (.slice (some ⟨g, 0, none⟩) L.length L.length) L.length (entList (hearL to L)) ∧ Below w.heap.size w w' := by
  obtain ⟨iR, hiR, hR0, hR1, hR2⟩ := info_parts Tryz.info42
  have HS := hide hs
  have bT := hide (Blk.new w #[.slice ao L.length cap] 120)
  clear hs
  go_enter Tryz.func90, Tryz.ntmps90
  go_wp2_with (at_make; go_loud (refine wpList_make_own _ rfl _ _ 43 rfl w.heap.size 42 iR (.agg #[.int .u32 0, .int .i64 0, .int .i64 0, .int .i64 0]) 4 Tryz.underlying43 hiR hR0 hR1 _ _ _ L.length rfl rfl (by omega) (by rw [hR2]; omega) (by unfold maxLen; omega) (by simp) ?_); intro w2 hown2 hg2; have c0 := (((unhide bT).below ((Below.refl _ _).grown hg2 (Nat.le_refl _) (by simp)) (by simp)).cell 0).trans (show _ = some (.slice ao L.length cap) from rfl))
  simp only [World.size_alloc] at hown2
  have hz2 : w.heap.size + 2 ≤ w2.heap.size := ownsRow_lt hown2
  have hb2 : Below w.heap.size w w2 := (below_new w _).trans ((Below.refl _ _).grown hg2 (by simp) (by simp))
  clear hg2 c0
  go_loopw [5, 15] (fun d i wr => ∃ k : Nat, k ≤ L.length ∧ i = .int .i64 k ∧ d = .slice (some ⟨w.heap.size + 1, 0, none⟩) k L.length ∧ wr.ownsRow w.heap.size 42 4 (.slice (some ⟨w.heap.size + 1, 0, none⟩) k L.length) k (entList (hearL to (L.take k))) ∧ Below w.heap.size w wr) (fun _ i _ => L.length - (intOf i).toNat)
  case atStart => exact ⟨0, by omega, rfl, rfl, by simpa [entList, hearL] using hown2, hb2⟩
  case round =>
    obtain ⟨k, hk, rfl, rfl, hown, hb⟩ := hrel
    by_cases hlt : k < L.length
    · rcases rwSlice_below (unhide HS) hb with h0 | ⟨g, off, rfl, hce⟩
      · rw [h0] at hlt; simp at hlt
      · obtain ⟨c0, c1, c2, c3, c4, c5, c6⟩ := hce k hlt
        have HSN := hide (hearL_snoc to L k hlt)
        have HB := hide hb
        clear hb hce
        have j0 : (0 : Int) ≤ (k : Int) := by omega
        have j1 : (k : Int) < (L.length : Int) := by omega
        generalize L[k] = E at *
        go_wp2_with (first | (go_at_call 91; refine (hears_any to E _).mono ?_; rintro e w4 ⟨rfl, hg4⟩; have hg4' := ((Grows.refl wr).alloc _).trans hg4; have hown4 := ownsRow_block hown (hg4'.below.block _ (ownsRow_lt hown)); have HG4 := hide hg4'; clear hg4 hg4') | (at_builtin; go_loud (refine wpList_append_fits _ rfl (.tmp 19) (.tmp 23) 43 rfl w.heap.size 42 iR 4 Tryz.underlying43 hiR hR1 (w.heap.size + 1) k L.length _ rfl (hown4.alloc _) ⟨w4.heap.size, 0, none⟩ 1 1 (entVals (hearE to E)) rfl rfl (by exact World.news_of_block (heap_alloc_new w4 _)) (entVals_one _) (by omega) ?_; intro w5 hown5 hg5)))
        go_roundw
        case rel =>
          refine ⟨k + 1, by omega, by go_num, rfl, by rw [unhide HSN]; exact hown5, ?_⟩
          have h4 := (unhide HB).trans ((unhide HG4).below.mono (unhide HB).size)
          exact (h4.alloc h4.size _).grown hg5 (by have := h4.size; simp; omega) (by simp)
        case measure => simp [intOf]; omega
    · have hkn : k = L.length := by omega
      subst hkn
      have HOWN := hide hown
      rw [List.take_length] at HOWN
      clear hown
      go_wp2
      go_ret
      exact ⟨_, rfl, unhide HOWN, hb⟩

end Go.Proofs.YtdnpeefnobjfaaaGreatDoor
