/- A view's routes: table.Write with Row.AsIs, (*View).Routes. -/
import Derived.Test.YtdnpeefnobjfaaaGreatDoorTClone
import Derived.Test.YtdnpeefnobjfaaaGreatDoorRBegin
import Derived.OwnWalk
namespace Go.Proofs.YtdnpeefnobjfaaaGreatDoor
open Go.RowKit
attribute [local go_sem ↓] Go.wp_at_zero Go.wp_at_succ

def routeL (r : Rw) : List Value := [.int .u32 r.addr, .int .i64 r.len, .int .i64 r.tag, .int .i64 r.met, .int .i64 r.frm]
def routeList (L : List Rw) : List Value := L.flatMap routeL
theorem routeList_snoc (L : List Rw) (r : Rw) : routeList (L ++ [r]) = routeList L ++ routeL r := by simp [routeList]
theorem routeL_one (r : Rw) : ∀ u ∈ routeL r, u.oneCell' = true := by
  intro u hu
  simp [routeL] at hu
  rcases hu with rfl | rfl | rfl | rfl | rfl <;> rfl
theorem Tryz.info52 : (Tryz.prog.info? 52).map (fun i => (i.zero, i.size, i.bytes)) = some (some (.agg #[.int .u32 0, .int .i64 0, .int .i64 0, .int .i64 0, .int .i64 0]), 5, 40) := by kernel_rfl
theorem rwSlice_owned {w : World} {base n cap : Nat} {ao : Option Addr} {L : List Rw} (h : w.ownsRow base 137 7 (.slice ao n cap) n (rwList L)) : rwSlice w ao L := rwSlice_own h

set_option maxRecDepth 100000 in
set_option maxHeartbeats 2000000 in
theorem write_any (ao : Option Addr) (cap : Nat) (L : List Rw) (w : World) (hn : L.length ≤ 1000000) (hs : rwSlice w ao L) :
    Calls Tryz.prog 51 #[.agg #[.slice ao L.length cap], .func (.func 52) #[] #[]] w fun e w' => ∃ v, e = .returned v ∧ w'.ownsRow w.heap.size 52 5 v L.length (routeList L) ∧ Below w.heap.size w w' := by
  obtain ⟨iR, hiR, hR0, hR1, hR2⟩ := info_parts Tryz.info52
  have HS := hide hs
  have bT := hide (Blk.new w #[.slice ao L.length cap] 120)
  clear hs
  go_enter Tryz.func51, Tryz.ntmps51
  go_wp2_with (at_make; go_loud (refine wpList_make_own _ rfl _ _ 57 rfl w.heap.size 52 iR (.agg #[.int .u32 0, .int .i64 0, .int .i64 0, .int .i64 0, .int .i64 0]) 5 Tryz.underlying57 hiR hR0 hR1 _ _ _ L.length rfl rfl (by omega) (by rw [hR2]; omega) (by unfold maxLen; omega) (by simp) ?_); intro w2 hown2 hg2; have c0 := (((unhide bT).below ((Below.refl _ _).grown hg2 (Nat.le_refl _) (by simp)) (by simp)).cell 0).trans (show _ = some (.slice ao L.length cap) from rfl))
  simp only [World.size_alloc] at hown2
  have hz2 : w.heap.size + 2 ≤ w2.heap.size := ownsRow_lt hown2
  have hb2 : Below w.heap.size w w2 := (below_new w _).trans ((Below.refl _ _).grown hg2 (by simp) (by simp))
  clear hg2 c0
  go_loopw [5, 15] (fun d i wr => ∃ k : Nat, k ≤ L.length ∧ i = .int .i64 k ∧ d = .slice (some ⟨w.heap.size + 1, 0, none⟩) k L.length ∧ wr.ownsRow w.heap.size 52 5 (.slice (some ⟨w.heap.size + 1, 0, none⟩) k L.length) k (routeList (L.take k)) ∧ Below w.heap.size w wr) (fun _ i _ => L.length - (intOf i).toNat)
  case atStart => exact ⟨0, by omega, rfl, rfl, by simpa [routeList] using hown2, hb2⟩
  case round =>
    obtain ⟨k, hk, rfl, rfl, hown, hb⟩ := hrel
    by_cases hlt : k < L.length
    · rcases rwSlice_below (unhide HS) hb with h0 | ⟨g, off, rfl, hce⟩
      · rw [h0] at hlt; simp at hlt
      · obtain ⟨c0, c1, c2, c3, c4, c5, c6⟩ := hce k hlt
        have hsn : routeList (L.take (k + 1)) = routeList (L.take k) ++ routeL L[k] := by
          rw [List.take_succ_eq_append_getElem hlt, routeList_snoc]
        have HSN := hide hsn
        have HB := hide hb
        clear hsn hb hce
        have j0 : (0 : Int) ≤ (k : Int) := by omega
        have j1 : (k : Int) < (L.length : Int) := by omega
        generalize L[k] = E at *
        go_wp2_with (first | (go_at_call 52; refine (asIs_any E _).mono ?_; rintro e w4 ⟨rfl, hg4⟩; have hg4' := ((Grows.refl wr).alloc _).trans hg4; have hown4 := ownsRow_block hown (hg4'.below.block _ (ownsRow_lt hown)); have HG4 := hide hg4'; clear hg4 hg4') | (at_builtin; go_loud (refine wpList_append_fits _ rfl (.tmp 19) (.tmp 23) 57 rfl w.heap.size 52 iR 5 Tryz.underlying57 hiR hR1 (w.heap.size + 1) k L.length _ rfl (hown4.alloc _) ⟨w4.heap.size, 0, none⟩ 1 1 (routeL E) rfl rfl (by exact World.news_of_block (heap_alloc_new w4 _)) (routeL_one _) (by omega) ?_; intro w5 hown5 hg5)))
        go_roundw
        case rel =>
          refine ⟨k + 1, by omega, by go_num, rfl, by rw [unhide HSN]; exact hown5, ?_⟩
          have h4 := (unhide HB).trans ((unhide HG4).below.mono (unhide HB).size)
          exact (h4.alloc h4.size _).grown hg5 (by have := h4.size; simp; omega) (by simp)
        case measure => simp [intOf]; omega
    · have hkn : k = L.length := by omega
      subst hkn
      have HOWN := hide hown
      rw [List.take_length] at HOWN
      clear hown
      go_wp2
      go_ret
      exact ⟨_, rfl, unhide HOWN, hb⟩

set_option maxHeartbeats 1000000 in
theorem routes_any (V : Nat) (ao : Option Addr) (cap : Nat) (L : List Rw) (w : World) (hn : L.length ≤ 1000000) (hv : Blk w V #[.slice ao L.length cap] 122) (hs : rwSlice w ao L) :
    Calls Tryz.prog 19 #[.pointer (some ⟨V, 0, none⟩)] w fun e w' => ∃ v, e = .returned v ∧ w'.ownsRow w.heap.size 52 5 v L.length (routeList L) ∧ Below w.heap.size w w' := by
  have hW := write_any ao cap L w hn hs
  have c0 := (hv.cell 0).trans (show _ = some (.slice ao L.length cap) from rfl)
  clear hs hv
  go_enter Tryz.func19, Tryz.ntmps19
  go_wp2_with (go_at_call 51; refine hW.mono ?_; rintro e w1 ⟨v, rfl, hown, hb⟩)
  go_ret
  exact ⟨v, rfl, hown, hb⟩

end Go.Proofs.YtdnpeefnobjfaaaGreatDoor
