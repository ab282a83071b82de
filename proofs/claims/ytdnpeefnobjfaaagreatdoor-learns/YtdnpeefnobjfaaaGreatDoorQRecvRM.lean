/- The reference's Receive of a Response. -/
import Derived.Test.YtdnpeefnobjfaaaGreatDoorQRecv
import Derived.Test.YtdnpeefnobjfaaaGreatDoorQTickM
import Derived.Test.YtdnpeefnobjfaaaGreatDoorQTakesEM
import Derived.Test.YtdnpeefnobjfaaaGreatDoorQRefM
import Derived.Test.YtdnpeefnobjfaaaGreatDoorTReceiveM
import Derived.Test.YtdnpeefnobjfaaaGreatDoorTCloneM
namespace Go.Proofs.YtdnpeefnobjfaaaGreatDoor
open Go.RowKit Go.Shelf
attribute [local go_sem ↓] Go.wp_at_zero Go.wp_at_succ

theorem RefTurn.set {w w1 : World} {Q : Nat} {a b : Value} (h : RefTurn w w1 Q a b) {p : Addr} (hp : w.heap.size ≤ p.block) (v : Value) : RefTurn w (w1.setCell p v) Q a b :=
  ⟨h.os, h.tape, h.output, Nat.le_trans h.size (by simp [World.setCell]), fun k hk h1 h2 => (Below.heap_setCell _ _ _ _ (by omega)).trans (h.block k hk h1 h2), h.at'⟩
theorem RefTurn.drew {w w1 : World} {Q : Nat} {a b : Value} (h : RefTurn w w1 Q a b) : RefTurn w w1.drew Q a b :=
  ⟨h.os, h.tape, h.output, h.size, h.block, h.at'⟩

set_option maxRecDepth 100000 in
set_option maxHeartbeats 4000000 in
theorem recvRef_resp (base Q frm : Nat) (s : ByteArray) (costs : List Int) (L : List Rw) (cv lv : Value) (w : World) (hQ : RefAt w base Q costs L cv lv) (hf : frm < costs.length) (hcost : ∀ c ∈ costs, 1 ≤ c ∧ c ≤ 15) (h60 : L.length ≤ 60) (hso : rwSorted L) (hok : ∀ r ∈ L, RwOk r)
    (hm : s.size ≤ 9223372036854775807) (hx : decErr s.data.toList = none) (hcmd : decCmd s.data.toList = 2) (hbig : (decEnts s.data.toList).length ≤ 1000000) (hmet : ∀ e ∈ decEnts s.data.toList, 0 ≤ e.met ∧ e.met ≤ 16) :
    Calls Tryz.prog 163 #[.pointer (some ⟨Q, 0, none⟩), .int .i64 frm, .string s] w fun e w' => e = .returned (.tuple #[.slice none 0 0, refF none]) ∧ ∃ lv', RefAt w' base Q costs (heardL L frm costs[frm] (decEnts s.data.toList)) cv lv' ∧ RefTurn w w' Q lv lv' := by
  obtain ⟨ac, cc, rfl⟩ := ownsRow_slice hQ.costs
  have c1 := ((hQ.below (below_new w (.cells #[.int .i64 0, .int .i64 0, .bool false] 150))).blk.cell 0).trans (show _ = some (.slice ac costs.length cc) from rfl)
  have hd1 : decide ((frm : Int) < 0) = false := by simp
  have hd2 : decide ((costs.length : Int) ≤ (frm : Int)) = false := by simp; omega
  have hd3 : decide (costs.length ≤ frm) = false := by simp; omega
  have hD := rDecode_any s (w.alloc (.cells #[.int .i64 0, .int .i64 0, .bool false] 150)) hm
  rw [hx] at hD
  simp only [refIs, hcmd] at hD
  simp only [refF] at hD ⊢
  generalize decEnts s.data.toList = es at *
  have HT0 := hide (fun (W : World) (M : List Rw) (lm : Value) (e : Ent) (h : RefAt W base Q costs M (.slice ac costs.length cc) lm) (g0 : 0 ≤ e.met) (g1 : e.met ≤ 16) (g2 : M.length ≤ 60) (g3 : rwSorted M) (g4 : ∀ r ∈ M, RwOk r) => takes_any base Q frm costs M e (.slice ac costs.length cc) lm W h hf hcost g0 g1 (by omega) g3 (fun r hr => (g4 r hr).met))
  generalize hcs : costs[frm] = cost at *
  have HLEN := hide (fun es => heardL_length (L := L) frm cost es h60)
  have HSO := hide (fun es => heardL_sorted (L := L) frm cost es hso)
  have HOK := hide (RwOk.heards (L := L) frm cost hok)
  have HMET := hide hmet
  have HQ := hide hQ
  have hQw : Q < w.heap.size := hQ.blk.lt
  have HLV := hide (fun q (hq : lv.ownBlock = some q) => (ownsRow_from hQ.rows q hq).2)
  clear hf hx hQ hcmd hmet hcost h60 hso hok hcs
  go_enter Tryz.func163, Tryz.ntmps163
  go_wp2_with fail
  refine hD.mono ?_
  rintro e w2 ⟨V, rfl, ⟨ae, ne, ce, rfl, hown2⟩, hb2⟩
  obtain ⟨bF, bP, bE, hbw⟩ := recv_world (x0 := .int .i64 0) (x1 := .int .i64 0) (x2 := .bool false) (y0 := .int .i64 2) (y1 := .slice ae ne ce) hb2
  have hlen : es.length = ne := by
    have := hown2.1
    rw [entList_length] at this
    omega
  have hownW : ((w2.alloc (.cells #[.int .i64 2, .slice ae ne ce] 45)).alloc (.cells #[.int .i64 0, .int .i64 0, .bool false] 150)).ownsRow w.heap.size 42 4 (.slice ae ne ce) ne (entList es) :=
    (ownsRow_mono hown2 (by simp)).alloc _ |>.alloc _
  have hs2 : w.heap.size < w2.heap.size := by have := hb2.size; simp only [World.size_alloc] at this; omega
  have hsW : ((w2.alloc (.cells #[.int .i64 2, .slice ae ne ce] 45)).alloc (.cells #[.int .i64 0, .int .i64 0, .bool false] 150)).heap.size = w2.heap.size + 2 := by simp
  have cP1 := (bP.cell 1).trans (show _ = some (.slice ae ne ce) from rfl)
  clear hown2 hb2 hD c1
  go_wp2_with fail
  generalize (w2.alloc (.cells #[.int .i64 2, .slice ae ne ce] 45)).alloc (.cells #[.int .i64 0, .int .i64 0, .bool false] 150) = W at *
  have HBF := hide bF
  have HBP := hide bP
  have HBE := hide bE
  have HBW := hide hbw
  have HOW := hide hownW
  have HLE := hide hlen
  have HSW := hide hsW
  have hne : ne ≤ 1000000 := by omega
  clear bF bP bE hbw hownW cP1 hlen hsW
  generalize w2.heap.size = P2 at *
  go_loopw [11] (fun i wr => ∃ k : Nat, k ≤ ne ∧ i = .int .i64 k ∧ ∃ lk, RefAt wr base Q costs (heardL L frm cost (es.take k)) (.slice ac costs.length cc) lk ∧ RefTurn W wr Q lv lk) (fun i _ => ne - (intOf i).toNat)
  case atStart => exact ⟨0, by omega, rfl, lv, (unhide HQ).below (unhide HBW), RefTurn.of_below _ _ (Below.refl _ _)⟩
  case round =>
    obtain ⟨k, hk, rfl, lk, hA, ht⟩ := hrel
    have keep : ∀ j, w.heap.size ≤ j → j < P2 + 2 → wr.heap[j]? = W.heap[j]? := fun j h1 h2 => ht.block j (by rw [unhide HSW]; exact h2) (by omega) (fun e => by have := unhide HLV j e; omega)
    have bP : Blk wr P2 #[.int .i64 2, .slice ae ne ce] 45 := (keep P2 (by omega) (by omega)).trans (unhide HBP)
    have p1 := (bP.cell 1).trans (show _ = some (.slice ae ne ce) from rfl)
    by_cases hlt : k < ne
    · obtain ⟨ge, ce', hge⟩ := own_some (unhide HOW) (by omega)
      simp at hge
      obtain ⟨rfl, rfl⟩ := hge
      have hgl := ownsRow_from (unhide HOW) ge rfl
      rw [unhide HSW] at hgl
      have hke : k < es.length := by rw [unhide HLE]; exact hlt
      obtain ⟨d0, d1, d2, d3⟩ := dataRow_cells (dataRow_keep (dataRow_of (unhide HOW)) (keep ge hgl.1 hgl.2)) k hke
      simp only [Nat.zero_add] at d0 d1 d2 d3
      have hm := unhide HMET es[k] (List.getElem_mem hke)
      have hT := unhide HT0 wr _ lk es[k] hA hm.1 hm.2 (unhide HLEN _) (unhide HSO _) (unhide HOK _)
      rw [← heardL_snoc, ← List.take_succ_eq_append_getElem hke] at hT
      have HT := hide hT
      have HTu := hide ht
      have j0 : (0 : Int) ≤ (k : Int) := by omega
      have j1 : (k : Int) < (ne : Int) := by omega
      generalize es[k] = E at *
      clear hT hA ht keep bP hm hke
      go_wp2_with (go_at_call 213; refine (unhide HT).mono ?_; rintro e w1 ⟨rfl, lk1, hA1, ht1⟩)
      go_roundw
      case rel => exact ⟨k + 1, by omega, by go_num, lk1, hA1, (unhide HTu).trans ht1⟩
      case measure => simp [intOf]; omega
    · have hkn : k = ne := by omega
      subst hkn
      rw [List.take_of_length_le (by rw [unhide HLE]; omega)] at hA
      have bF : Blk wr w.heap.size #[.int .i64 0, .int .i64 0, .bool false] 150 := (keep _ (Nat.le_refl _) (by omega)).trans (unhide HBF)
      have bE : Blk wr (P2 + 1) #[.int .i64 0, .int .i64 0, .bool false] 150 := (keep _ (by omega) (by omega)).trans (unhide HBE)
      have a0 := bF.cell 0
      have a1 := bF.cell 1
      have a2 := bF.cell 2
      have f0 := bF.frozen 0
      have f1 := bF.frozen 1
      have f2 := bF.frozen 2
      have e0 := (bE.cell 0).trans (show _ = some (.int .i64 0) from rfl)
      have e1 := (bE.cell 1).trans (show _ = some (.int .i64 0) from rfl)
      have e2 := (bE.cell 2).trans (show _ = some (.bool false) from rfl)
      have bF3 := ((bF.set 0 (.int .i64 0)).set 1 (.int .i64 0)).set 2 (.bool false)
      have t0 := (bF3.cell 0).trans (show _ = some (.int .i64 0) from rfl)
      have t1 := (bF3.cell 1).trans (show _ = some (.int .i64 0) from rfl)
      have t2 := (bF3.cell 2).trans (show _ = some (.bool false) from rfl)
      have hQn : w.heap.size ≠ Q := by omega
      have HFA := hide (show RefAt (((wr.setCell ⟨w.heap.size, 0, none⟩ (.int .i64 0)).setCell ⟨w.heap.size, 1, none⟩ (.int .i64 0)).setCell ⟨w.heap.size, 2, none⟩ (.bool false)) base Q costs (heardL L frm cost es) (.slice ac costs.length cc) lk from
        ⟨((hA.blk.other (p := ⟨w.heap.size, 0, none⟩) hQn _).other (p := ⟨w.heap.size, 1, none⟩) hQn _).other (p := ⟨w.heap.size, 2, none⟩) hQn _,
          ownsRow_other (ownsRow_other (ownsRow_other hA.costs bF (by decide)) (bF.set _ _) (by decide)) ((bF.set _ _).set _ _) (by decide),
          ownsRow_other (ownsRow_other (ownsRow_other hA.rows bF (by decide)) (bF.set _ _) (by decide)) ((bF.set _ _).set _ _) (by decide), hA.new⟩)
      have HFT := hide (((((RefTurn.of_below Q lv (unhide HBW)).trans ht).set (p := ⟨w.heap.size, 0, none⟩) (Nat.le_refl _) (.int .i64 0)).set (p := ⟨w.heap.size, 1, none⟩) (Nat.le_refl _) (.int .i64 0)).set (p := ⟨w.heap.size, 2, none⟩) (Nat.le_refl _) (.bool false))
      clear bF bE bF3 hA ht keep bP
      go_wp2_with fail
      go_region
      all_goals go_wp2
      all_goals refine bodyPost_ret (v := .tuple #[.slice none 0 0, .agg #[.int .i64 0, .int .i64 0, .bool false]]) (by simp [results, Tryz.results163, go_sem, t0, t1, t2]) rfl ⟨rfl, lk, (unhide HFA).below (Below.refl _ _).drew, (unhide HFT).drew⟩

end Go.Proofs.YtdnpeefnobjfaaaGreatDoor

/- The reference's Down. -/
namespace Go.Proofs.YtdnpeefnobjfaaaGreatDoor
open Go.RowKit Go.Shelf
attribute [local go_sem ↓] Go.wp_at_zero Go.wp_at_succ

set_option maxRecDepth 100000 in
set_option maxHeartbeats 2000000 in
theorem downRef_bad (Q : Nat) (n : Int) (ac : Option Addr) (nc cc : Nat) (w : World) (c0 : w.cell? ⟨Q, 0, none⟩ = some (.slice ac nc cc)) (h : n < 0 ∨ (nc : Int) ≤ n) :
    Calls Tryz.prog 117 #[.pointer (some ⟨Q, 0, none⟩), .int .i64 n] w fun e w' => e = .returned (.int .i64 2) ∧ w' = w := by
  rcases h with h | h
  · go_enter Tryz.func117, Tryz.ntmps117
    go_wp2
    go_ret
    exact ⟨rfl, rfl⟩
  · have h' : ¬ n < 0 := by omega
    go_enter Tryz.func117, Tryz.ntmps117
    go_wp2
    go_ret
    exact ⟨rfl, rfl⟩

set_option maxRecDepth 100000 in
set_option maxHeartbeats 2000000 in
theorem downRef_any (base Q nb : Nat) (costs : List Int) (L : List Rw) (cv lv : Value) (w : World) (hQ : RefAt w base Q costs L cv lv) (hn : L.length ≤ 1000000) (hm : ∀ r ∈ L, r.met ≤ 16) (hnb : nb < costs.length) :
    Calls Tryz.prog 117 #[.pointer (some ⟨Q, 0, none⟩), .int .i64 nb] w fun e w' => e = .returned (.int .i64 0) ∧ RefAt w' base Q costs (lostL nb L) cv lv ∧ RefTurn w w' Q lv lv := by
  obtain ⟨ac, cc, rfl⟩ := ownsRow_slice hQ.costs
  obtain ⟨ao, cap, rfl⟩ := ownsRow_slice hQ.rows
  have c0 := (hQ.blk.cell 0).trans (show _ = some (.slice ac costs.length cc) from rfl)
  have HQ := hide hQ
  have HM := hide hm
  have hd0 : decide ((nb : Int) < 0) = false := by simp
  have hd1 : decide (costs.length ≤ nb) = false := by simp; omega
  clear hQ hm hnb
  go_enter Tryz.func117, Tryz.ntmps117
  go_wp2_with fail
  clear c0
  go_loopw [5] (fun i wr => ∃ k : Nat, k ≤ L.length ∧ i = .int .i64 k ∧ RefAt wr base Q costs (mapUpto (fun r => if r.frm = (nb : Int) then rwLost r else r) L k) (.slice ac costs.length cc) (.slice ao L.length cap) ∧ RefTurn w wr Q (.slice ao L.length cap) (.slice ao L.length cap)) (fun i _ => L.length - (intOf i).toNat)
  case atStart => exact ⟨0, by omega, rfl, by rw [mapUpto_zero]; exact unhide HQ, RefTurn.of_below _ _ (Below.refl _ _)⟩
  case round =>
    obtain ⟨k, hk, rfl, hA, ht⟩ := hrel
    have q1 := (hA.blk.cell 1).trans (show _ = some (.slice ao L.length cap) from rfl)
    by_cases hlt : k < L.length
    · have hlt' : k < (mapUpto (fun r => if r.frm = (nb : Int) then rwLost r else r) L k).length := by rw [mapUpto_length]; exact hlt
      have hat := mapUpto_at (fun r => if r.frm = (nb : Int) then rwLost r else r) L k hlt hlt'
      have hrows := hA.rows
      rw [mapUpto_length] at hrows
      rcases rwSlice_ownT hrows with h0 | ⟨g, off, rfl, hce⟩
      · rw [h0] at hlt'; simp at hlt'
      · have hr := hce k hlt'
        rw [hat] at hr
        obtain ⟨_, _, _, r3, r4, _, _⟩ := hr
        have j0 : (0 : Int) ≤ (k : Int) := by omega
        have j1 : (k : Int) < (L.length : Int) := by omega
        have hD := dies_ref base Q k costs _ _ _ wr hA hlt'
        rw [hat] at hD
        have hset := mapUpto_set (fun r => if r.frm = (nb : Int) then rwLost r else r) L k hlt
        have hsame := mapUpto_same (fun r => if r.frm = (nb : Int) then rwLost r else r) L k hlt
        have hme := unhide HM L[k] (List.getElem_mem hlt)
        have HA := hide hA
        have HT := hide ht
        obtain ⟨E, hE⟩ : ∃ E, L[k] = E := ⟨_, rfl⟩
        rw [hE] at r3 r4 hD hset hsame hme
        clear hE hat hce hrows hA ht HQ HM
        by_cases hf : E.frm = (nb : Int)
        · by_cases h16 : E.met < 16
          · have hl : (if E.frm = (nb : Int) then rwLost E else E) = { E with met := 16, age := 0, chg := true } := by
              rw [if_pos hf, rwLost, if_neg (by omega)]
            rw [hl] at hset
            rw [hset] at hD
            have hd2 : decide (E.met < 16) = true := decide_eq_true h16
            rw [hf] at r4
            have hD' := hide hD
            clear hset hsame hl hf hD
            go_wp2_with fail
            go_wp2_with (go_at_call 164; refine (unhide hD').mono ?_; rintro e w1 ⟨rfl, hA1, ht1⟩)
            go_roundw
            case rel => exact ⟨k + 1, by omega, by go_num, hA1, (unhide HT).trans ht1⟩
            case measure => simp [intOf]; omega
          · have hl : (if E.frm = (nb : Int) then rwLost E else E) = E := by
              rw [if_pos hf, rwLost, if_pos (by omega)]
            have hs := hide (hsame hl)
            rw [hf] at r4
            clear hset hsame hl hf hD
            go_wp2
            go_roundw
            case rel => exact ⟨k + 1, by omega, by go_num, by rw [← unhide hs]; exact unhide HA, unhide HT⟩
            case measure => simp [intOf]; omega
        · have hl : (if E.frm = (nb : Int) then rwLost E else E) = E := if_neg hf
          have hs := hide (hsame hl)
          have hff : (E.frm == (nb : Int)) = false := by simp [hf]
          clear hset hsame hl hD hf
          go_wp2
          go_roundw
          case rel => exact ⟨k + 1, by omega, by go_num, by rw [← unhide hs]; exact unhide HA, unhide HT⟩
          case measure => simp [intOf]; omega
    · have hkn : k = L.length := by omega
      subst hkn
      rw [mapUpto_all] at hA
      have HA := hide hA
      clear hA
      go_wp2
      go_ret
      exact ⟨rfl, unhide HA, ht⟩

end Go.Proofs.YtdnpeefnobjfaaaGreatDoor

/- The reference's View. -/
namespace Go.Proofs.YtdnpeefnobjfaaaGreatDoor
open Go.RowKit Go.Shelf
attribute [local go_sem ↓] Go.wp_at_zero Go.wp_at_succ

set_option maxRecDepth 100000 in
set_option maxHeartbeats 2000000 in
theorem viewRef_any (base Q : Nat) (costs : List Int) (L : List Rw) (cv lv : Value) (w : World) (hQ : RefAt w base Q costs L cv lv) (hn : L.length ≤ 1000000) :
    Calls Tryz.prog 33 #[.pointer (some ⟨Q, 0, none⟩)] w fun e w' => ∃ v, e = .returned v ∧ w'.ownsRow w.heap.size 52 5 v L.length (routeList L) ∧ Below w.heap.size w w' := by
  obtain ⟨iR, hiR, hR0, hR1, hR2⟩ := info_parts Tryz.info52
  obtain ⟨ao, cap, rfl⟩ := ownsRow_slice hQ.rows
  have HS := hide (rwSlice_ownT hQ.rows)
  have HQ := hide hQ.blk
  clear hQ
  go_enter Tryz.func33, Tryz.ntmps33
  go_wp2_with fail
  go_loopw [3, 4] (fun d i wr => ∃ k : Nat, k ≤ L.length ∧ i = .int .i64 k ∧ wr.ownsRow w.heap.size 52 5 d k (routeList (L.take k)) ∧ Below w.heap.size w wr) (fun _ i _ => L.length - (intOf i).toNat)
  case atStart => exact ⟨0, by omega, rfl, by simpa [routeList] using World.ownsRow_nil _ _ _ _, Below.refl _ _⟩
  case round =>
    obtain ⟨k, hk, rfl, hown, hb⟩ := hrel
    have q1 := (((unhide HQ).below hb (unhide HQ).lt).cell 1).trans (show _ = some (.slice ao L.length cap) from rfl)
    by_cases hlt : k < L.length
    · rcases rwSlice_below (unhide HS) hb with h0 | ⟨g, off, rfl, hce⟩
      · rw [h0] at hlt; simp at hlt
      · obtain ⟨c0, c1, c2, c3, c4, c5, c6⟩ := hce k hlt
        have hsn : routeList (L.take (k + 1)) = routeList (L.take k) ++ routeL L[k] := by
          rw [List.take_succ_eq_append_getElem hlt, routeList_snoc]
        have HSN := hide hsn
        have HB := hide hb
        have HO := hide hown
        have hsz : w.heap.size ≤ wr.heap.size := hb.size
        clear hsn hb hce hown
        have j0 : (0 : Int) ≤ (k : Int) := by omega
        have j1 : (k : Int) < (L.length : Int) := by omega
        generalize L[k] = E at *
        go_wp2_with (at_builtin; go_loud (refine wpList_append_own _ rfl (.tmp 14) (.tmp 23) 57 rfl w.heap.size 52 iR (.agg #[.int .u32 0, .int .i64 0, .int .i64 0, .int .i64 0, .int .i64 0]) 5 40 Tryz.underlying57 hiR hR0 hR1 hR2 rfl (by decide) _ _ _ rfl ((unhide HO).alloc _) ⟨wr.heap.size, 0, none⟩ 1 1 (routeL E) rfl rfl (by exact World.news_of_block (heap_alloc_new wr _)) (routeL_one _) (by unfold maxLen; omega) (by omega) (by simp; omega) ?_; intro v5 w5 hown5 hg5 _))
        go_roundw
        case rel =>
          refine ⟨k + 1, by omega, by go_num, by rw [unhide HSN]; exact hown5, ?_⟩
          exact own_grown (m := 0) (unhide HB) (unhide HO) (Nat.le_refl _) hg5 hsz rfl
        case measure => simp [intOf]; omega
    · have hkn : k = L.length := by omega
      subst hkn
      rw [List.take_length] at hown
      have HOWN := hide hown
      clear hown
      go_wp2
      go_ret
      exact ⟨_, rfl, unhide HOWN, hb⟩

end Go.Proofs.YtdnpeefnobjfaaaGreatDoor
