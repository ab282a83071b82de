/- The reference's Tick. -/
import Derived.Test.YtdnpeefnobjfaaaGreatDoorQRefM
import Derived.Test.YtdnpeefnobjfaaaGreatDoorTLaterM
import Derived.Test.YtdnpeefnobjfaaaGreatDoorDRefM
namespace Go.Proofs.YtdnpeefnobjfaaaGreatDoor
open Go.RowKit Go.Shelf
attribute [local go_sem ↓] Go.wp_at_zero Go.wp_at_succ

/-- A row as both routers keep it: how far, whence, how old. -/
structure RwOk (r : Rw) : Prop where
  met : r.met ≤ 16
  frm : -1 ≤ r.frm
  age0 : 0 ≤ r.age
  age : r.age < 180
  dead : r.met = 16 → r.age < 120
theorem RwOk.older {r : Rw} (h : RwOk r) (hg : rwGone (rwOlder r) = false) : RwOk (rwOlder r) := by
  obtain ⟨h1, h2, h3, h4, h5⟩ := h
  unfold rwOlder at hg ⊢
  by_cases hf : r.frm = -1
  · rw [if_pos hf]; exact ⟨h1, h2, h3, h4, h5⟩
  · rw [if_neg hf] at hg ⊢
    by_cases ha : r.age + 1 = 180
    · rw [if_pos ha]
      unfold rwLost
      by_cases hm : r.met = 16
      · have := h5 hm; omega
      · rw [if_neg hm]
        exact ⟨Int.le_refl _, h2, Int.le_refl _, show (0 : Int) < 180 by decide, fun _ => show (0 : Int) < 120 by decide⟩
    · rw [if_neg ha] at hg ⊢
      refine ⟨h1, h2, by show 0 ≤ r.age + 1; omega, by show r.age + 1 < 180; omega, fun hm => ?_⟩
      have hm' : r.met = 16 := hm
      have := h5 hm'
      show r.age + 1 < 120
      simp only [rwGone, hm', decide_true, Bool.true_and, decide_eq_false_iff_not] at hg
      omega
theorem RwOk.tick {L : List Rw} (h : ∀ r ∈ L, RwOk r) : ∀ r ∈ tickL L, RwOk r := fun r hr => by
  obtain ⟨h1, h2⟩ := List.mem_filter.1 hr
  obtain ⟨q, hq, rfl⟩ := List.mem_map.1 h1
  exact (h q hq).older (by simpa using h2)
theorem RwOk.later {L : List Rw} (h : ∀ r ∈ L, RwOk r) : ∀ n, ∀ r ∈ laterL n L, RwOk r
  | 0 => h
  | n + 1 => RwOk.tick (RwOk.later h n)
theorem RwOk.lost {L : List Rw} (nb : Int) (h : ∀ r ∈ L, RwOk r) : ∀ r ∈ lostL nb L, RwOk r := fun r hr => by
  obtain ⟨q, hq, rfl⟩ := List.mem_map.1 hr
  obtain ⟨h1, h2, h3, h4, h5⟩ := h q hq
  split
  · unfold rwLost
    split
    · exact ⟨h1, h2, h3, h4, h5⟩
    · exact ⟨Int.le_refl _, h2, Int.le_refl _, show (0 : Int) < 180 by decide, fun _ => show (0 : Int) < 120 by decide⟩
  · exact ⟨h1, h2, h3, h4, h5⟩

set_option maxRecDepth 100000 in
set_option maxHeartbeats 2000000 in
theorem tickRef_bad (Q : Nat) (n : Int) (w : World) (h : n < 0 ∨ 1000 < n) :
    Calls Tryz.prog 116 #[.pointer (some ⟨Q, 0, none⟩), .int .i64 n] w fun e w' => e = .returned (.int .i64 9) ∧ w' = w := by
  rcases h with h | h
  · go_enter Tryz.func116, Tryz.ntmps116
    go_wp2
    go_ret
    exact ⟨rfl, rfl⟩
  · have h' : ¬ n < 0 := by omega
    go_enter Tryz.func116, Tryz.ntmps116
    go_wp2
    go_ret
    exact ⟨rfl, rfl⟩

set_option maxRecDepth 100000 in
set_option maxHeartbeats 4000000 in
theorem tickRef_any (base Q N : Nat) (costs : List Int) (L : List Rw) (cv lv : Value) (w : World) (hQ : RefAt w base Q costs L cv lv) (hn : L.length ≤ 1000000) (hN : N ≤ 1000) (hok : ∀ r ∈ L, RwOk r) :
    Calls Tryz.prog 116 #[.pointer (some ⟨Q, 0, none⟩), .int .i64 N] w fun e w' => e = .returned (.int .i64 0) ∧ ∃ lv', RefAt w' base Q costs (laterL N L) cv lv' ∧ RefTurn w w' Q lv lv' := by
  obtain ⟨iR, hiR, hR0, hR1, hR2⟩ := info_parts Tryz.info162
  have HQ := hide hQ
  have HOK := hide (RwOk.later hok)
  have hd0 : decide ((N : Int) < 0) = false := by simp
  have hd1 : decide ((1000 : Int) < (N : Int)) = false := by simp; omega
  clear hQ hok
  go_enter Tryz.func116, Tryz.ntmps116
  go_wp2_with fail
  go_loopw [5] (fun i wr => ∃ t : Nat, t ≤ N ∧ i = .int .i64 t ∧ ∃ lt, RefAt wr base Q costs (laterL t L) cv lt ∧ RefTurn w wr Q lv lt) (fun i _ => N - (intOf i).toNat)
  case atStart => exact ⟨0, by omega, rfl, lv, unhide HQ, RefTurn.of_below _ _ (Below.refl _ _)⟩
  case round =>
    obtain ⟨t, ht, rfl, lt, hA, hturn⟩ := hrel
    clear HQ
    by_cases hlt : t < N
    · obtain ⟨ao, cap, rfl⟩ := ownsRow_slice hA.rows
      have HMo := hide (unhide HOK t)
      have hlen : (laterL t L).length ≤ 1000000 := Nat.le_trans (later_length L t) hn
      have HLAT := hide (show laterL (t + 1) L = tickL (laterL t L) from rfl)
      generalize laterL t L = M at *
      have HS := hide (rwSlice_ownT hA.rows)
      have hQw : Q < wr.heap.size := hA.blk.lt
      have HA := hide hA
      have HT := hide hturn
      have HBL := hide hA.blk
      clear hA hturn
      go_wp2_with fail
      generalize hW : wr = W at *
      clear hW
      go_loopw [6, 7] (fun d i wr => ∃ k : Nat, k ≤ M.length ∧ i = .int .i64 k ∧ wr.ownsRow W.heap.size 162 7 d (keptL ((M.map rwOlder).take k)).length (rwList (keptL ((M.map rwOlder).take k))) ∧ Below W.heap.size W wr) (fun _ i _ => M.length - (intOf i).toNat)
      case atStart => exact ⟨0, by omega, rfl, by simpa [keptL, rwList] using World.ownsRow_nil _ _ _ _, Below.refl _ _⟩
      case round =>
        obtain ⟨k, hk, rfl, hown, hb⟩ := hrel
        have q1 := (((unhide HBL).below hb (unhide HBL).lt).cell 1).trans (show _ = some (.slice ao M.length cap) from rfl)
        by_cases hlk : k < M.length
        · rcases rwSlice_below (unhide HS) hb with h0 | ⟨g, off, rfl, hce⟩
          · rw [h0] at hlk; simp at hlk
          · obtain ⟨r0, r1, r2, r3, r4, r5, r6⟩ := hce k hlk
            have hlm : k < (M.map rwOlder).length := by simpa using hlk
            have hzk : (M.map rwOlder)[k] = rwOlder M[k] := by simp
            have hkeep := @kept_snoc (M.map rwOlder) k hlm
            have hdrop := @kept_snoc_gone (M.map rwOlder) k hlm
            rw [hzk] at hkeep hdrop
            have hkl : (keptL ((M.map rwOlder).take k)).length ≤ 1000000 := by
              unfold keptL
              refine Nat.le_trans (List.length_filter_le _ _) ?_
              rw [List.length_take, List.length_map]; omega
            obtain ⟨o1, o2, o3, o4, o5⟩ := unhide HMo M[k] (List.getElem_mem hlk)
            have HB := hide hb
            have HO := hide hown
            have hsz : W.heap.size ≤ wr.heap.size := hb.size
            obtain ⟨E, hE⟩ : ∃ E, M[k] = E := ⟨_, rfl⟩
            rw [hE] at r0 r1 r2 r3 r4 r5 r6 hkeep hdrop o1 o2 o3 o4 o5
            have j0 : (0 : Int) ≤ (k : Int) := by omega
            have j1 : (k : Int) < (M.length : Int) := by omega
            clear hE hce hb hown hzk hlm HS
            obtain ⟨a, l, tg, m, f, ag, c⟩ := E
            dsimp only at r0 r1 r2 r3 r4 r5 r6 o1 o2 o3 o4 o5
            by_cases hf : f = -1
            · by_cases hm : m < 16
              · subst hf
                have hz : rwOlder ⟨a, l, tg, m, -1, ag, c⟩ = ⟨a, l, tg, m, -1, ag, c⟩ := by
                  rfl
                have hgo : rwGone ⟨a, l, tg, m, -1, ag, c⟩ = false := by
                  simp [rwGone]; omega
                rw [hz] at hkeep
                have HK := hide (hkeep hgo)
                clear hkeep hdrop hgo hz o5
                go_wp2_with (at_builtin; go_loud (refine wpList_append_own _ rfl (.tmp 72) (.tmp 74) 158 rfl W.heap.size 162 iR (.agg #[.int .u32 0, .int .i64 0, .int .i64 0, .int .i64 0, .int .i64 0, .int .i64 0, .bool false]) 7 56 Tryz.underlying158 hiR hR0 hR1 hR2 rfl (by decide) _ _ _ rfl (((unhide HO).alloc _).alloc _) ⟨wr.heap.size + 1, 0, none⟩ 1 1 (rwVals ⟨a, l, tg, m, -1, ag, c⟩) rfl rfl (by exact World.news_of_block (heap_alloc_new2 wr _ _)) (rwVals_one _) (by unfold maxLen; omega) (by omega) (by simp; omega) ?_; intro v5 w5 hown5 hg5 _))
                go_roundw
                case rel =>
                  refine ⟨k + 1, by omega, by go_num, by rw [unhide HK, List.length_append, rwList_append]; exact hown5, ?_⟩
                  exact own_grown (m := 0) ((unhide HB).alloc hsz _) ((unhide HO).alloc _) (Nat.le_refl _) hg5 (by simp; omega) rfl
                case measure => simp [intOf]; omega
              · subst hf
                obtain rfl : m = 16 := by omega
                have hag := o5 rfl
                have hz : rwOlder ⟨a, l, tg, 16, -1, ag, c⟩ = ⟨a, l, tg, 16, -1, ag, c⟩ := by
                  rfl
                have hgo : rwGone ⟨a, l, tg, 16, -1, ag, c⟩ = false := by
                  simp [rwGone]; omega
                rw [hz] at hkeep
                have HK := hide (hkeep hgo)
                clear hkeep hdrop hgo hz o5
                go_wp2_with (at_builtin; go_loud (refine wpList_append_own _ rfl (.tmp 72) (.tmp 74) 158 rfl W.heap.size 162 iR (.agg #[.int .u32 0, .int .i64 0, .int .i64 0, .int .i64 0, .int .i64 0, .int .i64 0, .bool false]) 7 56 Tryz.underlying158 hiR hR0 hR1 hR2 rfl (by decide) _ _ _ rfl (((unhide HO).alloc _).alloc _) ⟨wr.heap.size + 1, 0, none⟩ 1 1 (rwVals ⟨a, l, tg, 16, -1, ag, c⟩) rfl rfl (by exact World.news_of_block (heap_alloc_new2 wr _ _)) (rwVals_one _) (by unfold maxLen; omega) (by omega) (by simp; omega) ?_; intro v5 w5 hown5 hg5 _))
                go_roundw
                case rel =>
                  refine ⟨k + 1, by omega, by go_num, by rw [unhide HK, List.length_append, rwList_append]; exact hown5, ?_⟩
                  exact own_grown (m := 0) ((unhide HB).alloc hsz _) ((unhide HO).alloc _) (Nat.le_refl _) hg5 (by simp; omega) rfl
                case measure => simp [intOf]; omega
            · have hf0 : 0 ≤ f := by omega
              by_cases hm : m < 16
              · by_cases h180 : ag = 179
                · obtain rfl : ag = 179 := by omega
                  have hz : rwOlder ⟨a, l, tg, m, f, 179, c⟩ = ⟨a, l, tg, 16, f, 0, true⟩ := by
                    simp [rwOlder, rwLost, hf]; omega
                  have hgo : rwGone ⟨a, l, tg, 16, f, 0, true⟩ = false := by
                    simp [rwGone]
                  rw [hz] at hkeep
                  have HK := hide (hkeep hgo)
                  clear hkeep hdrop hgo hz o5
                  go_wp2_with (at_builtin; go_loud (refine wpList_append_own _ rfl (.tmp 72) (.tmp 74) 158 rfl W.heap.size 162 iR (.agg #[.int .u32 0, .int .i64 0, .int .i64 0, .int .i64 0, .int .i64 0, .int .i64 0, .bool false]) 7 56 Tryz.underlying158 hiR hR0 hR1 hR2 rfl (by decide) _ _ _ rfl (((unhide HO).alloc _).alloc _) ⟨wr.heap.size + 1, 0, none⟩ 1 1 (rwVals ⟨a, l, tg, 16, f, 0, true⟩) rfl rfl (by exact World.news_of_block (heap_alloc_new2 wr _ _)) (rwVals_one _) (by unfold maxLen; omega) (by omega) (by simp; omega) ?_; intro v5 w5 hown5 hg5 _))
                  go_roundw
                  case rel =>
                    refine ⟨k + 1, by omega, by go_num, by rw [unhide HK, List.length_append, rwList_append]; exact hown5, ?_⟩
                    exact own_grown (m := 0) ((unhide HB).alloc hsz _) ((unhide HO).alloc _) (Nat.le_refl _) hg5 (by simp; omega) rfl
                  case measure => simp [intOf]; omega
                · have hz : rwOlder ⟨a, l, tg, m, f, ag, c⟩ = ⟨a, l, tg, m, f, ag + 1, c⟩ := by
                    simp [rwOlder, hf]; omega
                  have hgo : rwGone ⟨a, l, tg, m, f, ag + 1, c⟩ = false := by
                    simp [rwGone]; omega
                  rw [hz] at hkeep
                  have HK := hide (hkeep hgo)
                  clear hkeep hdrop hgo hz o5
                  go_wp2_with (at_builtin; go_loud (refine wpList_append_own _ rfl (.tmp 72) (.tmp 74) 158 rfl W.heap.size 162 iR (.agg #[.int .u32 0, .int .i64 0, .int .i64 0, .int .i64 0, .int .i64 0, .int .i64 0, .bool false]) 7 56 Tryz.underlying158 hiR hR0 hR1 hR2 rfl (by decide) _ _ _ rfl (((unhide HO).alloc _).alloc _) ⟨wr.heap.size + 1, 0, none⟩ 1 1 (rwVals ⟨a, l, tg, m, f, ag + 1, c⟩) rfl rfl (by exact World.news_of_block (heap_alloc_new2 wr _ _)) (rwVals_one _) (by unfold maxLen; omega) (by omega) (by simp; omega) ?_; intro v5 w5 hown5 hg5 _))
                  go_roundw
                  case rel =>
                    refine ⟨k + 1, by omega, by go_num, by rw [unhide HK, List.length_append, rwList_append]; exact hown5, ?_⟩
                    exact own_grown (m := 0) ((unhide HB).alloc hsz _) ((unhide HO).alloc _) (Nat.le_refl _) hg5 (by simp; omega) rfl
                  case measure => simp [intOf]; omega
              · by_cases h119 : ag < 119
                · obtain rfl : m = 16 := by omega
                  have hag := o5 rfl
                  have hz : rwOlder ⟨a, l, tg, 16, f, ag, c⟩ = ⟨a, l, tg, 16, f, ag + 1, c⟩ := by
                    simp [rwOlder, hf]; omega
                  have hgo : rwGone ⟨a, l, tg, 16, f, ag + 1, c⟩ = false := by
                    simp [rwGone]; omega
                  rw [hz] at hkeep
                  have HK := hide (hkeep hgo)
                  clear hkeep hdrop hgo hz o5
                  go_wp2_with (at_builtin; go_loud (refine wpList_append_own _ rfl (.tmp 72) (.tmp 74) 158 rfl W.heap.size 162 iR (.agg #[.int .u32 0, .int .i64 0, .int .i64 0, .int .i64 0, .int .i64 0, .int .i64 0, .bool false]) 7 56 Tryz.underlying158 hiR hR0 hR1 hR2 rfl (by decide) _ _ _ rfl (((unhide HO).alloc _).alloc _) ⟨wr.heap.size + 1, 0, none⟩ 1 1 (rwVals ⟨a, l, tg, 16, f, ag + 1, c⟩) rfl rfl (by exact World.news_of_block (heap_alloc_new2 wr _ _)) (rwVals_one _) (by unfold maxLen; omega) (by omega) (by simp; omega) ?_; intro v5 w5 hown5 hg5 _))
                  go_roundw
                  case rel =>
                    refine ⟨k + 1, by omega, by go_num, by rw [unhide HK, List.length_append, rwList_append]; exact hown5, ?_⟩
                    exact own_grown (m := 0) ((unhide HB).alloc hsz _) ((unhide HO).alloc _) (Nat.le_refl _) hg5 (by simp; omega) rfl
                  case measure => simp [intOf]; omega
                · obtain rfl : m = 16 := by omega
                  have hag := o5 rfl
                  obtain rfl : ag = 119 := by omega
                  have hz : rwOlder ⟨a, l, tg, 16, f, 119, c⟩ = ⟨a, l, tg, 16, f, 120, c⟩ := by
                    simp [rwOlder, hf]
                  rw [hz] at hdrop
                  have HK := hide (hdrop rfl)
                  clear hkeep hdrop hz o5
                  go_wp2
                  go_roundw
                  case rel =>
                    refine ⟨k + 1, by omega, by go_num, by rw [unhide HK]; exact ((unhide HO).alloc _), ?_⟩
                    exact (unhide HB).alloc hsz _
                  case measure => simp [intOf]; omega
        · have hkn : k = M.length := by omega
          subst hkn
          have hall : keptL ((M.map rwOlder).take M.length) = tickL M := by
            rw [show M.length = (M.map rwOlder).length by simp, List.take_length]; rfl
          rw [hall] at hown
          obtain ⟨av, cv', rfl⟩ := ownsRow_slice hown
          have HO := hide hown
          have HB := hide hb
          have hA0 := unhide HA
          have z1 := ((unhide HBL).below hb (unhide HBL).lt).frozen 1
          have hQn : Q < W.heap.size := hQw
          have hbk := (unhide HBL).below hb (unhide HBL).lt
          have hA2 : RefAt (wr.setCell ⟨Q, 1, none⟩ (.slice av (tickL M).length cv')) base Q costs (tickL M) cv (.slice av (tickL M).length cv') :=
            ⟨hbk.set 1 _, ownsRow_other (ownsRow_below hA0.costs hb (Nat.le_refl _)) hbk (by decide), ownsRow_mono (ownsRow_other hown hbk (by decide)) (by have := hA0.new; omega), hA0.new⟩
          have HA2 := hide hA2
          have HT2 := hide ((unhide HT).trans (RefTurn.of_new (w' := wr.setCell ⟨Q, 1, none⟩ (.slice av (tickL M).length cv')) (b := .slice av (tickL M).length cv') (grown_trans (grown_below hb) (grown_set _ _ _ _)) (fun j hj => (ownsRow_from hown j hj).1)))
          clear hall hown hb hA0 hA2 hbk
          go_wp2
          go_roundw
          case rel => exact ⟨t + 1, by omega, by go_num, _, by rw [unhide HLAT]; exact unhide HA2, unhide HT2⟩
          case measure => simp [intOf]; omega
    · have htn : t = N := by omega
      subst htn
      have HA := hide hA
      have HT := hide hturn
      clear hA hturn
      go_wp2
      go_ret
      exact ⟨rfl, lt, unhide HA, unhide HT⟩

end Go.Proofs.YtdnpeefnobjfaaaGreatDoor

/- What both routers keep of their rows stays so. -/
namespace Go.Proofs.YtdnpeefnobjfaaaGreatDoor
open Go.RowKit Go.Shelf

/-- A piece of news. -/
structure NewsOk (n : Rw) : Prop where
  met : n.met ≤ 16
  frm : -1 ≤ n.frm
  age : n.age = 0
theorem NewsOk.fresh {n : Rw} (h : NewsOk n) : RwOk (rwFresh n) := ⟨h.met, h.frm, Int.le_refl _, show (0 : Int) < 180 by decide, fun _ => show (0 : Int) < 120 by decide⟩
theorem RwOk.gone {r : Rw} (h : RwOk r) : RwOk (rwLost r) := by
  unfold rwLost
  split
  · exact h
  · exact ⟨Int.le_refl _, h.frm, Int.le_refl _, show (0 : Int) < 180 by decide, fun _ => show (0 : Int) < 120 by decide⟩
theorem RwOk.heard {r n : Rw} (h : RwOk r) (hn : NewsOk n) : RwOk (rwHeard r n) := by
  unfold rwHeard
  split
  · exact h
  · split
    · unfold rwRetold
      split
      · exact h.gone
      · exact ⟨hn.met, hn.frm, Int.le_refl _, show (0 : Int) < 180 by decide, fun _ => show (0 : Int) < 120 by decide⟩
    · split
      · exact hn.fresh
      · exact h
theorem RwOk.take {L : List Rw} {n : Rw} (h : ∀ r ∈ L, RwOk r) (hn : NewsOk n) : ∀ r ∈ takeL L n, RwOk r := by
  have hins : ∀ i, ∀ r ∈ L.take i ++ rwFresh n :: L.drop i, RwOk r := fun i r hr => by
    rcases List.mem_append.1 hr with h1 | h1
    · exact h r (List.mem_of_mem_take h1)
    · rcases List.mem_cons.1 h1 with rfl | h2
      · exact hn.fresh
      · exact h r (List.mem_of_mem_drop h2)
  unfold takeL takeAt
  split
  · rename_i x hx
    split
    · intro r hr
      rcases List.mem_or_eq_of_mem_set hr with h1 | rfl
      · exact h r h1
      · exact (h x (List.mem_of_getElem? hx)).heard hn
    · split
      · exact hins _
      · exact h
  · split
    · exact hins _
    · exact h
theorem NewsOk.of (e : Ent) (frm : Nat) (cost : Int) : NewsOk (newsRw e frm cost) := ⟨by show min _ _ ≤ _; omega, by show (-1 : Int) ≤ (frm : Int); omega, rfl⟩
theorem RwOk.heards {L : List Rw} (frm : Nat) (cost : Int) (h : ∀ r ∈ L, RwOk r) (es : List Ent) : ∀ r ∈ heardL L frm cost es, RwOk r := by
  induction es generalizing L with
  | nil => exact h
  | cons e es ih => exact ih (RwOk.take h (NewsOk.of e frm cost))

end Go.Proofs.YtdnpeefnobjfaaaGreatDoor
