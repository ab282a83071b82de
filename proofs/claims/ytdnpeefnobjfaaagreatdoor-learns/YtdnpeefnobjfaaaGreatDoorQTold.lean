/- The reference's told. -/
import Derived.Test.YtdnpeefnobjfaaaGreatDoorTToM
import Derived.Test.YtdnpeefnobjfaaaGreatDoorQRefM
import Derived.Test.YtdnpeefnobjfaaaGreatDoorRefM
import Derived.BigRegion
namespace Go.Proofs.YtdnpeefnobjfaaaGreatDoor
open Go.RowKit Go.Shelf
attribute [local go_sem ↓] Go.wp_at_zero Go.wp_at_succ

theorem entList_snoc (L : List Ent) (e : Ent) : entList (L ++ [e]) = entList L ++ entVals e := by simp [entList]

set_option maxRecDepth 100000 in
set_option maxHeartbeats 8000000 in
theorem told_any (Q : Nat) (to : Int) (ao : Option Addr) (cap : Nat) (L : List Rw) (w : World) (hn : L.length ≤ 1000) (hfine : rowsFine L) (hs : rwSlice w ao L) :
    Calls Tryz.prog 165 #[.pointer (some ⟨Q, 0, none⟩), .int .i64 to, .slice ao L.length cap] w fun e w' => ∃ v, e = .returned v ∧ w'.ownsRow w.heap.size 64 2 v (nParts L.length) (outsTo to (hearL to L) (nParts L.length)) ∧ Below w.heap.size w w' := by
  obtain ⟨iO, hiO, hO0, hO1, hO2⟩ := info_parts Tryz.info64
  obtain ⟨iE, hiE, hE0, hE1, hE2⟩ := info_parts Tryz.info42
  obtain ⟨hok, hz⟩ := hear_fine hfine to
  obtain ⟨H, hH⟩ : ∃ H, hearL to L = H := ⟨_, rfl⟩
  have hlen : H.length = L.length := by rw [← hH]; simp [hearL]
  rw [hH] at hok hz ⊢
  have HOK := hide hok
  have HZ := hide hz
  have HL := hide hlen
  have HH := hide hH
  have HS := hide hs
  clear hs hfine hok hz hlen hH
  go_enter Tryz.func165, Tryz.ntmps165
  go_wp2_with fail
  go_loopw [7, 8, 9] (fun d p i wr => ∃ k : Nat, k ≤ L.length ∧ i = .int .i64 k ∧ wr.ownsRow w.heap.size 64 2 d (toldQ H.length k) (outsTo to H (toldQ H.length k)) ∧ wr.ownsRow w.heap.size 42 4 p (toldP H k).length (entList (toldP H k)) ∧ Below w.heap.size w wr) (fun _ _ i _ => L.length - (intOf i).toNat)
  case atStart =>
    refine ⟨0, by omega, rfl, ?_, ?_, Below.refl _ _⟩
    · rw [(told_zero H).1]; exact World.ownsRow_nil _ _ _ _
    · rw [(told_zero H).2]; exact World.ownsRow_nil _ _ _ _
  case round =>
    obtain ⟨k, hk, rfl, howd, howp, hb⟩ := hrel
    by_cases hlt : k < L.length
    · rcases rwSlice_below (unhide HS) hb with h0 | ⟨g, off, rfl, hce⟩
      · rw [h0] at hlt; simp at hlt
      · obtain ⟨r0, r1, r2, r3, r4, _, _⟩ := hce k hlt
        have hltH : k < H.length := by rw [unhide HL]; exact hlt
        have hHk : H[k] = hearE to L[k] := by
          have := unhide HH
          subst this
          simp [hearL]
        have hPl := toldP_len hltH
        have hfull := @told_full H k hltH
        have hmore := @told_more H k hltH
        rw [hHk] at hfull hmore
        have hq40 : toldQ H.length k ≤ 1000 := by
          unfold toldQ
          rw [if_neg (by omega)]
          omega
        generalize toldQ H.length k = q at *
        generalize toldP H k = P at *
        have HP := hide howp
        have HD := hide howd
        have HB := hide hb
        have hsz : w.heap.size ≤ wr.heap.size := hb.size
        have j0 : (0 : Int) ≤ (k : Int) := by omega
        have j1 : (k : Int) < (L.length : Int) := by omega
        have HOKp : ∀ j, entsOk (partOf H j) := fun j e he => unhide HOK e (List.mem_of_mem_drop (List.mem_of_mem_take he))
        have HZp : ∀ j, ∀ e ∈ partOf H j, entErr e = 0 := fun j e he => unhide HZ e (List.mem_of_mem_drop (List.mem_of_mem_take he))
        have HOKp := hide HOKp
        have HZp := hide HZp
        obtain ⟨E, hE⟩ : ∃ E, L[k] = E := ⟨_, rfl⟩
        rw [hE] at r0 r1 r2 r3 r4 hfull hmore
        rw [unhide HL] at hfull hmore
        clear hE hce hb howp howd HS HOK HZ HH hHk hltH
        obtain ⟨M, hM⟩ : ∃ M, P.length = M := ⟨_, rfl⟩
        rw [hM] at hPl HP
        have HM := hide hM
        have HPl := hide hPl
        have hM25 : M < 25 := by rw [hPl]; omega
        clear hM hPl
        obtain ⟨a, l, tg, m, f, ag, c⟩ := E
        dsimp only at r0 r1 r2 r3 r4
        simp only [hearE] at hfull hmore
        have hgl : g < wr.heap.size := World.block_lt_of_cell? wr _ r0
        have ra := fun (i : Nat) => (below_new wr (.cells #[.int .u32 0, .int .i64 0, .int .i64 0, .int .i64 0] 42)).cell (p := ⟨g, i, none⟩) hgl
        have ra0 := (ra _).trans r0
        have ra1 := (ra _).trans r1
        have ra2 := (ra _).trans r2
        have ra3 := (ra _).trans r3
        clear ra
        by_cases hf : f = to
        · subst hf
          simp only [if_pos] at hfull hmore
          go_wp2_with fail
          go_region
          have hbW : Below wr.heap.size wr (wr.alloc (.cells #[.int .u32 a, .int .i64 l, .int .i64 tg, .int .i64 m] 42)).drew := (below_new wr _).drew
          have bX : Blk (wr.alloc (.cells #[.int .u32 a, .int .i64 l, .int .i64 tg, .int .i64 m] 42)).drew wr.heap.size #[.int .u32 a, .int .i64 l, .int .i64 tg, .int .i64 m] 42 := (Blk.new wr #[.int .u32 a, .int .i64 l, .int .i64 tg, .int .i64 m] 42).below (Below.refl (wr.heap.size + 1) _).drew (by omega)
          have r4W := (hbW.cell (p := ⟨g, _, none⟩) hgl).trans r4
          generalize (wr.alloc (.cells #[.int .u32 a, .int .i64 l, .int .i64 tg, .int .i64 m] 42)).drew = W at *
          clear r0 r1 r2 r3 r4 ra0 ra1 ra2 ra3
          have hbX := hbW.setCell (p := ⟨wr.heap.size, 3, none⟩) (Nat.le_refl _) (.int .i64 16)
          have bX2 := bX.set 3 (.int .i64 16)
          have c3 := bX.cell 3
          have z3 := bX.frozen 3
          have x0 := (bX2.cell 0).trans (show _ = some (.int .u32 a) from rfl)
          have x1 := (bX2.cell 1).trans (show _ = some (.int .i64 l) from rfl)
          have x2 := (bX2.cell 2).trans (show _ = some (.int .i64 tg) from rfl)
          have x3 := (bX2.cell 3).trans (show _ = some (.int .i64 16) from rfl)
          have HPx := hide (ownsRow_below (unhide HP) hbX (Nat.le_refl _))
          have HDx := hide (ownsRow_below (unhide HD) hbX (Nat.le_refl _))
          have HBx := hide ((unhide HB).trans (hbX.mono hsz))
          have hszx : w.heap.size ≤ W.heap.size := Nat.le_trans hsz hbW.size
          clear bX bX2 HP HD HB hbW hbX
          by_cases h24 : M = 24
          · have h24a : 24 ≤ M := by omega
            have hb1 : ((M : Int) + 1 == 25) = true := by simp; omega
            clear h24
            obtain ⟨e1, e2, e3⟩ := hfull (by have := unhide HPl; omega)
            have HE2 := hide e2
            have HE3 := hide e3
            have HPart := hide e1
            clear hfull hmore e1 e2 e3
            go_wp2_with (at_builtin; go_loud (refine wpList_append_own _ rfl (.tmp 45) (.tmp 47) 43 rfl w.heap.size 42 iE (.agg #[.int .u32 0, .int .i64 0, .int .i64 0, .int .i64 0]) 4 32 Tryz.underlying43 hiE hE0 hE1 hE2 rfl (by decide) _ _ _ rfl ((unhide HPx).alloc _) ⟨W.heap.size, 0, none⟩ 1 1 (entVals ⟨a, l, tg, 16⟩) rfl rfl (by exact World.news_of_block (heap_alloc_set W _ _ _)) (entVals_one _) (by unfold maxLen; omega) (by omega) (by simp; omega) ?_; intro v5 w5 hown5 hg5 _; obtain ⟨g5, c5, rfl⟩ := own_some hown5 (by omega)))
            have h5 := dataRow_cells (dataRow_of (L := partOf H q) (by rw [← unhide HPart, entList_snoc]; exact hown5))
            have hBy := Bytes_resp g5 0 c5 (M + 1) (partOf H q) w5 (unhide HOKp q) (by rw [← unhide HPart, List.length_append, unhide HM]; rfl) (by omega) (fun _ => ownsRow_lt hown5) (unhide HZp q) h5
            have HD5 := hide (ownsRow_beside ((unhide HDx).alloc _) ((unhide HPx).alloc _) (by decide) hg5)
            have HB5 := hide (own_grown (m := 0) (unhide HBx) (unhide HPx) (Nat.le_refl _) hg5 (by first | omega | (simp; omega)) rfl)
            clear hown5 hg5 h5
            refine hBy.mono ?_
            rintro e w6 ⟨rfl, hb6⟩
            have HO6 := hide (ownsRow_below (unhide HD5) hb6 (Nat.le_refl _))
            have HB6 := hide ((unhide HB5).trans (hb6.mono (unhide HB5).size))
            have hs6 : w.heap.size ≤ w6.heap.size := (unhide HB6).size
            clear hb6 hBy
            go_wp2_with (at_builtin; go_loud (refine wpList_append_own _ rfl (.tmp 59) (.tmp 64) 46 rfl w.heap.size 64 iO (.agg #[.int .i64 0, .string ⟨#[]⟩]) 2 24 Tryz.underlying46 hiO hO0 hO1 hO2 rfl (by decide) _ _ _ rfl ((unhide HO6).alloc _) ⟨w6.heap.size, 0, none⟩ 1 1 [.int .i64 f, .string (strB (encBytes 2 (partOf H q)))] rfl rfl (by exact World.news_of_block (heap_alloc_new w6 _)) (by intro u hu; simp at hu; rcases hu with rfl | rfl <;> rfl) (by unfold maxLen; omega) (by omega) (by simp; omega) ?_; intro v7 w7 hown7 hg7 _))
            go_roundw
            case rel =>
              refine ⟨k + 1, by omega, by go_num, ?_, ?_, ?_⟩
              · rw [unhide HL, unhide HE2, outsTo_succ]; exact hown7
              · rw [unhide HE3]; exact World.ownsRow_nil _ _ _ _
              · exact own_grown (m := 0) (unhide HB6) (unhide HO6) (Nat.le_refl _) hg7 hs6 rfl
            case measure => simp [intOf]; omega
          · by_cases hkn : k + 1 = L.length
            · have hb1 : ((M : Int) + 1 == 25) = false := by simp; omega
              have hb2 : ((k : Int) + 1 == (L.length : Int)) = true := by simp; omega
              obtain ⟨e1, e2, e3⟩ := hfull (by have := unhide HPl; omega)
              have HE2 := hide e2
              have HE3 := hide e3
              have HPart := hide e1
              clear hfull hmore e1 e2 e3
              go_wp2_with (at_builtin; go_loud (refine wpList_append_own _ rfl (.tmp 45) (.tmp 47) 43 rfl w.heap.size 42 iE (.agg #[.int .u32 0, .int .i64 0, .int .i64 0, .int .i64 0]) 4 32 Tryz.underlying43 hiE hE0 hE1 hE2 rfl (by decide) _ _ _ rfl ((unhide HPx).alloc _) ⟨W.heap.size, 0, none⟩ 1 1 (entVals ⟨a, l, tg, 16⟩) rfl rfl (by exact World.news_of_block (heap_alloc_set W _ _ _)) (entVals_one _) (by unfold maxLen; omega) (by omega) (by simp; omega) ?_; intro v5 w5 hown5 hg5 _; obtain ⟨g5, c5, rfl⟩ := own_some hown5 (by omega)))
              have h5 := dataRow_cells (dataRow_of (L := partOf H q) (by rw [← unhide HPart, entList_snoc]; exact hown5))
              have hBy := Bytes_resp g5 0 c5 (M + 1) (partOf H q) w5 (unhide HOKp q) (by rw [← unhide HPart, List.length_append, unhide HM]; rfl) (by omega) (fun _ => ownsRow_lt hown5) (unhide HZp q) h5
              have HD5 := hide (ownsRow_beside ((unhide HDx).alloc _) ((unhide HPx).alloc _) (by decide) hg5)
              have HB5 := hide (own_grown (m := 0) (unhide HBx) (unhide HPx) (Nat.le_refl _) hg5 (by first | omega | (simp; omega)) rfl)
              clear hown5 hg5 h5
              refine hBy.mono ?_
              rintro e w6 ⟨rfl, hb6⟩
              have HO6 := hide (ownsRow_below (unhide HD5) hb6 (Nat.le_refl _))
              have HB6 := hide ((unhide HB5).trans (hb6.mono (unhide HB5).size))
              have hs6 : w.heap.size ≤ w6.heap.size := (unhide HB6).size
              clear hb6 hBy
              go_wp2_with (at_builtin; go_loud (refine wpList_append_own _ rfl (.tmp 59) (.tmp 64) 46 rfl w.heap.size 64 iO (.agg #[.int .i64 0, .string ⟨#[]⟩]) 2 24 Tryz.underlying46 hiO hO0 hO1 hO2 rfl (by decide) _ _ _ rfl ((unhide HO6).alloc _) ⟨w6.heap.size, 0, none⟩ 1 1 [.int .i64 f, .string (strB (encBytes 2 (partOf H q)))] rfl rfl (by exact World.news_of_block (heap_alloc_new w6 _)) (by intro u hu; simp at hu; rcases hu with rfl | rfl <;> rfl) (by unfold maxLen; omega) (by omega) (by simp; omega) ?_; intro v7 w7 hown7 hg7 _))
              go_roundw
              case rel =>
                refine ⟨k + 1, by omega, by go_num, ?_, ?_, ?_⟩
                · rw [unhide HL, unhide HE2, outsTo_succ]; exact hown7
                · rw [unhide HE3]; exact World.ownsRow_nil _ _ _ _
                · exact own_grown (m := 0) (unhide HB6) (unhide HO6) (Nat.le_refl _) hg7 hs6 rfl
              case measure => simp [intOf]; omega
            · obtain ⟨e1, e2⟩ := hmore (by have := unhide HPl; omega) hkn
              have hb1 : ((M : Int) + 1 == 25) = false := by simp; omega
              have hb2 : ((k : Int) + 1 == (L.length : Int)) = false := by simp; omega
              have HE1 := hide e1
              have HE2 := hide e2
              clear hfull hmore e1 e2
              go_wp2_with (at_builtin; go_loud (refine wpList_append_own _ rfl (.tmp 45) (.tmp 47) 43 rfl w.heap.size 42 iE (.agg #[.int .u32 0, .int .i64 0, .int .i64 0, .int .i64 0]) 4 32 Tryz.underlying43 hiE hE0 hE1 hE2 rfl (by decide) _ _ _ rfl ((unhide HPx).alloc _) ⟨W.heap.size, 0, none⟩ 1 1 (entVals ⟨a, l, tg, 16⟩) rfl rfl (by exact World.news_of_block (heap_alloc_set W _ _ _)) (entVals_one _) (by unfold maxLen; omega) (by omega) (by simp; omega) ?_; intro v5 w5 hown5 hg5 _; obtain ⟨g5, c5, rfl⟩ := own_some hown5 (by omega)))
              go_roundw
              case rel =>
                refine ⟨k + 1, by omega, by go_num, ?_, ?_, ?_⟩
                · rw [unhide HL, unhide HE2]; exact ownsRow_beside ((unhide HDx).alloc _) ((unhide HPx).alloc _) (by decide) hg5
                · rw [unhide HE1, entList_snoc, List.length_append, unhide HM]; exact hown5
                · exact own_grown (m := 0) (unhide HBx) (unhide HPx) (Nat.le_refl _) hg5 (by first | omega | (simp; omega)) rfl
              case measure => simp [intOf]; omega
        · simp only [if_neg hf] at hfull hmore
          have hff : (f == to) = false := by simp [hf]
          go_wp2_with fail
          go_region
          have hbW : Below wr.heap.size wr (wr.alloc (.cells #[.int .u32 a, .int .i64 l, .int .i64 tg, .int .i64 m] 42)).drew := (below_new wr _).drew
          have bX : Blk (wr.alloc (.cells #[.int .u32 a, .int .i64 l, .int .i64 tg, .int .i64 m] 42)).drew wr.heap.size #[.int .u32 a, .int .i64 l, .int .i64 tg, .int .i64 m] 42 := (Blk.new wr #[.int .u32 a, .int .i64 l, .int .i64 tg, .int .i64 m] 42).below (Below.refl (wr.heap.size + 1) _).drew (by omega)
          have r4W := (hbW.cell (p := ⟨g, _, none⟩) hgl).trans r4
          generalize (wr.alloc (.cells #[.int .u32 a, .int .i64 l, .int .i64 tg, .int .i64 m] 42)).drew = W at *
          clear r0 r1 r2 r3 r4 ra0 ra1 ra2 ra3
          have x0 := (bX.cell 0).trans (show _ = some (.int .u32 a) from rfl)
          have x1 := (bX.cell 1).trans (show _ = some (.int .i64 l) from rfl)
          have x2 := (bX.cell 2).trans (show _ = some (.int .i64 tg) from rfl)
          have x3 := (bX.cell 3).trans (show _ = some (.int .i64 m) from rfl)
          have HPx := hide (ownsRow_below (unhide HP) hbW (Nat.le_refl _))
          have HDx := hide (ownsRow_below (unhide HD) hbW (Nat.le_refl _))
          have HBx := hide ((unhide HB).trans (hbW.mono hsz))
          have hszx : w.heap.size ≤ W.heap.size := Nat.le_trans hsz hbW.size
          clear bX HP HD HB hbW
          clear hf
          by_cases h24 : M = 24
          · have h24a : 24 ≤ M := by omega
            have hb1 : ((M : Int) + 1 == 25) = true := by simp; omega
            clear h24
            obtain ⟨e1, e2, e3⟩ := hfull (by have := unhide HPl; omega)
            have HE2 := hide e2
            have HE3 := hide e3
            have HPart := hide e1
            clear hfull hmore e1 e2 e3
            go_wp2_with (at_builtin; go_loud (refine wpList_append_own _ rfl (.tmp 45) (.tmp 47) 43 rfl w.heap.size 42 iE (.agg #[.int .u32 0, .int .i64 0, .int .i64 0, .int .i64 0]) 4 32 Tryz.underlying43 hiE hE0 hE1 hE2 rfl (by decide) _ _ _ rfl ((unhide HPx).alloc _) ⟨W.heap.size, 0, none⟩ 1 1 (entVals ⟨a, l, tg, m⟩) rfl rfl (by exact World.news_of_block (heap_alloc_new W _)) (entVals_one _) (by unfold maxLen; omega) (by omega) (by simp; omega) ?_; intro v5 w5 hown5 hg5 _; obtain ⟨g5, c5, rfl⟩ := own_some hown5 (by omega)))
            have h5 := dataRow_cells (dataRow_of (L := partOf H q) (by rw [← unhide HPart, entList_snoc]; exact hown5))
            have hBy := Bytes_resp g5 0 c5 (M + 1) (partOf H q) w5 (unhide HOKp q) (by rw [← unhide HPart, List.length_append, unhide HM]; rfl) (by omega) (fun _ => ownsRow_lt hown5) (unhide HZp q) h5
            have HD5 := hide (ownsRow_beside ((unhide HDx).alloc _) ((unhide HPx).alloc _) (by decide) hg5)
            have HB5 := hide (own_grown (m := 0) (unhide HBx) (unhide HPx) (Nat.le_refl _) hg5 (by first | omega | (simp; omega)) rfl)
            clear hown5 hg5 h5
            refine hBy.mono ?_
            rintro e w6 ⟨rfl, hb6⟩
            have HO6 := hide (ownsRow_below (unhide HD5) hb6 (Nat.le_refl _))
            have HB6 := hide ((unhide HB5).trans (hb6.mono (unhide HB5).size))
            have hs6 : w.heap.size ≤ w6.heap.size := (unhide HB6).size
            clear hb6 hBy
            go_wp2_with (at_builtin; go_loud (refine wpList_append_own _ rfl (.tmp 59) (.tmp 64) 46 rfl w.heap.size 64 iO (.agg #[.int .i64 0, .string ⟨#[]⟩]) 2 24 Tryz.underlying46 hiO hO0 hO1 hO2 rfl (by decide) _ _ _ rfl ((unhide HO6).alloc _) ⟨w6.heap.size, 0, none⟩ 1 1 [.int .i64 to, .string (strB (encBytes 2 (partOf H q)))] rfl rfl (by exact World.news_of_block (heap_alloc_new w6 _)) (by intro u hu; simp at hu; rcases hu with rfl | rfl <;> rfl) (by unfold maxLen; omega) (by omega) (by simp; omega) ?_; intro v7 w7 hown7 hg7 _))
            go_roundw
            case rel =>
              refine ⟨k + 1, by omega, by go_num, ?_, ?_, ?_⟩
              · rw [unhide HL, unhide HE2, outsTo_succ]; exact hown7
              · rw [unhide HE3]; exact World.ownsRow_nil _ _ _ _
              · exact own_grown (m := 0) (unhide HB6) (unhide HO6) (Nat.le_refl _) hg7 hs6 rfl
            case measure => simp [intOf]; omega
          · by_cases hkn : k + 1 = L.length
            · have hb1 : ((M : Int) + 1 == 25) = false := by simp; omega
              have hb2 : ((k : Int) + 1 == (L.length : Int)) = true := by simp; omega
              obtain ⟨e1, e2, e3⟩ := hfull (by have := unhide HPl; omega)
              have HE2 := hide e2
              have HE3 := hide e3
              have HPart := hide e1
              clear hfull hmore e1 e2 e3
              go_wp2_with (at_builtin; go_loud (refine wpList_append_own _ rfl (.tmp 45) (.tmp 47) 43 rfl w.heap.size 42 iE (.agg #[.int .u32 0, .int .i64 0, .int .i64 0, .int .i64 0]) 4 32 Tryz.underlying43 hiE hE0 hE1 hE2 rfl (by decide) _ _ _ rfl ((unhide HPx).alloc _) ⟨W.heap.size, 0, none⟩ 1 1 (entVals ⟨a, l, tg, m⟩) rfl rfl (by exact World.news_of_block (heap_alloc_new W _)) (entVals_one _) (by unfold maxLen; omega) (by omega) (by simp; omega) ?_; intro v5 w5 hown5 hg5 _; obtain ⟨g5, c5, rfl⟩ := own_some hown5 (by omega)))
              have h5 := dataRow_cells (dataRow_of (L := partOf H q) (by rw [← unhide HPart, entList_snoc]; exact hown5))
              have hBy := Bytes_resp g5 0 c5 (M + 1) (partOf H q) w5 (unhide HOKp q) (by rw [← unhide HPart, List.length_append, unhide HM]; rfl) (by omega) (fun _ => ownsRow_lt hown5) (unhide HZp q) h5
              have HD5 := hide (ownsRow_beside ((unhide HDx).alloc _) ((unhide HPx).alloc _) (by decide) hg5)
              have HB5 := hide (own_grown (m := 0) (unhide HBx) (unhide HPx) (Nat.le_refl _) hg5 (by first | omega | (simp; omega)) rfl)
              clear hown5 hg5 h5
              refine hBy.mono ?_
              rintro e w6 ⟨rfl, hb6⟩
              have HO6 := hide (ownsRow_below (unhide HD5) hb6 (Nat.le_refl _))
              have HB6 := hide ((unhide HB5).trans (hb6.mono (unhide HB5).size))
              have hs6 : w.heap.size ≤ w6.heap.size := (unhide HB6).size
              clear hb6 hBy
              go_wp2_with (at_builtin; go_loud (refine wpList_append_own _ rfl (.tmp 59) (.tmp 64) 46 rfl w.heap.size 64 iO (.agg #[.int .i64 0, .string ⟨#[]⟩]) 2 24 Tryz.underlying46 hiO hO0 hO1 hO2 rfl (by decide) _ _ _ rfl ((unhide HO6).alloc _) ⟨w6.heap.size, 0, none⟩ 1 1 [.int .i64 to, .string (strB (encBytes 2 (partOf H q)))] rfl rfl (by exact World.news_of_block (heap_alloc_new w6 _)) (by intro u hu; simp at hu; rcases hu with rfl | rfl <;> rfl) (by unfold maxLen; omega) (by omega) (by simp; omega) ?_; intro v7 w7 hown7 hg7 _))
              go_roundw
              case rel =>
                refine ⟨k + 1, by omega, by go_num, ?_, ?_, ?_⟩
                · rw [unhide HL, unhide HE2, outsTo_succ]; exact hown7
                · rw [unhide HE3]; exact World.ownsRow_nil _ _ _ _
                · exact own_grown (m := 0) (unhide HB6) (unhide HO6) (Nat.le_refl _) hg7 hs6 rfl
              case measure => simp [intOf]; omega
            · obtain ⟨e1, e2⟩ := hmore (by have := unhide HPl; omega) hkn
              have hb1 : ((M : Int) + 1 == 25) = false := by simp; omega
              have hb2 : ((k : Int) + 1 == (L.length : Int)) = false := by simp; omega
              have HE1 := hide e1
              have HE2 := hide e2
              clear hfull hmore e1 e2
              go_wp2_with (at_builtin; go_loud (refine wpList_append_own _ rfl (.tmp 45) (.tmp 47) 43 rfl w.heap.size 42 iE (.agg #[.int .u32 0, .int .i64 0, .int .i64 0, .int .i64 0]) 4 32 Tryz.underlying43 hiE hE0 hE1 hE2 rfl (by decide) _ _ _ rfl ((unhide HPx).alloc _) ⟨W.heap.size, 0, none⟩ 1 1 (entVals ⟨a, l, tg, m⟩) rfl rfl (by exact World.news_of_block (heap_alloc_new W _)) (entVals_one _) (by unfold maxLen; omega) (by omega) (by simp; omega) ?_; intro v5 w5 hown5 hg5 _; obtain ⟨g5, c5, rfl⟩ := own_some hown5 (by omega)))
              go_roundw
              case rel =>
                refine ⟨k + 1, by omega, by go_num, ?_, ?_, ?_⟩
                · rw [unhide HL, unhide HE2]; exact ownsRow_beside ((unhide HDx).alloc _) ((unhide HPx).alloc _) (by decide) hg5
                · rw [unhide HE1, entList_snoc, List.length_append, unhide HM]; exact hown5
                · exact own_grown (m := 0) (unhide HBx) (unhide HPx) (Nat.le_refl _) hg5 (by first | omega | (simp; omega)) rfl
              case measure => simp [intOf]; omega
    · have hkn : k = L.length := by omega
      subst hkn
      have hall := told_all H
      rw [unhide HL] at hall howd
      rw [hall] at howd
      have HO := hide howd
      clear howd hall
      go_wp2
      go_ret
      exact ⟨_, rfl, unhide HO, hb⟩

end Go.Proofs.YtdnpeefnobjfaaaGreatDoor
