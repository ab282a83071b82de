/- The Book's keepEntries: the list is marked, and kept four times, each time one entry longer. -/
import Derived.Test.YtdnpeefnobjfaaaKeepS
namespace Go.Proofs.Ytdnpeefnobjfaaa
open Go.RowKit
attribute [local go_sem ↓] Go.wp_at_zero Go.wp_at_succ

set_option maxRecDepth 100000 in
set_option maxHeartbeats 2000000 in
theorem keepEntries_any (Bk B n cap : Nat) (ao : Option Addr) (L : List Ent) (s : Bks) (items : List Itm) (w : World) (hs : s.lies w Bk) (hm : marksE w B s.e s.em items) (ho : w.ownsRow B 42 4 (.slice ao n cap) n (entList L)) (hB : B ≤ Bk) (hfar : farA items ao) (hn : n ≤ 1000) (hm0 : 0 ≤ s.m) (hm1 : s.m ≤ 1000000) (hit : items.length ≤ 1000000) :
    Calls Try.prog 16 #[.pointer (some ⟨Bk, 0, none⟩), .slice ao n cap] w fun e w' => e = .returned (.tuple #[]) ∧ ∃ vE vM nw, ({ s with m := s.m + 1, e := vE, em := vM } : Bks).lies w' Bk ∧ marksE w' B vE vM (items ++ nw) ∧ nw.length = 4 ∧ (∀ t ∈ nw, ∀ x, t.a = some x → ao = some x ∨ w.heap.size ≤ x.block) ∧ Below B w w' ∧ keeps Bk ao w w' := by
  have c0 : w.cell? ⟨Bk, 0, none⟩ = some (.int .i64 s.m) := Bks.cell hs 0
  have f0 : w.frozen? ⟨Bk, 0, none⟩ = false := frozen_blk hs
  have HKA := hide (KA_start (M := -(s.m + 1)) hs hm ho hB)
  have hlow : ∀ t ∈ items, 0 < t.n → ∀ y, t.a = some y → y.block < w.heap.size := fun t ht h0 y hy => by
    rcases hm.each t ht with h | ⟨g, off, cur, ha, hg, _⟩
    · omega
    · rw [ha] at hy; obtain rfl := Option.some.inj hy; exact lt_of_block hg
  have HLOW := hide hlow
  have HF := hide hfar
  have kw : IntKind.i64.wrap (-(s.m + 1)) = -(s.m + 1) := by rw [IntKind.wrap_i64]; omega
  obtain ⟨iE, hiE, hE0, hE1, hE2⟩ := info_parts Try.info42
  obtain ⟨iS, hiS, hS0, hS1, hS2⟩ := info_parts Try.info31
  obtain ⟨iI, hiI, hI0, hI1, hI2⟩ := info_parts Try.info3
  clear hs hm ho hlow hfar
  go_enter Try.func16, Try.ntmps16
  go_wp2_with fail
  obtain ⟨W, hWd⟩ : ∃ W, W = w.setCell ⟨Bk, 0, none⟩ (.int .i64 (s.m + 1)) := ⟨_, rfl⟩
  rw [← hWd]
  rw [← hWd] at HKA
  clear hWd c0 f0
  go_loopw [4] (fun j wr => ∃ k : Nat, k ≤ n ∧ j = .int .i64 k ∧ KA w Bk B n cap ao s items (-(s.m + 1)) k wr) (fun j _ => n - (intOf j).toNat)
  case atStart => exact ⟨0, by omega, rfl, unhide HKA⟩
  case round =>
    obtain ⟨k, hk, rfl, hka⟩ := hrel
    clear HKA
    have r0 : wr.cell? ⟨Bk, 0, none⟩ = some (.int .i64 (s.m + 1)) := Bks.cell hka.lies 0
    by_cases hlt : k < n
    · rcases id hka.row with ⟨_, h0, _⟩ | ⟨g, rfl, hp, hnc, hcm, hBg⟩
      · omega
      · obtain ⟨⟨v0, c0⟩, f0⟩ := part_cells hp (k * 4) (by omega)
        obtain ⟨⟨v1, c1⟩, f1⟩ := part_cells hp (k * 4 + 1) (by omega)
        obtain ⟨⟨v2, c2⟩, f2⟩ := part_cells hp (k * 4 + 2) (by omega)
        obtain ⟨⟨v3, c3⟩, f3⟩ := part_cells hp (k * 4 + 3) (by omega)
        have j0 : (0 : Int) ≤ (k : Int) := by omega
        have j1 : (k : Int) < (n : Int) := by omega
        have HK := hide hka
        clear hka hp
        go_wp2
        go_roundw
        case rel => exact ⟨k + 1, by omega, by go_num, KA_step (unhide HK) hlt (unhide HF)⟩
        case measure => simp [intOf]; omega
    · obtain rfl : k = n := by omega
      have HKS := hide (KS_start hka)
      clear hka r0 hlt hk
      go_wp2_with fail
      go_loopw [1, 5] (fun l j wr => ∃ (i : Nat) (a : Option Addr) (c : Nat) (vE vM : Value) (nw : List Itm), i ≤ 4 ∧ j = .int .i64 i ∧ l = .slice a (k + i) c ∧ KS w Bk B k ao s items (-(s.m + 1)) i a c vE vM nw wr) (fun _ j _ => 4 - (intOf j).toNat)
      case atStart => exact ⟨0, _, _, _, _, _, by omega, rfl, rfl, unhide HKS⟩
      case round =>
        obtain ⟨i, a, c, vE, vM, nw, hi, rfl, rfl, hks⟩ := hrel
        clear HKS
        by_cases hlt : i < 4
        · obtain ⟨ae, ce, ge, hve, _, _⟩ := row_form hks.marks.rows
          have hN : (items ++ nw).length ≤ 1000004 := by have := hks.len; simp; omega
          have HNEWS := hide hks.news
          have HLEN := hide hks.len
          have HAT := hide hks.at'
          have HSM := hide hks.marks.small
          generalize hNd : (items ++ nw).length = N at *
          have HND := hide hNd
          have k1 : wr.cell? ⟨Bk, 1, none⟩ = some (.slice ae N ce) := (Bks.cell hks.lies 1).trans (congrArg some hve)
          have fk1 : wr.frozen? ⟨Bk, 1, none⟩ = false := frozen_blk hks.lies
          have hsz : Bk < wr.heap.size := Bks.lt hks.lies
          have HOWN := hide (hNd ▸ hve ▸ hks.marks.rows)
          have NB1 : Hid ((Value.slice ae N ce).ownBlock ≠ some Bk) := by rw [Hid, ← hve]; exact ownBlock_ne hks.marks.rows hks.lies (by decide)
          have HVE := hide hve
          have HK := hide hks
          clear hve hks hNd
          have hkb : 0 ≤ k + i := by omega
          go_wp2_with (first | (at_builtin; refine wpList_append_lies _ rfl (.tmp 37) (.tmp 39) 23 rfl B 31 iS (.slice none 0 0) 1 24 Try.underlying23 hiS hS0 hS1 hS2 rfl (by decide) (.slice ae N ce) N ((items ++ nw).map Itm.val) rfl (by exact (unhide HOWN).alloc _) ⟨wr.heap.size, 0, none⟩ 1 1 [.slice a (k + i) c] rfl rfl (by exact World.news_of_block (heap_alloc_new wr _)) (by intro u hu; simp at hu; subst hu; rfl) (by decide) (by unfold maxLen; omega) (by omega) (by simp; omega) (wr.heap.size + 1) (by simp) ?_; intro g5 c5 w5 hown5 hg5 hat5 hlt5; have p1 : w5.cell? ⟨Bk, 1, none⟩ = some (.slice ae N ce) := (hg5.cell (by exact ((below_new wr _).cell (p := ⟨Bk, 1, none⟩) hsz).trans k1) (Ne.symm (unhide NB1))); have p2 : w5.frozen? ⟨Bk, 1, none⟩ = false := (by rw [hg5.frozen_far _ (by simp; omega) (Ne.symm (unhide NB1))]; exact ((below_new wr _).frozen (p := ⟨Bk, 1, none⟩) hsz).trans fk1); have R1 := hide (keep_row (unhide HK) (unhide HND) hB hown5 (by rw [unhide HVE]; exact hg5)); clear hown5 hg5 hat5))
          have hkh := unhide R1
          clear R1 HOWN NB1 HVE HK k1 fk1 hsz p1 p2 hlt5
          generalize w5.setCell ⟨Bk, 1, none⟩ (.slice (some ⟨g5, 0, none⟩) (N + 1) c5) = wc at *
          obtain ⟨⟨vE2, hs2, hr2, hm2, he2, hb2⟩, hrow2, hkp2⟩ := hkh
          replace hs2 : ({ s with m := s.m + 1, e := vE2, em := vM } : Bks).lies wc Bk := hs2
          replace hm2 : wc.ownsRow B 3 1 vM N ((items ++ nw).map fun t => .int .i64 t.m) := hm2
          obtain ⟨am, cm, gm, hvm, _, _⟩ := row_form hm2
          have k0 : wc.cell? ⟨Bk, 0, none⟩ = some (.int .i64 (s.m + 1)) := Bks.cell hs2 0
          have k2 : wc.cell? ⟨Bk, 2, none⟩ = some (.slice am N cm) := (Bks.cell hs2 2).trans (congrArg some hvm)
          have hsz2 : Bk < wc.heap.size := Bks.lt hs2
          have fk2 : wc.frozen? ⟨Bk, 2, none⟩ = false := frozen_blk hs2
          have K2 := hide (fun o => ((below_new wc o).cell (p := ⟨Bk, 2, none⟩) hsz2).trans k2)
          have FK2 := hide (fun o => ((below_new wc o).frozen (p := ⟨Bk, 2, none⟩) hsz2).trans fk2)
          have NB2 : Hid ((Value.slice am N cm).ownBlock ≠ some Bk) := by rw [Hid, ← hvm]; exact ownBlock_ne hm2 hs2 (by decide)
          have HOWN2 := hide (hvm ▸ hm2)
          have hsm : ∀ t ∈ (items ++ nw) ++ [(⟨a, k + i, c, -(s.m + 1)⟩ : Itm)], t.n ≤ 9223372036854775807 := fun t ht => by
            rcases List.mem_append.1 ht with h | h
            · exact unhide HSM t h
            · simp at h; rw [h]; show k + i ≤ _; omega
          have HKM := hide (fun (w5 : World) (o : Obj) (g5 c5 : Nat) (hown : w5.ownsRow B 3 1 (.slice (some ⟨g5, 0, none⟩) (N + 1) c5) (N + 1) (((items ++ nw).map fun t => .int .i64 t.m) ++ [.int .i64 (-(s.m + 1))])) (hg : (wc.alloc o).drew.grownBy w5 (Value.slice am N cm).ownBlock) => keep_mark (vE0 := vE) hs2 hr2 hm2 he2 hb2 hrow2 hkp2 hB (unhide HND) hsm hown (by rw [hvm]; exact hg))
          clear hvm hs2 hr2 hm2 he2 hb2 hsm hrow2 hkp2
          go_region_law ((refine step_append_lies _ (by rfl) (.tmp 47) (.tmp 53) 24 (by rfl) B 3 iI (.int .i64 0) 1 8 Try.underlying24 hiI hI0 hI1 hI2 rfl (by decide) (.slice am N cm) N ((items ++ nw).map fun t => .int .i64 t.m) (by rfl) (by exact (unhide HOWN2).alloc _) ⟨wc.heap.size, 0, none⟩ 1 1 [.int .i64 (-(s.m + 1))] (by rfl) rfl (by exact World.news_of_block (heap_alloc_new wc _)) (by intro u hu; simp at hu; subst hu; rfl) (by decide) (by unfold maxLen; omega) (by omega) (by simp; omega) (wc.heap.size + 1) (by simp) ?_; intro g6 c6 w6 hown6 hg6 hat6 hlt6; have p1 : w6.cell? ⟨Bk, 2, none⟩ = some (.slice am N cm) := (hg6.cell (by exact unhide K2 _) (Ne.symm (unhide NB2))); have p2 : w6.frozen? ⟨Bk, 2, none⟩ = false := (by rw [hg6.frozen_far _ (by simp; omega) (Ne.symm (unhide NB2))]; exact unhide FK2 _); have R2 := hide (unhide HKM w6 _ g6 c6 hown6 hg6); clear hown6 hg6 hat6))
          all_goals
            have hkm := unhide R2
            clear R2 HKM K2 FK2 NB2 HOWN2 k0 k2 fk2 hsz2 p1 p2 hlt6
            generalize w6.setCell ⟨Bk, 2, none⟩ (.slice (some ⟨g6, 0, none⟩) (N + 1) c6) = wd at *
            have k0 : wd.cell? ⟨Bk, 0, none⟩ = some (.int .i64 (s.m + 1)) := Bks.cell hkm.lies 0
            have hBd : B ≤ wd.heap.size := by have := Bks.lt hkm.lies; omega
            have HROW := hide hkm.row
            have hfa : farA items a := fun t ht h0 y hy x hx e => by
              rcases unhide HAT x hx with h1 | h1
              · exact unhide HF t ht h0 y hy x h1 e
              · have := unhide HLOW t ht h0 y hy; omega
            have HNX := hide (fun (w6 : World) (o : Obj) (g6 c6 : Nat) h1 h2 => keep_next (w6 := w6) (o := o) (g6 := g6) (c6 := c6) hkm (unhide HLEN) (unhide HNEWS) (unhide HAT) hfa hB h1 h2)
            clear hkm hfa
            go_wp2_with (first | (at_builtin; refine wpList_append_either _ rfl (.tmp 57) (.tmp 64) 31 rfl B 42 iE (.agg #[.int .u32 0, .int .i64 0, .int .i64 0, .int .i64 0]) 4 32 Try.underlying31 hiE hE0 hE1 hE2 rfl (by decide) a (k + i) c (entList (marked (k + i) (-(s.m + 1)))) rfl (by exact (unhide HROW).alloc _) ⟨wd.heap.size, 0, none⟩ 1 1 (entList [markE (-(s.m + 1))]) rfl rfl (by exact World.news_of_block (heap_alloc_new wd _)) (entList_one _) (by decide) (by unfold maxLen; omega) (by omega) (by simp; omega) ?_; intro g7 c7 w7 hown7 hg7; have R3 := hide (unhide HNX w7 _ g7 c7 hown7 hg7); clear hown7 hg7))
            go_roundw
            case rel => exact ⟨i + 1, _, _, _, _, _, by omega, by go_num, rfl, unhide R3⟩
            case measure => simp [intOf]; omega
        · obtain rfl : i = 4 := by omega
          have HK := hide hks
          clear hks
          go_wp2
          have hks := unhide HK
          exact bodyPost_end (v := .tuple #[]) (by simp [results, Try.results16, go_sem]) rfl ⟨rfl, _, _, _, hks.lies, hks.marks, hks.len, fun t ht x hx => ((hks.news t ht).2.2 x hx).2, hks.below, hks.keeps⟩

end Go.Proofs.Ytdnpeefnobjfaaa
