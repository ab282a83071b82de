/- tell.To: what a neighbour is told of a table. -/
import Derived.Test.YtdnpeefnobjfaaaGreatDoorTChunkM
namespace Go.Proofs.YtdnpeefnobjfaaaGreatDoor
open Go.RowKit Go.Shelf
attribute [local go_sem ↓] Go.wp_at_zero Go.wp_at_succ

/-- What is sent to a neighbour: the packets of these entries. -/
def outsTo (to : Int) (l : List Ent) (k : Nat) : List Value := (List.range k).flatMap fun j => [.int .i64 to, pktOf l j]
theorem outsTo_succ (to : Int) (l : List Ent) (k : Nat) : outsTo to l (k + 1) = outsTo to l k ++ [.int .i64 to, pktOf l k] := by simp [outsTo, List.range_succ]
theorem Tryz.info64 : (Tryz.prog.info? 64).map (fun i => (i.zero, i.size, i.bytes)) = some (some (.agg #[.int .i64 0, .string ⟨#[]⟩]), 2, 24) := by kernel_rfl
/-- Rows that can be told. -/
def rowsFine (L : List Rw) : Prop := ∀ r ∈ L, (0 ≤ r.addr ∧ r.addr < 4294967296) ∧ pfxB r.addr r.len = true ∧ tagB r.tag = true ∧ metB r.met = true
theorem hear_fine {L : List Rw} (h : rowsFine L) (to : Int) : entsOk (hearL to L) ∧ ∀ e ∈ hearL to L, entErr e = 0 := by
  constructor
  · intro e he
    obtain ⟨r, hr, rfl⟩ := List.mem_map.1 he
    exact (h r hr).1
  · intro e he
    obtain ⟨r, hr, rfl⟩ := List.mem_map.1 he
    obtain ⟨_, h1, h2, h3⟩ := h r hr
    unfold entErr hearE
    simp only [h1, h2]
    by_cases hf : r.frm = to
    · simp [hf, metB]
    · simp [hf, h3]

set_option maxRecDepth 100000 in
set_option maxHeartbeats 4000000 in
theorem to_any (to : Int) (ao : Option Addr) (cap : Nat) (L : List Rw) (w : World) (hn : L.length ≤ 1000) (hfine : rowsFine L) (hs : rwSlice w ao L) :
    Calls Tryz.prog 43 #[.int .i64 to, .agg #[.slice ao L.length cap]] w fun e w' => ∃ v, e = .returned v ∧ w'.ownsRow w.heap.size 64 2 v (nParts L.length) (outsTo to (hearL to L) (nParts L.length)) ∧ Below w.heap.size w w' := by
  obtain ⟨iO, hiO, hO0, hO1, hO2⟩ := info_parts Tryz.info64
  obtain ⟨hok, hz⟩ := hear_fine hfine to
  have hlen : (hearL to L).length = L.length := by simp [hearL]
  have hW := writeE_any to ao cap L (w.alloc (.cells #[.slice ao L.length cap] 120)) (by omega) (rwSlice_below hs (below_new _ _))
  have HOK := hide hok
  have HZ := hide hz
  have HL := hide hlen
  clear hs hfine hok hz hlen
  go_enter Tryz.func43, Tryz.ntmps43
  go_wp2_with (go_at_call 90; refine hW.mono ?_; rintro e w1 ⟨g1, rfl, hown1, hb1⟩)
  have hR := responses_any g1 L.length (hearL to L) _ w1 (unhide HL) hn (unhide HOK) (unhide HZ) hown1
  have HB1 := hide ((below_new w (.cells #[.slice ao L.length cap] 120)).trans (hb1.mono (by simp)))
  clear hb1 hown1 hW HOK HZ HL
  refine hR.mono ?_
  rintro e w2 ⟨v2, rfl, hown2, hb2⟩
  obtain ⟨a2, c2, rfl⟩ := ownsRow_slice hown2
  have hb2' := (unhide HB1).trans (hb2.mono (unhide HB1).size)
  have hpl : nParts L.length ≤ 1000 := by unfold nParts; omega
  obtain ⟨N, hN⟩ : ∃ N, nParts L.length = N := ⟨_, rfl⟩
  rw [hN] at hown2 hpl ⊢
  have HN := hide hN
  clear hN
  have HO2 := hide hown2
  have hw2 : w1.heap.size ≤ w2.heap.size := hb2.size
  have hww : w.heap.size ≤ w1.heap.size := (unhide HB1).size
  clear hb2 hR hown2 HB1
  go_wp2_with fail
  go_loopw [6, 16] (fun d i wr => ∃ k : Nat, k ≤ N ∧ i = .int .i64 k ∧ wr.ownsRow w2.heap.size 64 2 d k (outsTo to (hearL to L) k) ∧ Below w2.heap.size w2 wr) (fun _ i _ => N - (intOf i).toNat)
  case atStart => exact ⟨0, by omega, rfl, World.ownsRow_nil _ _ _ _, Below.refl _ _⟩
  case round =>
    obtain ⟨k, hk, rfl, hown, hb⟩ := hrel
    by_cases hlt : k < N
    · obtain ⟨g2, rfl⟩ : ∃ g, a2 = some ⟨g, 0, none⟩ := by
        rcases (unhide HO2).2 with ⟨_, h0⟩ | ⟨g, c, cur, hv, _⟩
        · omega
        · simp at hv; exact ⟨g, hv.1⟩
      have m2 := owned_cells (unhide HO2) k (pktOf (hearL to L) k) (by simp [hlt])
      rw [Addr.add_lit, Nat.zero_add] at m2
      have m3 := (hb.cell (p := ⟨g2, k, none⟩) (ownsRow_lt (unhide HO2))).trans m2
      obtain ⟨ad, cd, rfl⟩ := ownsRow_slice hown
      have HOWN := hide hown
      have HB := hide hb
      have hsz : w2.heap.size ≤ wr.heap.size := hb.size
      have j0 : (0 : Int) ≤ (k : Int) := by omega
      have j1 : (k : Int) < (N : Int) := by omega
      clear hown hb m2
      obtain ⟨sb, hsb⟩ : ∃ sb, pktOf (hearL to L) k = .string sb := ⟨_, rfl⟩
      rw [hsb] at m3
      have HSB := hide hsb
      clear hsb
      go_wp2_with (at_builtin; go_loud (refine wpList_append_own _ rfl (.tmp 20) (.tmp 24) 46 rfl w2.heap.size 64 iO (.agg #[.int .i64 0, .string ⟨#[]⟩]) 2 24 Tryz.underlying46 hiO hO0 hO1 hO2 rfl (by decide) _ _ _ rfl ((unhide HOWN).alloc _) ⟨wr.heap.size, 0, none⟩ 1 1 [.int .i64 to, .string sb] rfl rfl (by exact World.news_of_block (heap_alloc_new wr _)) (by intro u hu; simp at hu; rcases hu with rfl | rfl <;> rfl) (by unfold maxLen; omega) (by omega) (by simp; omega) ?_; intro v' w5 hown5 hg5 _))
      go_roundw
      case rel =>
        refine ⟨k + 1, by omega, by go_num, by rw [outsTo_succ, unhide HSB]; exact hown5, ?_⟩
        exact ((unhide HB).alloc (unhide HB).size _).grown hg5 (by simp; omega) (fun q hq => (ownsRow_from (unhide HOWN) q hq).1)
      case measure => simp [intOf]; omega
    · obtain rfl : k = N := by omega
      have HOWN := hide hown
      clear hown
      go_wp2
      go_ret
      exact ⟨_, rfl, by rw [unhide HN]; exact ownsRow_mono (unhide HOWN) (by omega), hb2'.trans (hb.mono hb2'.size)⟩

end Go.Proofs.YtdnpeefnobjfaaaGreatDoor

/- The reference's told: its packets in plain math. -/
namespace Go.Proofs.YtdnpeefnobjfaaaGreatDoor
open Go.RowKit Go.Shelf

def toldQ (n k : Nat) : Nat := if k = n then nParts n else k / 25
def toldP (l : List Ent) (k : Nat) : List Ent := if k = l.length then [] else (l.take k).drop (25 * (k / 25))
theorem toldP_len {l : List Ent} {k : Nat} (h : k < l.length) : (toldP l k).length = k % 25 := by
  unfold toldP
  rw [if_neg (by omega), List.length_drop, List.length_take]
  omega
theorem toldP_snoc {l : List Ent} {k : Nat} (h : k < l.length) : toldP l k ++ [l[k]] = (l.take (k + 1)).drop (25 * (k / 25)) := by
  unfold toldP
  rw [if_neg (by omega), List.take_succ_eq_append_getElem h, List.drop_append_of_le_length (by rw [List.length_take]; omega)]
theorem told_full {l : List Ent} {k : Nat} (h : k < l.length) (hf : k % 25 = 24 ∨ k + 1 = l.length) : toldP l k ++ [l[k]] = partOf l (toldQ l.length k) ∧ toldQ l.length (k + 1) = toldQ l.length k + 1 ∧ toldP l (k + 1) = [] := by
  refine ⟨?_, ?_, ?_⟩
  · rw [toldP_snoc h]
    unfold toldQ partOf
    rw [if_neg (by omega), List.drop_take]
    by_cases h25 : k % 25 = 24
    · rw [show k + 1 - 25 * (k / 25) = 25 by omega]
    · have hn : k + 1 = l.length := hf.resolve_left h25
      rw [List.take_of_length_le (by rw [List.length_drop]; omega), List.take_of_length_le (by rw [List.length_drop]; omega)]
  · unfold toldQ nParts
    rw [if_neg (show ¬ k = l.length by omega)]
    by_cases hn : k + 1 = l.length
    · rw [if_pos hn]; omega
    · rw [if_neg hn]
      have := hf.resolve_right hn
      omega
  · unfold toldP
    by_cases hn : k + 1 = l.length
    · rw [if_pos hn]
    · rw [if_neg hn]
      have := hf.resolve_right hn
      exact List.drop_eq_nil_of_le (by rw [List.length_take]; omega)
theorem told_more {l : List Ent} {k : Nat} (h : k < l.length) (h1 : k % 25 ≠ 24) (h2 : k + 1 ≠ l.length) : toldP l (k + 1) = toldP l k ++ [l[k]] ∧ toldQ l.length (k + 1) = toldQ l.length k := by
  refine ⟨?_, ?_⟩
  · rw [toldP_snoc h]
    unfold toldP
    rw [if_neg h2, show (k + 1) / 25 = k / 25 by omega]
  · unfold toldQ
    rw [if_neg h2, if_neg (by omega)]
    omega
theorem told_zero (l : List Ent) : toldQ l.length 0 = 0 ∧ toldP l 0 = [] := by
  unfold toldQ toldP nParts
  constructor
  · split <;> omega
  · split <;> simp
theorem told_all (l : List Ent) : toldQ l.length l.length = nParts l.length := if_pos rfl
/-- A row keeps while a row of another kind grows. -/
theorem ownsRow_beside {w w' : World} {base base' e e' sz sz' n m : Nat} {v u : Value} {xs ys : List Value} (h : w.ownsRow base e sz v n xs) (hu : w.ownsRow base' e' sz' u m ys) (hne : e ≠ e') (hg : w.grownBy w' u.ownBlock) : w'.ownsRow base e sz v n xs := by
  obtain ⟨hl, ⟨hv, h0⟩ | ⟨g, c, cur, hv, hbg, hgc, hr⟩⟩ := h
  · exact ⟨hl, .inl ⟨hv, h0⟩⟩
  · refine ⟨hl, .inr ⟨g, c, cur, hv, hbg, (hg.block g (Array.getElem?_eq_some_iff.1 hgc).1 ?_).trans hgc, hr⟩⟩
    intro hub
    rcases hu.2 with ⟨hv', _⟩ | ⟨g', c', cur', hv', _, hg', _⟩
    · rw [hv'] at hub; simp [Value.ownBlock] at hub
    · rw [hv'] at hub
      simp [Value.ownBlock] at hub
      subst hub
      rw [hg'] at hgc
      simp at hgc
      exact hne hgc.2.symm
theorem own_some {w : World} {base e sz n : Nat} {v : Value} {xs : List Value} (h : w.ownsRow base e sz v n xs) (h0 : 0 < n) : ∃ g cap, v = .slice (some ⟨g, 0, none⟩) n cap := by
  rcases h.2 with ⟨_, hn⟩ | ⟨g, c, cur, hv, _⟩
  · omega
  · exact ⟨g, c, hv⟩

end Go.Proofs.YtdnpeefnobjfaaaGreatDoor
