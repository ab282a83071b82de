/- The Book's decodes: it says yes at every text. -/
import Derived.Test.YtdnpeefnobjfaaaKeep
namespace Go.Proofs.Ytdnpeefnobjfaaa
open Go.RowKit
attribute [local go_sem ↓] Go.wp_at_zero Go.wp_at_succ

theorem decEnts_len (b : List UInt8) : (decEnts b).length ≤ 25 := by
  unfold decEnts
  split
  · simp
  · rename_i h
    split
    · simp
    · have hs : sizeB b.length = true := by
        cases hb : sizeB b.length
        · exfalso; apply h; simp [decErr, hb]
        · rfl
      have := sizeB_facts hs
      simp [ents]
      omega
theorem own_blk {w w1 : World} {B e size n : Nat} {v : Value} {xs : List Value} (h : w.ownsRow B e size v n xs) (hk : ∀ g cur, v.ownBlock = some g → w.heap[g]? = some (.cells cur e (0, 0)) → w1.heap[g]? = some (.cells cur e (0, 0))) : w1.ownsRow B e size v n xs := by
  refine ⟨h.1, ?_⟩
  rcases h.2 with h0 | ⟨g, cap, cur, hv, hB, hg, hr⟩
  · exact .inl h0
  · exact .inr ⟨g, cap, cur, hv, hB, hk g cur (by rw [hv]; rfl) hg, hr⟩
theorem own_below {w w1 : World} {B e size n : Nat} {v : Value} {xs : List Value} (h : w.ownsRow B e size v n xs) (hb : Below w.heap.size w w1) : w1.ownsRow B e size v n xs :=
  own_blk h (fun g _ _ hg => (hb.block g (lt_of_block hg)).trans hg)
theorem blk_below {w w1 : World} {k : Nat} {o : Obj} (h : w.heap[k]? = some o) (hb : Below w.heap.size w w1) : w1.heap[k]? = some o := (hb.block k (lt_of_block h)).trans h
abbrev boxP (C : Int) (a : Option Addr) (n c : Nat) : Obj := .cells #[.int .i64 C, .slice a n c] 33
theorem cell_blk {w : World} {k : Nat} {cs : Array Value} {t : TypeId} (h : w.heap[k]? = some (.cells cs t (0, 0))) (j : Nat) : w.cell? ⟨k, j, none⟩ = cs[j]? := cell_of_row w k j _ _ _ h

/-- The three packets, in their boxes, and the fault. -/
structure DS (w : World) (P1 P2 P3 P4 : Nat) (C : Int) (a1 a2 a3 : Option Addr) (n c1 c2 c3 : Nat) (fa fb : Int) (fp : Bool) (v1 v2 : Value) (X : Option (Int × Int)) (E : List Ent) (W : World) : Prop where
  p1 : W.heap[P1]? = some (boxP C a1 n c1)
  p2 : W.heap[P2]? = some (boxP C a2 n c2)
  p3 : W.heap[P3]? = some (boxP C a3 n c3)
  p4 : W.heap[P4]? = some (.cells #[.int .i64 fa, .int .i64 fb, .bool fp] 52 (0, 0))
  o1 : W.ownsRow w.heap.size 42 4 (.slice a1 n c1) n (entList E)
  o2 : W.ownsRow (P1 + 1) 42 4 (.slice a2 n c2) n (entList E)
  o3 : W.ownsRow (P2 + 1) 42 4 (.slice a3 n c3) n (entList E)
  e1 : errIs W v1 X
  e2 : errIs W v2 X
  below : Below w.heap.size w W
theorem DS_below {w W W1 : World} {P1 P2 P3 P4 : Nat} {C : Int} {a1 a2 a3 : Option Addr} {n c1 c2 c3 : Nat} {fa fb : Int} {fp : Bool} {v1 v2 : Value} {X : Option (Int × Int)} {E : List Ent} (h : DS w P1 P2 P3 P4 C a1 a2 a3 n c1 c2 c3 fa fb fp v1 v2 X E W) (hb : Below W.heap.size W W1) : DS w P1 P2 P3 P4 C a1 a2 a3 n c1 c2 c3 fa fb fp v1 v2 X E W1 :=
  ⟨blk_below h.p1 hb, blk_below h.p2 hb, blk_below h.p3 hb, blk_below h.p4 hb, own_below h.o1 hb, own_below h.o2 hb, own_below h.o3 hb, errIs_below h.e1 hb, errIs_below h.e2 hb, below_seq h.below hb⟩
theorem blk_keeps {Bk k : Nat} {ao : Option Addr} {w w1 : World} {cs : Array Value} {sb : Bks} (h : w.heap[k]? = some (.cells cs 33 (0, 0))) (hk : keeps Bk ao w w1) (hs : sb.lies w Bk) {B n c : Nat} {xs : List Value} (ho : w.ownsRow B 42 4 (.slice ao n c) n xs) : w1.heap[k]? = some (.cells cs 33 (0, 0)) := by
  refine hk k cs _ (ne_types h hs (by decide)) (fun a ha => ?_) (by decide) (by decide) h
  rcases ho.2 with ⟨hv, _⟩ | ⟨g, c', cur, hv, _, hg, _⟩
  · simp at hv; rw [hv.1] at ha; cases ha
  · simp at hv
    rw [hv.1] at ha
    obtain rfl := Option.some.inj ha
    exact ne_types hg h (by decide)

theorem own_at {w : World} {B e size n c : Nat} {a : Option Addr} {xs : List Value} (h : w.ownsRow B e size (.slice a n c) n xs) {x : Addr} (hx : a = some x) : B ≤ x.block ∧ x.block < w.heap.size := by
  rcases h.2 with ⟨hv, _⟩ | ⟨g, c', cur, hv, hB, hg, _⟩
  · simp at hv; rw [hv.1] at hx; cases hx
  · simp at hv
    rw [hv.1] at hx
    obtain rfl := Option.some.inj hx
    exact ⟨hB, lt_of_block hg⟩

set_option maxRecDepth 100000 in
set_option maxHeartbeats 2000000 in
theorem decodes_any (Bk B K : Nat) (s : ByteArray) (w : World) (h : Inv Bk B K w) (hB : B ≤ Bk) (hK : K ≤ 900000) (hm : s.size ≤ 9223372036854775807) :
    Calls Try.prog 7 #[.pointer (some ⟨Bk, 0, none⟩), .string s] w fun e w' => e = .returned (.bool true) ∧ Inv Bk B (K + 8) w' ∧ Below B w w' := by
  have hlt := Inv_lt h
  have HI := hide h
  have hC := decEnts_len s.data.toList
  have HD := hide (fun W => mDecode_any s W hm)
  have HR := hide (fun W => rDecode_any s W hm)
  obtain ⟨fa, fb, fp, hff⟩ := refF_form (decErr s.data.toList)
  have HAG := hide (fun W v (hv : errIs W v (decErr s.data.toList)) => hff ▸ agree_any W v (decErr s.data.toList) hv)
  rw [hff] at HR
  clear h hff
  unfold decIs at HD
  unfold refIs at HR
  generalize decErr s.data.toList = X at *
  generalize decCmd s.data.toList = C at *
  generalize decEnts s.data.toList = E at *
  go_enter Try.func7, Try.ntmps7
  go_wp2_with fail
  refine (unhide HD _).mono ?_
  rintro e w1 ⟨V1, v1, rfl, ⟨a1, n, c1, rfl, hn, ho1, he1⟩, hb1⟩
  have HB1 := hide hb1
  have HO1 := hide ho1
  have HE1 := hide he1
  have hz1 := hb1.size
  have HA1 := hide (fun x (hx : a1 = some x) => (own_at ho1 hx).2)
  clear hb1 ho1 he1
  go_wp2_with fail
  refine (unhide HD _).mono ?_
  rintro e w2 ⟨V2, v2, rfl, ⟨a2, n', c2, rfl, hn2, ho2, he2⟩, hb2⟩
  obtain rfl : n = n' := by omega
  have HP1 := hide (blk_below (heap_alloc_new w1 (boxP C a1 n c1)) hb2)
  have HO1' := hide (own_below ((unhide HO1).alloc _) hb2)
  have HE1' := hide (errIs_below (errIs_below (unhide HE1) (below_new w1 _)) hb2)
  have HB2 := hide (below_seq (unhide HB1) (below_box hb2))
  have HO2 := hide ho2
  have HE2 := hide he2
  have hz2 := hb2.size
  clear hb2 ho2 he2 HO1 HE1 HB1 hn2
  go_wp2_with fail
  refine (unhide HR _).mono ?_
  rintro e w3 ⟨V3, rfl, ⟨a3, n', c3, rfl, ho3⟩, hb3⟩
  obtain rfl : n = n' := by have := (own_slice ho3).2; omega
  have hds : DS w w1.heap.size w2.heap.size w3.heap.size (w3.heap.size + 1) C a1 a2 a3 n c1 c2 c3 fa fb fp v1 v2 X E ((w3.alloc (.cells #[.int .i64 C, .slice a3 n c3] 33)).alloc (.cells #[.int .i64 fa, .int .i64 fb, .bool fp] 52)) := by
    have hb3' := below_box hb3
    have hb4 : Below w3.heap.size w3 ((w3.alloc (.cells #[.int .i64 C, .slice a3 n c3] 33)).alloc (.cells #[.int .i64 fa, .int .i64 fb, .bool fp] 52)) := below_box (below_new _ _)
    have hb24 := below_seq hb3' hb4
    refine ⟨blk_below (unhide HP1) hb24, blk_below (blk_below (heap_alloc_new w2 _) hb3) hb4, blk_below (heap_alloc_new w3 _) (below_new _ _), heap_alloc_new2 w3 _ _, own_below (unhide HO1') hb24, own_below (own_base (unhide HO2) (by simp)) hb24, own_below (own_base ho3 (by simp)) hb4, errIs_below (unhide HE1') hb24, errIs_below (unhide HE2) hb24, below_seq (unhide HB2) hb24⟩
  have hz3 := hb3.size
  have HDS := hide hds
  clear hds hb3 ho3 HP1 HO1' HE1' HB2 HO2 HE2
  simp at hz2 hz3
  go_wp2_with fail
  refine (unhide HAG _ v1 (unhide HDS).e1).mono ?_
  rintro e w5 ⟨rfl, hb5⟩
  have hds5 := DS_below (unhide HDS) hb5
  have q0 : w5.cell? ⟨w3.heap.size + 1, 0, none⟩ = some (.int .i64 fa) := cell_blk hds5.p4 0
  have q1 : w5.cell? ⟨w3.heap.size + 1, 1, none⟩ = some (.int .i64 fb) := cell_blk hds5.p4 1
  have q2 : w5.cell? ⟨w3.heap.size + 1, 2, none⟩ = some (.bool fp) := cell_blk hds5.p4 2
  have HDS5 := hide hds5
  clear HDS hb5 hds5
  go_wp2_with fail
  refine (unhide HAG _ v2 (unhide HDS5).e2).mono ?_
  rintro e w6 ⟨rfl, hb6⟩
  have hds6 := DS_below (unhide HDS5) hb6
  have r1 : w6.cell? ⟨w1.heap.size, 1, none⟩ = some (.slice a1 n c1) := cell_blk hds6.p1 1
  have r3 : w6.cell? ⟨w3.heap.size, 1, none⟩ = some (.slice a3 n c3) := cell_blk hds6.p3 1
  have HDS6 := hide hds6
  clear HDS5 hb6 hds6 q0 q1 q2
  go_wp2_with fail
  refine (same_any a1 a3 c1 c3 n E _ hn (by omega) (own_slice (unhide HDS6).o1).1 (own_slice (unhide HDS6).o3).1).mono ?_
  rintro e w7 ⟨rfl, hb7⟩
  have hds7 := DS_below (unhide HDS6) hb7
  have t2 : w7.cell? ⟨w2.heap.size, 1, none⟩ = some (.slice a2 n c2) := cell_blk hds7.p2 1
  have t3 : w7.cell? ⟨w3.heap.size, 1, none⟩ = some (.slice a3 n c3) := cell_blk hds7.p3 1
  have HDS7 := hide hds7
  clear HDS6 hb7 hds7 r1 r3
  go_wp2_with fail
  refine (same_any a2 a3 c2 c3 n E _ hn (by omega) (own_slice (unhide HDS7).o2).1 (own_slice (unhide HDS7).o3).1).mono ?_
  rintro e w8 ⟨rfl, hb8⟩
  have hds8 := DS_below (unhide HDS7) hb8
  have y1 : w8.cell? ⟨w1.heap.size, 1, none⟩ = some (.slice a1 n c1) := cell_blk hds8.p1 1
  obtain ⟨sb, items, hs, hf, hmk⟩ := unhide HI
  have hlow : ∀ t ∈ items, 0 < t.n → ∀ y, t.a = some y → y.block < w.heap.size := fun t ht h0 y hy => by
    rcases hmk.each t ht with h | ⟨g, off, cur, ha, hg, _⟩
    · omega
    · rw [ha] at hy; obtain rfl := Option.some.inj hy; exact lt_of_block hg
  have hs8 : sb.lies w8 Bk := Bks.keep hs (hds8.below.block Bk (Bks.lt hs))
  have hm8 := marksE_below hmk hds8.below
  have hz8 := hds8.below.size
  have hf0 := hf.m0
  have hf1 := hf.m1
  have hf2 := hf.len
  have HK1 := hide (keepEntries_any Bk B n c1 a1 E sb items w8 hs8 hm8 (own_base hds8.o1 (by omega)) hB (fun t ht h0 y hy x hx => by
    have h1 := hlow t ht h0 y hy
    have h2 := (own_at hds8.o1 hx).1
    omega) (by omega) hf0 (by omega) (by omega))
  have HDS8 := hide hds8
  have HLOW := hide hlow
  have HF := hide hf
  have HS8 := hide hs8
  have hbB : Below B w w8 := hds8.below.mono (by omega)
  have HBB := hide hbB
  clear HDS7 hb8 hds8 t2 t3 hs8 hm8 hlow hs hf hmk HI hbB
  go_wp2_with fail
  refine (unhide HK1).mono ?_
  rintro e w9 ⟨rfl, vE, vM, nw, hs9, hm9, hl9, hn9, hb9, hk9⟩
  have hp2 := blk_keeps (unhide HDS8).p2 hk9 (unhide HS8) (unhide HDS8).o1
  have z2 : w9.cell? ⟨w2.heap.size, 1, none⟩ = some (.slice a2 n c2) := cell_blk hp2 1
  have ho9 : w9.ownsRow (w1.heap.size + 1) 42 4 (.slice a2 n c2) n (entList E) := own_blk (unhide HDS8).o2 (fun g cur hg hc => by
    have hgo : ∀ x, a2 = some x → x.block = g := fun x hx => by subst hx; simpa [Value.ownBlock] using hg
    refine hk9 g cur _ (ne_types hc (unhide HS8) (by decide)) (fun x hx e => ?_) (by decide) (by decide) hc
    have h1 := unhide HA1 x hx
    have h2 := own_old (unhide HDS8).o2 g hg
    omega)
  have HK2 := hide (keepEntries_any Bk B n c2 a2 E { sb with m := sb.m + 1, e := vE, em := vM } (items ++ nw) w9 hs9 hm9 (own_base ho9 (by omega)) hB (fun t ht h0 y hy x hx => by
    have h2 := own_at (unhide HDS8).o2 hx
    rcases List.mem_append.1 ht with h | h
    · have h1 := unhide HLOW t h h0 y hy
      omega
    · rcases hn9 t h y hy with h1 | h1
      · have h3 := unhide HA1 y h1
        omega
      · omega) (by omega) (by show 0 ≤ sb.m + 1; omega) (by show sb.m + 1 ≤ _; omega) (by simp; omega))
  have HP1 := hide (blk_keeps (unhide HDS8).p1 hk9 (unhide HS8) (unhide HDS8).o1)
  have HP2 := hide hp2
  have HP3 := hide (blk_keeps (unhide HDS8).p3 hk9 (unhide HS8) (unhide HDS8).o1)
  have HS9 := hide hs9
  have HO9 := hide ho9
  have HB9 := hide ((unhide HBB).trans hb9)
  have hnw : nw.length = 4 := hl9
  clear HK1 hs9 hm9 hl9 hn9 hb9 hk9 hp2 ho9 HDS8 HS8 y1 HBB
  go_wp2_with fail
  refine (unhide HK2).mono ?_
  rintro e w10 ⟨rfl, vE2, vM2, nw2, hs10, hm10, hl10, _, hb10, hk10⟩
  have u1 : w10.cell? ⟨w1.heap.size, 0, none⟩ = some (.int .i64 C) := cell_blk (blk_keeps (unhide HP1) hk10 (unhide HS9) (unhide HO9)) 0
  have u2 : w10.cell? ⟨w2.heap.size, 0, none⟩ = some (.int .i64 C) := cell_blk (blk_keeps (unhide HP2) hk10 (unhide HS9) (unhide HO9)) 0
  have u3 : w10.cell? ⟨w3.heap.size, 0, none⟩ = some (.int .i64 C) := cell_blk (blk_keeps (unhide HP3) hk10 (unhide HS9) (unhide HO9)) 0
  have hf := unhide HF
  have hinv : Inv Bk B (K + 8) w10 := ⟨_, _, hs10, ⟨hf.l, hf.wa, hf.r, hf.o, hf.i, hf.p, by show 0 ≤ sb.m + 1 + 1; omega, by show sb.m + 1 + 1 ≤ _; omega, by simp; omega⟩, hm10⟩
  have HINV := hide hinv
  have HB10 := hide ((unhide HB9).trans hb10)
  clear hs10 hm10 hb10 hk10 hinv hf HK2 z2
  go_wp2
  go_ret
  exact ⟨rfl, unhide HINV, unhide HB10⟩

end Go.Proofs.Ytdnpeefnobjfaaa
