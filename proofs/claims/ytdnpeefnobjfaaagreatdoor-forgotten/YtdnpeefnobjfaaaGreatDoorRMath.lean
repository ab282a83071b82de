/- Plain facts: what is written is read, and the other way round. No program in it. -/
import Derived.Test.YtdnpeefnobjfaaaGreatDoorDec
namespace Go.Proofs.YtdnpeefnobjfaaaGreatDoor

theorem byteOf_nat (x : Int) : ((byteOf x).toNat : Int) = x % 256 := by
  unfold byteOf
  have h0 : 0 ≤ x % 256 := Int.emod_nonneg _ (by decide)
  have h1 : x % 256 < 256 := Int.emod_lt_of_pos _ (by decide)
  rw [UInt8.toNat_ofNat']
  omega
theorem be2r (x : Int) : be 2 x = [byteOf (x / 256), byteOf x] := rfl
theorem be4r (x : Int) : be 4 x = [byteOf (x / 256 / 256 / 256), byteOf (x / 256 / 256), byteOf (x / 256), byteOf x] := rfl
/-- The bytes of an entry, by their numbers. -/
def entB (t a m e : Int) : List Int := [0, 2, t / 256 % 256, t % 256, a / 256 / 256 / 256 % 256, a / 256 / 256 % 256, a / 256 % 256, a % 256, m / 256 / 256 / 256 % 256, m / 256 / 256 % 256, m / 256 % 256, m % 256, 0, 0, 0, 0, e / 256 / 256 / 256 % 256, e / 256 / 256 % 256, e / 256 % 256, e % 256]
theorem entBytes_bt (e : Ent) (j : Nat) (hj : j < 20) : bt (entBytes e) j = (entB e.tag e.addr (4294967296 - 2 ^ (32 - e.len).toNat) e.met).getD j 0 := by
  generalize hm : (4294967296 - 2 ^ (32 - e.len).toNat : Int) = m
  have hl : (entBytes e).map (fun u => ((u.toNat : Nat) : Int)) = entB e.tag e.addr m e.met := by
    unfold entBytes
    rw [hm]
    simp only [be2r, be4r, List.cons_append, List.nil_append, List.map_cons, List.map_nil, byteOf_nat]
    rfl
  rw [← hl]
  unfold bt
  rw [List.getD_eq_getElem?_getD, List.getD_eq_getElem?_getD, List.getElem?_map]
  have hlen : j < (entBytes e).length := by rw [entBytes_length]; exact hj
  simp [List.getElem?_eq_getElem hlen]

theorem ent_read {e : Ent} (h : entErr e = 0) (h0 : 0 ≤ e.addr) (h1 : e.addr < 4294967296) : entAt (entBytes e) 0 = e ∧ errAt (entBytes e) 0 = 0 := by
  obtain ⟨hp, ht, hm⟩ := entErr_zero h
  obtain ⟨hl0, hl1⟩ := pfx_len hp
  have hpos := pow_pos' (32 - e.len).toNat
  have hle := pow_le32 (32 - e.len).toNat (by omega)
  have hmask : maskLen (4294967296 - 2 ^ (32 - e.len).toNat) = e.len := by
    have := maskLen_at e.len.toNat (by omega)
    rw [show (32 - e.len).toNat = 32 - e.len.toNat by omega, this]
    omega
  have B := fun j (hj : j < 20) => entBytes_bt e j hj
  have hp' := hp
  simp [tagB] at ht
  have hm' : 1 ≤ e.met ∧ e.met ≤ 16 := by simpa [metB] using hm
  generalize hmd : (4294967296 - 2 ^ (32 - e.len).toNat : Int) = m at *
  have b0 : bt (entBytes e) 0 = 0 := B 0 (by decide)
  have b1 : bt (entBytes e) 1 = 2 := B 1 (by decide)
  have b2 : bt (entBytes e) 2 = e.tag / 256 % 256 := B 2 (by decide)
  have b3 : bt (entBytes e) 3 = e.tag % 256 := B 3 (by decide)
  have b4 : bt (entBytes e) 4 = e.addr / 256 / 256 / 256 % 256 := B 4 (by decide)
  have b5 : bt (entBytes e) 5 = e.addr / 256 / 256 % 256 := B 5 (by decide)
  have b6 : bt (entBytes e) 6 = e.addr / 256 % 256 := B 6 (by decide)
  have b7 : bt (entBytes e) 7 = e.addr % 256 := B 7 (by decide)
  have b8 : bt (entBytes e) 8 = m / 256 / 256 / 256 % 256 := B 8 (by decide)
  have b9 : bt (entBytes e) 9 = m / 256 / 256 % 256 := B 9 (by decide)
  have b10 : bt (entBytes e) 10 = m / 256 % 256 := B 10 (by decide)
  have b11 : bt (entBytes e) 11 = m % 256 := B 11 (by decide)
  have b12 : bt (entBytes e) 12 = 0 := B 12 (by decide)
  have b13 : bt (entBytes e) 13 = 0 := B 13 (by decide)
  have b14 : bt (entBytes e) 14 = 0 := B 14 (by decide)
  have b15 : bt (entBytes e) 15 = 0 := B 15 (by decide)
  have b16 : bt (entBytes e) 16 = e.met / 256 / 256 / 256 % 256 := B 16 (by decide)
  have b17 : bt (entBytes e) 17 = e.met / 256 / 256 % 256 := B 17 (by decide)
  have b18 : bt (entBytes e) 18 = e.met / 256 % 256 := B 18 (by decide)
  have b19 : bt (entBytes e) 19 = e.met % 256 := B 19 (by decide)
  clear B
  have e0 : sh (entBytes e) 0 = 2 := by simp only [sh, Nat.zero_add, b0, b1]; omega
  have e2 : sh (entBytes e) (0 + 2) = e.tag := by simp only [sh, Nat.zero_add, Nat.reduceAdd, b2, b3]; omega
  have e4 : wd (entBytes e) (0 + 4) = e.addr := by simp only [wd, sh, Nat.zero_add, Nat.reduceAdd, b4, b5, b6, b7]; omega
  have e8 : wd (entBytes e) (0 + 8) = m := by simp only [wd, sh, Nat.zero_add, Nat.reduceAdd, b8, b9, b10, b11]; omega
  have e12 : wd (entBytes e) (0 + 12) = 0 := by simp only [wd, sh, Nat.zero_add, Nat.reduceAdd, b12, b13, b14, b15]; omega
  have e16 : wd (entBytes e) (0 + 16) = e.met := by simp only [wd, sh, Nat.zero_add, Nat.reduceAdd, b16, b17, b18, b19]; omega
  refine ⟨?_, ?_⟩
  · unfold entAt
    rw [e4, e8, e2, e16, hmask]
  · unfold errAt
    rw [e0, e4, e8, e12, e16, hmask, if_neg (by decide), if_neg (by rw [hp']; decide), if_neg (by decide), if_neg (by rw [hm]; decide)]

theorem flat_bt (l : List Ent) (k : Nat) (hk : k < l.length) (j : Nat) (hj : j < 20) : bt (l.flatMap entBytes) (k * 20 + j) = bt (entBytes l[k]) j := by
  induction l generalizing k with
  | nil => simp at hk
  | cons e r ih =>
    have hl := entBytes_length e
    cases k with
    | zero =>
      simp only [List.flatMap_cons, Nat.zero_mul, Nat.zero_add, List.getElem_cons_zero, bt]
      rw [List.getD_eq_getElem?_getD, List.getElem?_append_left (by omega), ← List.getD_eq_getElem?_getD]
    | succ k =>
      have h := ih k (by simpa using hk)
      simp only [List.flatMap_cons, List.getElem_cons_succ]
      rw [← h]
      unfold bt
      rw [List.getD_eq_getElem?_getD, List.getElem?_append_right (by omega), ← List.getD_eq_getElem?_getD, hl]
      congr 3
      omega
theorem enc_bt (l : List Ent) (k : Nat) (hk : k < l.length) (j : Nat) (hj : j < 20) : bt ([2, 2, 0, 0] ++ l.flatMap entBytes) (4 + k * 20 + j) = bt (entBytes l[k]) j := by
  rw [← flat_bt l k hk j hj]
  unfold bt
  rw [List.getD_eq_getElem?_getD, List.getElem?_append_right (by simp; omega), ← List.getD_eq_getElem?_getD]
  congr 3
  simp; omega

theorem bt_injR {b c : List UInt8} (hl : b.length = c.length) (h : ∀ i, i < b.length → bt b i = bt c i) : b = c := List.ext_getElem hl fun i h1 h2 => by
  have := h i h1
  simp [bt, List.getD_eq_getElem?_getD, h1, h2] at this
  exact UInt8.toNat_inj.1 (by omega)
/-- What is written is read. -/
theorem reads {cmd : Int} {l : List Ent} (h : encErr cmd l = none) (hok : ∀ e ∈ l, 0 ≤ e.addr ∧ e.addr < 4294967296) : decErr (encBytes cmd l) = none ∧ decCmd (encBytes cmd l) = cmd ∧ decEnts (encBytes cmd l) = l := by
  unfold encErr at h
  split at h
  · simp at h
  · rename_i h1
    split at h
    · simp at h
    · rename_i h2
      by_cases hc : cmd = 1
      · subst hc
        obtain rfl : l = [] := List.eq_nil_of_length_eq_zero (by omega)
        have hx : decErr askAll = none := by decide
        have e : encBytes 1 [] = askAll := rfl
        rw [e]
        refine ⟨hx, ?_, ?_⟩
        · unfold decCmd; rw [hx, if_neg (by simp), if_pos rfl]
        · unfold decEnts; rw [hx, if_neg (by simp), if_pos rfl]
      · obtain rfl : cmd = 2 := by omega
        have hall := firstErr_all h
        have e : encBytes 2 l = [2, 2, 0, 0] ++ l.flatMap entBytes := by unfold encBytes; rw [if_neg (by decide)]
        have hlen : (encBytes 2 l).length = 4 + 20 * l.length := by rw [e, List.length_append, flat_length]; rfl
        have hE : ∀ k, (hk : k < l.length) → entAt (encBytes 2 l) (4 + k * 20) = l[k] ∧ errAt (encBytes 2 l) (4 + k * 20) = 0 := fun k hk => by
          have hm : l[k] ∈ l := List.getElem_mem hk
          obtain ⟨r1, r2⟩ := ent_read (hall _ hm) (hok _ hm).1 (hok _ hm).2
          have hs : ∀ j, j < 20 → bt (entBytes l[k]) j = bt (encBytes 2 l) (4 + k * 20 + j) := fun j hj => by rw [e]; exact (enc_bt l k hk j hj).symm
          rw [← sub_ent hs, ← sub_err hs]
          exact ⟨r1, r2⟩
        have ha : encBytes 2 l ≠ askAll := fun q => by
          have h0 : (encBytes 2 l).head? = some 2 := by rw [e]; rfl
          rw [q] at h0
          revert h0; decide
        have hN : ((encBytes 2 l).length - 4) / 20 = l.length := by rw [hlen]; omega
        have hx : decErr (encBytes 2 l) = none := by
          unfold decErr
          have hz : sizeB (encBytes 2 l).length = true := by rw [hlen]; simp [sizeB]; omega
          rw [hz, if_neg (by simp), if_neg ha, if_neg (by rw [e]; simp), hN]
          exact scanErr_none (fun j _ hj => (hE j (by omega)).2)
        refine ⟨hx, ?_, ?_⟩
        · unfold decCmd; rw [hx, if_neg (by simp), if_neg ha]
        · unfold decEnts
          rw [hx, if_neg (by simp), if_neg ha]
          unfold ents
          rw [hN]
          refine List.ext_getElem (by simp) fun k h1 h2 => ?_
          simp only [List.getElem_map, List.getElem_range]
          exact (hE k h2).1

theorem scanErr_all {b : List UInt8} {n k : Nat} (h : scanErr b n k = none) : ∀ j, k ≤ j → j < k + n → errAt b (4 + j * 20) = 0 := by
  induction n generalizing k with
  | zero => intro j h1 h2; omega
  | succ n ih =>
    unfold scanErr at h
    split at h
    · rename_i h0
      intro j h1 h2
      by_cases hj : j = k
      · subst hj; exact h0
      · exact ih h j (by omega) (by omega)
    · simp at h
theorem errAt_zero {b : List UInt8} {i : Nat} (h : errAt b i = 0) : sh b i = 2 ∧ pfxB (wd b (i + 4)) (maskLen (wd b (i + 8))) = true ∧ wd b (i + 12) = 0 ∧ metB (wd b (i + 16)) = true := by
  unfold errAt at h
  by_cases h1 : sh b i = 2
  · rw [if_neg (by simpa using h1)] at h
    cases h2 : pfxB (wd b (i + 4)) (maskLen (wd b (i + 8)))
    · rw [if_pos h2] at h; simp at h
    · rw [if_neg (by simp [h2])] at h
      by_cases h3 : wd b (i + 12) = 0
      · rw [if_neg (by simpa using h3)] at h
        cases h4 : metB (wd b (i + 16))
        · rw [if_pos h4] at h; simp at h
        · exact ⟨h1, rfl, h3, rfl⟩
      · rw [if_pos h3] at h; simp at h
  · rw [if_pos h1] at h; simp at h
theorem ent_write {b : List UInt8} {i : Nat} (h : errAt b i = 0) (j : Nat) (hj : j < 20) : bt (entBytes (entAt b i)) j = bt b (i + j) := by
  obtain ⟨hf, hp, hh, hm⟩ := errAt_zero h
  rw [entBytes_bt _ j hj]
  have hmask : (4294967296 - 2 ^ (32 - maskLen (wd b (i + 8))).toNat : Int) = wd b (i + 8) := by
    rcases maskLen_cases (wd b (i + 8)) with ⟨k, hk, e⟩ | hn
    · rw [e, maskLen_at k hk, show ((32 : Int) - k).toNat = 32 - k by omega]
    · rw [maskLen_none hn] at hp
      have := (pfx_len hp).1
      omega
  have e1 : (entAt b i).tag = sh b (i + 2) := rfl
  have e2 : (entAt b i).addr = wd b (i + 4) := rfl
  have e3 : (entAt b i).met = wd b (i + 16) := rfl
  have e4 : (entAt b i).len = maskLen (wd b (i + 8)) := rfl
  rw [e1, e2, e3, e4, hmask]
  have R := fun j => bt_range b (i + j)
  have r0 := R 0
  have r1 := R 1
  have r2 := R 2
  have r3 := R 3
  have r4 := R 4
  have r5 := R 5
  have r6 := R 6
  have r7 := R 7
  have r8 := R 8
  have r9 := R 9
  have r10 := R 10
  have r11 := R 11
  have r12 := R 12
  have r13 := R 13
  have r14 := R 14
  have r15 := R 15
  have r16 := R 16
  have r17 := R 17
  have r18 := R 18
  have r19 := R 19
  clear R e1 e2 e3 e4 hmask hp hm h
  simp only [sh, wd, Nat.add_assoc, Nat.reduceAdd] at hf hh ⊢
  simp only [Nat.add_zero] at r0
  have hc : j = 0 ∨ j = 1 ∨ j = 2 ∨ j = 3 ∨ j = 4 ∨ j = 5 ∨ j = 6 ∨ j = 7 ∨ j = 8 ∨ j = 9 ∨ j = 10 ∨ j = 11 ∨ j = 12 ∨ j = 13 ∨ j = 14 ∨ j = 15 ∨ j = 16 ∨ j = 17 ∨ j = 18 ∨ j = 19 := by omega
  rcases hc with rfl | rfl | rfl | rfl | rfl | rfl | rfl | rfl | rfl | rfl | rfl | rfl | rfl | rfl | rfl | rfl | rfl | rfl | rfl | rfl
  all_goals
    simp only [entB, List.getD_cons_zero, List.getD_cons_succ, Nat.add_zero]
    omega

/-- What is read is written so. -/
theorem writes {b : List UInt8} (h : decErr b = none) : encErr (decCmd b) (decEnts b) = none ∧ encBytes (decCmd b) (decEnts b) = b ∧ ∀ e ∈ decEnts b, 0 ≤ e.addr ∧ e.addr < 4294967296 := by
  by_cases ha : b = askAll
  · have h1 : decCmd b = 1 := by unfold decCmd; rw [h, if_neg (by simp), if_pos ha]
    have h2 : decEnts b = [] := by unfold decEnts; rw [h, if_neg (by simp), if_pos ha]
    rw [h1, h2]
    exact ⟨rfl, ha.symm, by simp⟩
  · have h1 : decCmd b = 2 := by unfold decCmd; rw [h, if_neg (by simp), if_neg ha]
    have h2 : decEnts b = ents b := by unfold decEnts; rw [h, if_neg (by simp), if_neg ha]
    rw [h1, h2]
    unfold decErr at h
    split at h
    · simp at h
    · rename_i hz
      split at h
      · simp at h
      · rename_i ht
        have ht : b.take 4 = [2, 2, 0, 0] := by simpa using ht
        have hz : 24 ≤ b.length ∧ b.length ≤ 504 ∧ b.length % 20 = 4 := by simp [sizeB] at hz; omega
        obtain ⟨N, hN⟩ : ∃ N, (b.length - 4) / 20 = N := ⟨_, rfl⟩
        rw [hN] at h
        have hall := scanErr_all h
        have hlen : (ents b).length = N := by unfold ents; rw [hN]; simp
        have hget : ∀ k, (hk : k < (ents b).length) → (ents b)[k] = entAt b (4 + k * 20) := fun k hk => by simp [ents]
        refine ⟨?_, ?_, ?_⟩
        · unfold encErr
          rw [if_neg (by omega), if_neg (by omega)]
          refine firstErr_none fun j hj => ?_
          rw [hget j hj]
          obtain ⟨_, hp, _, hm⟩ := errAt_zero (hall j (by omega) (by omega))
          have r := sh_range b (4 + j * 20 + 2)
          have htag : tagB (sh b (4 + j * 20 + 2)) = true := by simp [tagB]; omega
          show entErr ⟨_, _, _, _⟩ = 0
          unfold entErr
          simp only
          rw [if_neg (by rw [hp]; decide), if_neg (by rw [htag]; decide), if_neg (by rw [hm]; decide)]
        · have e : encBytes 2 (ents b) = [2, 2, 0, 0] ++ (ents b).flatMap entBytes := by unfold encBytes; rw [if_neg (by decide)]
          rw [e]
          refine bt_injR (by rw [List.length_append, flat_length, hlen]; simp; omega) fun i hi => ?_
          rw [List.length_append, flat_length, hlen] at hi
          simp at hi
          by_cases h4 : i < 4
          · unfold bt
            rw [List.getD_eq_getElem?_getD, List.getD_eq_getElem?_getD, List.getElem?_append_left (by simpa using h4), ← ht, List.getElem?_take, if_pos h4]
          · obtain ⟨k, j, hj, rfl⟩ : ∃ k j, j < 20 ∧ i = 4 + k * 20 + j := ⟨(i - 4) / 20, (i - 4) % 20, by omega, by omega⟩
            have hk : k < (ents b).length := by omega
            rw [enc_bt _ k hk j hj, hget k hk, ent_write (hall k (by omega) (by omega)) j hj]
        · intro e he
          obtain ⟨k, hk, rfl⟩ := List.getElem_of_mem he
          rw [hget k hk]
          exact wd_range b (4 + k * 20 + 4)

end Go.Proofs.YtdnpeefnobjfaaaGreatDoor
