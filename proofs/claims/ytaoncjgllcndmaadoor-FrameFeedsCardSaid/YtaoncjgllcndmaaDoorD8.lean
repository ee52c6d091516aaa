import Derived.Test.YtaoncjgllcndmaaDoorD6
namespace Go.Proofs.YtaoncjgllcndmaaDoor.Frm
open Go.RowKit Gf8 Aes By8
/- A batch's bytes over Nat: packed, read back, one byte turned. -/

theorem adl_congr {p q : Nat → Nat} : ∀ {n : Nat}, (∀ j, j < n → p j = q j) → adl p n = adl q n
  | 0, _ => rfl
  | n + 1, h => by rw [adl, adl, adl_congr fun j hj => h j (by omega), h n (by omega)]
theorem footF_congr {p q : Nat → Nat} {n : Nat} (h : ∀ j, j < n → p j = q j) : footF p n = footF q n := by
  unfold footF
  rw [adl_congr h]
theorem footF_lt (p : Nat → Nat) (n j : Nat) : footF p n j < 256 := numF_lt _ _ _
theorem rdN_congr {p q : Nat → Nat} {a : Nat} : ∀ {k : Nat}, (∀ j, j < k → p (a + j) = q (a + j)) → rdN p a k = rdN q a k
  | 0, _ => rfl
  | k + 1, h => by rw [rdN, rdN, rdN_congr fun j hj => h j (by omega), h k (by omega)]
/-- A number that was laid in bytes is read. -/
theorem rd_num (p : Nat → Nat) (a n k : Nat) (hk : n < 256 ^ k) (hn : n < 9223372036854775808) (h : ∀ j, j < k → p (a + j) = numF n k j) : ∀ i, i ≤ k → rdN p a i = (n / 256 ^ (k - i) : Nat)
  | 0, _ => by rw [rdN, Nat.sub_zero, Nat.div_eq_of_lt hk]; rfl
  | i + 1, hi => by
    have e := rd_num p a n k hk hn h i (by omega)
    have l : n / 256 ^ (k - i) < 36028797018963968 := by
      have h1 : 256 ^ 1 ≤ 256 ^ (k - i) := Nat.pow_le_pow_right (by omega) (by omega)
      have h2 : n / 256 ^ (k - i) ≤ n / 256 := Nat.div_le_div_left (by simpa using h1) (by omega)
      omega
    obtain ⟨m, hm⟩ : ∃ m, n / 256 ^ (k - i) = m := ⟨_, rfl⟩
    rw [hm] at e l
    rw [rdN, e, if_neg (by omega), h i (by omega)]
    unfold numF
    rw [show k - i = (k - 1 - i) + 1 by omega, Nat.pow_succ, ← Nat.div_div_eq_div_mul] at hm
    rw [show k - (i + 1) = k - 1 - i by omega]
    obtain ⟨x, hx⟩ : ∃ x, n / 256 ^ (k - 1 - i) = x := ⟨_, rfl⟩
    rw [hx] at hm ⊢
    omega
theorem rd_num_all (p : Nat → Nat) (a n k : Nat) (hk : n < 256 ^ k) (hn : n < 9223372036854775808) (h : ∀ j, j < k → p (a + j) = numF n k j) : rdN p a k = n := by
  rw [rd_num p a n k hk hn h k (Nat.le_refl _), Nat.sub_self, Nat.pow_zero, Nat.div_one]
/-- What was read, laid in bytes, is what stood there. -/
theorem num_rd (p : Nat → Nat) (a k n : Nat) (hb : ∀ j, j < k → p (a + j) < 256) (h : rdN p a k = n) : ∀ j, j < k → numF n k j = p (a + j) := by
  have part : ∀ d i, i + d = k → rdN p a i = (n / 256 ^ d : Nat) := by
    intro d
    induction d with
    | zero => intro i hi; rw [Nat.pow_zero, Nat.div_one, ← h]; exact congrArg _ (by omega)
    | succ d ih =>
      intro i hi
      have e := ih (i + 1) (by omega)
      rw [rdN] at e
      have hb' := hb i (by omega)
      rw [Nat.pow_succ, ← Nat.div_div_eq_div_mul]
      obtain ⟨x, hx⟩ : ∃ x, n / 256 ^ d = x := ⟨_, rfl⟩
      rw [hx] at e ⊢
      split at e
      · omega
      · omega
  intro j hj
  have e1 := part (k - 1 - j) (j + 1) (by omega)
  have e0 := part (k - j) j (by omega)
  rw [rdN] at e1
  have hb' := hb j hj
  unfold numF
  obtain ⟨x, hx⟩ : ∃ x, n / 256 ^ (k - 1 - j) = x := ⟨_, rfl⟩
  rw [hx] at e1 ⊢
  obtain ⟨y, hy⟩ : ∃ y, n / 256 ^ (k - j) = y := ⟨_, rfl⟩
  rw [hy] at e0
  split at e1
  · omega
  · omega

/-- The bytes ahead of the foot. -/
def packB (rd ep lf n : Nat) (c : Nat → Nat → Nat) : Nat → Nat := fun j =>
  if j < 4 then magicF j else if j = 4 then 1 else if j = 5 then lf else if j < 8 then numF n 2 (j - 6) else if j < 16 then numF rd 8 (j - 8) else if j < 24 then numF ep 8 (j - 16)
  else if (j - 24) % 322 < 2 then numF 320 2 ((j - 24) % 322) else c ((j - 24) / 322) ((j - 24) % 322 - 2)
/-- A batch's bytes. -/
def packF (rd ep lf n : Nat) (c : Nat → Nat → Nat) : Nat → Nat := fun j => if j < cellAt n then packB rd ep lf n c j else footF (packB rd ep lf n c) (cellAt n) (j - cellAt n)
theorem packB_num6 (rd ep lf n : Nat) (c : Nat → Nat → Nat) {j : Nat} (h : j < 2) : packB rd ep lf n c (6 + j) = numF n 2 j := by
  unfold packB
  rw [if_neg (by omega), if_neg (by omega), if_neg (by omega), if_pos (by omega), show 6 + j - 6 = j by omega]
theorem packB_num8 (rd ep lf n : Nat) (c : Nat → Nat → Nat) {j : Nat} (h : j < 8) : packB rd ep lf n c (8 + j) = numF rd 8 j := by
  unfold packB
  rw [if_neg (by omega), if_neg (by omega), if_neg (by omega), if_neg (by omega), if_pos (by omega), show 8 + j - 8 = j by omega]
theorem packB_num16 (rd ep lf n : Nat) (c : Nat → Nat → Nat) {j : Nat} (h : j < 8) : packB rd ep lf n c (16 + j) = numF ep 8 j := by
  unfold packB
  rw [if_neg (by omega), if_neg (by omega), if_neg (by omega), if_neg (by omega), if_neg (by omega), if_pos (by omega), show 16 + j - 16 = j by omega]
theorem packB_len (rd ep lf n : Nat) (c : Nat → Nat → Nat) (i : Nat) {j : Nat} (h : j < 2) : packB rd ep lf n c (cellAt i + j) = numF 320 2 j := by
  unfold packB cellAt
  have e : (24 + 322 * i + j - 24) % 322 = j := by omega
  rw [if_neg (by omega), if_neg (by omega), if_neg (by omega), if_neg (by omega), if_neg (by omega), if_neg (by omega), e, if_pos h]
theorem packB_cell (rd ep lf n : Nat) (c : Nat → Nat → Nat) (i : Nat) {j : Nat} (h : j < 320) : packB rd ep lf n c (cellAt i + 2 + j) = c i j := by
  unfold packB cellAt
  have e : (24 + 322 * i + 2 + j - 24) % 322 = 2 + j := by omega
  have e2 : (24 + 322 * i + 2 + j - 24) / 322 = i := by omega
  rw [if_neg (by omega), if_neg (by omega), if_neg (by omega), if_neg (by omega), if_neg (by omega), if_neg (by omega), e, e2, if_neg (by omega), show 2 + j - 2 = j by omega]
theorem packB_lt (rd ep lf n : Nat) (c : Nat → Nat → Nat) (hl : lf < 256) (hc : ∀ i j, i < n → j < 320 → c i j < 256) {j : Nat} (hj : j < cellAt n) : packB rd ep lf n c j < 256 := by
  unfold packB
  unfold cellAt at hj
  split
  · exact magicF_lt _
  split
  · omega
  split
  · exact hl
  split
  · exact numF_lt _ _ _
  split
  · exact numF_lt _ _ _
  split
  · exact numF_lt _ _ _
  split
  · exact numF_lt _ _ _
  · exact hc _ _ (by omega) (by omega)
theorem packF_in (rd ep lf n : Nat) (c : Nat → Nat → Nat) {j : Nat} (h : j < cellAt n) : packF rd ep lf n c j = packB rd ep lf n c j := if_pos h
theorem packF_foot (rd ep lf n : Nat) (c : Nat → Nat → Nat) (j : Nat) : packF rd ep lf n c (cellAt n + j) = footF (packB rd ep lf n c) (cellAt n) j := by
  unfold packF
  rw [if_neg (by omega), show cellAt n + j - cellAt n = j by omega]
theorem cellAt_ge (n : Nat) : 24 ≤ cellAt n := by unfold cellAt; omega
theorem cellAt_mono {i n : Nat} (h : i < n) : cellAt i + 322 ≤ cellAt n := by unfold cellAt; omega
theorem cellAt_succ (n : Nat) : cellAt (n + 1) = cellAt n + 322 := by unfold cellAt; omega

structure Good (rd ep lf n : Nat) : Prop where
  rd : rd < 4611686018427387904
  ep : ep ≤ 4611686018427387904
  lf : lf ≤ 8
  n : n ≤ 256
/-- What is packed is judged right. -/
theorem pack_ok {rd ep lf n : Nat} (c : Nat → Nat → Nat) (g : Good rd ep lf n) :
    headOk (packF rd ep lf n c) (cellAt n + 4) = true ∧ nCells (packF rd ep lf n c) = n ∧ wholeK (packF rd ep lf n c) (cellAt n + 4) n = n ∧ jE (packF rd ep lf n c) (cellAt n + 4) = (0, 0)
    ∧ rdN (packF rd ep lf n c) 8 8 = rd ∧ rdN (packF rd ep lf n c) 16 8 = ep ∧ packF rd ep lf n c 5 = lf := by
  have a := cellAt_ge n
  have g1 := g.rd
  have g2 := g.ep
  have g3 := g.lf
  have g4 := g.n
  have r6 : rdN (packF rd ep lf n c) 6 2 = n := rd_num_all _ 6 n 2 (by omega) (by omega) fun j hj => by rw [packF_in _ _ _ _ _ (by omega), packB_num6 _ _ _ _ _ hj]
  have r8 : rdN (packF rd ep lf n c) 8 8 = rd := rd_num_all _ 8 rd 8 (by omega) (by omega) fun j hj => by rw [packF_in _ _ _ _ _ (by omega), packB_num8 _ _ _ _ _ hj]
  have r16 : rdN (packF rd ep lf n c) 16 8 = ep := rd_num_all _ 16 ep 8 (by omega) (by omega) fun j hj => by rw [packF_in _ _ _ _ _ (by omega), packB_num16 _ _ _ _ _ hj]
  have p5 : packF rd ep lf n c 5 = lf := by rw [packF_in _ _ _ _ _ (by omega)]; rfl
  have p4 : packF rd ep lf n c 4 = 1 := by rw [packF_in _ _ _ _ _ (by omega)]; rfl
  have hok : headOk (packF rd ep lf n c) (cellAt n + 4) = true := by
    rw [headOk_iff]
    refine ⟨by omega, fun f hf => ?_⟩
    match f, hf with
    | 0, _ =>
      refine if_pos ⟨?_, ?_, ?_, ?_⟩ <;> (rw [packF_in _ _ _ _ _ (by omega)]; rfl)
    | 1, _ => exact if_pos p4
    | 2, _ => exact if_pos (by rw [p5]; exact g3)
    | 3, _ => exact if_pos (by rw [r6]; omega)
    | 4, _ => show e60 (rdN _ 8 8) = 0; rw [r8]; exact if_neg (by omega)
    | 5, _ => show e61 (rdN _ 16 8) = 0; rw [r16]; exact if_neg (by omega)
    | n + 6, h => omega
  have hn : nCells (packF rd ep lf n c) = n := by unfold nCells; rw [r6]; rfl
  have hw : wholeK (packF rd ep lf n c) (cellAt n + 4) n = n := wholeK_eq _ _ _ _ (Nat.le_refl _) (fun i hi => by
    have b := cellAt_mono hi
    have e : cellLen (packF rd ep lf n c) i = 320 := rd_num_all _ (cellAt i) 320 2 (by omega) (by omega) fun j hj => by rw [packF_in _ _ _ _ _ (by omega), packB_len _ _ _ _ _ _ hj]
    unfold okC
    rw [e, cellAt_succ]
    simp
    omega) (fun h => by omega)
  refine ⟨hok, hn, hw, ?_, r8, r16, p5⟩
  unfold jE
  rw [hok, if_pos rfl, hn, hw]
  unfold tailE
  rw [if_neg (by omega), if_neg (by omega), if_pos, if_neg (by omega)]
  intro j hj
  rw [packF_foot, footF_congr fun i hi => packF_in rd ep lf n c hi]
/-- The fields of bytes that are a batch. -/
theorem ok_parts {p : Nat → Nat} {len : Nat} (_hb : ∀ j, j < len → p j < 256) (h : (jE p len).2 = 0) :
    headOk p len = true ∧ nCells p ≤ 256 ∧ len = cellAt (nCells p) + 4 ∧ wholeK p len (nCells p) = nCells p ∧ (∀ i, i < nCells p → cellLen p i = 320) ∧ (∀ j, j < 4 → p (cellAt (nCells p) + j) = footF p (cellAt (nCells p)) j) ∧ jE p len = (0, 0) := by
  cases hok : headOk p len with
  | false =>
    unfold jE at h
    rw [hok, if_neg (by simp)] at h
    exfalso
    have go : ∀ k, k ≤ 6 → (headR p len k).2 = 0 → ∀ f, 6 - k ≤ f → f < 6 → startN (f + 1) ≤ len ∧ wrongN p f = 0 := by
      intro k
      induction k with
      | zero => intro _ _ f h1 h2; omega
      | succ k ih =>
        intro hk h0 f h1 h2
        rw [headR] at h0
        split at h0
        · cases h0
        · split at h0
          · rename_i w; exact absurd h0 w
          · by_cases e : f = 5 - k
            · subst e
              rename_i a b
              exact ⟨by omega, by simpa using b⟩
            · exact ih (by omega) h0 f (by omega) h2
    have all := go 6 (Nat.le_refl _) h
    have ok : headOk p len = true := (headOk_iff p len).2 ⟨(all 5 (by omega) (by omega)).1, fun f hf => (all f (by omega) hf).2⟩
    rw [hok] at ok
    cases ok
  | true =>
    have hj : jE p len = tailE p len (nCells p) (wholeK p len (nCells p)) := by unfold jE; rw [hok, if_pos rfl]
    rw [hj] at h
    obtain ⟨h24, hf⟩ := (headOk_iff p len).1 hok
    have h3 : rdN p 6 2 ≤ 256 := by
      have this : (if rdN p 6 2 ≤ 256 then 0 else 63) = 0 := hf 3 (by omega)
      split at this
      · assumption
      · cases this
    have hn : nCells p ≤ 256 := by unfold nCells; omega
    unfold tailE at h
    split at h
    · split at h <;> cases h
    · rename_i hk
      have hkn : wholeK p len (nCells p) = nCells p := by have := wholeK_le p len (nCells p); omega
      split at h
      · cases h
      · rename_i hl
        split at h
        · rename_i hfoot
          split at h
          · cases h
          · rename_i hm
            have hlen : len = cellAt (nCells p) + 4 := by omega
            refine ⟨rfl, hn, hlen, hkn, fun i hi => ?_, hfoot, ?_⟩
            · have := wholeK_ok p len (nCells p) i (by omega)
              unfold okC at this
              simp at this
              exact this.2
            · rw [hj]
              unfold tailE
              rw [if_neg hk, if_neg hl, if_pos hfoot, if_neg hm]
        · cases h
theorem ok_good {p : Nat → Nat} {len : Nat} (hok : headOk p len = true) (hn : nCells p ≤ 256) : Good (rdN p 8 8).toNat (rdN p 16 8).toNat (p 5) (nCells p) ∧ 0 ≤ rdN p 8 8 ∧ 0 ≤ rdN p 16 8 := by
  obtain ⟨h24, hf⟩ := (headOk_iff p len).1 hok
  have h8 : 0 ≤ rdN p 8 8 ∧ rdN p 8 8 < 4611686018427387904 := by
    have this : (if rdN p 8 8 < 0 ∨ 4611686018427387904 ≤ rdN p 8 8 then 62 else 0) = 0 := hf 4 (by omega)
    split at this
    · cases this
    · omega
  have h16 : 0 ≤ rdN p 16 8 ∧ rdN p 16 8 ≤ 4611686018427387904 := by
    have this : (if rdN p 16 8 < 0 ∨ 4611686018427387904 < rdN p 16 8 then 62 else 0) = 0 := hf 5 (by omega)
    split at this
    · cases this
    · omega
  have h5 : p 5 ≤ 8 := by
    have this : (if p 5 ≤ 8 then 0 else 62) = 0 := hf 2 (by omega)
    split at this
    · assumption
    · cases this
  exact ⟨⟨by omega, by omega, h5, hn⟩, h8.1, h16.1⟩
/-- Bytes that are a batch are what it is packed to. -/
theorem back_pack {p : Nat → Nat} {len : Nat} (hb : ∀ j, j < len → p j < 256) (h : (jE p len).2 = 0) : ∀ j, j < len → p j = packF (rdN p 8 8).toNat (rdN p 16 8).toNat (p 5) (nCells p) (cellB p) j := by
  obtain ⟨hok, hn, hlen, hk, hc, hfoot, _⟩ := ok_parts hb h
  obtain ⟨g, g8, g16⟩ := ok_good hok hn
  obtain ⟨h24, hf⟩ := (headOk_iff p len).1 hok
  have body : ∀ j, j < cellAt (nCells p) → p j = packB (rdN p 8 8).toNat (rdN p 16 8).toNat (p 5) (nCells p) (cellB p) j := by
    intro j hj
    unfold packB
    have h0 : (if p 0 = 67 ∧ p 1 = 72 ∧ p 2 = 82 ∧ p 3 = 78 then 0 else 60) = 0 := hf 0 (by omega)
    have h1 : (if p 4 = 1 then 0 else 61) = 0 := hf 1 (by omega)
    split at h0
    · rename_i m
      split at h1
      · rename_i m4
        split
        · match j with
          | 0 => exact m.1
          | 1 => exact m.2.1
          | 2 => exact m.2.2.1
          | 3 => exact m.2.2.2
          | j + 4 => omega
        split
        · rename_i e; rw [e]; exact m4
        split
        · rename_i e; rw [e]
        split
        · have := num_rd p 6 2 (nCells p) (fun j hj => hb _ (by omega)) (by unfold nCells; have := rd2 p 6 (hb 6 (by omega)); omega) (j - 6) (by omega)
          rw [this, show 6 + (j - 6) = j by omega]
        split
        · have := num_rd p 8 8 (rdN p 8 8).toNat (fun j hj => hb _ (by omega)) (by omega) (j - 8) (by omega)
          rw [this, show 8 + (j - 8) = j by omega]
        split
        · have := num_rd p 16 8 (rdN p 16 8).toNat (fun j hj => hb _ (by omega)) (by omega) (j - 16) (by omega)
          rw [this, show 16 + (j - 16) = j by omega]
        · have ji : j = cellAt ((j - 24) / 322) + (j - 24) % 322 := by unfold cellAt; omega
          have il : (j - 24) / 322 < nCells p := by unfold cellAt at hj; omega
          have cm := cellAt_mono il
          split
          · have := num_rd p (cellAt ((j - 24) / 322)) 2 320 (fun j hj => hb _ (by omega)) (hc _ il) ((j - 24) % 322) (by omega)
            rw [this, ← ji]
          · unfold cellB
            exact congrArg p (by omega)
      · cases h1
    · cases h0
  intro j hj
  unfold packF
  split
  · rename_i l; exact body j l
  · have := hfoot (j - cellAt (nCells p)) (by omega)
    rw [show cellAt (nCells p) + (j - cellAt (nCells p)) = j by omega] at this
    rw [this]
    exact congrFun (footF_congr body) _
/-- The sum of bytes. -/
def sumN (p : Nat → Nat) : Nat → Nat
  | 0 => 0
  | n + 1 => sumN p n + p n
theorem adl_sum (p : Nat → Nat) : ∀ n, (adl p n).1 = (1 + sumN p n) % 65521
  | 0 => rfl
  | n + 1 => by
    rw [adl, sumN]
    show ((adl p n).1 + p n) % 65521 = _
    rw [adl_sum p n]
    omega
theorem sum_turn (p q : Nat → Nat) (a : Nat) (h : ∀ j, j ≠ a → q j = p j) : ∀ n, sumN q n + (if a < n then p a else 0) = sumN p n + (if a < n then q a else 0)
  | 0 => by rw [if_neg (by omega), if_neg (by omega)]; rfl
  | n + 1 => by
    have ih := sum_turn p q a h n
    rw [sumN, sumN]
    by_cases e : a = n
    · subst e
      rw [if_neg (by omega), if_neg (by omega)] at ih
      rw [if_pos (by omega), if_pos (by omega)]
      omega
    · rw [h n (by omega)]
      by_cases l : a < n
      · rw [if_pos l, if_pos l] at ih
        rw [if_pos (by omega), if_pos (by omega)]
        omega
      · rw [if_neg l, if_neg l] at ih
        rw [if_neg (by omega), if_neg (by omega)]
        omega
theorem numF4_inj {x y : Nat} (hx : x < 4294967296) (hy : y < 4294967296) (h : ∀ j, j < 4 → numF x 4 j = numF y 4 j) : x = y := by
  have h0 := h 0 (by omega)
  have h1 := h 1 (by omega)
  have h2 := h 2 (by omega)
  have h3 := h 3 (by omega)
  simp only [numF] at h0 h1 h2 h3
  simp at h0 h1 h2 h3
  omega
/-- One byte turned: no batch. -/
theorem turned_no {rd ep lf n : Nat} (c : Nat → Nat → Nat) (g : Good rd ep lf n) (hc : ∀ i j, i < n → j < 320 → c i j < 256) (q : Nat → Nat) (a : Nat) (ha : a < cellAt n + 4) (hq : ∀ j, j ≠ a → q j = packF rd ep lf n c j) (hqa : q a ≠ packF rd ep lf n c a) (hqb : q a < 256) : (jE q (cellAt n + 4)).2 ≠ 0 := by
  intro h
  have hpb : ∀ j, j < cellAt n + 4 → packF rd ep lf n c j < 256 := by
    intro j hj
    unfold packF
    split
    · exact packB_lt rd ep lf n c (by have := g.lf; omega) hc (by assumption)
    · exact footF_lt _ _ _
  have hb : ∀ j, j < cellAt n + 4 → q j < 256 := by
    intro j hj
    by_cases e : j = a
    · rw [e]; exact hqb
    · rw [hq j e]; exact hpb j hj
  obtain ⟨hok, hn, hlen, hk, hcl, hfoot, _⟩ := ok_parts hb h
  have en : nCells q = n := by unfold cellAt at hlen; omega
  rw [en] at hfoot
  by_cases l : a < cellAt n
  · have ef : ∀ j, j < 4 → footF (packF rd ep lf n c) (cellAt n) j = footF q (cellAt n) j := by
      intro j hj
      rw [← hfoot j hj, hq _ (by omega), packF_foot, footF_congr fun i hi => packF_in rd ep lf n c hi]
    have l1 := adl_lt (packF rd ep lf n c) (cellAt n)
    have l2 := adl_lt q (cellAt n)
    have e := numF4_inj (by omega) (by omega) ef
    have e1 : (adl (packF rd ep lf n c) (cellAt n)).1 = (adl q (cellAt n)).1 := by omega
    rw [adl_sum, adl_sum] at e1
    have t := sum_turn (packF rd ep lf n c) q a hq (cellAt n)
    rw [if_pos l, if_pos l] at t
    have := hpb a ha
    omega
  · apply hqa
    have e := hfoot (a - cellAt n) (by omega)
    rw [show cellAt n + (a - cellAt n) = a by omega] at e
    rw [e, footF_congr fun i hi => hq i (by omega)]
    have f := packF_foot rd ep lf n c (a - cellAt n)
    rw [show cellAt n + (a - cellAt n) = a by omega] at f
    rw [f, footF_congr fun i hi => packF_in rd ep lf n c hi]
/- More bytes. -/
theorem headOk_mono {p : Nat → Nat} {len len' : Nat} (h : len ≤ len') (hk : headOk p len = true) : headOk p len' = true := by
  rw [headOk_iff] at hk ⊢
  exact ⟨by omega, hk.2⟩
theorem okC_mono {p : Nat → Nat} {len len' i : Nat} (h : len ≤ len') (hk : okC p len i = true) : okC p len' i = true := by
  unfold okC at hk ⊢
  simp at hk ⊢
  exact ⟨by omega, hk.2⟩
theorem wholeK_mono {p : Nat → Nat} {len len' : Nat} (h : len ≤ len') : ∀ n, wholeK p len n ≤ wholeK p len' n
  | 0 => Nat.le_refl _
  | n + 1 => by
    have ih := wholeK_mono (p := p) h n
    have a := wholeK_le p len n
    have b := wholeK_le p len' n
    rw [wholeK, wholeK]
    by_cases c : wholeK p len n = n ∧ okC p len n = true
    · rw [if_pos c, if_pos ⟨by omega, okC_mono h c.2⟩]
      exact Nat.le_refl _
    · rw [if_neg c]
      split <;> omega
theorem jK_mono {p : Nat → Nat} {len len' : Nat} (h : len ≤ len') : jK p len ≤ jK p len' := by
  unfold jK
  cases hk : headOk p len with
  | false => rw [if_neg (by simp)]; exact Nat.zero_le _
  | true =>
    rw [if_pos rfl, headOk_mono h hk, if_pos rfl]
    exact wholeK_mono h _
end Go.Proofs.YtaoncjgllcndmaaDoor.Frm
