import Derived.Test.YtldhhfkplongiaaP9a
namespace Go.Proofs.Ytldhhfkplongiaa.Prm
/- Digits of permutations over Nat (Rank, Unrank), as places in what is left and as counts; the order of permutations. It names nothing of a program. -/

/-- Place k taken out. -/
def rem (a : Nat → Nat) (k : Nat) : Nat → Nat := fun j => if j < k then a j else a (j + 1)
theorem rem_lo {a : Nat → Nat} {k j : Nat} (h : j < k) : rem a k j = a j := if_pos h
theorem rem_hi {a : Nat → Nat} {k j : Nat} (h : k ≤ j) : rem a k j = a (j + 1) := if_neg (by omega)
def Inc (a : Nat → Nat) (m : Nat) : Prop := ∀ i j, i < j → j < m → a i < a j
theorem Inc.inj {a : Nat → Nat} {m i j : Nat} (h : Inc a m) (hi : i < m) (hj : j < m) (e : a i = a j) : i = j := by
  rcases Nat.lt_trichotomy i j with q | q | q
  · have := h i j q hj; omega
  · exact q
  · have := h j i q hi; omega
theorem Inc.lt_iff {a : Nat → Nat} {m i j : Nat} (h : Inc a m) (hi : i < m) (hj : j < m) : a i < a j ↔ i < j := by
  constructor
  · intro q
    rcases Nat.lt_trichotomy i j with r | r | r
    · exact r
    · subst r; omega
    · have := h j i r hi; omega
  · exact fun q => h i j q hj
theorem inc_id (m : Nat) : Inc id m := fun _ _ h _ => h
theorem inc_rem {a : Nat → Nat} {m k : Nat} (h : Inc a (m + 1)) : Inc (rem a k) m := fun i j hij hj => by
  by_cases q : j < k
  · rw [rem_lo q, rem_lo (by omega)]; exact h i j hij (by omega)
  · rw [rem_hi (j := j) (by omega)]
    by_cases q2 : i < k
    · rw [rem_lo q2]; exact h i (j + 1) (by omega) (by omega)
    · rw [rem_hi (by omega)]; exact h (i + 1) (j + 1) (by omega) (by omega)
/-- x is among the first m. -/
def Mem (a : Nat → Nat) (m x : Nat) : Prop := ∃ j, j < m ∧ a j = x
theorem mem_rem {a : Nat → Nat} {m k x : Nat} (h : Inc a (m + 1)) (hk : k ≤ m) : Mem (rem a k) m x ↔ Mem a (m + 1) x ∧ x ≠ a k := by
  constructor
  · rintro ⟨j, hj, e⟩
    by_cases q : j < k
    · rw [rem_lo q] at e
      exact ⟨⟨j, by omega, e⟩, fun z => by have := h.inj (i := j) (j := k) (by omega) (by omega) (e.trans z); omega⟩
    · rw [rem_hi (by omega)] at e
      exact ⟨⟨j + 1, by omega, e⟩, fun z => by have := h.inj (i := j + 1) (j := k) (by omega) (by omega) (e.trans z); omega⟩
  · rintro ⟨⟨j, hj, e⟩, hx⟩
    by_cases q : j < k
    · exact ⟨j, by omega, by rw [rem_lo q]; exact e⟩
    · have : j ≠ k := fun z => hx (by rw [← e, z])
      exact ⟨j - 1, by omega, by rw [rem_hi (by omega), show j - 1 + 1 = j by omega]; exact e⟩
/-- What is left behind i digits; number i of the permutation with these digits. -/
def ul (d : Nat → Nat) : Nat → Nat → Nat
  | 0 => id
  | i + 1 => rem (ul d i) (d i)
def unr (d : Nat → Nat) (i : Nat) : Nat := ul d i (d i)
/-- What is left of the numbers behind the first i of f; the place of the next among them. -/
def lf (f : Nat → Nat) (n : Nat) : Nat → Nat → Nat
  | 0 => id
  | i + 1 => rem (lf f n i) (posN (lf f n i) (f i) (n - i))
def rkD (f : Nat → Nat) (n i : Nat) : Nat := posN (lf f n i) (f i) (n - i)
theorem lf_ul (f : Nat → Nat) (n : Nat) : ∀ i, lf f n i = ul (rkD f n) i
  | 0 => rfl
  | i + 1 => by
    show rem (lf f n i) (rkD f n i) = rem (ul (rkD f n) i) (rkD f n i)
    rw [lf_ul f n i]
theorem lf_cg {f g : Nat → Nat} {n : Nat} : ∀ {i}, (∀ j, j < i → f j = g j) → lf f n i = lf g n i
  | 0, _ => rfl
  | i + 1, h => by
    show rem (lf f n i) (posN (lf f n i) (f i) (n - i)) = rem (lf g n i) (posN (lf g n i) (g i) (n - i))
    rw [lf_cg (i := i) (fun j hj => h j (by omega)), h i (by omega)]
theorem rkD_cg {f g : Nat → Nat} {n i : Nat} (h : ∀ j, j ≤ i → f j = g j) : rkD f n i = rkD g n i := by
  unfold rkD
  rw [lf_cg (i := i) (fun j hj => h j (by omega)), h i (Nat.le_refl _)]
theorem rkD_lt {f : Nat → Nat} {n i : Nat} (hi : i < n) : rkD f n i < n - i := posN_lt (by omega)
theorem ul_inc {n : Nat} {d : Nat → Nat} : ∀ {i}, i ≤ n → Inc (ul d i) (n - i)
  | 0, _ => inc_id _
  | i + 1, h => by
    have := ul_inc (n := n) (d := d) (i := i) (by omega)
    rw [show n - i = n - (i + 1) + 1 by omega] at this
    exact inc_rem this
theorem ul_step {n : Nat} {d : Nat → Nat} {i x : Nat} (hi : i < n) (hd : d i < n - i) : Mem (ul d (i + 1)) (n - (i + 1)) x ↔ Mem (ul d i) (n - i) x ∧ x ≠ unr d i := by
  have h := ul_inc (n := n) (d := d) (i := i) (by omega)
  rw [show n - i = n - (i + 1) + 1 by omega] at h ⊢
  exact mem_rem h (by omega)
theorem ul_sub {n : Nat} {d : Nat → Nat} {i x : Nat} : ∀ {j}, i ≤ j → j ≤ n → (∀ k, k < j → d k < n - k) → Mem (ul d j) (n - j) x → Mem (ul d i) (n - i) x
  | 0, h, _, _, hm => by
    have : i = 0 := by omega
    subst this
    exact hm
  | j + 1, h, hj, hd, hm => by
    by_cases q : i = j + 1
    · subst q; exact hm
    · exact ul_sub (j := j) (by omega) (by omega) (fun k hk => hd k (by omega)) ((ul_step (by omega) (hd j (by omega))).1 hm).1
theorem unr_mem {n : Nat} {d : Nat → Nat} {i : Nat} (hd : d i < n - i) : Mem (ul d i) (n - i) (unr d i) := ⟨d i, hd, rfl⟩
/-- Digits make a permutation. -/
theorem unr_isP {n : Nat} {d : Nat → Nat} (hd : ∀ k, k < n → d k < n - k) : IsP (unr d) n := by
  have hlt : ∀ i, i < n → unr d i < n := fun i hi => by
    obtain ⟨j, hj, e⟩ := ul_sub (i := 0) (j := i) (Nat.zero_le _) (by omega) (fun k hk => hd k (by omega)) (unr_mem (hd i hi))
    rw [← e]
    exact hj
  have hne : ∀ i j, i < j → j < n → unr d i ≠ unr d j := fun i j hij hj e => by
    have h := ul_sub (i := i + 1) (j := j) (by omega) (by omega) (fun k hk => hd k (by omega)) (unr_mem (hd j hj))
    exact ((ul_step (by omega) (hd i (by omega))).1 h).2 e.symm
  refine ⟨hlt, fun i j hi hj e => ?_⟩
  rcases Nat.lt_trichotomy i j with q | q | q
  · exact absurd e (hne i j q hj)
  · exact q
  · exact absurd e.symm (hne j i q hi)
/-- What has not come yet is left. -/
theorem lf_has {n : Nat} {f : Nat → Nat} (h : IsP f n) : ∀ {i j}, i ≤ j → j < n → Mem (lf f n i) (n - i) (f j)
  | 0, j, _, hj => ⟨f j, h.lt j hj, rfl⟩
  | i + 1, j, hij, hj => by
    have h1 := lf_has h (i := i) (j := j) (by omega) hj
    have h2 := lf_has h (i := i) (j := i) (Nat.le_refl _) (by omega)
    have hat : lf f n i (rkD f n i) = f i := by
      obtain ⟨k, hk, e⟩ := h2
      exact posN_at hk e
    rw [lf_ul] at h1 hat ⊢
    refine (ul_step (by omega) (rkD_lt (by omega))).2 ⟨h1, fun e => ?_⟩
    have e2 : f j = f i := e.trans hat
    have := h.inj j i hj (by omega) e2
    omega
theorem rank_at {n : Nat} {f : Nat → Nat} (h : IsP f n) {i : Nat} (hi : i < n) : lf f n i (rkD f n i) = f i := by
  obtain ⟨k, hk, e⟩ := lf_has h (i := i) (j := i) (Nat.le_refl _) hi
  exact posN_at hk e
/-- The digits of a permutation make it again. -/
theorem unrank_rank {n : Nat} {f : Nat → Nat} (h : IsP f n) {i : Nat} (hi : i < n) : unr (rkD f n) i = f i := by
  unfold unr
  rw [← lf_ul]
  exact rank_at h hi
/-- The digits of what digits make are these. -/
theorem rank_unrank {n : Nat} {d : Nat → Nat} (hd : ∀ k, k < n → d k < n - k) : ∀ {i}, i < n → lf (unr d) n i = ul d i ∧ rkD (unr d) n i = d i
  | 0, hi => ⟨rfl, posN_is (hd 0 hi) rfl fun j _ e => e⟩
  | i + 1, hi => by
    obtain ⟨h1, h2⟩ := rank_unrank hd (i := i) (by omega)
    have e1 : lf (unr d) n (i + 1) = ul d (i + 1) := by
      show rem (lf (unr d) n i) (rkD (unr d) n i) = rem (ul d i) (d i)
      rw [h1, h2]
    refine ⟨e1, ?_⟩
    unfold rkD
    rw [e1]
    exact posN_is (hd (i + 1) hi) rfl fun j hj e => (ul_inc (n := n) (d := d) (i := i + 1) (by omega)).inj hj (hd (i + 1) hi) e
/-- How many of the first m are below x. -/
def cnt (a : Nat → Nat) (x : Nat) : Nat → Nat
  | 0 => 0
  | m + 1 => cnt a x m + (if a m < x then 1 else 0)
theorem cnt_cg {a b : Nat → Nat} {x : Nat} : ∀ {m}, (∀ j, j < m → a j = b j) → cnt a x m = cnt b x m
  | 0, _ => rfl
  | m + 1, h => by
    show cnt a x m + _ = cnt b x m + _
    rw [cnt_cg (m := m) (fun j hj => h j (by omega)), h m (by omega)]
theorem cnt_le (a : Nat → Nat) (x : Nat) : ∀ m, cnt a x m ≤ m
  | 0 => Nat.le_refl _
  | m + 1 => by
    have := cnt_le a x m
    show cnt a x m + _ ≤ m + 1
    by_cases q : a m < x
    · rw [if_pos q]; omega
    · rw [if_neg q]; omega
theorem cnt_rem {a : Nat → Nat} {x k : Nat} : ∀ {m}, k ≤ m → cnt a x (m + 1) = cnt (rem a k) x m + (if a k < x then 1 else 0)
  | 0, h => by
    have : k = 0 := by omega
    subst this
    rfl
  | m + 1, h => by
    show cnt a x (m + 1) + (if a (m + 1) < x then 1 else 0) = cnt (rem a k) x m + (if rem a k m < x then 1 else 0) + (if a k < x then 1 else 0)
    by_cases q : k = m + 1
    · subst q
      rw [rem_lo (Nat.lt_succ_self m), cnt_cg (m := m) (a := rem a (m + 1)) (b := a) (fun j hj => rem_lo (by omega))]
      rfl
    · rw [cnt_rem (m := m) (k := k) (by omega), rem_hi (j := m) (by omega)]
      omega
theorem cnt_all {a : Nat → Nat} {x : Nat} : ∀ {m}, (∀ j, j < m → a j < x) → cnt a x m = m
  | 0, _ => rfl
  | m + 1, h => by
    show cnt a x m + _ = m + 1
    rw [cnt_all (m := m) (fun j hj => h j (by omega)), if_pos (h m (by omega))]
theorem cnt_inc {a : Nat → Nat} {k : Nat} : ∀ {m}, Inc a m → k < m → cnt a (a k) m = k
  | m + 1, h, hk => by
    show cnt a (a k) m + _ = k
    by_cases q : k = m
    · subst q
      rw [cnt_all fun j hj => h j k hj (by omega), if_neg (Nat.lt_irrefl _), Nat.add_zero]
    · have h1 := h k m (by omega) (by omega)
      rw [cnt_inc (m := m) (fun i j hij hj => h i j hij (by omega)) (by omega), if_neg (by omega), Nat.add_zero]
theorem cnt_front {a : Nat → Nat} {x m : Nat} : cnt a x (m + 1) = cnt (fun t => a (t + 1)) x m + (if a 0 < x then 1 else 0) := by
  rw [cnt_rem (k := 0) (Nat.zero_le _)]
  rw [cnt_cg (a := rem a 0) (b := fun t => a (t + 1)) (fun j _ => rem_hi (Nat.zero_le _))]
theorem cnt_left {n : Nat} {f : Nat → Nat} (h : IsP f n) (x : Nat) : ∀ m i, i + m = n → cnt (lf f n i) x m = cnt (fun t => f (i + t)) x m
  | 0, _, _ => rfl
  | m + 1, i, e => by
    have hr := rkD_lt (f := f) (n := n) (i := i) (by omega)
    rw [cnt_rem (k := rkD f n i) (by omega), rank_at h (by omega), cnt_front]
    have h1 := cnt_left h x m (i + 1) (by omega)
    have e2 : cnt (rem (lf f n i) (rkD f n i)) x m = cnt (fun t => f (i + (t + 1))) x m := by
      have h2 : lf f n (i + 1) = rem (lf f n i) (rkD f n i) := rfl
      rw [← h2, h1]
      exact cnt_cg fun j _ => by show f (i + 1 + j) = f (i + (j + 1)); rw [show i + 1 + j = i + (j + 1) by omega]
    rw [e2]
    rfl
/-- A digit is how many of the numbers behind are below. -/
theorem rank_count {n : Nat} {f : Nat → Nat} (h : IsP f n) {i : Nat} (hi : i < n) : rkD f n i = cnt (fun t => f (i + 1 + t)) (f i) (n - (i + 1)) := by
  have hr := rkD_lt (f := f) (n := n) (i := i) hi
  have h1 := cnt_inc (a := lf f n i) (k := rkD f n i) (m := n - i) (by rw [lf_ul]; exact ul_inc (by omega)) hr
  rw [rank_at h hi, cnt_left h (f i) (n - i) i (by omega), show n - i = n - (i + 1) + 1 by omega, cnt_front] at h1
  rw [← h1]
  have e : (if f (i + 0) < f i then 1 else 0) = 0 := if_neg (Nat.lt_irrefl _)
  rw [e, Nat.add_zero]
  exact cnt_cg fun j _ => by show f (i + (j + 1)) = f (i + 1 + j); rw [show i + 1 + j = i + (j + 1) by omega]
/-- Is f ahead of g at the first of m places from i on where they differ? -/
def lsF (f g : Nat → Int) : Nat → Nat → Bool
  | _, 0 => false
  | i, m + 1 => if f i = g i then lsF f g (i + 1) m else decide (f i < g i)
/-- Permutations stand in the order of their digits. -/
theorem rises {n : Nat} {p q : Nat → Nat} (hp : IsP p n) (hq : IsP q n) : ∀ m i, i + m = n → (∀ j, j < i → p j = q j) → lsF (fun j => (p j : Int)) (fun j => (q j : Int)) i m = lsF (fun j => (rkD p n j : Int)) (fun j => (rkD q n j : Int)) i m
  | 0, _, _, _ => rfl
  | m + 1, i, e, h => by
    show (if (p i : Int) = q i then lsF _ _ (i + 1) m else decide ((p i : Int) < q i)) = (if (rkD p n i : Int) = rkD q n i then lsF _ _ (i + 1) m else decide ((rkD p n i : Int) < rkD q n i))
    by_cases z : p i = q i
    · have hz : ∀ j, j ≤ i → p j = q j := fun j hj => by
        by_cases y : j = i
        · subst y; exact z
        · exact h j (by omega)
      have hr := rkD_cg (n := n) (i := i) hz
      rw [if_pos (by omega), if_pos (by omega)]
      exact rises hp hq m (i + 1) (by omega) fun j hj => hz j (by omega)
    · have hl := lf_cg (n := n) (i := i) h
      have a1 := rank_at hp (i := i) (by omega)
      have a2 := rank_at hq (i := i) (by omega)
      rw [hl] at a1
      have l1 := rkD_lt (f := p) (n := n) (i := i) (by omega)
      have l2 := rkD_lt (f := q) (n := n) (i := i) (by omega)
      have hI : Inc (lf q n i) (n - i) := by rw [lf_ul]; exact ul_inc (by omega)
      have hne : rkD p n i ≠ rkD q n i := fun y => z (by rw [← a1, ← a2, y])
      have hlt := hI.lt_iff l1 l2
      rw [a1, a2] at hlt
      rw [if_neg (by omega), if_neg (by omega)]
      by_cases y : p i < q i
      · have := hlt.1 y
        rw [decide_eq_true (by omega), decide_eq_true (by omega)]
      · have : ¬ rkD p n i < rkD q n i := fun w => y (hlt.2 w)
        rw [decide_eq_false (by omega), decide_eq_false (by omega)]
end Go.Proofs.Ytldhhfkplongiaa.Prm
