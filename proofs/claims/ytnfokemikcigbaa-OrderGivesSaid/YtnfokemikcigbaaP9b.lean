import Derived.Test.YtnfokemikcigbaaP9a
namespace Go.Proofs.Ytnfokemikcigbaa.Prm
/- Digits of permutations over Nat (Rank, Unrank), as places in what is left and as counts; the order of permutations. It names nothing of a program. -/

/-- Place k taken out. -/
def rem (a : Nat → Nat) (k : Nat) : Nat → Nat := fun j => if j < k then a j else a (j + 1)
theorem rem_lo {a : Nat → Nat} {k j : Nat} (h : j < k) : rem a k j = a j := if_pos h
theorem rem_hi {a : Nat → Nat} {k j : Nat} (h : k ≤ j) : rem a k j = a (j + 1) := if_neg (by omega)
def Inc (a : Nat → Nat) (m : Nat) : Prop := ∀ i j, i < j → j < m → a i < a j
theorem Inc.inj {a : Nat → Nat} {m i j : Nat} (h : Inc a m) (hi : i < m) (hj : j < m) (e : a i = a j) : i = j := by
  rcases Nat.lt_trichotomy i j with q | q | q
  · have := h i j q hj; omega
  · exact q
  · have := h j i q hi; omega
theorem inc_id (m : Nat) : Inc id m := fun _ _ h _ => h
theorem inc_rem {a : Nat → Nat} {m k : Nat} (h : Inc a (m + 1)) : Inc (rem a k) m := fun i j hij hj => by
  by_cases q : j < k
  · rw [rem_lo q, rem_lo (by omega)]; exact h i j hij (by omega)
  · rw [rem_hi (j := j) (by omega)]
    by_cases q2 : i < k
    · rw [rem_lo q2]; exact h i (j + 1) (by omega) (by omega)
    · rw [rem_hi (by omega)]; exact h (i + 1) (j + 1) (by omega) (by omega)
/-- x is among the first m. -/
def Mem (a : Nat → Nat) (m x : Nat) : Prop := ∃ j, j < m ∧ a j = x
theorem mem_rem {a : Nat → Nat} {m k x : Nat} (h : Inc a (m + 1)) (hk : k ≤ m) : Mem (rem a k) m x ↔ Mem a (m + 1) x ∧ x ≠ a k := by
  constructor
  · rintro ⟨j, hj, e⟩
    by_cases q : j < k
    · rw [rem_lo q] at e
      exact ⟨⟨j, by omega, e⟩, fun z => by have := h.inj (i := j) (j := k) (by omega) (by omega) (e.trans z); omega⟩
    · rw [rem_hi (by omega)] at e
      exact ⟨⟨j + 1, by omega, e⟩, fun z => by have := h.inj (i := j + 1) (j := k) (by omega) (by omega) (e.trans z); omega⟩
  · rintro ⟨⟨j, hj, e⟩, hx⟩
    by_cases q : j < k
    · exact ⟨j, by omega, by rw [rem_lo q]; exact e⟩
    · have : j ≠ k := fun z => hx (by rw [← e, z])
      exact ⟨j - 1, by omega, by rw [rem_hi (by omega), show j - 1 + 1 = j by omega]; exact e⟩
/-- What is left behind i digits; number i of the permutation with these digits. -/
def ul (d : Nat → Nat) : Nat → Nat → Nat
  | 0 => id
  | i + 1 => rem (ul d i) (d i)
def unr (d : Nat → Nat) (i : Nat) : Nat := ul d i (d i)
theorem ul_inc {n : Nat} {d : Nat → Nat} : ∀ {i}, i ≤ n → Inc (ul d i) (n - i)
  | 0, _ => inc_id _
  | i + 1, h => by
    have := ul_inc (n := n) (d := d) (i := i) (by omega)
    rw [show n - i = n - (i + 1) + 1 by omega] at this
    exact inc_rem this
theorem ul_step {n : Nat} {d : Nat → Nat} {i x : Nat} (hi : i < n) (hd : d i < n - i) : Mem (ul d (i + 1)) (n - (i + 1)) x ↔ Mem (ul d i) (n - i) x ∧ x ≠ unr d i := by
  have h := ul_inc (n := n) (d := d) (i := i) (by omega)
  rw [show n - i = n - (i + 1) + 1 by omega] at h ⊢
  exact mem_rem h (by omega)
theorem ul_sub {n : Nat} {d : Nat → Nat} {i x : Nat} : ∀ {j}, i ≤ j → j ≤ n → (∀ k, k < j → d k < n - k) → Mem (ul d j) (n - j) x → Mem (ul d i) (n - i) x
  | 0, h, _, _, hm => by
    have : i = 0 := by omega
    subst this
    exact hm
  | j + 1, h, hj, hd, hm => by
    by_cases q : i = j + 1
    · subst q; exact hm
    · exact ul_sub (j := j) (by omega) (by omega) (fun k hk => hd k (by omega)) ((ul_step (by omega) (hd j (by omega))).1 hm).1
theorem unr_mem {n : Nat} {d : Nat → Nat} {i : Nat} (hd : d i < n - i) : Mem (ul d i) (n - i) (unr d i) := ⟨d i, hd, rfl⟩
/-- Digits make a permutation. -/
theorem unr_isP {n : Nat} {d : Nat → Nat} (hd : ∀ k, k < n → d k < n - k) : IsP (unr d) n := by
  have hlt : ∀ i, i < n → unr d i < n := fun i hi => by
    obtain ⟨j, hj, e⟩ := ul_sub (i := 0) (j := i) (Nat.zero_le _) (by omega) (fun k hk => hd k (by omega)) (unr_mem (hd i hi))
    rw [← e]
    exact hj
  have hne : ∀ i j, i < j → j < n → unr d i ≠ unr d j := fun i j hij hj e => by
    have h := ul_sub (i := i + 1) (j := j) (by omega) (by omega) (fun k hk => hd k (by omega)) (unr_mem (hd j hj))
    exact ((ul_step (by omega) (hd i (by omega))).1 h).2 e.symm
  refine ⟨hlt, fun i j hi hj e => ?_⟩
  rcases Nat.lt_trichotomy i j with q | q | q
  · exact absurd e (hne i j q hj)
  · exact q
  · exact absurd e.symm (hne j i q hi)
/-- How many of the first m are below x. -/
def cnt (a : Nat → Nat) (x : Nat) : Nat → Nat
  | 0 => 0
  | m + 1 => cnt a x m + (if a m < x then 1 else 0)
theorem cnt_le (a : Nat → Nat) (x : Nat) : ∀ m, cnt a x m ≤ m
  | 0 => Nat.le_refl _
  | m + 1 => by
    have := cnt_le a x m
    show cnt a x m + _ ≤ m + 1
    by_cases q : a m < x
    · rw [if_pos q]; omega
    · rw [if_neg q]; omega
end Go.Proofs.Ytnfokemikcigbaa.Prm
