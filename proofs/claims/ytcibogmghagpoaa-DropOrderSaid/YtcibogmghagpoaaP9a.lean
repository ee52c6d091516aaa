import Derived.ProofKit
namespace Go.Proofs.Ytcibogmghagpoaa.Prm
/- Permutations over Nat: one to one, inverses, exchanges (From, Draws), digits (Rank, Unrank). It names nothing of a program. -/

/-- A permutation of n things, over Nat. -/
structure IsP (g : Nat → Nat) (n : Nat) : Prop where
  lt : ∀ i, i < n → g i < n
  inj : ∀ i j, i < n → j < n → g i = g j → i = j
theorem IsP.cg {f g : Nat → Nat} {n : Nat} (h : IsP f n) (e : ∀ i, i < n → f i = g i) : IsP g n :=
  ⟨fun i hi => by rw [← e i hi]; exact h.lt i hi, fun i j hi hj q => h.inj i j hi hj (by rw [e i hi, e j hj]; exact q)⟩
/-- What is one to one below n meets every number below n. -/
theorem surj : ∀ {n : Nat} {g : Nat → Nat}, IsP g n → ∀ x, x < n → ∃ i, i < n ∧ g i = x
  | 0, _, _, x, hx => absurd hx (Nat.not_lt_zero _)
  | n + 1, g, h, x, hx => by
    have hm := h.lt n (by omega)
    have h2 : IsP (fun i => if g i = n then g n else g i) n := by
      refine ⟨fun i hi => ?_, fun i j hi hj e => ?_⟩
      · show (if g i = n then g n else g i) < n
        have hl := h.lt i (by omega)
        by_cases q : g i = n
        · rw [if_pos q]
          have : g n ≠ n := fun e => by have := h.inj i n (by omega) (by omega) (by omega); omega
          omega
        · rw [if_neg q]; omega
      · have e2 : (if g i = n then g n else g i) = (if g j = n then g n else g j) := e
        by_cases q : g i = n
        · by_cases q2 : g j = n
          · exact h.inj i j (by omega) (by omega) (by omega)
          · rw [if_pos q, if_neg q2] at e2
            have := h.inj n j (by omega) (by omega) e2
            omega
        · by_cases q2 : g j = n
          · rw [if_neg q, if_pos q2] at e2
            have := h.inj i n (by omega) (by omega) e2
            omega
          · rw [if_neg q, if_neg q2] at e2
            exact h.inj i j (by omega) (by omega) e2
    by_cases qm : x = g n
    · exact ⟨n, by omega, qm.symm⟩
    · by_cases qn : x = n
      · obtain ⟨i, hi, e⟩ := surj h2 (g n) (by omega)
        have e2 : (if g i = n then g n else g i) = g n := e
        by_cases q : g i = n
        · exact ⟨i, by omega, by omega⟩
        · rw [if_neg q] at e2
          have := h.inj i n (by omega) (by omega) e2
          omega
      · obtain ⟨i, hi, e⟩ := surj h2 x (by omega)
        have e2 : (if g i = n then g n else g i) = x := e
        by_cases q : g i = n
        · rw [if_pos q] at e2; omega
        · rw [if_neg q] at e2
          exact ⟨i, by omega, e2⟩
end Go.Proofs.Ytcibogmghagpoaa.Prm
