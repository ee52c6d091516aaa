import Derived.Test.YtcibogmghagpoaaP9a
namespace Go.Proofs.Ytcibogmghagpoaa.Brd
/- Patterns and draws over Nat (stage 12): names nothing of a program. -/

/-- r0 + .. + r(j-1). -/
def sumN (r : Nat → Nat) : Nat → Nat
  | 0 => 0
  | j + 1 => sumN r j + r j
theorem sumN_mono {r : Nat → Nat} {i : Nat} : ∀ {j}, i ≤ j → sumN r i ≤ sumN r j
  | 0, h => by rw [show i = 0 by omega]; exact Nat.le_refl _
  | j + 1, h => by
    by_cases e : i = j + 1
    · rw [e]; exact Nat.le_refl _
    · have := sumN_mono (r := r) (i := i) (j := j) (by omega)
      show sumN r i ≤ sumN r j + r j
      omega
theorem sumN_at {r : Nat → Nat} {j J : Nat} (h : j < J) : sumN r j + r j ≤ sumN r J := sumN_mono (r := r) (i := j + 1) h
/-- How often j stands among the first k. -/
def cntC (C : Nat → Nat) (j : Nat) : Nat → Nat
  | 0 => 0
  | k + 1 => cntC C j k + (if C k = j then 1 else 0)
theorem cntC_cg {C D : Nat → Nat} {j : Nat} : ∀ {k}, (∀ i, i < k → C i = D i) → cntC C j k = cntC D j k
  | 0, _ => rfl
  | k + 1, h => by
    show cntC C j k + _ = cntC D j k + _
    rw [cntC_cg (k := k) fun i hi => h i (by omega), h k (by omega)]
/-- A pattern of these sizes. -/
structure IsPat (s : Nat → Nat) (J n : Nat) (C : Nat → Nat) : Prop where
  lt : ∀ k, k < n → C k < J
  cnt : ∀ j, j < J → cntC C j n = s j
theorem IsPat.cg {s C D : Nat → Nat} {J n : Nat} (h : IsPat s J n C) (e : ∀ k, k < n → C k = D k) : IsPat s J n D := ⟨fun k hk => by rw [← e k hk]; exact h.lt k hk, fun j hj => by rw [← cntC_cg e]; exact h.cnt j hj⟩
section
variable {s D : Nat → Nat} {J n : Nat}
end
section
variable {s C o : Nat → Nat} {J n : Nat}
end
section
variable {s C : Nat → Nat} {J n : Nat}
end
end Go.Proofs.Ytcibogmghagpoaa.Brd
