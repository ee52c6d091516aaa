import Derived.ProofKit
namespace Go.Proofs.Ytcibogmghagpoaa.Prm
/- Permutations over Nat: one to one, inverses, exchanges (From, Draws), digits (Rank, Unrank). It names nothing of a program. -/

/-- A permutation of n things, over Nat. -/
structure IsP (g : Nat → Nat) (n : Nat) : Prop where
  lt : ∀ i, i < n → g i < n
  inj : ∀ i j, i < n → j < n → g i = g j → i = j
theorem IsP.cg {f g : Nat → Nat} {n : Nat} (h : IsP f n) (e : ∀ i, i < n → f i = g i) : IsP g n :=
  ⟨fun i hi => by rw [← e i hi]; exact h.lt i hi, fun i j hi hj q => h.inj i j hi hj (by rw [e i hi, e j hj]; exact q)⟩
end Go.Proofs.Ytcibogmghagpoaa.Prm
