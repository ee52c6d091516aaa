import Derived.Test.YtcibogmghagpoaaV8i
namespace Go.Proofs.Ytcibogmghagpoaa.Dro
open Go.RowKit Gf8 Aes By8 Cel Cf Tap Drw
/- Stage 28: DropBack. Written by tools/mkV8j.py. -/

theorem ones_of {W : World} {v : Value} {n : Nat} {y : Nat → Value} {ln : Nat → Nat} {c : Nat → Nat → Nat} (h : Ls W v n y ln c) : ∀ z ∈ lL y n, z.oneCell' = true := fun z hz => by
  obtain ⟨i, hi⟩ := List.getElem?_of_mem hz
  have hl : i < n := by have := (List.getElem?_eq_some_iff.1 hi).1; rwa [lL_len] at this
  rw [lL_get y n i hl] at hi
  cases hi
  obtain ⟨_, _, e⟩ := shp (h.cell i hl)
  rw [e]
  rfl
end Go.Proofs.Ytcibogmghagpoaa.Dro
