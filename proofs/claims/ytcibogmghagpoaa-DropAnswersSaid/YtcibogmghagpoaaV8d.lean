import Derived.Test.YtcibogmghagpoaaV8c
namespace Go.Proofs.Ytcibogmghagpoaa.Dro
open Go.RowKit Gf8 Aes By8 Cel Cf Tap Drw
/- Stage 28: the reference's Others. Written by tools/mkV8d.py. -/

theorem ot_A {ln : Nat → Nat} {c : Nat → Nat → Nat} {i k : Nat} (h : k = i) : otQ ln c i k = false := by
  unfold otQ
  rw [decide_eq_false (fun q => q h)]
  rfl
theorem ot_B {ln : Nat → Nat} {c : Nat → Nat → Nat} {i k : Nat} (h : rgt (ln k) = false) : otQ ln c i k = false := by
  unfold otQ
  rw [h, Bool.false_and, Bool.and_false]
theorem ot_D {ln : Nat → Nat} {c : Nat → Nat → Nat} {i k : Nat} (h : ¬ k = i) (hr : rgt (ln k) = true) (hs : ∀ j, j < 8 → c k j = c i j) : otQ ln c i k = true := ot_iff.2 ⟨h, rgt_iff.1 hr, hs⟩
theorem ot_C {ln : Nat → Nat} {c : Nat → Nat → Nat} {i k : Nat} (hk : ∀ j, j < 8 → c k j < 256) (hi : ∀ j, j < 8 → c i j < 256) (hs : ¬ strN (c k) 8 = strN (c i) 8) : otQ ln c i k = false := by
  cases q : otQ ln c i k
  · rfl
  · exact absurd ((str_iff hk hi).2 ⟨rfl, (ot_iff.1 q).2.2⟩) hs
end Go.Proofs.Ytcibogmghagpoaa.Dro
