import Derived.Test.YtcibogmghagpoaaV8d
namespace Go.Proofs.Ytcibogmghagpoaa.Dro
open Go.RowKit Gf8 Aes By8 Cel Cf Tap Drw
/- Stage 28: the reference's Exchange. Written by tools/mkV8e.py. -/

/-- n new rows in a new list. -/
structure An (B : Nat) (W : World) (v : Value) (n : Nat) (y : Nat → Value) (ln : Nat → Nat) (f : Nat → Nat → Nat) : Prop where
  own : W.ownsRow B 23 1 v n (lL y n)
  fam : Fam B n y ln f W
  byt : ∀ t, t < n → ∀ j, j < ln t → f t j < 256
section
variable {W : World} {v : Value} {n k : Nat} {f : Nat → Int} {o : Oper} {a : Act} {x y : Operand}
end
theorem x_one {n : Nat} {ln : Nat → Nat} {c : Nat → Nat → Nat} {i k : Nat} (h : kdF n ln c i = k) (hk : k ≠ 1) : xL n ln c i = 1 ∧ ∀ j, j < 1 → xF n ln c i j = k := ⟨if_neg (fun e => hk (h.symm.trans e)), fun j hj => by obtain rfl : j = 0 := (by omega); exact (if_pos rfl).trans h⟩
theorem x_met {n : Nat} {ln : Nat → Nat} {c : Nat → Nat → Nat} {i : Nat} (j : Nat) : c (paF n ln c i) (8 + j) = xF n ln c i (1 + j) := by
  unfold xF
  rw [if_neg (by omega), Nat.add_sub_cancel_left]
theorem own_lit {W : World} {B g k l : Nat} {f : Nat → Nat} (h : W.heap[g]? = some (.cells #[.int .u8 ((k : Nat) : Int)] 5)) (hg : B ≤ g) (hl : l = 1) (hf : ∀ j, j < 1 → f j = k) : W.ownsRow B 5 1 (.slice (some ⟨g, 0, none⟩) 1 1) l (bytesL l f) := by
  subst hl
  have e : bA 1 f = #[.int .u8 ((k : Nat) : Int)] := by rw [bA_congr (g := fun _ => k) hf]; rfl
  exact own_full (by rw [e]; exact h) hg (by omega)
theorem one_of {v : Value} {n : Nat} (h : ∃ a c, v = .slice a n c) : ∀ u ∈ (#[v] : Array Value).toList, u.oneCell' = true := by
  obtain ⟨a, c, rfl⟩ := h
  intro u hu
  simp at hu
  subst hu
  rfl
end Go.Proofs.Ytcibogmghagpoaa.Dro
