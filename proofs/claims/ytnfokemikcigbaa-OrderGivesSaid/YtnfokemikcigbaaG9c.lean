import Derived.Test.YtnfokemikcigbaaG9b
namespace Go.Proofs.Ytnfokemikcigbaa.Drw
/- Draws in pieces, and of other tapes that begin alike. -/

theorem scan_shift (p : Nat → Nat) (b n : Nat) : ∀ k x, scan p b k (n + x) = n + scan (fun j => p (n + j)) b k x
  | 0, x => rfl
  | k + 1, x => by
    unfold scan
    by_cases h : p (n + x) / b < 256 / b
    · rw [if_pos h, if_pos h]
    · rw [if_neg h, if_neg h]
      exact scan_shift p b n k (x + 1)
theorem dS_shift (p : Nat → Nat) (l n x : Nat) (c : Int) : dS p l (n + x) c = n + dS (fun j => p (n + j)) (l - n) x c := by
  unfold dS
  rw [show l - (n + x) = l - n - x by omega]
  exact scan_shift p _ n _ x
theorem dE_shift (p : Nat → Nat) (l n x : Nat) (c : Int) : dE p l (n + x) c = dE (fun j => p (n + j)) (l - n) x c := by
  unfold dE
  have e : (dS p l (n + x) c < l) = (dS (fun j => p (n + j)) (l - n) x c < l - n) := by
    rw [dS_shift]
    exact propext ⟨fun h => by omega, fun h => by omega⟩
  simp only [e]
theorem dN_shift (p : Nat → Nat) (l n x : Nat) (c : Int) (h : dE p l (n + x) c = 0) : dN p l (n + x) c = n + dN (fun j => p (n + j)) (l - n) x c := by
  have h' : dE (fun j => p (n + j)) (l - n) x c = 0 := by rw [← dE_shift]; exact h
  unfold dN
  rw [if_pos h, if_pos h']
  by_cases h1 : c = 1
  · rw [if_pos h1, if_pos h1]
  · rw [if_neg h1, if_neg h1, dS_shift]
    omega
/-- Two lists of bounds, one behind the other. -/
def catI (m : Nat) (a b : Nat → Int) : Nat → Int := fun i => if i < m then a i else b (i - m)
theorem catI_lo {m i : Nat} {a b : Nat → Int} (h : i < m) : catI m a b i = a i := if_pos h
theorem catI_hi {m i : Nat} {a b : Nat → Int} : catI m a b (m + i) = b i := by unfold catI; rw [if_neg (by omega), Nat.add_sub_cancel_left]
section
variable {p : Nat → Nat} {l m : Nat} {a b : Nat → Int}
theorem plA_lo : ∀ {i}, i ≤ m → plA p l (catI m a b) i = plA p l a i
  | 0, _ => rfl
  | i + 1, h => by
    show dN p l (plA p l (catI m a b) i) (catI m a b i) = dN p l (plA p l a i) (a i)
    rw [plA_lo (by omega), catI_lo (by omega)]
theorem okA_lo : okA p l (catI m a b) m ↔ okA p l a m :=
  ⟨fun h i hi => by have := h i hi; rw [plA_lo (by omega), catI_lo hi] at this; exact this, fun h i hi => by rw [plA_lo (by omega), catI_lo hi]; exact h i hi⟩
theorem cat_hi (n : Nat) (hn : n = plA p l a m) : ∀ {k}, (okA p l (catI m a b) (m + k) → okA (fun j => p (n + j)) (l - n) b k ∧ plA p l (catI m a b) (m + k) = n + plA (fun j => p (n + j)) (l - n) b k) ∧ (okA p l a m → okA (fun j => p (n + j)) (l - n) b k → okA p l (catI m a b) (m + k) ∧ plA p l (catI m a b) (m + k) = n + plA (fun j => p (n + j)) (l - n) b k)
  | 0 => by
    refine ⟨fun _ => ⟨fun i hi => by omega, ?_⟩, fun h _ => ⟨okA_lo.2 h, ?_⟩⟩
    · rw [Nat.add_zero, plA_lo (Nat.le_refl _)]; exact hn.symm
    · rw [Nat.add_zero, plA_lo (Nat.le_refl _)]; exact hn.symm
  | k + 1 => by
    obtain ⟨ih1, ih2⟩ := cat_hi n hn (k := k)
    refine ⟨fun h => ?_, fun h1 h2 => ?_⟩
    · obtain ⟨e1, e2⟩ := ih1 fun i hi => h i (by omega)
      have e3 := h (m + k) (by omega)
      rw [e2, catI_hi] at e3
      refine ⟨fun i hi => ?_, ?_⟩
      · by_cases q : i = k
        · subst q; rw [← dE_shift]; exact e3
        · exact e1 i (by omega)
      · show dN p l (plA p l (catI m a b) (m + k)) (catI m a b (m + k)) = _
        rw [e2, catI_hi]
        exact dN_shift p l n _ _ e3
    · obtain ⟨e1, e2⟩ := ih2 h1 fun i hi => h2 i (by omega)
      have e3 : dE p l (n + plA (fun j => p (n + j)) (l - n) b k) (b k) = 0 := by rw [dE_shift]; exact h2 k (by omega)
      refine ⟨fun i hi => ?_, ?_⟩
      · by_cases q : i = m + k
        · subst q; rw [e2, catI_hi]; exact e3
        · exact e1 i (by omega)
      · show dN p l (plA p l (catI m a b) (m + k)) (catI m a b (m + k)) = _
        rw [e2, catI_hi]
        exact dN_shift p l n _ _ e3
end
end Go.Proofs.Ytnfokemikcigbaa.Drw
