import Derived.Test.YtpclecbhfjalnaaV9n
namespace Go.Proofs.Ytpclecbhfjalnaa.Drw
/- Draws over Nat. -/

/-- The place of the byte that is taken, or where the bytes end. -/
def scan (p : Nat → Nat) (b : Nat) : Nat → Nat → Nat
  | 0, at' => at'
  | k + 1, at' => if p at' / b < 256 / b then at' else scan p b k (at' + 1)
theorem scan_in (p : Nat → Nat) (b : Nat) : ∀ k at', at' ≤ scan p b k at' ∧ scan p b k at' ≤ at' + k
  | 0, at' => ⟨Nat.le_refl _, Nat.le_refl _⟩
  | k + 1, at' => by
    unfold scan
    by_cases h : p at' / b < 256 / b
    · rw [if_pos h]; omega
    · rw [if_neg h]
      have := scan_in p b k (at' + 1)
      omega
theorem scan_hit (p : Nat → Nat) (b : Nat) : ∀ k at', scan p b k at' < at' + k → p (scan p b k at') / b < 256 / b
  | 0, at', h => by unfold scan at h; omega
  | k + 1, at', h => by
    unfold scan at h ⊢
    by_cases e : p at' / b < 256 / b
    · rw [if_pos e]; exact e
    · rw [if_neg e] at h ⊢
      exact scan_hit p b k (at' + 1) (by omega)
theorem scan_pass (p : Nat → Nat) (b : Nat) : ∀ k at' j, at' ≤ j → j < scan p b k at' → ¬ p j / b < 256 / b
  | 0, at', j, h1, h2 => by unfold scan at h2; omega
  | k + 1, at', j, h1, h2 => by
    unfold scan at h2
    by_cases e : p at' / b < 256 / b
    · rw [if_pos e] at h2; omega
    · rw [if_neg e] at h2
      by_cases q : j = at'
      · subst q; exact e
      · exact scan_pass p b k (at' + 1) j (by omega) h2
theorem scan_is (p : Nat → Nat) (b : Nat) : ∀ k at' s, at' ≤ s → s < at' + k → p s / b < 256 / b → (∀ j, at' ≤ j → j < s → ¬ p j / b < 256 / b) → scan p b k at' = s
  | 0, at', s, h1, h2, _, _ => by omega
  | k + 1, at', s, h1, h2, h3, h4 => by
    unfold scan
    by_cases q : s = at'
    · subst q; rw [if_pos h3]
    · rw [if_neg (h4 at' (Nat.le_refl _) (by omega))]
      exact scan_is p b k (at' + 1) s (by omega) (by omega) h3 (fun j hj => h4 j (by omega))
theorem scan_none (p : Nat → Nat) (b : Nat) : ∀ k at', (∀ j, at' ≤ j → j < at' + k → ¬ p j / b < 256 / b) → scan p b k at' = at' + k
  | 0, at', _ => rfl
  | k + 1, at', h => by
    unfold scan
    rw [if_neg (h at' (Nat.le_refl _) (by omega)), scan_none p b k (at' + 1) (fun j h1 h2 => h j (by omega) (by omega))]
    omega
/-- The scan of other bytes that are taken alike. -/
theorem scan_cg (p q : Nat → Nat) (b : Nat) : ∀ k at', (∀ j, at' ≤ j → j < at' + k → (p j / b < 256 / b ↔ q j / b < 256 / b)) → scan p b k at' = scan q b k at'
  | 0, _, _ => rfl
  | k + 1, at', h => by
    unfold scan
    have h0 := h at' (Nat.le_refl _) (by omega)
    by_cases e : p at' / b < 256 / b
    · rw [if_pos e, if_pos (h0.1 e)]
    · rw [if_neg e, if_neg (fun x => e (h0.2 x))]
      exact scan_cg p q b k (at' + 1) fun j h1 h2 => h j (by omega) (by omega)
/-- Below: the error, the draw, the place behind. -/
def dS (p : Nat → Nat) (l at' : Nat) (b : Int) : Nat := scan p b.toNat (l - at') at'
def dE (p : Nat → Nat) (l at' : Nat) (b : Int) : Nat := if b < 1 ∨ 256 < b then 2 else if b = 1 then 0 else if dS p l at' b < l then 0 else 3
def dV (p : Nat → Nat) (l at' : Nat) (b : Int) : Nat := if dE p l at' b = 0 ∧ b ≠ 1 then p (dS p l at' b) % b.toNat else 0
def dN (p : Nat → Nat) (l at' : Nat) (b : Int) : Nat := if dE p l at' b = 0 then (if b = 1 then at' else dS p l at' b + 1) else 0
/-- A bound that is none. -/
abbrev bad (b : Int) : Prop := b < 1 ∨ 256 < b
theorem dE_bad {p : Nat → Nat} {l at' : Nat} {b : Int} (h : bad b) : dE p l at' b = 2 := if_pos h
theorem dE_ok {p : Nat → Nat} {l at' : Nat} {b : Int} (h : dE p l at' b = 0) : ¬ bad b ∧ (b = 1 ∨ dS p l at' b < l) := by
  unfold dE at h
  by_cases h1 : b < 1 ∨ 256 < b
  · rw [if_pos h1] at h; omega
  · rw [if_neg h1] at h
    refine ⟨h1, ?_⟩
    by_cases h2 : b = 1
    · exact Or.inl h2
    · rw [if_neg h2] at h
      by_cases h3 : dS p l at' b < l
      · exact Or.inr h3
      · rw [if_neg h3] at h; omega
theorem dE_val (p : Nat → Nat) (l at' : Nat) (b : Int) : dE p l at' b = 0 ∨ dE p l at' b = 2 ∨ dE p l at' b = 3 := by
  unfold dE
  by_cases h1 : b < 1 ∨ 256 < b
  · rw [if_pos h1]; omega
  · rw [if_neg h1]
    by_cases h2 : b = 1
    · rw [if_pos h2]; omega
    · rw [if_neg h2]
      by_cases h3 : dS p l at' b < l
      · rw [if_pos h3]; omega
      · rw [if_neg h3]; omega
theorem dE_good {p : Nat → Nat} {l at' : Nat} {b : Int} (h : ¬ bad b) : dE p l at' b = 0 ∨ dE p l at' b = 3 := by
  rcases dE_val p l at' b with e | e | e
  · exact Or.inl e
  · unfold dE at e
    have h' : ¬ (b < 1 ∨ 256 < b) := h
    rw [if_neg h'] at e
    by_cases h2 : b = 1
    · rw [if_pos h2] at e; omega
    · rw [if_neg h2] at e
      by_cases h3 : dS p l at' b < l
      · rw [if_pos h3] at e; omega
      · rw [if_neg h3] at e; omega
  · exact Or.inr e
theorem dN_le {p : Nat → Nat} {l at' : Nat} {b : Int} (h : at' ≤ l) : dN p l at' b ≤ l := by
  unfold dN
  by_cases e : dE p l at' b = 0
  · rw [if_pos e]
    rcases (dE_ok e).2 with h1 | h1
    · rw [if_pos h1]; exact h
    · by_cases h2 : b = 1
      · rw [if_pos h2]; exact h
      · rw [if_neg h2]; omega
  · rw [if_neg e]; omega
theorem dN_ge {p : Nat → Nat} {l at' : Nat} {b : Int} (e : dE p l at' b = 0) : at' ≤ dN p l at' b := by
  unfold dN
  rw [if_pos e]
  by_cases h2 : b = 1
  · rw [if_pos h2]; omega
  · rw [if_neg h2]
    have := (scan_in p b.toNat (l - at') at').1
    unfold dS
    omega
theorem dV_lt {p : Nat → Nat} {l at' : Nat} {b : Int} (e : dE p l at' b = 0) : (dV p l at' b : Int) < b := by
  have h := (dE_ok e).1
  unfold bad at h
  unfold dV
  by_cases h2 : b = 1
  · rw [if_neg (fun q => q.2 h2)]; omega
  · rw [if_pos ⟨e, h2⟩]
    have : p (dS p l at' b) % b.toNat < b.toNat := Nat.mod_lt _ (by omega)
    omega
/-- All: the places behind the draws, and the draws. -/
def plA (p : Nat → Nat) (l : Nat) (bs : Nat → Int) : Nat → Nat
  | 0 => 0
  | i + 1 => dN p l (plA p l bs i) (bs i)
def dA (p : Nat → Nat) (l : Nat) (bs : Nat → Int) (i : Nat) : Nat := dV p l (plA p l bs i) (bs i)
theorem plA_le (p : Nat → Nat) (l : Nat) (bs : Nat → Int) : ∀ i, plA p l bs i ≤ l
  | 0 => Nat.zero_le _
  | i + 1 => dN_le (plA_le p l bs i)
/-- The draws up to n come off. -/
def okA (p : Nat → Nat) (l : Nat) (bs : Nat → Int) (n : Nat) : Prop := ∀ i, i < n → dE p l (plA p l bs i) (bs i) = 0
/-- Is one of the bounds none? -/
def anyB (bs : Nat → Int) : Nat → Bool
  | 0 => false
  | i + 1 => anyB bs i || decide (bad (bs i))
theorem anyB_no {bs : Nat → Int} : ∀ {n}, anyB bs n = false → ∀ i, i < n → ¬ bad (bs i)
  | 0, _, i, h => by omega
  | n + 1, e, i, h => by
    simp only [anyB, Bool.or_eq_false_iff, decide_eq_false_iff_not] at e
    by_cases q : i = n
    · subst q; exact e.2
    · exact anyB_no e.1 i (by omega)
theorem anyB_yes {bs : Nat → Int} : ∀ {n i}, i < n → bad (bs i) → anyB bs n = true
  | 0, i, h, _ => by omega
  | n + 1, i, h, hb => by
    simp only [anyB, Bool.or_eq_true, decide_eq_true_eq]
    by_cases q : i = n
    · subst q; exact Or.inr hb
    · exact Or.inl (anyB_yes (by omega) hb)
def okB (p : Nat → Nat) (l : Nat) (bs : Nat → Int) : Nat → Bool
  | 0 => true
  | i + 1 => okB p l bs i && decide (dE p l (plA p l bs i) (bs i) = 0)
theorem okB_iff {p : Nat → Nat} {l : Nat} {bs : Nat → Int} : ∀ {n}, okB p l bs n = true ↔ okA p l bs n
  | 0 => ⟨fun _ i h => by omega, fun _ => rfl⟩
  | n + 1 => by
    simp only [okB, Bool.and_eq_true, decide_eq_true_eq]
    rw [okB_iff]
    refine ⟨fun h i hi => ?_, fun h => ⟨fun i hi => h i (by omega), h n (by omega)⟩⟩
    by_cases q : i = n
    · subst q; exact h.2
    · exact h.1 i (by omega)
def allE (p : Nat → Nat) (l : Nat) (bs : Nat → Int) (n : Nat) : Nat := if anyB bs n then 2 else if okB p l bs n then 0 else 3
def allN (p : Nat → Nat) (l : Nat) (bs : Nat → Int) (n : Nat) : Nat := if allE p l bs n = 0 then n else 0
def allK (p : Nat → Nat) (l : Nat) (bs : Nat → Int) (n : Nat) : Nat := if allE p l bs n = 0 then plA p l bs n else 0
/-- Turn: the bytes that are wanted, behind i draws. -/
def trF (p : Nat → Nat) (l : Nat) (bs ws : Nat → Int) : Nat → Nat → Nat
  | 0 => p
  | i + 1 => fun j => if bs i ≠ 1 ∧ j = plA p l bs (i + 1) - 1 then p j - dA p l bs i + (ws i).toNat else trF p l bs ws i j
/-- Is one of the draws that are wanted none? -/
def anyW (bs ws : Nat → Int) : Nat → Bool
  | 0 => false
  | i + 1 => anyW bs ws i || decide (ws i < 0 ∨ bs i ≤ ws i)
def trE (p : Nat → Nat) (l : Nat) (bs : Nat → Int) (n : Nat) (ws : Nat → Int) (m : Nat) : Nat := if anyB bs n = true ∨ m ≠ n ∨ anyW bs ws m = true then 2 else if okB p l bs n then 0 else 3
end Go.Proofs.Ytpclecbhfjalnaa.Drw
