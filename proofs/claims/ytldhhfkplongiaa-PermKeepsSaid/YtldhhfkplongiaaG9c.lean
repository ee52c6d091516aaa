import Derived.Test.YtldhhfkplongiaaG9b
namespace Go.Proofs.Ytldhhfkplongiaa.Drw
/- Draws in pieces, and of other tapes that begin alike. -/

theorem scan_shift (p : Nat → Nat) (b n : Nat) : ∀ k x, scan p b k (n + x) = n + scan (fun j => p (n + j)) b k x
  | 0, x => rfl
  | k + 1, x => by
    unfold scan
    by_cases h : p (n + x) / b < 256 / b
    · rw [if_pos h, if_pos h]
    · rw [if_neg h, if_neg h]
      exact scan_shift p b n k (x + 1)
theorem dS_shift (p : Nat → Nat) (l n x : Nat) (c : Int) : dS p l (n + x) c = n + dS (fun j => p (n + j)) (l - n) x c := by
  unfold dS
  rw [show l - (n + x) = l - n - x by omega]
  exact scan_shift p _ n _ x
theorem dE_shift (p : Nat → Nat) (l n x : Nat) (c : Int) : dE p l (n + x) c = dE (fun j => p (n + j)) (l - n) x c := by
  unfold dE
  have e : (dS p l (n + x) c < l) = (dS (fun j => p (n + j)) (l - n) x c < l - n) := by
    rw [dS_shift]
    exact propext ⟨fun h => by omega, fun h => by omega⟩
  simp only [e]
theorem dV_shift (p : Nat → Nat) (l n x : Nat) (c : Int) : dV p l (n + x) c = dV (fun j => p (n + j)) (l - n) x c := by
  unfold dV
  rw [dE_shift, dS_shift]
theorem dN_shift (p : Nat → Nat) (l n x : Nat) (c : Int) (h : dE p l (n + x) c = 0) : dN p l (n + x) c = n + dN (fun j => p (n + j)) (l - n) x c := by
  have h' : dE (fun j => p (n + j)) (l - n) x c = 0 := by rw [← dE_shift]; exact h
  unfold dN
  rw [if_pos h, if_pos h']
  by_cases h1 : c = 1
  · rw [if_pos h1, if_pos h1]
  · rw [if_neg h1, if_neg h1, dS_shift]
    omega
/-- Two lists of bounds, one behind the other. -/
def catI (m : Nat) (a b : Nat → Int) : Nat → Int := fun i => if i < m then a i else b (i - m)
theorem catI_lo {m i : Nat} {a b : Nat → Int} (h : i < m) : catI m a b i = a i := if_pos h
theorem catI_hi {m i : Nat} {a b : Nat → Int} : catI m a b (m + i) = b i := by unfold catI; rw [if_neg (by omega), Nat.add_sub_cancel_left]
section
variable {p : Nat → Nat} {l m : Nat} {a b : Nat → Int}
theorem plA_lo : ∀ {i}, i ≤ m → plA p l (catI m a b) i = plA p l a i
  | 0, _ => rfl
  | i + 1, h => by
    show dN p l (plA p l (catI m a b) i) (catI m a b i) = dN p l (plA p l a i) (a i)
    rw [plA_lo (by omega), catI_lo (by omega)]
theorem okA_lo : okA p l (catI m a b) m ↔ okA p l a m :=
  ⟨fun h i hi => by have := h i hi; rw [plA_lo (by omega), catI_lo hi] at this; exact this, fun h i hi => by rw [plA_lo (by omega), catI_lo hi]; exact h i hi⟩
theorem dA_lo {i : Nat} (h : i < m) : dA p l (catI m a b) i = dA p l a i := by
  unfold dA
  rw [plA_lo (by omega), catI_lo h]
theorem cat_hi (n : Nat) (hn : n = plA p l a m) : ∀ {k}, (okA p l (catI m a b) (m + k) → okA (fun j => p (n + j)) (l - n) b k ∧ plA p l (catI m a b) (m + k) = n + plA (fun j => p (n + j)) (l - n) b k) ∧ (okA p l a m → okA (fun j => p (n + j)) (l - n) b k → okA p l (catI m a b) (m + k) ∧ plA p l (catI m a b) (m + k) = n + plA (fun j => p (n + j)) (l - n) b k)
  | 0 => by
    refine ⟨fun _ => ⟨fun i hi => by omega, ?_⟩, fun h _ => ⟨okA_lo.2 h, ?_⟩⟩
    · rw [Nat.add_zero, plA_lo (Nat.le_refl _)]; exact hn.symm
    · rw [Nat.add_zero, plA_lo (Nat.le_refl _)]; exact hn.symm
  | k + 1 => by
    obtain ⟨ih1, ih2⟩ := cat_hi n hn (k := k)
    refine ⟨fun h => ?_, fun h1 h2 => ?_⟩
    · obtain ⟨e1, e2⟩ := ih1 fun i hi => h i (by omega)
      have e3 := h (m + k) (by omega)
      rw [e2, catI_hi] at e3
      refine ⟨fun i hi => ?_, ?_⟩
      · by_cases q : i = k
        · subst q; rw [← dE_shift]; exact e3
        · exact e1 i (by omega)
      · show dN p l (plA p l (catI m a b) (m + k)) (catI m a b (m + k)) = _
        rw [e2, catI_hi]
        exact dN_shift p l n _ _ e3
    · obtain ⟨e1, e2⟩ := ih2 h1 fun i hi => h2 i (by omega)
      have e3 : dE p l (n + plA (fun j => p (n + j)) (l - n) b k) (b k) = 0 := by rw [dE_shift]; exact h2 k (by omega)
      refine ⟨fun i hi => ?_, ?_⟩
      · by_cases q : i = m + k
        · subst q; rw [e2, catI_hi]; exact e3
        · exact e1 i (by omega)
      · show dN p l (plA p l (catI m a b) (m + k)) (catI m a b (m + k)) = _
        rw [e2, catI_hi]
        exact dN_shift p l n _ _ e3
theorem dA_hi (n : Nat) (hn : n = plA p l a m) {k i : Nat} (h : okA p l (catI m a b) (m + k)) (hi : i < k) : dA p l (catI m a b) (m + i) = dA (fun j => p (n + j)) (l - n) b i := by
  have e := ((cat_hi n hn (k := i)).1 fun x hx => h x (by omega)).2
  unfold dA
  rw [e, catI_hi, dV_shift]
end
theorem anyB_cat {m : Nat} {a b : Nat → Int} : ∀ k, anyB (catI m a b) (m + k) = (anyB a m || anyB b k)
  | 0 => by
    have : ∀ j, j ≤ m → anyB (catI m a b) j = anyB a j := fun j => by
      induction j with
      | zero => intro _; rfl
      | succ i ih =>
        intro h
        simp only [anyB]
        rw [ih (by omega), catI_lo (by omega)]
    rw [Nat.add_zero, this m (Nat.le_refl _)]
    simp [anyB]
  | k + 1 => by
    show anyB (catI m a b) (m + k + 1) = _
    simp only [anyB]
    rw [anyB_cat k, catI_hi, Bool.or_assoc]
/-- What is read of a tape tells the draws, whatever lies behind. -/
theorem okA_cg {p q : Nat → Nat} {l l' n : Nat} {bs : Nat → Int} (h : okA p l bs n) (hq : ∀ j, j < plA p l bs n → q j = p j) (hl : plA p l bs n ≤ l') : ∀ {i}, i ≤ n → plA q l' bs i = plA p l bs i ∧ ∀ k, k < i → dE q l' (plA p l bs k) (bs k) = 0 ∧ dV q l' (plA p l bs k) (bs k) = dA p l bs k
  | 0, _ => ⟨rfl, fun k hk => by omega⟩
  | i + 1, hi => by
    obtain ⟨ih1, ih2⟩ := okA_cg h hq hl (i := i) (by omega)
    have hb := ok_pos h (show i < n by omega)
    have nb : ¬ (bs i < 1 ∨ 256 < bs i) := by omega
    have key : dE q l' (plA p l bs i) (bs i) = 0 ∧ dV q l' (plA p l bs i) (bs i) = dA p l bs i ∧ dN q l' (plA p l bs i) (bs i) = plA p l bs (i + 1) := by
      by_cases h1 : bs i = 1
      · have e : dE q l' (plA p l bs i) (bs i) = 0 := by
          unfold dE
          rw [if_neg nb, if_pos h1]
        refine ⟨e, ?_, ?_⟩
        · unfold dV
          rw [if_neg (fun x => x.2 h1), dA_one h1]
        · unfold dN
          rw [if_pos e, if_pos h1, (plA_step h (show i < n by omega)).1 h1]
      · obtain ⟨t1, t2, t3, t4⟩ := tp_is h (show i < n by omega) h1
        have tn := plA_mono h (show i + 1 ≤ n by omega) (Nat.le_refl _)
        have hsc : dS q l' (plA p l bs i) (bs i) = tp p l bs i := by
          unfold dS
          refine scan_is _ _ _ _ _ t2 (by omega) ?_ fun j h2 h3 => ?_
          · rw [hq _ (by omega), t1]
            exact scan_hit _ _ _ _ (by
              have : scan p (bs i).toNat (l - plA p l bs i) (plA p l bs i) = tp p l bs i := t1.symm
              rw [this]
              omega)
          · rw [hq _ (by omega)]
            exact scan_pass p (bs i).toNat (l - plA p l bs i) (plA p l bs i) j h2 (by
              have : scan p (bs i).toNat (l - plA p l bs i) (plA p l bs i) = tp p l bs i := t1.symm
              rw [this]
              exact h3)
        have e : dE q l' (plA p l bs i) (bs i) = 0 := by
          unfold dE
          rw [if_neg nb, if_neg h1, hsc, if_pos (by omega)]
        refine ⟨e, ?_, ?_⟩
        · unfold dV
          rw [if_pos ⟨e, h1⟩, hsc, dA_is h (by omega) h1, hq _ (by omega)]
        · unfold dN
          rw [if_pos e, if_neg h1, hsc, t4]
    refine ⟨?_, fun k hk => ?_⟩
    · show dN q l' (plA q l' bs i) (bs i) = _
      rw [ih1]
      exact key.2.2
    · by_cases e : k = i
      · subst e; exact ⟨key.1, key.2.1⟩
      · exact ih2 k (by omega)
theorem okA_like {p q : Nat → Nat} {l l' n : Nat} {bs : Nat → Int} (h : okA p l bs n) (hq : ∀ j, j < plA p l bs n → q j = p j) (hl : plA p l bs n ≤ l') : okA q l' bs n ∧ plA q l' bs n = plA p l bs n ∧ ∀ i, i < n → dA q l' bs i = dA p l bs i :=
  ⟨fun i hi => by rw [(okA_cg h hq hl (i := i) (by omega)).1]; exact ((okA_cg h hq hl (i := n) (Nat.le_refl _)).2 i hi).1, (okA_cg h hq hl (Nat.le_refl _)).1, fun i hi => by
    unfold dA
    rw [(okA_cg h hq hl (i := i) (by omega)).1]
    exact ((okA_cg h hq hl (i := n) (Nat.le_refl _)).2 i hi).2⟩
/-- Two lists of bytes that are the same give the same draws. -/
theorem scan_eq {p q : Nat → Nat} {b : Nat} : ∀ {k at'}, (∀ j, j < at' + k → p j = q j) → scan p b k at' = scan q b k at'
  | 0, _, _ => rfl
  | k + 1, at', h => by
    unfold scan
    rw [h at' (by omega), scan_eq (at' := at' + 1) fun j hj => h j (by omega)]
end Go.Proofs.Ytldhhfkplongiaa.Drw
