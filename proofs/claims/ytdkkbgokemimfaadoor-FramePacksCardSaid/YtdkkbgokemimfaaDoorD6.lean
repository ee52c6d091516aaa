import Derived.Test.YtdkkbgokemimfaaDoorD5
namespace Go.Proofs.YtdkkbgokemimfaaDoor.Frm
open Go.RowKit Gf8 Aes By8
/- Judging over Nat. -/

/-- The fault of the fields from field 6 - k on: its place and error; (0, 0): none. -/
def headR (p : Nat → Nat) (len : Nat) : Nat → Nat × Nat
  | 0 => (0, 0)
  | k + 1 => if len < startN (5 - k + 1) then (len, 67) else if wrongN p (5 - k) ≠ 0 then (startN (5 - k), wrongN p (5 - k)) else headR p len k
/-- The header's fault. -/
def headE (p : Nat → Nat) (len : Nat) : Nat × Nat := headR p len 6
/-- Is the header whole and right? -/
def headOk (p : Nat → Nat) (len : Nat) : Bool := decide (24 ≤ len) && (List.range 6).all fun f => wrongN p f == 0
theorem headOk_iff (p : Nat → Nat) (len : Nat) : headOk p len = true ↔ 24 ≤ len ∧ ∀ f, f < 6 → wrongN p f = 0 := by
  unfold headOk
  simp [List.all_eq_true]
def nCells (p : Nat → Nat) : Nat := (rdN p 6 2).toNat
def cellAt (i : Nat) : Nat := 24 + 322 * i
/-- The length that stands ahead of cell i. -/
def cellLen (p : Nat → Nat) (i : Nat) : Int := rdN p (cellAt i) 2
def okC (p : Nat → Nat) (len i : Nat) : Bool := decide (cellAt (i + 1) ≤ len) && decide (cellLen p i = 320)
/-- How many of n cells are whole and right from the front. -/
def wholeK (p : Nat → Nat) (len : Nat) : Nat → Nat
  | 0 => 0
  | n + 1 => if wholeK p len n = n ∧ okC p len n = true then n + 1 else wholeK p len n
theorem wholeK_le (p : Nat → Nat) (len : Nat) : ∀ n, wholeK p len n ≤ n
  | 0 => Nat.le_refl _
  | n + 1 => by
    rw [wholeK]
    have := wholeK_le p len n
    split <;> omega
theorem wholeK_ok (p : Nat → Nat) (len : Nat) : ∀ n i, i < wholeK p len n → okC p len i = true
  | 0, i, h => by rw [wholeK] at h; omega
  | n + 1, i, h => by
    rw [wholeK] at h
    split at h
    · rename_i g
      by_cases e : i = n
      · rw [e]; exact g.2
      · exact wholeK_ok p len n i (by rw [g.1]; omega)
    · exact wholeK_ok p len n i h
theorem wholeK_stop (p : Nat → Nat) (len : Nat) : ∀ n, wholeK p len n < n → okC p len (wholeK p len n) = false
  | 0, h => by omega
  | n + 1, h => by
    rw [wholeK] at h ⊢
    split
    · rename_i g
      rw [if_pos g] at h
      omega
    · rename_i g
      by_cases e : wholeK p len n = n
      · rw [e]
        cases hk : okC p len n with
        | false => rfl
        | true => exact absurd ⟨e, hk⟩ g
      · exact wholeK_stop p len n (by have := wholeK_le p len n; omega)
/-- What marks the number: k cells are right, and the next one isn't, if there is one. -/
theorem wholeK_eq (p : Nat → Nat) (len n k : Nat) (hk : k ≤ n) (h1 : ∀ i, i < k → okC p len i = true) (h2 : k < n → okC p len k = false) : wholeK p len n = k := by
  have a := wholeK_le p len n
  by_cases h : wholeK p len n < k
  · have b := wholeK_stop p len n (by omega)
    rw [h1 _ h] at b
    cases b
  · by_cases e : wholeK p len n = k
    · exact e
    · have b := wholeK_ok p len n k (by omega)
      rw [h2 (by omega)] at b
      cases b
/-- The fault behind k whole cells of n. -/
def tailE (p : Nat → Nat) (len n k : Nat) : Nat × Nat :=
  if k < n then (if cellAt k + 2 ≤ len ∧ cellLen p k ≠ 320 then (cellAt k, 64) else (len, 67))
  else if len < cellAt n + 4 then (len, 67)
  else if ∀ j, j < 4 → p (cellAt n + j) = footF p (cellAt n) j then (if cellAt n + 4 < len then (cellAt n + 4, 66) else (0, 0))
  else (cellAt n, 65)
/-- All that judging comes to: the cells that are whole. -/
def jK (p : Nat → Nat) (len : Nat) : Nat := if headOk p len then wholeK p len (nCells p) else 0
/-- The fault: its place and its error. -/
def jE (p : Nat → Nat) (len : Nat) : Nat × Nat := if headOk p len then tailE p len (nCells p) (wholeK p len (nCells p)) else headE p len
/-- The header's numbers. -/
def jRound (p : Nat → Nat) (len : Nat) : Int := if headOk p len then rdN p 8 8 else 0
def jEpoch (p : Nat → Nat) (len : Nat) : Int := if headOk p len then rdN p 16 8 else 0
def jLeft (p : Nat → Nat) (len : Nat) : Int := if headOk p len then (p 5 : Int) else 0
/-- Cell i's bytes. -/
def cellB (p : Nat → Nat) (i : Nat) : Nat → Nat := fun j => p (cellAt i + 2 + j)
/-- What Put answers beside the cells. -/
def feedE (p : Nat → Nat) (len : Nat) : Nat := if (jE p len).2 = 67 then 0 else (jE p len).2

theorem headR_step (p : Nat → Nat) (len f : Nat) (hf : f < 6) (h : ∀ g, g < f → startN (g + 1) ≤ len ∧ wrongN p g = 0) : headE p len = headR p len (6 - f) := by
  unfold headE
  have go : ∀ f, f ≤ 6 → (∀ g, g < f → startN (g + 1) ≤ len ∧ wrongN p g = 0) → headR p len 6 = headR p len (6 - f) := by
    intro f
    induction f with
    | zero => intro _ _; rfl
    | succ f ih =>
      intro h6 h
      rw [ih (by omega) fun g hg => h g (by omega)]
      obtain ⟨a, b⟩ := h f (by omega)
      rw [show 6 - f = (6 - (f + 1)) + 1 by omega, headR, show 5 - (6 - (f + 1)) = f by omega, if_neg (by omega), if_neg (by rw [b]; simp)]
  exact go f (by omega) h
theorem headE_short (p : Nat → Nat) (len f : Nat) (hf : f < 6) (h : ∀ g, g < f → startN (g + 1) ≤ len ∧ wrongN p g = 0) (hs : len < startN (f + 1)) : headE p len = (len, 67) := by
  rw [headR_step p len f hf h, show 6 - f = (5 - f) + 1 by omega, headR, show 5 - (5 - f) = f by omega, if_pos hs]
theorem headE_wrong (p : Nat → Nat) (len f : Nat) (hf : f < 6) (h : ∀ g, g < f → startN (g + 1) ≤ len ∧ wrongN p g = 0) (hs : startN (f + 1) ≤ len) (hw : wrongN p f ≠ 0) : headE p len = (startN f, wrongN p f) := by
  rw [headR_step p len f hf h, show 6 - f = (5 - f) + 1 by omega, headR, show 5 - (5 - f) = f by omega, if_neg (by omega), if_pos hw]
theorem headOk_no (p : Nat → Nat) (len f : Nat) (hf : f < 6) (h : len < startN (f + 1) ∨ wrongN p f ≠ 0) : headOk p len = false := by
  cases e : headOk p len with
  | false => rfl
  | true =>
    obtain ⟨a, b⟩ := (headOk_iff p len).1 e
    rcases h with h | h
    · have : startN (f + 1) ≤ 24 := by
        match f, hf with
        | 0, _ => decide
        | 1, _ => decide
        | 2, _ => decide
        | 3, _ => decide
        | 4, _ => decide
        | 5, _ => decide
        | n + 6, h => omega
      omega
    · exact absurd (b f hf) h
theorem rd2 (p : Nat → Nat) (a : Nat) (h : p a < 256) : rdN p a 2 = (p a * 256 + p (a + 1) : Nat) := by
  have e1 : rdN p a 1 = p a := by
    rw [rdN, if_neg (by rw [rdN]; omega), rdN, Nat.add_zero]
    omega
  rw [rdN, e1, if_neg (by omega)]
  omega
end Go.Proofs.YtdkkbgokemimfaaDoor.Frm
