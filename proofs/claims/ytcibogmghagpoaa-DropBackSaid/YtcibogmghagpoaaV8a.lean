import Derived.Test.YtcibogmghagpoaaE9a
namespace Go.Proofs.Ytcibogmghagpoaa.Dro
/- Dead drops over Nat: names nothing of a program. -/

/-- How many k below n keep p. -/
def cnt (p : Nat → Bool) : Nat → Nat
  | 0 => 0
  | n + 1 => cnt p n + (if p n then 1 else 0)
/-- The first k below n that keeps p (n: none). -/
def fst_ (p : Nat → Bool) : Nat → Nat
  | 0 => 0
  | n + 1 => if cnt p n = 0 then (if p n then n else n + 1) else fst_ p n
theorem cnt_zero {p : Nat → Bool} {n : Nat} : cnt p n = 0 ↔ ∀ k, k < n → p k = false := by
  induction n with
  | zero => exact ⟨fun _ k hk => absurd hk (Nat.not_lt_zero _), fun _ => rfl⟩
  | succ n ih =>
    unfold cnt
    constructor
    · intro h k hk
      have h1 : cnt p n = 0 := by omega
      by_cases e : k = n
      · subst e
        cases q : p k
        · rfl
        · rw [q, if_pos rfl] at h; omega
      · exact ih.1 h1 k (by omega)
    · intro h
      rw [ih.2 fun k hk => h k (by omega), h n (by omega)]
      rfl
theorem cnt_le {p : Nat → Bool} {n : Nat} : cnt p n ≤ n := by
  induction n with
  | zero => exact Nat.le_refl _
  | succ n ih => unfold cnt; split <;> omega
theorem fst_is {p : Nat → Bool} {n : Nat} (h : 0 < cnt p n) : fst_ p n < n ∧ p (fst_ p n) = true ∧ ∀ k, k < fst_ p n → p k = false := by
  induction n with
  | zero => exact absurd h (Nat.lt_irrefl _)
  | succ n ih =>
    unfold fst_
    by_cases e : cnt p n = 0
    · rw [if_pos e]
      have q : p n = true := by
        cases q : p n
        · unfold cnt at h; rw [q, e] at h; exact absurd h (Nat.lt_irrefl _)
        · rfl
      rw [q, if_pos rfl]
      exact ⟨by omega, q, fun k hk => cnt_zero.1 e k hk⟩
    · rw [if_neg e]
      obtain ⟨h1, h2, h3⟩ := ih (by omega)
      exact ⟨by omega, h2, h3⟩
theorem cnt_one {p : Nat → Bool} {n : Nat} (h : cnt p n = 1) {k : Nat} (hk : k < n) (hp : p k = true) : k = fst_ p n := by
  induction n with
  | zero => omega
  | succ n ih =>
    unfold fst_
    unfold cnt at h
    by_cases e : cnt p n = 0
    · rw [if_pos e]
      by_cases e2 : k = n
      · subst e2; rw [hp, if_pos rfl]
      · rw [cnt_zero.1 e k (by omega)] at hp; cases hp
    · rw [if_neg e]
      have q : p n = false := by
        cases q : p n
        · rfl
        · rw [q, if_pos rfl] at h; omega
      rw [q] at h
      have h1 : cnt p n = 1 := by simpa using h
      by_cases e2 : k = n
      · subst e2; rw [q] at hp; cases hp
      · exact ih h1 (by omega)
theorem cnt_cg {p q : Nat → Bool} {n : Nat} (h : ∀ k, k < n → p k = q k) : cnt p n = cnt q n := by
  induction n with
  | zero => rfl
  | succ n ih => unfold cnt; rw [ih fun k hk => h k (by omega), h n (by omega)]
theorem cnt_uniq {p : Nat → Bool} {n i : Nat} (h : 0 < cnt p n) (u : ∀ k, k < n → p k = true → k = i) : cnt p n = 1 := by
  induction n with
  | zero => exact absurd h (Nat.lt_irrefl _)
  | succ n ih =>
    unfold cnt at h ⊢
    by_cases e : cnt p n = 0
    · rw [e] at h ⊢
      split
      · rfl
      · rename_i q; rw [if_neg q] at h; exact absurd h (Nat.lt_irrefl _)
    · obtain ⟨h1, h2, _⟩ := fst_is (p := p) (n := n) (by omega)
      have e1 := u _ (by omega) h2
      have q : p n = false := by
        cases q : p n
        · rfl
        · have := u n (by omega) q; omega
      rw [ih (by omega) fun k hk => u k (by omega), q]
      rfl
theorem cnt_succ {p : Nat → Bool} {n : Nat} : cnt p (n + 1) = cnt p n + (if p n then 1 else 0) := rfl

/-- Is it a request, by its length? -/
def rgt (l : Nat) : Bool := decide (8 ≤ l ∧ l ≤ 48)
/-- The same name? -/
def nmQ (a b : Nat → Nat) : Bool := (List.range 8).all fun j => a j == b j
theorem nm_iff {a b : Nat → Nat} : nmQ a b = true ↔ ∀ j, j < 8 → a j = b j := by
  unfold nmQ
  simp [List.all_eq_true]
/-- Is k another request at the drop of i? -/
def otQ (ln : Nat → Nat) (c : Nat → Nat → Nat) (i k : Nat) : Bool := decide (k ≠ i) && (rgt (ln k) && nmQ (c k) (c i))
/-- How an answer comes about. -/
def kdF (n : Nat) (ln : Nat → Nat) (c : Nat → Nat → Nat) (i : Nat) : Nat := if rgt (ln i) then min (cnt (otQ ln c i) n) 2 else 3
/-- The other one. -/
def paF (n : Nat) (ln : Nat → Nat) (c : Nat → Nat → Nat) (i : Nat) : Nat := fst_ (otQ ln c i) n
/-- An answer's length, and its bytes. -/
def xL (n : Nat) (ln : Nat → Nat) (c : Nat → Nat → Nat) (i : Nat) : Nat := if kdF n ln c i = 1 then 1 + (ln (paF n ln c i) - 8) else 1
def xF (n : Nat) (ln : Nat → Nat) (c : Nat → Nat → Nat) (i j : Nat) : Nat := if j = 0 then kdF n ln c i else c (paF n ln c i) (8 + (j - 1))
theorem kd_le {n : Nat} {ln : Nat → Nat} {c : Nat → Nat → Nat} {i : Nat} : kdF n ln c i ≤ 3 := by unfold kdF; split <;> omega
theorem rgt_iff {l : Nat} : rgt l = true ↔ 8 ≤ l ∧ l ≤ 48 := by unfold rgt; exact decide_eq_true_iff
theorem ot_iff {ln : Nat → Nat} {c : Nat → Nat → Nat} {i k : Nat} : otQ ln c i k = true ↔ k ≠ i ∧ (8 ≤ ln k ∧ ln k ≤ 48) ∧ ∀ j, j < 8 → c k j = c i j := by
  unfold otQ
  rw [Bool.and_eq_true, Bool.and_eq_true, decide_eq_true_iff, rgt_iff, nm_iff]
/-- Who met somebody. -/
theorem met {n : Nat} {ln : Nat → Nat} {c : Nat → Nat → Nat} {i : Nat} (h : kdF n ln c i = 1) : rgt (ln i) = true ∧ cnt (otQ ln c i) n = 1 ∧ paF n ln c i < n ∧ otQ ln c i (paF n ln c i) = true := by
  unfold kdF at h
  split at h
  · rename_i q
    have h1 : cnt (otQ ln c i) n = 1 := by omega
    obtain ⟨h2, h3, _⟩ := fst_is (p := otQ ln c i) (n := n) (by omega)
    exact ⟨q, h1, h2, h3⟩
  · omega
theorem xL_le {n : Nat} {ln : Nat → Nat} {c : Nat → Nat → Nat} {i : Nat} : 1 ≤ xL n ln c i ∧ xL n ln c i ≤ 41 := by
  unfold xL
  split
  · rename_i h
    have := (ot_iff.1 (met h).2.2.2).2.1
    omega
  · omega
theorem xF_lt {n : Nat} {ln : Nat → Nat} {c : Nat → Nat → Nat} {i : Nat} (hc : ∀ k, k < n → ∀ j, j < ln k → c k j < 256) (j : Nat) (hj : j < xL n ln c i) : xF n ln c i j < 256 := by
  unfold xF
  split
  · have := kd_le (n := n) (ln := ln) (c := c) (i := i); omega
  · unfold xL at hj
    split at hj
    · rename_i h
      obtain ⟨_, _, h3, h4⟩ := met h
      have := (ot_iff.1 h4).2.1
      exact hc _ h3 _ (by omega)
    · omega
/-- Request: its error, its bytes. -/
def rqE (m : Nat) : Nat := if 40 < m then 1 else 0
def rqN (m : Nat) : Nat := if 40 < m then 0 else 8 + m
def rqF (nm f : Nat → Nat) (j : Nat) : Nat := if j < 8 then nm j else f (j - 8)
/-- Answer: is it one? how, its message. -/
def anQ (m : Nat) (f : Nat → Nat) : Bool := decide (1 ≤ m ∧ m ≤ 41 ∧ f 0 ≤ 3 ∧ (f 0 = 1 ∨ m = 1))
def anE (m : Nat) (f : Nat → Nat) : Nat := if anQ m f then 0 else 280
def anH (m : Nat) (f : Nat → Nat) : Nat := if anQ m f then f 0 else 0
def anN (m : Nat) (f : Nat → Nat) : Nat := if anQ m f then m - 1 else 0
def anF (f : Nat → Nat) (j : Nat) : Nat := f (1 + j)
theorem an_iff {m : Nat} {f : Nat → Nat} : anQ m f = true ↔ 1 ≤ m ∧ m ≤ 41 ∧ f 0 ≤ 3 ∧ (f 0 = 1 ∨ m = 1) := by unfold anQ; exact decide_eq_true_iff
/-- What is answered is an answer. -/
theorem an_x {n : Nat} {ln : Nat → Nat} {c : Nat → Nat → Nat} {i : Nat} : anQ (xL n ln c i) (xF n ln c i) = true := by
  have h := xL_le (n := n) (ln := ln) (c := c) (i := i)
  refine an_iff.2 ⟨h.1, h.2, kd_le, ?_⟩
  by_cases e : kdF n ln c i = 1
  · exact Or.inl e
  · refine Or.inr ?_
    unfold xL
    rw [if_neg e]
end Go.Proofs.Ytcibogmghagpoaa.Dro
