
namespace Go.Proofs.Ytmfaapbhehhlpaa.Noi
/- The noise's weights and table over Nat. -/

/-- The weights, their sums, the table, the number that a draw tells. -/
def wN (a d : Nat) : Nat → Nat
  | 0 => 4294967296
  | k + 1 => wN a d k * a / d
def uN (a d : Nat) : Nat → Nat
  | 0 => wN a d 0
  | k + 1 => uN a d k + wN a d (k + 1)
def tbN (a d m k : Nat) : Nat := 65536 * uN a d k / uN a d m
def coN (f : Nat → Nat) (u : Nat) : Nat → Nat
  | 0 => 0
  | k + 1 => coN f u k + (if f k ≤ u then 1 else 0)
section
variable {a d m k l u : Nat}
theorem w_fall (h : a ≤ d) (k : Nat) : wN a d (k + 1) ≤ wN a d k := by
  show wN a d k * a / d ≤ wN a d k
  rcases Nat.eq_zero_or_pos d with e | e
  · rw [e, Nat.div_zero]; exact Nat.zero_le _
  · exact Nat.div_le_of_le_mul (by rw [Nat.mul_comm d]; exact Nat.mul_le_mul_left _ h)
theorem w_le (h : a ≤ d) : ∀ k, wN a d k ≤ 4294967296
  | 0 => Nat.le_refl _
  | k + 1 => Nat.le_trans (w_fall h k) (w_le h k)
theorem u_le (h : a ≤ d) : ∀ k, uN a d k ≤ (k + 1) * 4294967296
  | 0 => by show 4294967296 ≤ (0 + 1) * 4294967296; omega
  | k + 1 => by
    have h1 := u_le h k
    have h2 := w_le h (k + 1)
    show uN a d k + wN a d (k + 1) ≤ _
    omega
theorem u_ge : ∀ k, 4294967296 ≤ uN a d k
  | 0 => Nat.le_refl _
  | k + 1 => Nat.le_trans (u_ge k) (Nat.le_add_right _ _)
theorem u_mono (h : k ≤ l) : uN a d k ≤ uN a d l := by
  induction l with
  | zero => rw [show k = 0 by omega]; exact Nat.le_refl _
  | succ l ih =>
    by_cases e : k = l + 1
    · rw [e]; exact Nat.le_refl _
    · exact Nat.le_trans (ih (by omega)) (Nat.le_add_right _ _)
theorem tb_mono (h : k ≤ l) : tbN a d m k ≤ tbN a d m l := Nat.div_le_div_right (Nat.mul_le_mul_left _ (u_mono h))
theorem tb_last : tbN a d m m = 65536 := Nat.mul_div_cancel _ (by have := u_ge (a := a) (d := d) m; omega)
theorem tb_le (h : k ≤ m) : tbN a d m k ≤ 65536 := by rw [← tb_last (a := a) (d := d) (m := m)]; exact tb_mono h
end
section
variable {f : Nat → Nat} {u k l m n : Nat}
theorem co_all (h : ∀ i, i < n → f i ≤ u) : coN f u n = n := by
  induction n with
  | zero => rfl
  | succ n ih =>
    show coN f u n + (if f n ≤ u then 1 else 0) = n + 1
    rw [ih (fun i hi => h i (by omega)), if_pos (h n (by omega))]
theorem co_stop (hm : ∀ i j, i ≤ j → j < n → f i ≤ f j) (hk : k < n) (h1 : ∀ i, i < k → f i ≤ u) (h2 : u < f k) : coN f u n = k := by
  induction n with
  | zero => omega
  | succ n ih =>
    show coN f u n + (if f n ≤ u then 1 else 0) = k
    by_cases e : k = n
    · subst e
      rw [co_all h1, if_neg (by omega)]
      rfl
    · rw [ih (fun i j hij hj => hm i j hij (by omega)) (by omega), if_neg (by have := hm k n (by omega) (by omega); omega)]
      rfl
end
end Go.Proofs.Ytmfaapbhehhlpaa.Noi
