import Derived.Test.YtdecmmcphcomhaaP9a
namespace Go.Proofs.Ytdecmmcphcomhaa.Prm
/- Digits of permutations over Nat (Rank, Unrank), as places in what is left and as counts; the order of permutations. It names nothing of a program. -/

/-- Place k taken out. -/
def rem (a : Nat → Nat) (k : Nat) : Nat → Nat := fun j => if j < k then a j else a (j + 1)
def Inc (a : Nat → Nat) (m : Nat) : Prop := ∀ i j, i < j → j < m → a i < a j
theorem Inc.inj {a : Nat → Nat} {m i j : Nat} (h : Inc a m) (hi : i < m) (hj : j < m) (e : a i = a j) : i = j := by
  rcases Nat.lt_trichotomy i j with q | q | q
  · have := h i j q hj; omega
  · exact q
  · have := h j i q hi; omega
/-- What is left of the numbers behind the first i of f; the place of the next among them. -/
def lf (f : Nat → Nat) (n : Nat) : Nat → Nat → Nat
  | 0 => id
  | i + 1 => rem (lf f n i) (posN (lf f n i) (f i) (n - i))
/-- How many of the first m are below x. -/
def cnt (a : Nat → Nat) (x : Nat) : Nat → Nat
  | 0 => 0
  | m + 1 => cnt a x m + (if a m < x then 1 else 0)
theorem cnt_le (a : Nat → Nat) (x : Nat) : ∀ m, cnt a x m ≤ m
  | 0 => Nat.le_refl _
  | m + 1 => by
    have := cnt_le a x m
    show cnt a x m + _ ≤ m + 1
    by_cases q : a m < x
    · rw [if_pos q]; omega
    · rw [if_neg q]; omega
theorem cnt_all {a : Nat → Nat} {x : Nat} : ∀ {m}, (∀ j, j < m → a j < x) → cnt a x m = m
  | 0, _ => rfl
  | m + 1, h => by
    show cnt a x m + _ = m + 1
    rw [cnt_all (m := m) (fun j hj => h j (by omega)), if_pos (h m (by omega))]
end Go.Proofs.Ytdecmmcphcomhaa.Prm
