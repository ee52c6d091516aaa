import Derived.Test.YtghnhfigihnciaaGreatRows
namespace Go.Proofs.YtghnhfigihnciaaGreat.Win
/- Lists in order, each number once; tags as numbers. Names nothing of a program. -/

def Inc (l : List Nat) : Prop := l.Pairwise (· < ·)
theorem Inc.nil : Inc [] := List.Pairwise.nil
/-- Put into a list in order. -/
def ins (x : Nat) : List Nat → List Nat
  | [] => [x]
  | y :: l => if x < y then x :: y :: l else if x = y then y :: l else y :: ins x l
/-- A list's numbers in order, each once. -/
def srt : List Nat → List Nat
  | [] => []
  | x :: l => ins x (srt l)
/-- A tag as a number. -/
def tv (b : Nat → Nat) : Nat → Nat
  | 0 => 0
  | k + 1 => tv b k * 256 + b k
theorem tv_eq {b c : Nat → Nat} (h : ∀ j, j < 16 → b j = c j) : tv b 16 = tv c 16 := by
  have : ∀ k, k ≤ 16 → tv b k = tv c k := fun k => by
    induction k with
    | zero => intro _; rfl
    | succ k ih => intro hk; show tv b k * 256 + b k = tv c k * 256 + c k; rw [ih (by omega), h k (by omega)]
  exact this 16 (Nat.le_refl _)
theorem tv_back {b c : Nat → Nat} (hb : ∀ i, i < 16 → b i < 256) (hc : ∀ i, i < 16 → c i < 256) : ∀ n, n ≤ 16 → tv b n = tv c n → ∀ j, j < n → b j = c j
  | 0, _, _, j, h => by omega
  | n + 1, hn, e, j, h => by
    have e2 : tv b n * 256 + b n = tv c n * 256 + c n := e
    have h1 := hb n (by omega)
    have h2 := hc n (by omega)
    by_cases q : j = n
    · subst q; omega
    · exact tv_back hb hc n (by omega) (by omega) j (by omega)
theorem tv_iff {b c : Nat → Nat} (hb : ∀ i, i < 16 → b i < 256) (hc : ∀ i, i < 16 → c i < 256) : tv b 16 = tv c 16 ↔ ∀ j, j < 16 → b j = c j := ⟨tv_back hb hc 16 (Nat.le_refl _), tv_eq⟩
end Go.Proofs.YtghnhfigihnciaaGreat.Win
