import Derived.ProofKit
namespace Go.Proofs.Ytdecmmcphcomhaa.Prm
/- Permutations over Nat: one to one, inverses, exchanges (From, Draws), digits (Rank, Unrank). It names nothing of a program. -/

/-- A permutation of n things, over Nat. -/
structure IsP (g : Nat → Nat) (n : Nat) : Prop where
  lt : ∀ i, i < n → g i < n
  inj : ∀ i j, i < n → j < n → g i = g j → i = j
theorem IsP.cg {f g : Nat → Nat} {n : Nat} (h : IsP f n) (e : ∀ i, i < n → f i = g i) : IsP g n :=
  ⟨fun i hi => by rw [← e i hi]; exact h.lt i hi, fun i j hi hj q => h.inj i j hi hj (by rw [e i hi, e j hj]; exact q)⟩
/-- The place of x among the first k (the last such place; 0: there is none). -/
def posN (g : Nat → Nat) (x : Nat) : Nat → Nat
  | 0 => 0
  | k + 1 => if g k = x then k else posN g x k
/-- Two places exchanged. -/
def swp (a : Nat → Nat) (i j : Nat) : Nat → Nat := fun x => if x = i then a j else if x = j then a i else a x
/-- Draws, told from the end: the array behind k exchanges, and draw number k. -/
def drA (n : Nat) (f : Nat → Nat) : Nat → Nat → Nat
  | 0 => id
  | k + 1 => swp (drA n f k) (n - 1 - k) (posN (drA n f k) (f (n - 1 - k)) (n - k))
def drD (n : Nat) (f : Nat → Nat) (k : Nat) : Nat := posN (drA n f k) (f (n - 1 - k)) (n - k)
end Go.Proofs.Ytdecmmcphcomhaa.Prm
