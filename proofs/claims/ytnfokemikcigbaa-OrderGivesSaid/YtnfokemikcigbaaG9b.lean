import Derived.Test.YtnfokemikcigbaaV9n
namespace Go.Proofs.Ytnfokemikcigbaa.Drw
/- Draws over Nat. -/

/-- The place of the byte that is taken, or where the bytes end. -/
def scan (p : Nat → Nat) (b : Nat) : Nat → Nat → Nat
  | 0, at' => at'
  | k + 1, at' => if p at' / b < 256 / b then at' else scan p b k (at' + 1)
/-- Below: the error, the draw, the place behind. -/
def dS (p : Nat → Nat) (l at' : Nat) (b : Int) : Nat := scan p b.toNat (l - at') at'
def dE (p : Nat → Nat) (l at' : Nat) (b : Int) : Nat := if b < 1 ∨ 256 < b then 2 else if b = 1 then 0 else if dS p l at' b < l then 0 else 3
def dN (p : Nat → Nat) (l at' : Nat) (b : Int) : Nat := if dE p l at' b = 0 then (if b = 1 then at' else dS p l at' b + 1) else 0
/-- All: the places behind the draws, and the draws. -/
def plA (p : Nat → Nat) (l : Nat) (bs : Nat → Int) : Nat → Nat
  | 0 => 0
  | i + 1 => dN p l (plA p l bs i) (bs i)
/-- The draws up to n come off. -/
def okA (p : Nat → Nat) (l : Nat) (bs : Nat → Int) (n : Nat) : Prop := ∀ i, i < n → dE p l (plA p l bs i) (bs i) = 0
end Go.Proofs.Ytnfokemikcigbaa.Drw

namespace Go.Proofs.Ytnfokemikcigbaa.Drw
/- A tape that is turned. -/

section
variable {p : Nat → Nat} {l : Nat} {bs ws : Nat → Int} {n : Nat}
theorem turned (v b w : Nat) (hw : w < b) : (v - v % b + w) / b = v / b ∧ (v - v % b + w) % b = w := by
  have hb : 0 < b := by omega
  have e : v - v % b = b * (v / b) := by have := Nat.div_add_mod v b; omega
  rw [e]
  refine ⟨?_, ?_⟩
  · rw [Nat.mul_add_div hb, Nat.div_eq_of_lt hw, Nat.add_zero]
  · rw [Nat.mul_add_mod, Nat.mod_eq_of_lt hw]
end
end Go.Proofs.Ytnfokemikcigbaa.Drw
