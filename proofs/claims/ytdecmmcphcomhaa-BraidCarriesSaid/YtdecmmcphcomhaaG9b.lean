import Derived.Test.YtdecmmcphcomhaaV9n
namespace Go.Proofs.Ytdecmmcphcomhaa.Drw
/- Draws over Nat. -/

/-- A bound that is none. -/
abbrev bad (b : Int) : Prop := b < 1 ∨ 256 < b
end Go.Proofs.Ytdecmmcphcomhaa.Drw

namespace Go.Proofs.Ytdecmmcphcomhaa.Drw
/- A tape that is turned. -/

section
variable {p : Nat → Nat} {l : Nat} {bs ws : Nat → Int} {n : Nat}
theorem turned (v b w : Nat) (hw : w < b) : (v - v % b + w) / b = v / b ∧ (v - v % b + w) % b = w := by
  have hb : 0 < b := by omega
  have e : v - v % b = b * (v / b) := by have := Nat.div_add_mod v b; omega
  rw [e]
  refine ⟨?_, ?_⟩
  · rw [Nat.mul_add_div hb, Nat.div_eq_of_lt hw, Nat.add_zero]
  · rw [Nat.mul_add_mod, Nat.mod_eq_of_lt hw]
end
end Go.Proofs.Ytdecmmcphcomhaa.Drw
