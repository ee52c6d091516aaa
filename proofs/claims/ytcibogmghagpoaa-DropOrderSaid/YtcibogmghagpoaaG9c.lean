import Derived.Test.YtcibogmghagpoaaV9n
namespace Go.Proofs.Ytcibogmghagpoaa.Drw
/- Draws in pieces, and of other tapes that begin alike. -/

/-- Two lists of bounds, one behind the other. -/
def catI (m : Nat) (a b : Nat → Int) : Nat → Int := fun i => if i < m then a i else b (i - m)
theorem catI_lo {m i : Nat} {a b : Nat → Int} (h : i < m) : catI m a b i = a i := if_pos h
theorem catI_hi {m i : Nat} {a b : Nat → Int} : catI m a b (m + i) = b i := by unfold catI; rw [if_neg (by omega), Nat.add_sub_cancel_left]
section
variable {p : Nat → Nat} {l m : Nat} {a b : Nat → Int}
end
end Go.Proofs.Ytcibogmghagpoaa.Drw
