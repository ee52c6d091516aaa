import Derived.Test.YtghnhfigihnciaaGreatC9q
namespace Go.Proofs.YtghnhfigihnciaaGreat.Win
open Go.RowKit Gf8 Aes By8 Cel Cf
/- WindowNames, WindowOpens, WindowAdds, WindowChecks over what the package keeps. Written by tools/mkC9s.py. -/

theorem Eps.cg {W : World} {v : Value} {n : Nat} {nu mu : Nat → Int} {tw : Nat → Value} {ln lm : Nat → Nat} {t : Nat → Nat → Nat → Nat} (h : Eps W v n nu tw ln t) (h1 : ∀ j, j < n → nu j = mu j) (h2 : ∀ j, j < n → ln j = lm j) : Eps W v n mu tw lm t := by
  obtain ⟨⟨a, c, e, q1, q2, q3⟩, hl, hn⟩ := h
  refine ⟨⟨a, c, e, q1, q2, fun h0 => ?_⟩, fun j hj => by rw [← h2 j hj]; exact hl j hj, fun j hj => by rw [← h1 j hj]; exact hn j hj⟩
  obtain ⟨b, o, e1, e2, e3⟩ := q3 h0
  exact ⟨b, o, e1, e2, fun j hj => by rw [← h1 j hj]; exact e3 j hj⟩
section
variable {o : Oper} {a : Act} {w : World}
end
end Go.Proofs.YtghnhfigihnciaaGreat.Win
