import Derived.Test.YtmlealepeoefpaaG9e
namespace Go.Proofs.Ytmlealepeoefpaa.Drw
open Go.RowKit Gf8 Aes By8 Cel Cf Tap
/- The reference's All. Written by tools/mkG9f.py. -/

theorem okA_succ {p : Nat → Nat} {l : Nat} {bs : Nat → Int} {n : Nat} (h : okA p l bs n) (e : dE p l (plA p l bs n) (bs n) = 0) : okA p l bs (n + 1) := fun i hi => by
  by_cases q : i = n
  · subst q; exact e
  · exact h i (by omega)
theorem ownD_below {W W' : World} {B n : Nat} {v : Value} {xs : List Value} {t : TypeId} {s : Nat} (h : W.ownsRow B t s v n xs) (hb : Below W.heap.size W W') : W'.ownsRow B t s v n xs := by
  refine ⟨h.1, ?_⟩
  rcases h.2 with h | ⟨g, cap, cur, e, hB, hg, hr⟩
  · exact Or.inl h
  · exact Or.inr ⟨g, cap, cur, e, hB, on9 hg hb, hr⟩
theorem ownD_base {W : World} {B C t s n : Nat} {v : Value} {xs : List Value} (h : W.ownsRow C t s v n xs) (hB : B ≤ C) : W.ownsRow B t s v n xs := by
  refine ⟨h.1, ?_⟩
  rcases h.2 with h | ⟨g, cap, cur, e, hC, h1⟩
  · exact Or.inl h
  · exact Or.inr ⟨g, cap, cur, e, Nat.le_trans hB hC, h1⟩
end Go.Proofs.Ytmlealepeoefpaa.Drw
