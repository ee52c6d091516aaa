import Derived.Test.YtghnhfigihnciaaGreatC9f
namespace Go.Proofs.YtghnhfigihnciaaGreat.Win
open Go.RowKit Gf8 Aes By8 Cel Cf
/- Two lists in order made one; halves; what the reference's sorted needs. Written by tools/mkC9g.py. -/

section
variable {A B : Nat → Nat} {ma mb i j : Nat} {o : List Nat}
end
section
variable {W : World} {b off n c h : Nat} {t : Nat → Nat → Nat}
theorem Tgs.take {v : Value} (q : Tgs W v n t) (e : v = .slice (some ⟨b, off, none⟩) n c) (hh : h ≤ n) : Tgs W (.slice (some ⟨b, off, none⟩) h c) h t := by
  subst e
  obtain ⟨⟨a, c', e', h1, h2, h3⟩, hb, _⟩ := q
  injection e' with e1 _ e3
  subst e1 e3
  refine ⟨⟨_, _, rfl, by omega, h2, fun h0 => ?_⟩, fun j hj => hb j (by omega), fun l c e => by cases e⟩
  obtain ⟨b', o', e4, e5, e6⟩ := h3 (by omega)
  exact ⟨b', o', e4, e5, fun j hj => e6 j (by omega)⟩
theorem Tgs.drop {v : Value} (q : Tgs W v n t) (e : v = .slice (some ⟨b, off, none⟩) n c) (hh : h ≤ n) : Tgs W (.slice (some ⟨b, off + h * 16, none⟩) (n - h) (c - h)) (n - h) fun k => t (h + k) := by
  subst e
  obtain ⟨⟨a, c', e', h1, h2, h3⟩, hb, _⟩ := q
  injection e' with e1 _ e3
  subst e1 e3
  refine ⟨⟨_, _, rfl, by omega, by omega, fun h0 => ?_⟩, fun j hj => hb _ (by omega), fun l c e => by cases e⟩
  obtain ⟨b', o', e4, e5, e6⟩ := h3 (by omega)
  injection e4 with e4
  injection e4 with e7 e8 _
  subst e7 e8
  exact ⟨b, off + h * 16, rfl, e5, fun j hj i hi => by
    have := e6 (h + j) (by omega) i hi
    rw [show off + h * 16 + j * 16 + i = off + (h + j) * 16 + i by omega]
    exact this⟩
end
section
variable {o : Oper} {a : Act} {w : World}
end
end Go.Proofs.YtghnhfigihnciaaGreat.Win
