import Derived.Test.YtnfokemikcigbaaF9c
import Derived.Test.YtnfokemikcigbaaF9b
import Derived.Test.YtnfokemikcigbaaF9a
import Derived.Test.YtnfokemikcigbaaP9e
namespace Go.Proofs.Ytnfokemikcigbaa.Prm
open Go.RowKit Gf8 Aes By8 Cel Cf Tap Drw
/- Stage 11's reference: Draws. Written by tools/mkP9g.py. -/

theorem own_offB {W : World} {B n s g k : Nat} {t : TypeId} {v z : Value} {xs : List Value} (h : W.ownsRow B t s v n xs) (hv : v.ownBlock ≠ some g) : (W.setCell ⟨g, k, none⟩ z).ownsRow B t s v n xs := by
  refine ⟨h.1, ?_⟩
  rcases h.2 with h | ⟨g1, cap, cur, e, hB, h1, hr⟩
  · exact Or.inl h
  · refine Or.inr ⟨g1, cap, cur, e, hB, ?_, hr⟩
    subst e
    rw [Below.heap_setCell _ _ _ _ (fun q => hv (by show some g1 = some g; have q2 : g1 = g := q; rw [q2]))]
    exact h1
/-- Three rows of one's own, apart. -/
structure Thr (V W : World) (va vt : Value) (n : Nat) (fa ft : Nat → Int) (u : Value) (nu : Nat) (fu : Nat → Int) : Prop where
  ra : W.ownsRow V.heap.size 3 1 va n (intsL n fa)
  rt : W.ownsRow V.heap.size 3 1 vt n (intsL n ft)
  ru : W.ownsRow V.heap.size 3 1 u nu (intsL nu fu)
  nat : ∀ k, va.ownBlock = some k → vt.ownBlock ≠ some k
  nau : ∀ k, u.ownBlock = some k → va.ownBlock ≠ some k ∧ vt.ownBlock ≠ some k
section
variable {V W W' : World} {va vt u : Value} {n nu g c : Nat} {fa ft fu : Nat → Int}
theorem Thr.on (h : Thr V W va vt n fa ft u nu fu) (b : Below W.heap.size W W') : Thr V W' va vt n fa ft u nu fu := ⟨ownD_below h.ra b, ownD_below h.rt b, ownD_below h.ru b, h.nat, h.nau⟩
theorem Thr.atA {j : Nat} (h : Thr V W va vt n fa ft u nu fu) (e : va = .slice (some ⟨g, 0, none⟩) n c) (hj : j < n) : W.cell? ⟨g, 0 + j, none⟩ = some (.int .i64 (fa j)) ∧ W.frozen? ⟨g, 0 + j, none⟩ = false := by
  have h1 := h.ra
  rw [e] at h1
  exact own_cellI h1 hj
end
end Go.Proofs.Ytnfokemikcigbaa.Prm
