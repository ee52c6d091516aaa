import Derived.Test.YtnfokemikcigbaaC9i
namespace Go.Proofs.Ytnfokemikcigbaa.Win
open Go.RowKit Gf8 Aes By8 Cel Cf
/- Windows in memory of their own; what Open and Add need. Written by tools/mkC9m.py. -/

/-- A function changed at one place. -/
def up {α : Type} (f : Nat → α) (k : Nat) (z : α) (j : Nat) : α := if j = k then z else f j
theorem up_at {α : Type} (f : Nat → α) (k : Nat) (z : α) : up f k z k = z := if_pos rfl
theorem up_ne {α : Type} (f : Nat → α) {k j : Nat} (z : α) (h : j ≠ k) : up f k z j = f j := if_neg h
section
variable {W W' : World} {B n s : Nat} {t : TypeId} {v : Value} {xs : List Value}
theorem ownE_below (h : W.ownsRow B t s v n xs) (hb : Below W.heap.size W W') : W'.ownsRow B t s v n xs := by
  refine ⟨h.1, ?_⟩
  rcases h.2 with h | ⟨g, cap, cur, e, hB, hg, hr⟩
  · exact Or.inl h
  · exact Or.inr ⟨g, cap, cur, e, hB, by rw [hb.block _ (Array.getElem?_eq_some_iff.1 hg).1]; exact hg, hr⟩
theorem ne_type {g k : Nat} {c d : Array Value} {u w : TypeId} (h1 : W.heap[g]? = some (.cells c u)) (h2 : W.heap[k]? = some (.cells d w)) (h : u ≠ w) : k ≠ g := fun q => by
  subst q
  rw [h1] at h2
  injection h2 with h2
  injection h2 with _ h2 _
  exact h h2
theorem heapE_over {g : Nat} {c : Array Value} {u : TypeId} (h : W.ownsRow B t s v n xs) (hg : W.grownBy W' v.ownBlock) (hh : W.heap[g]? = some (.cells c u)) (hu : u ≠ t) : W'.heap[g]? = some (.cells c u) := by
  rw [hg.block g (Array.getElem?_eq_some_iff.1 hh).1 (fun q => ?_)]
  · exact hh
  · rcases h.2 with ⟨rfl, _⟩ | ⟨k, cap, cur, rfl, _, h1, _⟩
    · cases q
    · obtain rfl : g = k := by simpa [Value.ownBlock] using q
      exact ne_type h1 hh (fun e => hu e.symm) rfl
theorem ownE_over {B2 n2 s2 : Nat} {u : Value} {ys : List Value} {t2 : TypeId} (h : W.ownsRow B t s v n xs) (hu : W.ownsRow B2 t2 s2 u n2 ys) (gr : W.grownBy W' u.ownBlock) (ht : t ≠ t2) : W'.ownsRow B t s v n xs := by
  refine ⟨h.1, ?_⟩
  rcases h.2 with h | ⟨g, cap, cur, e, hB, hg, hr⟩
  · exact Or.inl h
  · exact Or.inr ⟨g, cap, cur, e, hB, heapE_over hu gr hg ht, hr⟩
end
section
variable {B n : Nat} {W W' : World} {v : Value} {nu : Nat → Int} {tw : Nat → Value} {ln : Nat → Nat} {t : Nat → Nat → Nat → Nat}
end
section
variable {o : Oper} {a : Act} {w : World}
end
end Go.Proofs.Ytnfokemikcigbaa.Win
