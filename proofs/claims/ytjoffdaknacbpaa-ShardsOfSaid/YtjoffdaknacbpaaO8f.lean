import Derived.Test.YtjoffdaknacbpaaO8e
namespace Go.Proofs.Ytjoffdaknacbpaa.Sha
open Go.RowKit Gf8 Aes By8 Cel Cf Win Drw
open Go.ChangeMaps Go.MapKept
/- The program's New, made, of, Offer, Lowest, Len. Written by tools/mkO8f.py. -/

section
variable {o : Oper} {a : Act} {w : World}
end
theorem neT {W : World} {g k : Nat} {c d : Array Value} {t u : TypeId} (hg : W.heap[g]? = some (.cells c t)) (hk : W.heap[k]? = some (.cells d u)) (h : t ≠ u) : g ≠ k := by
  rintro rfl
  rw [hg] at hk
  cases hk
  exact h rfl
/-- A filter under way: the first i shards have their maps. -/
structure NwS (W : World) (B sb fb n i : Nat) (mb : Nat → Nat) : Prop where
  f : W.heap[fb]? = some (.cells #[.slice (some ⟨sb, 0, none⟩) n n] 57)
  s : W.heap[sb]? = some (.cells (shA n fun j => if j < i then some (mb j) else none) 67)
  m : ∀ j, j < i → MP W (mb j) []
  inj : ∀ p q, p < i → q < i → mb p = mb q → p = q
  rg : B ≤ fb ∧ B ≤ sb ∧ ∀ j, j < i → B ≤ mb j
theorem NwS.on {W X : World} {B sb fb n i : Nat} {mb : Nat → Nat} (h : NwS W B sb fb n i mb) (hb : Below W.heap.size W X) : NwS X B sb fb n i mb :=
  ⟨on9 h.f hb, on9 h.s hb, fun j hj => (h.m j hj).on hb, h.inj, h.rg⟩
/-- A new map beside it. -/
structure NwM (W : World) (B sb fb n i : Nat) (mb : Nat → Nat) (b : Nat) : Prop where
  h : NwS W B sb fb n i mb
  p : MP W b []
  d : ∀ j, j < i → mb j ≠ b
  g : B ≤ b
theorem NwM.on {W X : World} {B sb fb n i b : Nat} {mb : Nat → Nat} (h : NwM W B sb fb n i mb b) (hb : Below W.heap.size W X) : NwM X B sb fb n i mb b := ⟨h.h.on hb, h.p.on hb, h.d, h.g⟩
theorem NwS.map {W : World} {B sb fb n i : Nat} {mb : Nat → Nat} (h : NwS W B sb fb n i mb) (hB : B ≤ W.heap.size) : NwM (W.alloc (.map #[] 0)) B sb fb n i mb W.heap.size :=
  ⟨h.on (belNew W _), mp_new W, fun j hj e => by have := (h.m j hj).lt; omega, hB⟩
def upB (mb : Nat → Nat) (i b : Nat) : Nat → Nat := fun j => if j = i then b else mb j
theorem shA_set (n i b : Nat) (mb : Nat → Nat) (hi : i < n) : (shA n fun j => if j < i then some (mb j) else none).setIfInBounds (i * 3 + 2) (.map (some b)) = shA n fun j => if j < i + 1 then some (upB mb i b j) else none := by
  apply Array.ext_getElem?
  intro k
  by_cases h : k < n * 3
  · obtain ⟨j, r, hr, rfl⟩ : ∃ j r, r < 3 ∧ k = j * 3 + r := ⟨k / 3, k % 3, by omega, by omega⟩
    obtain ⟨a1, a2, a3⟩ := shA_at (n := n) (i := j) (fun j => if j < i then some (mb j) else none) (by omega)
    obtain ⟨b1, b2, b3⟩ := shA_at (n := n) (i := j) (fun j => if j < i + 1 then some (upB mb i b j) else none) (by omega)
    by_cases e : i * 3 + 2 = j * 3 + r
    · obtain ⟨rfl, rfl⟩ : r = 2 ∧ j = i := ⟨by omega, by omega⟩
      rw [Array.getElem?_setIfInBounds_self_of_lt (by rw [shA_size]; omega), b3, if_pos (by omega)]
      unfold upB
      rw [if_pos rfl]
    · rw [Array.getElem?_setIfInBounds_ne e]
      match r, hr with
      | 0, _ => exact a1.trans b1.symm
      | 1, _ => exact a2.trans b2.symm
      | 2, _ =>
        rw [a3, b3]
        have hj : j ≠ i := by omega
        unfold upB
        rw [if_neg hj]
        by_cases q : j < i
        · rw [if_pos q, if_pos (by omega)]
        · rw [if_neg q, if_neg (by omega)]
  · rw [Array.getElem?_eq_none (by simp [shA_size]; omega), Array.getElem?_eq_none (by rw [shA_size]; omega)]
theorem NwM.put {W : World} {B sb fb n i b : Nat} {mb : Nat → Nat} (h : NwM W B sb fb n i mb b) (hi : i < n) : NwS (W.setCell ⟨sb, i * 3 + 2, none⟩ (.map (some b))) B sb fb n (i + 1) (upB mb i b) := by
  have hne : fb ≠ sb := neT h.h.f h.h.s (by decide)
  refine ⟨?_, ?_, fun j hj => ?_, fun p q hp hq e => ?_, h.h.rg.1, h.h.rg.2.1, fun j hj => ?_⟩
  · rw [heap4o _ h.h.s hne]; exact h.h.f
  · rw [heap4 _ h.h.s, shA_set n i b mb hi]
  · by_cases q : j = i
    · subst q
      unfold upB
      rw [if_pos rfl]
      exact h.p.keep (heap4o _ h.h.s (mp_ne h.p h.h.s))
    · unfold upB
      rw [if_neg q]
      exact (h.h.m j (by omega)).keep (heap4o _ h.h.s (mp_ne (h.h.m j (by omega)) h.h.s))
  · unfold upB at e
    by_cases p1 : p = i
    · by_cases q1 : q = i
      · rw [p1, q1]
      · rw [if_pos p1, if_neg q1] at e
        exact absurd e.symm (h.d q (by omega))
    · by_cases q1 : q = i
      · rw [if_neg p1, if_pos q1] at e
        exact absurd e (h.d p (by omega))
      · rw [if_neg p1, if_neg q1] at e
        exact h.h.inj p q (by omega) (by omega) e
  · unfold upB
    by_cases q : j = i
    · rw [if_pos q]; exact h.g
    · rw [if_neg q]; exact h.h.rg.2.2 j (by omega)
/-- A filter that was offered the first k of o; nil was offered nothing. -/
def Flr (W : World) (lo hi : Nat) (v : Value) (o : Nat → Off) (k : Nat) : Prop :=
  (v = .pointer none ∧ k = 0) ∨ ∃ fb sb mb n S, v = .pointer (some ⟨fb, 0, none⟩) ∧ Fl W lo hi fb sb mb n S ∧ FI n S o k
theorem Flr.on {W X : World} {lo hi : Nat} {v : Value} {o : Nat → Off} {k : Nat} (h : Flr W lo hi v o k) (hb : Below W.heap.size W X) : Flr X lo hi v o k := by
  rcases h with h | ⟨fb, sb, mb, n, S, h1, h2, h3⟩
  · exact Or.inl h
  · exact Or.inr ⟨fb, sb, mb, n, S, h1, h2.on hb, h3⟩
theorem Flr.cg {W : World} {lo hi : Nat} {v : Value} {o p : Nat → Off} {k : Nat} (h : Flr W lo hi v o k) (e : ∀ j, j < k → o j = p j) : Flr W lo hi v p k := by
  rcases h with h | ⟨fb, sb, mb, n, S, h1, h2, h3⟩
  · exact Or.inl h
  · exact Or.inr ⟨fb, sb, mb, n, S, h1, h2, h3.cg e⟩
theorem Flr.keep {W X : World} {lo hi : Nat} {v : Value} {o : Nat → Off} {k : Nat} (h : Flr W lo hi v o k) (e : ∀ b, lo ≤ b → b < hi → X.heap[b]? = W.heap[b]?) : Flr X lo hi v o k := by
  rcases h with h | ⟨fb, sb, mb, n, S, h1, h2, h3⟩
  · exact Or.inl h
  · exact Or.inr ⟨fb, sb, mb, n, S, h1, h2.keep e, h3⟩
theorem Flr.offT {W X : World} {lo hi g : Nat} {v : Value} {o : Nat → Off} {k : Nat} {c : Array Value} {t : TypeId} (h : Flr W lo hi v o k) (hg : W.heap[g]? = some (.cells c t)) (h1 : t ≠ 57) (h2 : t ≠ 67) (gr : W.grownBy X (some g)) : Flr X lo hi v o k := by
  rcases h with h | ⟨fb, sb, mb, n, S, q1, q2, q3⟩
  · exact Or.inl h
  · exact Or.inr ⟨fb, sb, mb, n, S, q1, q2.offT hg h1 h2 gr, q3⟩
end Go.Proofs.Ytjoffdaknacbpaa.Sha
