import Derived.Test.YtedjoakpbknflaaDoorK0
import Derived.Test.YtedjoakpbknflaaDoorK2
import Derived.Test.YtedjoakpbknflaaDoorB6
import Derived.Test.YtedjoakpbknflaaDoorC1
namespace Go.Proofs.YtedjoakpbknflaaDoor
namespace Hs
open Go.RowKit

theorem firstL_succ (f : Nat → Int) (k : Nat) : firstL f k ++ [f k] = firstL f (k + 1) := by simp [firstL, List.range_succ]
theorem firstL_len (f : Nat → Int) (k : Nat) : (firstL f k).length = k := by simp [firstL]
theorem firstL_congr {f g : Nat → Int} {k : Nat} (h : ∀ i, i < k → f i = g i) : firstL f k = firstL g k := by
  unfold firstL
  apply List.map_congr_left
  intro i hi
  exact h i (List.mem_range.1 hi)
theorem firstL_get {f : Nat → Int} {k j : Nat} (h : j < k) : (vals (firstL f k))[j]? = some (.int .u8 (f j)) := by simp [vals, firstL, h]
/-- A row of one's own is a []byte. -/
theorem sliceB_own {W : World} {B n : Nat} {v : Value} {f : Nat → Int} (h : W.ownsRow B 5 1 v n (vals (firstL f n))) (hb : ∀ j, j < n → 0 ≤ f j ∧ f j < 256) : SliceB W v n f := by
  rcases h.2 with ⟨rfl, rfl⟩ | ⟨g, cap, cur, rfl, _, hg, h1, h2, h3, h4⟩
  · exact ⟨⟨none, 0, rfl, Nat.le_refl _, by omega, fun h0 => by omega⟩, hb⟩
  · refine ⟨⟨_, _, rfl, h1, by unfold maxLen at h2; omega, fun _ => ⟨g, 0, rfl, (Array.getElem?_eq_some_iff.1 hg).1, fun j hj => ?_⟩⟩, hb⟩
    rw [cell_of_row _ _ _ _ _ _ hg, Nat.zero_add]
    have e : (cur.toList.take (n * 1))[j]? = some (.int .u8 (f j)) := by rw [h4]; exact firstL_get hj
    rw [List.getElem?_take, if_pos (by omega)] at e
    simpa using e
theorem own_nil {W : World} {B n : Nat} {v : Value} {xs : List Value} (h : W.ownsRow B 5 1 v n xs) : ∀ cap, v = .slice none n cap → cap = 0 := by
  intro cap e
  rcases h.2 with ⟨rfl, _⟩ | ⟨g, cap', cur, rfl, _⟩
  · cases e; rfl
  · cases e
theorem own_below {W W' : World} {B n : Nat} {v : Value} {xs : List Value} (h : W.ownsRow B 5 1 v n xs) (hb : Below W.heap.size W W') : W'.ownsRow B 5 1 v n xs := by
  refine ⟨h.1, ?_⟩
  rcases h.2 with h0 | ⟨g, cap, cur, e, h1, hg, h2⟩
  · exact Or.inl h0
  · exact Or.inr ⟨g, cap, cur, e, h1, by rw [hb.block _ (Array.getElem?_eq_some_iff.1 hg).1]; exact hg, h2⟩
/-- One list behind the other. -/
def cat (f : Nat → Int) (n : Nat) (g : Nat → Int) : Nat → Int := fun i => if i < n then f i else g (i - n)
theorem firstL_cat (f : Nat → Int) (n : Nat) (g : Nat → Int) (m : Nat) : firstL f n ++ firstL g m = firstL (cat f n g) (n + m) := by
  unfold firstL
  rw [List.range_add, List.map_append, List.map_map]
  congr 1
  · apply List.map_congr_left
    intro i hi
    simp [cat, List.mem_range.1 hi]
  · apply List.map_congr_left
    intro i _
    simp [cat]
    omega
theorem addN_cat (s : HS) (f : Nat → Int) (n : Nat) (g : Nat → Int) (m : Nat) : addN s (cat f n g) (n + m) = addN (addN s f n) g m := by
  rw [addN_add]
  have e1 : addN s (cat f n g) n = addN s f n := addN_congr s n fun i hi => by simp [cat, hi]
  have e2 : (fun i => cat f n g (n + i)) = g := by funext i; simp [cat]; omega
  rw [e1, e2]
theorem cat_bd {f g : Nat → Int} {n m : Nat} (hf : ∀ j, j < n → 0 ≤ f j ∧ f j < 256) (hg : ∀ j, j < m → 0 ≤ g j ∧ g j < 256) : ∀ j, j < n + m → 0 ≤ cat f n g j ∧ cat f n g j < 256 := by
  intro j hj
  unfold cat
  split
  · exact hf j (by assumption)
  · exact hg _ (by omega)
/-- What append asks of its source. -/
theorem src_of {W : World} {ao : Option Addr} {l c : Nat} {p : Nat → Int} (h : SliceB W (.slice ao l c) l p) (hn : ao = none → c = 0) :
    (ao = none ∧ l = 0 ∧ c = 0) ∨ ∃ ad, ao = some ad ∧ ∀ j u, (vals (firstL p l))[j]? = some u → W.cell? (ad.add j) = some u := by
  obtain ⟨⟨a', c', e, h1, _, h3⟩, _⟩ := h
  cases e
  cases ao with
  | none => exact Or.inl ⟨rfl, by have := hn rfl; omega, hn rfl⟩
  | some ad =>
    refine Or.inr ⟨ad, rfl, fun j u hu => ?_⟩
    have hj : j < l := by have := (List.getElem?_eq_some_iff.1 hu).1; simpa [vals, firstL] using this
    obtain ⟨b, off, e, _, hc⟩ := h3 (by omega)
    cases e
    rw [Addr.add_mid, hc j hj]
    rw [firstL_get hj] at hu
    exact hu
/-- A row whose first n bytes are f. -/
def RowP (W : World) (g n : Nat) (f : Nat → Int) : Prop := ∃ cur, W.heap[g]? = some (.cells cur 5) ∧ ∀ j, j < n → cur[j]? = some (.int .u8 (f j))
theorem RowP.lt {W : World} {g n : Nat} {f : Nat → Int} (h : RowP W g n f) : g < W.heap.size := by
  obtain ⟨cur, h1, _⟩ := h
  exact (Array.getElem?_eq_some_iff.1 h1).1
theorem RowP.of_block {W W' : World} {g n : Nat} {f : Nat → Int} (h : RowP W g n f) (hb : W'.heap[g]? = W.heap[g]?) : RowP W' g n f := by
  obtain ⟨cur, h1, h2⟩ := h
  exact ⟨cur, by rw [hb]; exact h1, h2⟩
theorem RowP.below {W W' : World} {g n : Nat} {f : Nat → Int} (h : RowP W g n f) (hb : Below W.heap.size W W') : RowP W' g n f := h.of_block (hb.block _ h.lt)
theorem RowP.sliceB {W : World} {g n l cap : Nat} {f : Nat → Int} (h : RowP W g n f) (hl : l ≤ n) (hc : l ≤ cap) (hm : cap ≤ maxLen) (hb : ∀ j, j < l → 0 ≤ f j ∧ f j < 256) : SliceB W (.slice (some ⟨g, 0, none⟩) l cap) l f := by
  have hlt := h.lt
  obtain ⟨cur, h1, h2⟩ := h
  refine ⟨⟨_, _, rfl, hc, by unfold maxLen at hm; omega, fun _ => ⟨g, 0, rfl, hlt, fun j hj => ?_⟩⟩, hb⟩
  rw [cell_of_row _ _ _ _ _ _ h1, Nat.zero_add]
  exact h2 j (by omega)
theorem own_rowP {W : World} {B n : Nat} {v : Value} {f : Nat → Int} (h : W.ownsRow B 5 1 v n (vals (firstL f n))) (hn : 0 < n) : ∃ g cap, v = .slice (some ⟨g, 0, none⟩) n cap ∧ B ≤ g ∧ n ≤ cap ∧ cap ≤ maxLen ∧ RowP W g n f := by
  rcases h.2 with ⟨_, rfl⟩ | ⟨g, cap, cur, rfl, hb, hg, h1, h2, _, h4⟩
  · omega
  · refine ⟨g, cap, rfl, hb, h1, h2, cur, hg, fun j hj => ?_⟩
    have e : (cur.toList.take (n * 1))[j]? = some (.int .u8 (f j)) := by rw [h4]; exact firstL_get hj
    rw [List.getElem?_take, if_pos (by omega)] at e
    simpa using e
end Hs
end Go.Proofs.YtedjoakpbknflaaDoor
