import Derived.Test.YtcibogmghagpoaaV9m
namespace Go.Proofs.Ytcibogmghagpoaa.Tap
open Go.RowKit Gf8 Aes By8 Cel Cf
/- append to a row that may bear a mark behind its cells. -/

theorem bytesL_len (n : Nat) (p : Nat → Nat) : (bytesL n p).length = n := by simp [bytesL]
theorem OwnM.some {W : World} {B n : Nat} {v : Value} {p : Nat → Nat} (h : OwnM W B v n p) : ∀ l c, v ≠ .slice none l c := by
  obtain ⟨g, cap, cur, fz, rfl, _⟩ := h
  intro l c e
  cases e
/-- A row of bytes that lies higher than what was written into. -/
theorem OwnM.over {W W' : World} {B b n : Nat} {v : Value} {p : Nat → Nat} {row : Option Nat} (h : OwnM W B v n p) (hg : W.grownBy W' row) (hr : ∀ k, row = Option.some k → k < b) (hb : b ≤ B) : OwnM W' B v n p := by
  obtain ⟨g, cap, cur, fz, e, hB, h1, hrest⟩ := h
  refine ⟨g, cap, cur, fz, e, hB, ?_, hrest⟩
  rw [hg.block g (Array.getElem?_eq_some_iff.1 h1).1 (fun q => ?_)]
  · exact h1
  · have := hr g q.symm
    omega
theorem OwnM.row {W : World} {B n : Nat} {v : Value} {p : Nat → Nat} (h : OwnM W B v n p) : ∀ k, v.ownBlock = Option.some k → B ≤ k ∧ k < W.heap.size := by
  obtain ⟨g, cap, cur, fz, rfl, hB, h1, _⟩ := h
  intro k hk
  obtain rfl : g = k := by simpa [Value.ownBlock] using hk
  exact ⟨hB, (Array.getElem?_eq_some_iff.1 h1).1⟩
theorem shp9 {W : World} {v : Value} {n : Nat} {p : Nat → Nat} (h : SliceN W v n p) : ∃ a c, v = .slice a n c := by
  obtain ⟨a, c, e, _⟩ := h.shape
  exact ⟨a, c, e⟩
section
variable {o : Oper} {a : Act} {w : World}
end
end Go.Proofs.Ytcibogmghagpoaa.Tap
