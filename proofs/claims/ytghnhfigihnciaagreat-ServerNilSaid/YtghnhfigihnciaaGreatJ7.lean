import Derived.Test.YtghnhfigihnciaaGreatJ6
namespace Go.Proofs.YtghnhfigihnciaaGreat.Aes
open Go.RowKit Gf8

/-- The rows of With: the round keys, the block, the answer's place. -/
structure WtT (A : Nat) (w st : Nat → Nat) (V W : World) : Prop where
  ww : W.heap[A]? = some (.cells (bA 176 w) 155)
  bb : W.heap[A + 1]? = some (.cells (bA 16 st) 74)
  rr : W.heap[A + 2]? = some (.cells (bA 16 fun _ => 0) 74)
  bel : Below A V W
theorem WtT.lt {A : Nat} {w st : Nat → Nat} {V W : World} (h : WtT A w st V W) : A + 2 < W.heap.size := (Array.getElem?_eq_some_iff.1 h.rr).1
theorem WtT.on {A : Nat} {w st : Nat → Nat} {V W W' : World} (h : WtT A w st V W) (hb : Below W.heap.size W W') : WtT A w st V W' := by
  have l := h.lt
  exact ⟨by rw [hb.block _ (by omega)]; exact h.ww, by rw [hb.block _ (by omega)]; exact h.bb, by rw [hb.block _ (by omega)]; exact h.rr, h.bel.trans (hb.mono (by omega))⟩
theorem WtT.cell {A T : Nat} {w st : Nat → Nat} {V W : World} (h : WtT A w st V W) (hT : A + 2 < T) {f : Nat → Nat} {t : TypeId} (g : W.heap[T]? = some (.cells (bA 16 f) t)) (k : Nat) (v : Value) : WtT A w st V (W.setCell ⟨T, k, none⟩ v) := by
  refine ⟨?_, ?_, ?_, h.bel.setCell (by simp; omega) _⟩
  · rw [heap4o _ g (by omega)]; exact h.ww
  · rw [heap4o _ g (by omega)]; exact h.bb
  · rw [heap4o _ g (by omega)]; exact h.rr

end Go.Proofs.YtghnhfigihnciaaGreat.Aes
