import Derived.Test.YtghnhfigihnciaaGreatJ8
namespace Go.Proofs.YtghnhfigihnciaaGreat.Aes
open Go.RowKit Gf8

/-- The rows of Decrypt. -/
structure DcT (A B C : Nat) (w st : Nat → Nat) (V W : World) : Prop where
  bb : W.heap[A + 1]? = some (.cells (bA 16 st) 74)
  rr : W.heap[A + 2]? = some (.cells (bA 16 fun _ => 0) 74)
  ww : W.heap[B]? = some (.cells (bA 176 w) 155)
  tt : W.heap[C]? = some (.cells (bA 256 guns) 336)
  ab : A + 2 < B
  bc : B < C
  bel : Below A V W
theorem DcT.lt {A B C : Nat} {w st : Nat → Nat} {V W : World} (h : DcT A B C w st V W) : C < W.heap.size := (Array.getElem?_eq_some_iff.1 h.tt).1
theorem DcT.on {A B C : Nat} {w st : Nat → Nat} {V W W' : World} (h : DcT A B C w st V W) (hb : Below W.heap.size W W') : DcT A B C w st V W' := by
  have l := h.lt
  have l1 := h.ab
  have l2 := h.bc
  exact ⟨by rw [hb.block _ (by omega)]; exact h.bb, by rw [hb.block _ (by omega)]; exact h.rr, by rw [hb.block _ (by omega)]; exact h.ww, by rw [hb.block _ (by omega)]; exact h.tt, l1, l2, h.bel.trans (hb.mono (by omega))⟩
theorem DcT.cell {A B C T : Nat} {w st : Nat → Nat} {V W : World} (h : DcT A B C w st V W) (hT : C < T) {f : Nat → Nat} {t : TypeId} (g : W.heap[T]? = some (.cells (bA 16 f) t)) (k : Nat) (v : Value) : DcT A B C w st V (W.setCell ⟨T, k, none⟩ v) := by
  have l1 := h.ab
  have l2 := h.bc
  refine ⟨?_, ?_, ?_, ?_, l1, l2, h.bel.setCell (by simp; omega) _⟩
  · rw [heap4o _ g (by omega)]; exact h.bb
  · rw [heap4o _ g (by omega)]; exact h.rr
  · rw [heap4o _ g (by omega)]; exact h.ww
  · rw [heap4o _ g (by omega)]; exact h.tt

end Go.Proofs.YtghnhfigihnciaaGreat.Aes
