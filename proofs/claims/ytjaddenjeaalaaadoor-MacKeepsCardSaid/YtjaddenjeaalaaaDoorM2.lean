import Derived.Test.YtjaddenjeaalaaaDoorM1
namespace Go.Proofs.YtjaddenjeaalaaaDoor
open Go.RowKit

/-- The cells of a key's two hashes. -/
def kc (a b : HS) : Array Value := a.cells ++ b.cells
theorem kc_size (a b : HS) : (kc a b).size = 146 := by simp [kc, HS.cells, hc_size]
theorem size52' (a b : HS) : (Tryd.prog.info? 52).map (·.size) = some (kc a b).size := by rw [kc_size]; kernel_rfl
theorem kc_one (a b : HS) : (kc a b).all (·.oneCell') = true := by
  unfold kc HS.cells
  rw [Array.all_append, hc_one, hc_one]; rfl
theorem zero52 : ∀ w, (zeroValue 52).run Tryd.prog w = .ok (.agg (kc HS.new HS.new)) w :=
  (zero_of_info (n := 146) (by kernel_rfl)).1
theorem range_k0 {W : World} {B : Nat} {a b : HS} {t : TypeId} (h : W.heap[B]? = some (.cells (kc a b) t)) : W.rangeAt B 0 a.cells.toList := by
  intro j v hv
  have hj : j < 73 := by have := (List.getElem?_eq_some_iff.1 hv).1; simpa [HS.cells, hc_size] using this
  rw [cell_of_row W B (0 + j) _ t (0, 0) h, Nat.zero_add]
  unfold kc
  rw [Array.getElem?_append_left (by simpa [HS.cells, hc_size] using hj)]
  simpa using hv
theorem range_k1 {W : World} {B : Nat} {a b : HS} {t : TypeId} (h : W.heap[B]? = some (.cells (kc a b) t)) : W.rangeAt B 73 b.cells.toList := by
  intro j v hv
  rw [cell_of_row W B (73 + j) _ t (0, 0) h]
  unfold kc
  rw [Array.getElem?_append_right (by simp [HS.cells, hc_size])]
  simp only [HS.cells, hc_size, Nat.add_sub_cancel_left]
  simpa [HS.cells] using hv
theorem hs_len (a : HS) : a.cells.toList.length = 73 := by simp [HS.cells, hc_size]
theorem built52 (a b : HS) : Tryd.prog.built 52 [(0, .agg a.cells), (1, .agg b.cells)] = some (kc a b) := by
  obtain ⟨g, r, n⟩ := a
  obtain ⟨g', r', n'⟩ := b
  kernel_rfl
theorem execField {o : Oper} {a : Act} {w : World} {x : Operand} {b : Nat} (ho : o.op = .fieldAddr 52 x 1) (hx : a.eval x = .pointer (some ⟨b, 0, none⟩)) : (execOp a.eval o).run Tryd.prog w = .ok (.value (.pointer (some ⟨b, 73, none⟩))) w := by
  unfold execOp
  simp only [ho, hx]
  simp [go_sem]
end Go.Proofs.YtjaddenjeaalaaaDoor
