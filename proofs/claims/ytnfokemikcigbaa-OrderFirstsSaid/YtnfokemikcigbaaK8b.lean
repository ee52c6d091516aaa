import Derived.Test.YtnfokemikcigbaaK8a
namespace Go.Proofs.Ytnfokemikcigbaa.Ord
open Go.RowKit Gf8 Aes By8 Cel Cf Win Drw Prm
open Go.ChangeMaps Go.MapKept
/- Executions of stage 20's types. Written by tools/mkK8b.py. -/

section
variable {o : Oper} {a : Act} {w : World}
theorem execNl20 {P : Program} {x : Operand} {ad : Addr} (ho : o.op = .nilCheck x) (hx : a.eval x = .pointer (some ad)) : (execOp a.eval o).run P w = .ok (.value (.pointer (some ad))) w := by
  unfold execOp
  simp only [ho, hx]
  simp [go_sem]
theorem execFzF0 {x : Operand} {b : Nat} (ho : o.op = .fieldAddr 46 x 0) (hx : a.eval x = .pointer (some ⟨b, 0, none⟩)) : (execOp a.eval o).run Try.prog w = .ok (.value (.pointer (some ⟨b, 0, none⟩))) w := by
  unfold execOp
  simp only [ho, hx]
  simp [go_sem]
theorem execFzF1 {x : Operand} {b : Nat} (ho : o.op = .fieldAddr 46 x 1) (hx : a.eval x = .pointer (some ⟨b, 0, none⟩)) : (execOp a.eval o).run Try.prog w = .ok (.value (.pointer (some ⟨b, 1, none⟩))) w := by
  unfold execOp
  simp only [ho, hx]
  simp [go_sem]
theorem execFzN0 {x : Operand} {b : Nat} (ho : o.op = .fieldAddr 53 x 0) (hx : a.eval x = .pointer (some ⟨b, 0, none⟩)) : (execOp a.eval o).run Try.prog w = .ok (.value (.pointer (some ⟨b, 0, none⟩))) w := by
  unfold execOp
  simp only [ho, hx]
  simp [go_sem]
theorem execFqN0 {x : Operand} {b k : Nat} (ho : o.op = .fieldAddr 53 x 0) (hx : a.eval x = .pointer (some ⟨b, k, none⟩)) : (execOp a.eval o).run Try.prog w = .ok (.value (.pointer (some ⟨b, k, none⟩))) w := by
  unfold execOp
  simp only [ho, hx]
  simp [go_sem]
theorem execFzN1 {x : Operand} {b : Nat} (ho : o.op = .fieldAddr 53 x 1) (hx : a.eval x = .pointer (some ⟨b, 0, none⟩)) : (execOp a.eval o).run Try.prog w = .ok (.value (.pointer (some ⟨b, 1, none⟩))) w := by
  unfold execOp
  simp only [ho, hx]
  simp [go_sem]
theorem execFqN1 {x : Operand} {b k : Nat} (ho : o.op = .fieldAddr 53 x 1) (hx : a.eval x = .pointer (some ⟨b, k, none⟩)) : (execOp a.eval o).run Try.prog w = .ok (.value (.pointer (some ⟨b, k + 1, none⟩))) w := by
  unfold execOp
  simp only [ho, hx]
  simp [go_sem]
theorem execL20 {t : TypeId} {x : Operand} {b k : Nat} {v : Value} (ho : o.op = .load t x) (ht : t = 3 ∨ t = 38 ∨ t = 64 ∨ t = 71 ∨ t = 33 ∨ t = 24 ∨ t = 9) (hx : a.eval x = .pointer (some ⟨b, k, none⟩)) (hc : w.cell? ⟨b, k, none⟩ = some v) : (execOp a.eval o).run Try.prog w = .ok (.value v) w := by
  unfold execOp
  rcases ht with rfl | rfl | rfl | rfl | rfl | rfl | rfl <;> (simp only [ho, hx]; simp [go_sem, hc])
theorem execS20 {t : TypeId} {x y : Operand} {b k : Nat} {u old : Value} (ho : o.op = .store t x y) (ht : t = 3 ∨ t = 38 ∨ t = 64 ∨ t = 71 ∨ t = 33 ∨ t = 24 ∨ t = 9) (hx : a.eval x = .pointer (some ⟨b, k, none⟩)) (hy : a.eval y = u) (hu : (∃ z, u = .int .i64 z) ∨ (∃ q, u = .map q) ∨ ∃ q n c, u = .slice q n c) (hc : w.cell? ⟨b, k, none⟩ = some old) (hf : w.frozen? ⟨b, k, none⟩ = false) : (execOp a.eval o).run Try.prog w = .ok .skip (w.setCell ⟨b, k, none⟩ u) := by
  unfold execOp
  rcases hu with ⟨_, rfl⟩ | ⟨_, rfl⟩ | ⟨_, _, _, rfl⟩ <;> (rcases ht with rfl | rfl | rfl | rfl | rfl | rfl | rfl <;> (simp only [ho, hx, hy]; simp [go_sem, hc, hf]))
theorem execPFeqls {x : Operand} {b k : Nat} (ho : o.op = .binOp .eql 50 x (.const (.pointer none)) 50) (hx : a.eval x = .pointer (some ⟨b, k, none⟩)) : (execOp a.eval o).run Try.prog w = .ok (.value (.bool false)) w := by
  unfold execOp
  simp only [ho, hx]
  simp [go_sem]
theorem exIeqlE {x y : Operand} {p q : Int} (ho : o.op = .binOp .eql 38 x y 38) (hx : a.eval x = .int .i64 p) (hy : a.eval y = .int .i64 q) : (execOp a.eval o).run Try.prog w = .ok (.value (.bool (decide (p = q)))) w := by
  unfold execOp
  simp only [ho, hx, hy]
  by_cases h : p = q <;> simp [go_sem, h]
theorem exIneqE {x y : Operand} {p q : Int} (ho : o.op = .binOp .neq 38 x y 38) (hx : a.eval x = .int .i64 p) (hy : a.eval y = .int .i64 q) : (execOp a.eval o).run Try.prog w = .ok (.value (.bool (decide (p ≠ q)))) w := by
  unfold execOp
  simp only [ho, hx, hy]
  by_cases h : p = q <;> simp [go_sem, h]
end
/-- The cells of a fault. -/
def fC (lo er : Int) : Array Value := #[.int .i64 lo, .int .i64 er]
theorem fC_at {W : World} {g : Nat} {lo er : Int} {t : TypeId} (h : W.heap[g]? = some (.cells (fC lo er) t)) : W.cell? ⟨g, 0, none⟩ = some (.int .i64 lo) ∧ W.cell? ⟨g, 1, none⟩ = some (.int .i64 er) :=
  ⟨by rw [cell_of_row _ _ _ _ _ _ h]; rfl, by rw [cell_of_row _ _ _ _ _ _ h]; rfl⟩
theorem fC_set0 {W : World} {g : Nat} {lo er z : Int} {t : TypeId} (h : W.heap[g]? = some (.cells (fC lo er) t)) : (W.setCell ⟨g, 0, none⟩ (.int .i64 z)).heap[g]? = some (.cells (fC z er) t) := heap4 _ h
theorem fC_set1 {W : World} {g : Nat} {lo er z : Int} {t : TypeId} (h : W.heap[g]? = some (.cells (fC lo er) t)) : (W.setCell ⟨g, 1, none⟩ (.int .i64 z)).heap[g]? = some (.cells (fC lo z) t) := heap4 _ h
/-- A fault behind one note more. -/
def nt (s : Int × Int) (i e : Int) : Int × Int := if i < 0 ∨ e = 0 then s else if s.2 = 0 ∨ i < s.1 then (i, e) else s
/-- What First answers. -/
def fs (s : Int × Int) : Int × Int := if s.2 = 0 then (-1, 0) else s
end Go.Proofs.Ytnfokemikcigbaa.Ord
