import Derived.Test.YtghnhfigihnciaaGreatJ9e
import Derived.Test.YtghnhfigihnciaaGreatC9i
namespace Go.Proofs.YtghnhfigihnciaaGreat.Rnd
open Go.RowKit Gf8 Aes By8 Cel Cf Win
/- Configurations and states; the landed round's and the reference's within, right, Check. Written by tools/mkU8a.py. -/

/-- A configuration's numbers, in their order. -/
structure Cg where
  l : Int
  s : Int
  r : Int
  u : Int
  d : Int
  o : Int
  c : Int
  w : Int
  k : Int
  h : Int
def sC (nx nw : Int) (ev : Value) : Array Value := #[.int .i64 nx, .int .i64 nw, ev]
def q0 : Cg := ⟨0, 0, 0, 0, 0, 0, 0, 0, 0, 0⟩
theorem row_1 {W : World} {g k : Nat} {c : Array Value} {t : TypeId} {z : Value} (h : W.heap[g]? = some (.cells c t)) (hz : c[k]? = some z) : W.cell? ⟨g, k, none⟩ = some z := by rw [cell_of_row _ _ _ _ _ _ h]; exact hz
section
variable {o : Oper} {a : Act} {w : World}
theorem execL1 {t : TypeId} {x : Operand} {b k : Nat} {v : Value} (ho : o.op = .load t x) (ht : t = 3 ∨ t = 2 ∨ t = 26) (hx : a.eval x = .pointer (some ⟨b, k, none⟩)) (hc : w.cell? ⟨b, k, none⟩ = some v) : (execOp a.eval o).run Tryz.prog w = .ok (.value v) w := by
  unfold execOp
  rcases ht with rfl | rfl | rfl <;> (simp only [ho, hx]; simp [go_sem, hc])
theorem execBxS {x : Operand} {nx nw : Int} {ev : Value} (hm : ∃ g n c, ev = .slice g n c) (ho : o.op = .box 33 x) (hx : a.eval x = .agg (sC nx nw ev)) : (execOp a.eval o).run Tryz.prog w = .ok (.value (.pointer (some ⟨w.heap.size, 0, none⟩))) (w.alloc (.cells (sC nx nw ev) 33)) := by
  obtain ⟨g, n, c, rfl⟩ := hm
  unfold execOp
  simp only [ho, hx]
  simp [go_sem, sC]
theorem execFS0 {x : Operand} {b : Nat} (ho : o.op = .fieldAddr 33 x 0) (hx : a.eval x = .pointer (some ⟨b, 0, none⟩)) : (execOp a.eval o).run Tryz.prog w = .ok (.value (.pointer (some ⟨b, 0, none⟩))) w := by
  unfold execOp
  simp only [ho, hx]
  simp [go_sem]
theorem execFS1 {x : Operand} {b : Nat} (ho : o.op = .fieldAddr 33 x 1) (hx : a.eval x = .pointer (some ⟨b, 0, none⟩)) : (execOp a.eval o).run Tryz.prog w = .ok (.value (.pointer (some ⟨b, 1, none⟩))) w := by
  unfold execOp
  simp only [ho, hx]
  simp [go_sem]
end
end Go.Proofs.YtghnhfigihnciaaGreat.Rnd
