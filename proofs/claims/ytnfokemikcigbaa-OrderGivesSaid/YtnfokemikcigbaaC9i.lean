import Derived.Test.YtnfokemikcigbaaC9g
namespace Go.Proofs.Ytnfokemikcigbaa.Win
open Go.RowKit Gf8 Aes By8 Cel Cf
/- What the reference's Check needs. Written by tools/mkC9i.py. -/

section
variable {o : Oper} {a : Act} {w : World}
theorem exIlss3 {x y : Operand} {p q : Int} (ho : o.op = .binOp .lss 3 x y 3) (hx : a.eval x = .int .i64 p) (hy : a.eval y = .int .i64 q) : (execOp a.eval o).run Try.prog w = .ok (.value (.bool (decide (p < q)))) w := by
  unfold execOp
  simp only [ho, hx, hy]
  simp [go_sem]
theorem exIgtr3 {x y : Operand} {p q : Int} (ho : o.op = .binOp .gtr 3 x y 3) (hx : a.eval x = .int .i64 p) (hy : a.eval y = .int .i64 q) : (execOp a.eval o).run Try.prog w = .ok (.value (.bool (decide (p > q)))) w := by
  unfold execOp
  simp only [ho, hx, hy]
  simp [go_sem]
theorem exIeql3 {x y : Operand} {p q : Int} (ho : o.op = .binOp .eql 3 x y 3) (hx : a.eval x = .int .i64 p) (hy : a.eval y = .int .i64 q) : (execOp a.eval o).run Try.prog w = .ok (.value (.bool (decide (p = q)))) w := by
  unfold execOp
  simp only [ho, hx, hy]
  by_cases h : p = q
  · subst h; simp [go_sem]
  · simp [go_sem, h]
theorem exIneq3 {x y : Operand} {p q : Int} (ho : o.op = .binOp .neq 3 x y 3) (hx : a.eval x = .int .i64 p) (hy : a.eval y = .int .i64 q) : (execOp a.eval o).run Try.prog w = .ok (.value (.bool (decide (p ≠ q)))) w := by
  unfold execOp
  simp only [ho, hx, hy]
  by_cases h : p = q
  · subst h; simp [go_sem]
  · simp [go_sem, h]
theorem execGtN {x y : Operand} {p q : Nat} (ho : o.op = .binOp .gtr 3 x y 3) (hx : a.eval x = .int .i64 (p : Int)) (hy : a.eval y = .int .i64 (q : Int)) : (execOp a.eval o).run Try.prog w = .ok (.value (.bool (decide (q < p)))) w := by
  unfold execOp
  simp only [ho, hx, hy]
  simp [go_sem]
end
end Go.Proofs.Ytnfokemikcigbaa.Win
