import Derived.Test.YtjaddenjeaalaaaDoorP1
namespace Go.Proofs.YtjaddenjeaalaaaDoor
open Go.RowKit

section
variable {o : Oper} {a : Act} {w : World}
theorem execNeqE {x y : Operand} {b c : Int} (ho : o.op = .binOp .neq 27 x y 27) (hx : a.eval x = .int .i64 b) (hy : a.eval y = .int .i64 c) : (execOp a.eval o).run Tryd.prog w = .ok (.value (.bool (b != c))) w := by
  unfold execOp
  simp only [ho, hx, hy]
  simp [go_sem]
theorem execNeqI {x y : Operand} {b c : Int} (ho : o.op = .binOp .neq 3 x y 3) (hx : a.eval x = .int .i64 b) (hy : a.eval y = .int .i64 c) : (execOp a.eval o).run Tryd.prog w = .ok (.value (.bool (b != c))) w := by
  unfold execOp
  simp only [ho, hx, hy]
  simp [go_sem]
theorem execLen {x : Operand} {ao : Option Addr} {l c : Nat} (ho : o.op = .call { callee := .builtin .len, args := #[x], argTypes := #[22] }) (hx : a.eval x = .slice ao l c) : (execOp a.eval o).run Tryd.prog w = .ok (.value (.int .i64 (l : Int))) w := by
  unfold execOp
  simp only [ho]
  simp [go_sem] at hx ⊢
  simp [hx, go_sem]
theorem execSliceH {x h : Operand} {ty : TypeId} {v vh r : Value} (ho : o.op = .slice ty x none (some h) none) (hx : a.eval x = v) (hh : a.eval h = vh)
    (hr : (Instr.sliceAt ty v none (some vh) none).run Tryd.prog w = .ok r w) : (execOp a.eval o).run Tryd.prog w = .ok (.value r) w := by
  unfold execOp
  simp only [ho, hx, hh, Option.map_some, Option.map_none, Sem.run_bind, hr, Result.andThen_ok, Sem.run_pure]
theorem execConv {x : Operand} {v : Value} {l : Nat} {p : Nat → Int} (ho : o.op = .convert 22 9 x) (hx : a.eval x = v) (h : SliceB w v l p) : (execOp a.eval o).run Tryd.prog w = .ok (.value (.string (strP p l))) w := exec_conv_str ho hx h
theorem execEqlStr {x y : Operand} {s : ByteArray} (ho : o.op = .binOp .eql 9 x y 9) (hx : a.eval x = .string s) (hy : a.eval y = .string s) : (execOp a.eval o).run Tryd.prog w = .ok (.value (.bool true)) w := by
  unfold execOp
  simp only [ho, hx, hy]
  simp [go_sem]
end
end Go.Proofs.YtjaddenjeaalaaaDoor
