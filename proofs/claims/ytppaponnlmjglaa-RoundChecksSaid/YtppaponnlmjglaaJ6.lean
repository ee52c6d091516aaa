import Derived.Test.YtppaponnlmjglaaJ1
namespace Go.Proofs.Ytppaponnlmjglaa.Aes
open Go.RowKit Gf8

theorem execAsgB {P : Program} {o : Oper} {a : Act} {w : World} {x : Operand} {v : Value} (ho : o.op = .assign x) (hx : a.eval x = v) : (execOp a.eval o).run P w = .ok (.value v) w := by
  unfold execOp
  simp only [ho, hx]
  rfl

end Go.Proofs.Ytppaponnlmjglaa.Aes
