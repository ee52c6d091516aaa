import Derived.Test.YthiakjmjpchckaaY0
import Derived.Laws.BytesArg
namespace Go.Proofs.Ythiakjmjpchckaa.By8
open Go.RowKit Gf8 Aes

section
variable {o : Oper} {a : Act} {w : World}
theorem execNeqS {x y : Operand} {s : ByteArray} (ho : o.op = .binOp .neq 9 x y 9) (hx : a.eval x = .string s) (hy : a.eval y = .string s) : (execOp a.eval o).run Try.prog w = .ok (.value (.bool false)) w := by
  unfold execOp
  simp only [ho, hx, hy]
  simp [go_sem]
end
end Go.Proofs.Ythiakjmjpchckaa.By8
