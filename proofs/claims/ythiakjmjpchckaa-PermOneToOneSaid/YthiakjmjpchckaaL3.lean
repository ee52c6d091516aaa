import Derived.Test.YthiakjmjpchckaaL1
import Derived.Deep.MidRow
import Derived.Laws.CopyRow
namespace Go.Proofs.Ythiakjmjpchckaa.Aes
open Go.RowKit Gf8
/- One operation by what it yields; pieces of rows; copy. -/

section
variable {P : Program} {ops : Array Oper} {rest : List Oper} {o : Oper} {a : Act} {w w' : World} {Q : Exit → Act → World → Prop}
end
theorem stepU {P : Program} {ops : Array Oper} {Q : Exit → Act → World → Prop} {j : Nat} {o : Oper} {a : Act} {w : World} {K : Act → World → Prop} (ho : ops[j]? = some o) (hw : Region.wanted o (yielded ops a.tmps) = false) (hK : K (a.put o.dst undef) w) : wpOp P ops Q j K a w := by
  unfold wpOp
  rw [ho]
  simp only [hw]
  exact hK
theorem unwantedOf {ops : Array Oper} {o : Oper} {tmps : Array Value} {k : Nat} {b : Bool} (hg : o.guard = some (k, b)) (hy : yielded ops tmps k = some (!b)) : Region.wanted o (yielded ops tmps) = false := by
  cases b <;> simp [Region.wanted, hg, hy]
end Go.Proofs.Ythiakjmjpchckaa.Aes
