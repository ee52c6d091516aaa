import Derived.Test.YtialghojibjknaaL1
import Derived.Deep.MidRow
import Derived.Laws.CopyRow
namespace Go.Proofs.Ytialghojibjknaa.Aes
open Go.RowKit Gf8
/- One operation by what it yields; pieces of rows; copy. -/

section
variable {P : Program} {ops : Array Oper} {rest : List Oper} {o : Oper} {a : Act} {w w' : World} {Q : Exit → Act → World → Prop}
end
theorem stepU {P : Program} {ops : Array Oper} {Q : Exit → Act → World → Prop} {j : Nat} {o : Oper} {a : Act} {w : World} {K : Act → World → Prop} (ho : ops[j]? = some o) (hw : Region.wanted o (yielded ops a.tmps) = false) (hK : K (a.put o.dst undef) w) : wpOp P ops Q j K a w := by
  unfold wpOp
  rw [ho]
  simp only [hw]
  exact hK
theorem unwantedNo {ops : Array Oper} {o : Oper} {tmps : Array Value} {k : Nat} {b : Bool} (hg : o.guard = some (k, b)) (hy : yielded ops tmps k = none) : Region.wanted o (yielded ops tmps) = false := by
  simp [Region.wanted, hg, hy]
theorem yieldedNo {ops : Array Oper} {a : Act} {k d : Nat} {o : Oper} (ho : ops[k]? = some o) (hd : o.dst = some d) (hv : a.eval (.tmp d) = undef) : yielded ops a.tmps k = none := by
  simp only [Act.eval, Array.getD_eq_getD_getElem?] at hv
  cases hq : a.tmps[d]? with
  | none => simp [yielded, ho, hd, hq]
  | some v =>
    rw [hq] at hv
    simp at hv
    simp [yielded, ho, hd, hq, hv, undef]
end Go.Proofs.Ytialghojibjknaa.Aes
