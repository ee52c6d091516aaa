import Derived.Test.YtcibogmghagpoaaK9
namespace Go.Proofs.Ytcibogmghagpoaa
open Go.RowKit
/- A function with many slots, walked with its frame kept closed: regions in order or drawn, by what the slots hold. -/

theorem wpList_of_op {P : Program} {ops : Array Oper} {Q : Exit → Act → World → Prop} {j : Nat} {o : Oper} {a : Act} {w : World} {rest : List Oper} (ho : ops[j]? = some o) (h : wpOp P ops Q j (wpList P ops Q rest) a w) : wpList P ops Q (o :: rest) a w := by
  unfold wpOp at h
  rw [ho] at h
  exact h
theorem exit_in {id : Nat} {Q : Exit → Act → World → Prop} {a : Act} {w : World} (h : Q .normal a w) : Exit.inBlock id Q (.exit id) a w := by
  simp only [Exit.inBlock, if_true]
  exact h
theorem exit_then {id : Nat} {K : Act → World → Prop} {Q : Exit → Act → World → Prop} {a : Act} {w : World} (h : Q (.exit id) a w) : Exit.then K Q (.exit id) a w := h
end Go.Proofs.Ytcibogmghagpoaa
