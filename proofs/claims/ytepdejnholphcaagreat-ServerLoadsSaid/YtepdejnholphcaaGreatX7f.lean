import Derived.Test.YtepdejnholphcaaGreatK9
namespace Go.Proofs.YtepdejnholphcaaGreat
open Go.RowKit
/- A drawn region that goes through states: the values that have come up are told by the state. -/

theorem putP_congr {x y : Nat → Value} : ∀ (ds : List (Nat × Nat)) (a : Act), (∀ p ∈ ds, x p.1 = y p.1) → putP a x ds = putP a y ds
  | [], _, _ => rfl
  | p :: ds, a, h => by
    show putP (a.put (some p.2) (x p.1)) x ds = putP (a.put (some p.2) (y p.1)) y ds
    rw [h p (by simp)]
    exact putP_congr ds _ fun q hq => h q (by simp [hq])
end Go.Proofs.YtepdejnholphcaaGreat

namespace Go.Proofs.YtepdejnholphcaaGreat
open Go.RowKit
/- A function with many slots, walked with its frame kept closed: regions in order or drawn, by what the slots hold. -/

theorem wpList_of_op {P : Program} {ops : Array Oper} {Q : Exit → Act → World → Prop} {j : Nat} {o : Oper} {a : Act} {w : World} {rest : List Oper} (ho : ops[j]? = some o) (h : wpOp P ops Q j (wpList P ops Q rest) a w) : wpList P ops Q (o :: rest) a w := by
  unfold wpOp at h
  rw [ho] at h
  exact h
theorem exit_in {id : Nat} {Q : Exit → Act → World → Prop} {a : Act} {w : World} (h : Q .normal a w) : Exit.inBlock id Q (.exit id) a w := by
  simp only [Exit.inBlock, if_true]
  exact h
theorem exit_then {id : Nat} {K : Act → World → Prop} {Q : Exit → Act → World → Prop} {a : Act} {w : World} (h : Q (.exit id) a w) : Exit.then K Q (.exit id) a w := h
end Go.Proofs.YtepdejnholphcaaGreat
