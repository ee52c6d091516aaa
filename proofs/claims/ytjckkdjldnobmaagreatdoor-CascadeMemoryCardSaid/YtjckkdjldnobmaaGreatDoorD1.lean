import Derived.Test.YtjckkdjldnobmaaGreatDoorA7
import Derived.Lib.LaidTab
import Derived.ProofKit
namespace Go.Proofs.YtjckkdjldnobmaaGreatDoor
open Go.RowKit
theorem gH : Tryz.prog.globalNamed "churn/hash.startWords" = some 1 := by kernel_rfl
theorem gK : Tryz.prog.globalNamed "churn/hash.stepWords" = some 2 := by kernel_rfl
theorem gHt : (Tryz.prog.globals[1]?).map (·.type) = some 172 := by kernel_rfl
theorem gKt : (Tryz.prog.globals[2]?).map (·.type) = some 184 := by kernel_rfl
theorem cells23 : Tryz.prog.cellsOf 172 = 8 := by kernel_rfl
theorem cells47 : Tryz.prog.cellsOf 184 = 64 := by kernel_rfl
theorem cells22 : Tryz.prog.cellsOf 99 = 1 := by kernel_rfl
/-- The two tables, as every row of this seat lists them. -/
def laidList : List (String × DataW Unit) := [("churn/hash.startWords", Rows.laid_churn_hash_startWords), ("churn/hash.stepWords", Rows.laid_churn_hash_stepWords)]
theorem laidMet_rest {P : Program} {x : String × DataW Unit} {rest : List (String × DataW Unit)} {W : World} (h : laidMet P (x :: rest) W) : laidMet P rest W := by
  obtain ⟨ps, hl, hnd, hall⟩ := h
  obtain ⟨g, t, cs, fuel, p, q, _, _, _, _, h1, h2⟩ := hl
  first
    | (subst h2
       exact ⟨q, h1, (List.nodup_append.1 hnd).2.1, fun b off hm => hall b off (List.mem_append_right _ hm)⟩)
    | (subst h1
       exact ⟨q, h2, (List.nodup_append.1 hnd).2.1, fun b off hm => hall b off (List.mem_append_right _ hm)⟩)
/-- A block of words, holding these. -/
def holdWords (zs : List Int) : Obj → Obj
  | .cells _ t frozen => .cells (zs.map fun z => Value.int .u32 z).toArray t frozen
  | o => o
/-- A WORLD FOR THE WITNESS: the settled one, the two tables holding what their initialisers lay. -/
def layW (w : World) : World := { w with heap := (w.heap.modify 1 (holdWords hList)).modify 2 (holdWords kList) }
theorem own : ownKnob Tryz.prog.godebug = none := by kernel_rfl
theorem laidOut : laidOutB Tryz.prog = true := by kernel_rfl
end Go.Proofs.YtjckkdjldnobmaaGreatDoor
