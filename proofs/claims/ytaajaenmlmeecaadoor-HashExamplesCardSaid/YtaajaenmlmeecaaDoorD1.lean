import Derived.Test.YtaajaenmlmeecaaDoorA6
import Derived.Lib.LaidTab
import Derived.ProofKit
namespace Go.Proofs.YtaajaenmlmeecaaDoor
open Go.RowKit
theorem gH : Tryd.prog.globalNamed "churn/hash.startWords" = some 0 := by kernel_rfl
theorem gK : Tryd.prog.globalNamed "churn/hash.stepWords" = some 1 := by kernel_rfl
theorem gHt : (Tryd.prog.globals[0]?).map (·.type) = some 23 := by kernel_rfl
theorem gKt : (Tryd.prog.globals[1]?).map (·.type) = some 47 := by kernel_rfl
theorem cells23 : Tryd.prog.cellsOf 23 = 8 := by kernel_rfl
theorem cells47 : Tryd.prog.cellsOf 47 = 64 := by kernel_rfl
theorem cells22 : Tryd.prog.cellsOf 22 = 1 := by kernel_rfl
/-- The two tables, as every row of this seat lists them. -/
def laidList : List (String × DataW Unit) := [("churn/hash.startWords", Rows.laid_churn_hash_startWords), ("churn/hash.stepWords", Rows.laid_churn_hash_stepWords)]
theorem laidMet_rest {P : Program} {x : String × DataW Unit} {rest : List (String × DataW Unit)} {W : World} (h : laidMet P (x :: rest) W) : laidMet P rest W := by
  obtain ⟨ps, hl, hnd, hall⟩ := h
  obtain ⟨g, t, cs, fuel, p, q, _, _, _, _, h1, h2⟩ := hl
  first
    | (subst h2
       exact ⟨q, h1, (List.nodup_append.1 hnd).2.1, fun b off hm => hall b off (List.mem_append_right _ hm)⟩)
    | (subst h1
       exact ⟨q, h2, (List.nodup_append.1 hnd).2.1, fun b off hm => hall b off (List.mem_append_right _ hm)⟩)
theorem glob_of {W : World} (h : laidMetH Tryd.prog laidList W) : Glob W := by
  have h' : laidMet Tryd.prog laidList W := h
  have t1 : Lib.TabIs Tryd.prog W "churn/hash.startWords" .u32 hList :=
    Lib.tabIs_of_head (rest := [("churn/hash.stepWords", Rows.laid_churn_hash_stepWords)]) gH gHt Tryd.underlying23 Tryd.underlying22 cells22 cells23 h'
  have t2 : Lib.TabIs Tryd.prog W "churn/hash.stepWords" .u32 kList :=
    Lib.tabIs_of_head (rest := []) gK gKt Tryd.underlying47 Tryd.underlying22 cells22 cells47 (laidMet_rest h')
  have c0 := t1.cell gH
  have c1 := t2.cell gK
  have e0 := c1 63 (by decide)
  have hb := World.block_lt_of_cell? W _ e0
  exact ⟨hb, fun i hi => c0 i hi, fun i hi => c1 i hi⟩

/-- A block of words, holding these. -/
def holdWords (zs : List Int) : Obj → Obj
  | .cells _ t frozen => .cells (zs.map fun z => Value.int .u32 z).toArray t frozen
  | o => o
/-- A WORLD FOR THE WITNESS: the settled one, the two tables holding what their initialisers lay. -/
def layW (w : World) : World := { w with heap := (w.heap.modify 0 (holdWords hList)).modify 1 (holdWords kList) }
theorem own : ownKnob Tryd.prog.godebug = none := by kernel_rfl
theorem laidOut : laidOutB Tryd.prog = true := by kernel_rfl
end Go.Proofs.YtaajaenmlmeecaaDoor
