import Derived.Test.YtnfokemikcigbaaRows
import Derived.WalkKit
import Derived.WalkSpells
import Derived.Deep.QuietTactic
import Derived.Deep.WholeRow
import Derived.BigQuiet
import Derived.Test.YtnfokemikcigbaaL2
import Derived.Test.YtnfokemikcigbaaX2
import Derived.Test.YtnfokemikcigbaaK7
import Derived.Deep.MidRow
import Derived.Laws.CopyRow
namespace Go.Proofs.Ytnfokemikcigbaa.Gf8
open Go.RowKit
/- Rows of bytes, ints and bytes in the walk: of types it names bytes and ints alone. -/

theorem frozen4 {W : World} {b o : Nat} {c : Array Value} {t : TypeId} (h : W.heap[b]? = some (.cells c t)) : W.frozen? ⟨b, o, none⟩ = false := by simp [World.frozen?, h]
theorem below4 {B : Nat} {a w : World} (h : Below B a w) {g : Nat} (hg : B ≤ g) (c : Array Value) : Below B a (w.setRow g c) :=
  h.trans ⟨rfl, rfl, rfl, by simp, fun k hk => setRow_other w g k c (by omega)⟩
theorem heap4 {W : World} {b k : Nat} {c : Array Value} {t : TypeId} (v : Value) (h : W.heap[b]? = some (.cells c t)) : (W.setCell ⟨b, k, none⟩ v).heap[b]? = some (.cells (c.setIfInBounds k v) t) := by
  rw [setCell_eq_setRow W b k c t _ v h]; exact setRow_heap _ _ _ _ _ _ h
theorem heap4o {W : World} {b k i : Nat} {c : Array Value} {t : TypeId} (v : Value) (h : W.heap[b]? = some (.cells c t)) (hi : i ≠ b) : (W.setCell ⟨b, k, none⟩ v).heap[i]? = W.heap[i]? := by
  rw [setCell_eq_setRow W b k c t _ v h]; exact setRow_other _ _ _ _ (by omega)
end Go.Proofs.Ytnfokemikcigbaa.Gf8
namespace Go.Proofs.Ytnfokemikcigbaa.Aes
open Go.RowKit Gf8

theorem heapNew (W : World) (o : Obj) : (W.alloc o).heap[W.heap.size]? = some o := by show (W.heap.push _)[W.heap.size]? = _; rw [Array.getElem?_push_size]
theorem belNew (W : World) (o : Obj) : Below W.heap.size W (W.alloc o) := (Below.refl _ _).alloc (Nat.le_refl _) _
section
variable {o : Oper} {a : Act} {w : World}
theorem execMvB {P : Program} {x : Operand} {v : Value} (ho : o.op = .move x) (hx : a.eval x = v) : (execOp a.eval o).run P w = .ok (.value v) w := by
  rw [← hx]; exact execMove ho
end
end Go.Proofs.Ytnfokemikcigbaa.Aes

namespace Go.Proofs.Ytnfokemikcigbaa.Aes
open Go.RowKit Gf8
/- One operation by what it yields; pieces of rows; copy. -/

section
variable {P : Program} {ops : Array Oper} {rest : List Oper} {o : Oper} {a : Act} {w w' : World} {Q : Exit → Act → World → Prop}
end
theorem stepU {P : Program} {ops : Array Oper} {Q : Exit → Act → World → Prop} {j : Nat} {o : Oper} {a : Act} {w : World} {K : Act → World → Prop} (ho : ops[j]? = some o) (hw : Region.wanted o (yielded ops a.tmps) = false) (hK : K (a.put o.dst undef) w) : wpOp P ops Q j K a w := by
  unfold wpOp
  rw [ho]
  simp only [hw]
  exact hK
theorem unwantedNo {ops : Array Oper} {o : Oper} {tmps : Array Value} {k : Nat} {b : Bool} (hg : o.guard = some (k, b)) (hy : yielded ops tmps k = none) : Region.wanted o (yielded ops tmps) = false := by
  simp [Region.wanted, hg, hy]
theorem yieldedNo {ops : Array Oper} {a : Act} {k d : Nat} {o : Oper} (ho : ops[k]? = some o) (hd : o.dst = some d) (hv : a.eval (.tmp d) = undef) : yielded ops a.tmps k = none := by
  simp only [Act.eval, Array.getD_eq_getD_getElem?] at hv
  cases hq : a.tmps[d]? with
  | none => simp [yielded, ho, hd, hq]
  | some v =>
    rw [hq] at hv
    simp at hv
    simp [yielded, ho, hd, hq, hv, undef]
end Go.Proofs.Ytnfokemikcigbaa.Aes
