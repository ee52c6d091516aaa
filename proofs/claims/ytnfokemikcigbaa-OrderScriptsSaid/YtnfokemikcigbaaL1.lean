import Derived.Test.YtnfokemikcigbaaRows
import Derived.WalkKit
import Derived.WalkSpells
import Derived.Deep.QuietTactic
import Derived.Deep.WholeRow
import Derived.BigQuiet
import Derived.Test.YtnfokemikcigbaaL2
import Derived.Test.YtnfokemikcigbaaX2
import Derived.Test.YtnfokemikcigbaaK7
namespace Go.Proofs.Ytnfokemikcigbaa.Gf8
open Go.RowKit
/- Rows of bytes, ints and bytes in the walk: of types it names bytes and ints alone. -/

theorem frozen4 {W : World} {b o : Nat} {c : Array Value} {t : TypeId} (h : W.heap[b]? = some (.cells c t)) : W.frozen? ⟨b, o, none⟩ = false := by simp [World.frozen?, h]
theorem below4 {B : Nat} {a w : World} (h : Below B a w) {g : Nat} (hg : B ≤ g) (c : Array Value) : Below B a (w.setRow g c) :=
  h.trans ⟨rfl, rfl, rfl, by simp, fun k hk => setRow_other w g k c (by omega)⟩
theorem heap4 {W : World} {b k : Nat} {c : Array Value} {t : TypeId} (v : Value) (h : W.heap[b]? = some (.cells c t)) : (W.setCell ⟨b, k, none⟩ v).heap[b]? = some (.cells (c.setIfInBounds k v) t) := by
  rw [setCell_eq_setRow W b k c t _ v h]; exact setRow_heap _ _ _ _ _ _ h
theorem heap4o {W : World} {b k i : Nat} {c : Array Value} {t : TypeId} (v : Value) (h : W.heap[b]? = some (.cells c t)) (hi : i ≠ b) : (W.setCell ⟨b, k, none⟩ v).heap[i]? = W.heap[i]? := by
  rw [setCell_eq_setRow W b k c t _ v h]; exact setRow_other _ _ _ _ (by omega)
end Go.Proofs.Ytnfokemikcigbaa.Gf8
namespace Go.Proofs.Ytnfokemikcigbaa.Aes
open Go.RowKit Gf8

theorem heapNew (W : World) (o : Obj) : (W.alloc o).heap[W.heap.size]? = some o := by show (W.heap.push _)[W.heap.size]? = _; rw [Array.getElem?_push_size]
theorem belNew (W : World) (o : Obj) : Below W.heap.size W (W.alloc o) := (Below.refl _ _).alloc (Nat.le_refl _) _
section
variable {o : Oper} {a : Act} {w : World}
theorem execMvB {P : Program} {x : Operand} {v : Value} (ho : o.op = .move x) (hx : a.eval x = v) : (execOp a.eval o).run P w = .ok (.value v) w := by
  rw [← hx]; exact execMove ho
end
end Go.Proofs.Ytnfokemikcigbaa.Aes
