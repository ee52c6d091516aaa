import Derived.Test.YtepdejnholphcaaGreatL1
import Derived.Test.YtepdejnholphcaaGreatR0
import Derived.Test.YtepdejnholphcaaGreatJ0
namespace Go.Proofs.YtepdejnholphcaaGreat.Aes
open Go.RowKit Gf8
/- Arrays of n bytes as rows of memory. -/

theorem size16 (f : Nat → Nat) : (Tryz.prog.info? 66).map (·.size) = some (bA 16 f).size := by rw [bA_size]; kernel_rfl
theorem zero16 : ∀ w, (zeroValue 66).run Tryz.prog w = .ok (.agg (bA 16 fun _ => 0)) w :=
  (zero_of_info (n := 16) (by kernel_rfl)).1
section
variable {o : Oper} {a : Act} {w : World}
end
end Go.Proofs.YtepdejnholphcaaGreat.Aes

namespace Go.Proofs.YtepdejnholphcaaGreat.Aes
open Go.RowKit Gf8

theorem execAsgB {P : Program} {o : Oper} {a : Act} {w : World} {x : Operand} {v : Value} (ho : o.op = .assign x) (hx : a.eval x = v) : (execOp a.eval o).run P w = .ok (.value v) w := by
  unfold execOp
  simp only [ho, hx]
  rfl

end Go.Proofs.YtepdejnholphcaaGreat.Aes

namespace Go.Proofs.YtepdejnholphcaaGreat.Aes
open Go.RowKit Gf8

/-- The first three rows of a call, as they were. -/
structure R3 (A : Nat) (x y z : Obj) (V W : World) : Prop where
  x : W.heap[A]? = some x
  y : W.heap[A + 1]? = some y
  z : W.heap[A + 2]? = some z
  bel : Below A V W
theorem R3.lt {A : Nat} {x y z : Obj} {V W : World} (h : R3 A x y z V W) : A + 2 < W.heap.size := (Array.getElem?_eq_some_iff.1 h.z).1
theorem R3.on {A : Nat} {x y z : Obj} {V W W' : World} (h : R3 A x y z V W) (hb : Below W.heap.size W W') : R3 A x y z V W' := by
  have l := h.lt
  exact ⟨by rw [hb.block _ (by omega)]; exact h.x, by rw [hb.block _ (by omega)]; exact h.y, by rw [hb.block _ (by omega)]; exact h.z, h.bel.trans (hb.mono (by omega))⟩
theorem R3.row {A : Nat} {x y z : Obj} {V W : World} (h : R3 A x y z V W) {T : Nat} (hT : A + 2 < T) (c : Array Value) : R3 A x y z V (W.setRow T c) :=
  ⟨by rw [setRow_other _ _ _ _ (by omega)]; exact h.x, by rw [setRow_other _ _ _ _ (by omega)]; exact h.y, by rw [setRow_other _ _ _ _ (by omega)]; exact h.z, below4 h.bel (by omega) _⟩

end Go.Proofs.YtepdejnholphcaaGreat.Aes
