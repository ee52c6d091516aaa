import Derived.Test.YthmlfglllhmimaaGreatDoorY3
import Derived.Test.YthmlfglllhmimaaGreatDoorJ0
namespace Go.Proofs.YthmlfglllhmimaaGreatDoor.Aes
open Go.RowKit Gf8

theorem execAsgB {P : Program} {o : Oper} {a : Act} {w : World} {x : Operand} {v : Value} (ho : o.op = .assign x) (hx : a.eval x = v) : (execOp a.eval o).run P w = .ok (.value v) w := by
  unfold execOp
  simp only [ho, hx]
  rfl

end Go.Proofs.YthmlfglllhmimaaGreatDoor.Aes

namespace Go.Proofs.YthmlfglllhmimaaGreatDoor.Aes
open Go.RowKit Gf8

/-- The first three rows of a call, as they were. -/
structure R3 (A : Nat) (x y z : Obj) (V W : World) : Prop where
  x : W.heap[A]? = some x
  y : W.heap[A + 1]? = some y
  z : W.heap[A + 2]? = some z
  bel : Below A V W
theorem R3.lt {A : Nat} {x y z : Obj} {V W : World} (h : R3 A x y z V W) : A + 2 < W.heap.size := (Array.getElem?_eq_some_iff.1 h.z).1
theorem R3.on {A : Nat} {x y z : Obj} {V W W' : World} (h : R3 A x y z V W) (hb : Below W.heap.size W W') : R3 A x y z V W' := by
  have l := h.lt
  exact ⟨by rw [hb.block _ (by omega)]; exact h.x, by rw [hb.block _ (by omega)]; exact h.y, by rw [hb.block _ (by omega)]; exact h.z, h.bel.trans (hb.mono (by omega))⟩
theorem R3.row {A : Nat} {x y z : Obj} {V W : World} (h : R3 A x y z V W) {T : Nat} (hT : A + 2 < T) (c : Array Value) : R3 A x y z V (W.setRow T c) :=
  ⟨by rw [setRow_other _ _ _ _ (by omega)]; exact h.x, by rw [setRow_other _ _ _ _ (by omega)]; exact h.y, by rw [setRow_other _ _ _ _ (by omega)]; exact h.z, below4 h.bel (by omega) _⟩

end Go.Proofs.YthmlfglllhmimaaGreatDoor.Aes

namespace Go.Proofs.YthmlfglllhmimaaGreatDoor.Aes
open Go.RowKit Gf8 By8

/-- p with the key stream laid over it. -/
def maskF (w : Nat → Nat) (s : Nat) (p : Nat → Nat) : Nat → Nat := fun i => p i ^^^ enc w (be (s + i / 16)) (i % 16)
section
variable {o : Oper} {a : Act} {w : World}
end
end Go.Proofs.YthmlfglllhmimaaGreatDoor.Aes
