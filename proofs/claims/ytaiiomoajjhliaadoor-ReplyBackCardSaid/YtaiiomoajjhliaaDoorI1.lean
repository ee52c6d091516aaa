import Derived.Test.YtaiiomoajjhliaaDoorL0
import Derived.Test.YtaiiomoajjhliaaDoorY3
import Derived.Test.YtaiiomoajjhliaaDoorJ0
namespace Go.Proofs.YtaiiomoajjhliaaDoor.Aes
open Go.RowKit Gf8
/- Arrays of n bytes as rows of memory. -/

theorem size16 (f : Nat → Nat) : (Tryd.prog.info? 33).map (·.size) = some (bA 16 f).size := by rw [bA_size]; kernel_rfl
theorem zero16 : ∀ w, (zeroValue 33).run Tryd.prog w = .ok (.agg (bA 16 fun _ => 0)) w :=
  (zero_of_info (n := 16) (by kernel_rfl)).1
section
variable {o : Oper} {a : Act} {w : World}
theorem execIdx16 {x i : Operand} {g k : Nat} (ho : o.op = .indexAddr 33 x i) (hx : a.eval x = .pointer (some ⟨g, 0, none⟩)) (hi : a.eval i = .int .i64 (k : Int)) (hk : k < 16) : (execOp a.eval o).run Tryd.prog w = .ok (.value (.pointer (some ⟨g, k, none⟩))) w := by
  have h1 : (k : Int) < 16 := by omega
  unfold execOp
  simp only [ho, hx, hi]
  simp [go_sem, h1]
end
end Go.Proofs.YtaiiomoajjhliaaDoor.Aes

namespace Go.Proofs.YtaiiomoajjhliaaDoor.Aes
open Go.RowKit Gf8

section
variable {ops : Array Oper} {rest : List Oper} {o : Oper} {a : Act} {w : World} {Q : Exit → Act → World → Prop}
end
theorem zero256 : ∀ w, (zeroValue 99).run Tryd.prog w = .ok (.agg (bA 256 fun _ => 0)) w :=
  (zero_of_info (n := 256) (by kernel_rfl)).1
/-- The table the other way round, of the first k. -/
def bkF (k : Nat) : Nat → Nat := fun x => if guns x < k then guns x else 0

end Go.Proofs.YtaiiomoajjhliaaDoor.Aes

namespace Go.Proofs.YtaiiomoajjhliaaDoor.Aes
open Go.RowKit Gf8

/-- The number behind n, its last m bytes laid. -/
def nxF (n m : Nat) : Nat → Nat := fun j => if 16 ≤ j + m then be (n + 1) j else be n j
theorem nxF_step (n : Nat) {m : Nat} (h : m < 16) : updN (nxF n m) (15 - m) (be (n + 1) (15 - m)) = nxF n (m + 1) := by
  funext j
  unfold updN nxF
  by_cases e : j = 15 - m
  · subst e; rw [if_pos rfl, if_pos (by omega)]
  · rw [if_neg e]
    by_cases h2 : 16 ≤ j + m
    · rw [if_pos h2, if_pos (by omega)]
    · rw [if_neg h2, if_neg (by omega)]
theorem nxF_done {n m : Nat} (h : ¬ 256 ^ m ∣ n + 1) : Eq16 (nxF n m) (be (n + 1)) := fun j hj => by
  unfold nxF
  by_cases h2 : 16 ≤ j + m
  · rw [if_pos h2]
  · rw [if_neg h2, be_next, if_neg (carry_less h (by omega))]
theorem nxF_all (n : Nat) : Eq16 (nxF n 16) (be (n + 1)) := fun j _ => by unfold nxF; rw [if_pos (by omega)]

end Go.Proofs.YtaiiomoajjhliaaDoor.Aes

namespace Go.Proofs.YtaiiomoajjhliaaDoor.Aes
open Go.RowKit Gf8

theorem execAsgB {P : Program} {o : Oper} {a : Act} {w : World} {x : Operand} {v : Value} (ho : o.op = .assign x) (hx : a.eval x = v) : (execOp a.eval o).run P w = .ok (.value v) w := by
  unfold execOp
  simp only [ho, hx]
  rfl

end Go.Proofs.YtaiiomoajjhliaaDoor.Aes

namespace Go.Proofs.YtaiiomoajjhliaaDoor.Aes
open Go.RowKit Gf8

/-- The first three rows of a call, as they were. -/
structure R3 (A : Nat) (x y z : Obj) (V W : World) : Prop where
  x : W.heap[A]? = some x
  y : W.heap[A + 1]? = some y
  z : W.heap[A + 2]? = some z
  bel : Below A V W
theorem R3.lt {A : Nat} {x y z : Obj} {V W : World} (h : R3 A x y z V W) : A + 2 < W.heap.size := (Array.getElem?_eq_some_iff.1 h.z).1
theorem R3.on {A : Nat} {x y z : Obj} {V W W' : World} (h : R3 A x y z V W) (hb : Below W.heap.size W W') : R3 A x y z V W' := by
  have l := h.lt
  exact ⟨by rw [hb.block _ (by omega)]; exact h.x, by rw [hb.block _ (by omega)]; exact h.y, by rw [hb.block _ (by omega)]; exact h.z, h.bel.trans (hb.mono (by omega))⟩
theorem R3.row {A : Nat} {x y z : Obj} {V W : World} (h : R3 A x y z V W) {T : Nat} (hT : A + 2 < T) (c : Array Value) : R3 A x y z V (W.setRow T c) :=
  ⟨by rw [setRow_other _ _ _ _ (by omega)]; exact h.x, by rw [setRow_other _ _ _ _ (by omega)]; exact h.y, by rw [setRow_other _ _ _ _ (by omega)]; exact h.z, below4 h.bel (by omega) _⟩

end Go.Proofs.YtaiiomoajjhliaaDoor.Aes

namespace Go.Proofs.YtaiiomoajjhliaaDoor.Aes
open Go.RowKit Gf8 By8

/-- p with the key stream laid over it. -/
def maskF (w : Nat → Nat) (s : Nat) (p : Nat → Nat) : Nat → Nat := fun i => p i ^^^ enc w (be (s + i / 16)) (i % 16)
section
variable {o : Oper} {a : Act} {w : World}
end
end Go.Proofs.YtaiiomoajjhliaaDoor.Aes

namespace Go.Proofs.YtaiiomoajjhliaaDoor.Aes
open Go.RowKit Gf8

/- == of arrays of bytes. -/
def eqB (n : Nat) (f g : Nat → Nat) : Bool := (List.range n).all fun i => (f i : Int) == (g i : Int)
theorem eqB_true {n : Nat} {f g : Nat → Nat} (h : ∀ i, i < n → f i = g i) : eqB n f g = true := by
  unfold eqB
  rw [List.all_eq_true]
  intro i hi
  simp [h i (List.mem_range.1 hi)]
end Go.Proofs.YtaiiomoajjhliaaDoor.Aes
