import Derived.Test.YtppaponnlmjglaaY0
import Derived.Laws.BytesArg
namespace Go.Proofs.Ytppaponnlmjglaa.By8
open Go.RowKit Gf8 Aes

/-- A piece of a []byte. -/
theorem SliceN.sub {w : World} {a : Option Addr} {len cap : Nat} {p : Nat → Nat} (hv : SliceN w (.slice a len cap) len p) (l h : Nat) (h1 : l ≤ h) (h2 : h ≤ len) :
    SliceN w (sliced a l h cap 1) (h - l) (fun j => p (l + j)) := by
  obtain ⟨⟨a', cap', e, e1, e2, e3⟩, hp⟩ := hv
  obtain ⟨rfl, _, rfl⟩ : a = a' ∧ len = len ∧ cap = cap' := by
    injection e with x y z
    exact ⟨x, rfl, z⟩
  refine ⟨⟨_, cap - l, rfl, by omega, by omega, fun h0 => ?_⟩, fun j hj => hp (l + j) (by omega)⟩
  obtain ⟨b, off, rfl, hb, hc⟩ := e3 (by omega)
  rw [if_neg (by omega)]
  refine ⟨b, off + l, ?_, hb, fun j hj => ?_⟩
  · simp [Addr.add]
  · rw [Nat.add_assoc]; exact hc (l + j) (by omega)
section
variable {o : Oper} {a : Act} {w : World}
theorem execSubI {x y : Operand} {p q : Nat} (ho : o.op = .binOp .sub 3 x y 3) (hx : a.eval x = .int .i64 p) (hy : a.eval y = .int .i64 q) (h : q ≤ p) (hp : p < 9223372036854775808) : (execOp a.eval o).run Try.prog w = .ok (.value (.int .i64 (p - q : Nat))) w := by
  have e2 : IntKind.i64.wrap ((p : Int) - q) = ((p - q : Nat) : Int) := by rw [show (p : Int) - q = ((p - q : Nat) : Int) by omega]; exact wrap_i64_nat (by omega)
  unfold execOp
  simp only [ho, hx, hy]
  simp [go_sem, e2]
end
end Go.Proofs.Ytppaponnlmjglaa.By8
