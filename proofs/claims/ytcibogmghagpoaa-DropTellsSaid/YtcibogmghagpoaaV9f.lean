import Derived.Test.YtcibogmghagpoaaV9d
namespace Go.Proofs.Ytcibogmghagpoaa.Tap
open Go.RowKit Gf8 Aes By8 Cel Cf
/- The law's apart: the lists are grown. Written by tools/mkV9e.py. -/

theorem GSt.again {B m : Nat} {nn : Nat → Nat} {x : Nat → Value} {R : Nat} {V W : World} {gv : Nat → Value} {gl : Nat → Nat} {mo : Nat → Value} (h : GSt B m nn x R V W 0 8 False m gv gl mo) : GSt B m nn x R V W 8 128 True 0 gv gl mo :=
  ⟨h.mn, fun t ht => by rw [h.len t ht, if_pos ht, if_neg (by omega)], fun t _ q => by omega, fun t ht _ => ⟨fun _ => h.done t ht ht, fun q => absurd trivial q⟩⟩
end Go.Proofs.Ytcibogmghagpoaa.Tap

namespace Go.Proofs.Ytcibogmghagpoaa.Tap
open Go.RowKit Gf8 Aes By8 Cel Cf
/- The law's apart: all is looked at; the whole. Written by tools/mkV9f.py. -/

section
variable {o : Oper} {a : Act} {w : World} {x y : Operand} {p q : Nat}
theorem execLt9t (ho : o.op = .binOp .lss 3 x y 3) (hx : a.eval x = .int .i64 (p : Int)) (hy : a.eval y = .int .i64 (q : Int)) (h : p < q) : (execOp a.eval o).run Try.prog w = .ok (.value (.bool true)) w := by
  rw [← decide_eq_true h]; exact execLtW ho hx hy
theorem execLt9f (ho : o.op = .binOp .lss 3 x y 3) (hx : a.eval x = .int .i64 (p : Int)) (hy : a.eval y = .int .i64 (q : Int)) (h : ¬ p < q) : (execOp a.eval o).run Try.prog w = .ok (.value (.bool false)) w := by
  rw [← decide_eq_false h]; exact execLtW ho hx hy
theorem execGe9t (ho : o.op = .binOp .geq 3 x y 3) (hx : a.eval x = .int .i64 (p : Int)) (hy : a.eval y = .int .i64 (q : Int)) (h : ¬ p < q) : (execOp a.eval o).run Try.prog w = .ok (.value (.bool true)) w := by
  rw [← decide_eq_true (show q ≤ p by omega)]; exact execGe8 ho hx hy
theorem execGe9f (ho : o.op = .binOp .geq 3 x y 3) (hx : a.eval x = .int .i64 (p : Int)) (hy : a.eval y = .int .i64 (q : Int)) (h : p < q) : (execOp a.eval o).run Try.prog w = .ok (.value (.bool false)) w := by
  rw [← decide_eq_false (show ¬ q ≤ p by omega)]; exact execGe8 ho hx hy
end
end Go.Proofs.Ytcibogmghagpoaa.Tap
