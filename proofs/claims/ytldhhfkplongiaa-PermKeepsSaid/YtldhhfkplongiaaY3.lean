import Derived.Test.YtldhhfkplongiaaY1
namespace Go.Proofs.Ytldhhfkplongiaa.By8
open Go.RowKit Gf8 Aes

theorem sizeU8 : ∀ W, (sizeOf 5).run Try.prog W = .ok 1 W := by intro W; simp [go_sem]
/-- A piece of a []byte. -/
theorem SliceN.sub {w : World} {a : Option Addr} {len cap : Nat} {p : Nat → Nat} (hv : SliceN w (.slice a len cap) len p) (l h : Nat) (h1 : l ≤ h) (h2 : h ≤ len) :
    SliceN w (sliced a l h cap 1) (h - l) (fun j => p (l + j)) := by
  obtain ⟨⟨a', cap', e, e1, e2, e3⟩, hp⟩ := hv
  obtain ⟨rfl, _, rfl⟩ : a = a' ∧ len = len ∧ cap = cap' := by
    injection e with x y z
    exact ⟨x, rfl, z⟩
  refine ⟨⟨_, cap - l, rfl, by omega, by omega, fun h0 => ?_⟩, fun j hj => hp (l + j) (by omega)⟩
  obtain ⟨b, off, rfl, hb, hc⟩ := e3 (by omega)
  rw [if_neg (by omega)]
  refine ⟨b, off + l, ?_, hb, fun j hj => ?_⟩
  · simp [Addr.add]
  · rw [Nat.add_assoc]; exact hc (l + j) (by omega)
section
variable {o : Oper} {a : Act} {w : World}
theorem execSlH {x h : Operand} {ty : TypeId} {v vh r : Value} (ho : o.op = .slice ty x none (some h) none) (hx : a.eval x = v) (hh : a.eval h = vh)
    (hr : (Instr.sliceAt ty v none (some vh) none).run Try.prog w = .ok r w) : (execOp a.eval o).run Try.prog w = .ok (.value r) w := by
  unfold execOp
  simp only [ho, hx, hh, Option.map_some, Option.map_none, Sem.run_bind, hr, Result.andThen_ok, Sem.run_pure]
theorem execQuoI {x y : Operand} {p q : Nat} (ho : o.op = .binOp .quo 3 x y 3) (hx : a.eval x = .int .i64 p) (hy : a.eval y = .int .i64 q) (h : q ≠ 0) (hp : p < 9223372036854775808) : (execOp a.eval o).run Try.prog w = .ok (.value (.int .i64 (p / q : Nat))) w := by
  have e : (p : Int).tdiv q = ((p / q : Nat) : Int) := by rw [Int.tdiv_eq_ediv_of_nonneg (by omega)]; simp
  have h2 : p / q < 9223372036854775808 := Nat.lt_of_le_of_lt (Nat.div_le_self _ _) hp
  have e2 : IntKind.i64.wrap ((p : Int) / q) = (p : Int) / q := by have := wrap_i64_nat h2; simpa using this
  unfold execOp
  simp only [ho, hx, hy]
  simp [go_sem, h, e, e2]
theorem execSubI {x y : Operand} {p q : Nat} (ho : o.op = .binOp .sub 3 x y 3) (hx : a.eval x = .int .i64 p) (hy : a.eval y = .int .i64 q) (h : q ≤ p) (hp : p < 9223372036854775808) : (execOp a.eval o).run Try.prog w = .ok (.value (.int .i64 (p - q : Nat))) w := by
  have e2 : IntKind.i64.wrap ((p : Int) - q) = ((p - q : Nat) : Int) := by rw [show (p : Int) - q = ((p - q : Nat) : Int) by omega]; exact wrap_i64_nat (by omega)
  unfold execOp
  simp only [ho, hx, hy]
  simp [go_sem, e2]
theorem execMinI {x y : Operand} {p q : Nat} (ho : o.op = .call { callee := .builtin .min, args := #[x, y], argTypes := #[3, 3] }) (hx : a.eval x = .int .i64 p) (hy : a.eval y = .int .i64 q) : (execOp a.eval o).run Try.prog w = .ok (.value (.int .i64 (min p q : Nat))) w := by
  unfold execOp
  simp only [ho]
  simp [go_sem] at hx hy ⊢
  simp [hx, hy, go_sem]
  split <;> omega
theorem execNeqI {x y : Operand} {p q : Nat} (ho : o.op = .binOp .neq 3 x y 3) (hx : a.eval x = .int .i64 p) (hy : a.eval y = .int .i64 q) : (execOp a.eval o).run Try.prog w = .ok (.value (.bool ((p : Int) != q))) w := by
  unfold execOp
  simp only [ho, hx, hy]
  simp [go_sem]
theorem execLssI {x y : Operand} {p q : Nat} (ho : o.op = .binOp .lss 3 x y 3) (hx : a.eval x = .int .i64 p) (hy : a.eval y = .int .i64 q) : (execOp a.eval o).run Try.prog w = .ok (.value (.bool (decide (p < q)))) w := by
  unfold execOp
  simp only [ho, hx, hy]
  simp [go_sem]
end
end Go.Proofs.Ytldhhfkplongiaa.By8
