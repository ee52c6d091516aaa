import Derived.Test.YtnfokemikcigbaaK8a
namespace Go.Proofs.Ytnfokemikcigbaa.Ord
open Go.RowKit Gf8 Aes By8 Cel Cf Win Drw Prm
open Go.ChangeMaps Go.MapKept
/- Executions of stage 20's types. Written by tools/mkK8b.py. -/

section
variable {o : Oper} {a : Act} {w : World}
theorem execNl20 {P : Program} {x : Operand} {ad : Addr} (ho : o.op = .nilCheck x) (hx : a.eval x = .pointer (some ad)) : (execOp a.eval o).run P w = .ok (.value (.pointer (some ad))) w := by
  unfold execOp
  simp only [ho, hx]
  simp [go_sem]
theorem execVal {P : Program} {w' : World} {u v : Value} (h : (execOp a.eval o).run P w = .ok (.value u) w') (e : u = v) : (execOp a.eval o).run P w = .ok (.value v) w' := by rw [h, e]
theorem execNg20 {x : Operand} {p : Int} (ho : o.op = .unOp .neg 3 x) (hx : a.eval x = .int .i64 p) (h1 : -9223372036854775807 ≤ p) (h2 : p < 9223372036854775808) : (execOp a.eval o).run Try.prog w = .ok (.value (.int .i64 (-p))) w := by
  unfold execOp
  simp only [ho, hx]
  have : IntKind.i64.wrap (-p) = -p := by simp [IntKind.wrap, IntKind.bits, IntKind.signed]; omega
  simp [go_sem, this]
theorem execFzI0 {x : Operand} {b : Nat} (ho : o.op = .fieldAddr 66 x 0) (hx : a.eval x = .pointer (some ⟨b, 0, none⟩)) : (execOp a.eval o).run Try.prog w = .ok (.value (.pointer (some ⟨b, 0, none⟩))) w := by
  unfold execOp
  simp only [ho, hx]
  simp [go_sem]
theorem execFzI1 {x : Operand} {b : Nat} (ho : o.op = .fieldAddr 66 x 1) (hx : a.eval x = .pointer (some ⟨b, 0, none⟩)) : (execOp a.eval o).run Try.prog w = .ok (.value (.pointer (some ⟨b, 1, none⟩))) w := by
  unfold execOp
  simp only [ho, hx]
  simp [go_sem]
theorem execFzS0 {x : Operand} {b : Nat} (ho : o.op = .fieldAddr 73 x 0) (hx : a.eval x = .pointer (some ⟨b, 0, none⟩)) : (execOp a.eval o).run Try.prog w = .ok (.value (.pointer (some ⟨b, 0, none⟩))) w := by
  unfold execOp
  simp only [ho, hx]
  simp [go_sem]
theorem execFzS1 {x : Operand} {b : Nat} (ho : o.op = .fieldAddr 73 x 1) (hx : a.eval x = .pointer (some ⟨b, 0, none⟩)) : (execOp a.eval o).run Try.prog w = .ok (.value (.pointer (some ⟨b, 1, none⟩))) w := by
  unfold execOp
  simp only [ho, hx]
  simp [go_sem]
theorem execL20 {t : TypeId} {x : Operand} {b k : Nat} {v : Value} (ho : o.op = .load t x) (ht : t = 3 ∨ t = 38 ∨ t = 64 ∨ t = 71 ∨ t = 33 ∨ t = 24 ∨ t = 9) (hx : a.eval x = .pointer (some ⟨b, k, none⟩)) (hc : w.cell? ⟨b, k, none⟩ = some v) : (execOp a.eval o).run Try.prog w = .ok (.value v) w := by
  unfold execOp
  rcases ht with rfl | rfl | rfl | rfl | rfl | rfl | rfl <;> (simp only [ho, hx]; simp [go_sem, hc])
theorem execS20 {t : TypeId} {x y : Operand} {b k : Nat} {u old : Value} (ho : o.op = .store t x y) (ht : t = 3 ∨ t = 38 ∨ t = 64 ∨ t = 71 ∨ t = 33 ∨ t = 24 ∨ t = 9) (hx : a.eval x = .pointer (some ⟨b, k, none⟩)) (hy : a.eval y = u) (hu : (∃ z, u = .int .i64 z) ∨ (∃ q, u = .map q) ∨ ∃ q n c, u = .slice q n c) (hc : w.cell? ⟨b, k, none⟩ = some old) (hf : w.frozen? ⟨b, k, none⟩ = false) : (execOp a.eval o).run Try.prog w = .ok .skip (w.setCell ⟨b, k, none⟩ u) := by
  unfold execOp
  rcases hu with ⟨_, rfl⟩ | ⟨_, rfl⟩ | ⟨_, _, _, rfl⟩ <;> (rcases ht with rfl | rfl | rfl | rfl | rfl | rfl | rfl <;> (simp only [ho, hx, hy]; simp [go_sem, hc, hf]))
theorem execPIeqls {x : Operand} {b k : Nat} (ho : o.op = .binOp .eql 24 x (.const (.pointer none)) 24) (hx : a.eval x = .pointer (some ⟨b, k, none⟩)) : (execOp a.eval o).run Try.prog w = .ok (.value (.bool false)) w := by
  unfold execOp
  simp only [ho, hx]
  simp [go_sem]
theorem execPSeqls {x : Operand} {b k : Nat} (ho : o.op = .binOp .eql 59 x (.const (.pointer none)) 59) (hx : a.eval x = .pointer (some ⟨b, k, none⟩)) : (execOp a.eval o).run Try.prog w = .ok (.value (.bool false)) w := by
  unfold execOp
  simp only [ho, hx]
  simp [go_sem]
theorem exIeqlE {x y : Operand} {p q : Int} (ho : o.op = .binOp .eql 38 x y 38) (hx : a.eval x = .int .i64 p) (hy : a.eval y = .int .i64 q) : (execOp a.eval o).run Try.prog w = .ok (.value (.bool (decide (p = q)))) w := by
  unfold execOp
  simp only [ho, hx, hy]
  by_cases h : p = q <;> simp [go_sem, h]
theorem exIneqE {x y : Operand} {p q : Int} (ho : o.op = .binOp .neq 38 x y 38) (hx : a.eval x = .int .i64 p) (hy : a.eval y = .int .i64 q) : (execOp a.eval o).run Try.prog w = .ok (.value (.bool (decide (p ≠ q)))) w := by
  unfold execOp
  simp only [ho, hx, hy]
  by_cases h : p = q <;> simp [go_sem, h]
end
theorem undI : Try.prog.underlying 64 = some (.map 3 3) := by kernel_rfl
theorem undS : Try.prog.underlying 71 = some (.map 3 9) := by kernel_rfl
theorem zerI (w : World) : (zeroValue 3).run Try.prog w = .ok (.int .i64 0) w := by simp [go_sem]
theorem zerS (w : World) : (zeroValue 9).run Try.prog w = .ok (.string ⟨#[]⟩) w := by simp [go_sem]
/-- The cells of a fault. -/
def fC (lo er : Int) : Array Value := #[.int .i64 lo, .int .i64 er]
end Go.Proofs.Ytnfokemikcigbaa.Ord
