import Derived.Test.YtealknodagdjaaaX1
namespace Go.Proofs.Ytealknodagdjaaa.Gf8
open Go.RowKit

theorem zero4 : ∀ w, (zeroValue 62).run Try.prog w = .ok (.agg (col fun _ => 0)) w :=
  (zero_of_info (n := 4) (by kernel_rfl)).1
section
variable {o : Oper} {a : Act} {w : World}
theorem execIdx4 {x i : Operand} {g k : Nat} (ho : o.op = .indexAddr 62 x i) (hx : a.eval x = .pointer (some ⟨g, 0, none⟩)) (hi : a.eval i = .int .i64 (k : Int)) (hk : k < 4) : (execOp a.eval o).run Try.prog w = .ok (.value (.pointer (some ⟨g, k, none⟩))) w := by
  have h1 : (k : Int) < 4 := by omega
  unfold execOp
  simp only [ho, hx, hi]
  simp [go_sem, h1]
theorem execLd5 {x : Operand} {b f : Nat} {v : Value} (ho : o.op = .load 5 x) (hx : a.eval x = .pointer (some ⟨b, f, none⟩)) (hc : w.cell? ⟨b, f, none⟩ = some v) : (execOp a.eval o).run Try.prog w = .ok (.value v) w := by
  unfold execOp
  simp only [ho, hx]
  simp [go_sem, hc]
theorem execSt5 {x y : Operand} {b f : Nat} {v : Int} {u : Value} (ho : o.op = .store 5 x y) (hx : a.eval x = .pointer (some ⟨b, f, none⟩)) (hy : a.eval y = .int .u8 v) (hc : w.cell? ⟨b, f, none⟩ = some u) (hz : w.frozen? ⟨b, f, none⟩ = false) : (execOp a.eval o).run Try.prog w = .ok .skip (w.setCell ⟨b, f, none⟩ (.int .u8 v)) := by
  unfold execOp
  simp only [ho, hx, hy]
  simp [go_sem, hc, hz]
theorem execAlloc4 (ho : o.op = .alloc 62) : (execOp a.eval o).run Try.prog w = .ok (.value (.pointer (some ⟨w.heap.size, 0, none⟩))) (w.alloc (.cells (col fun _ => 0) 62)) := by
  have h := zero4
  unfold execOp
  simp only [ho]
  simp [go_sem, h]
end
end Go.Proofs.Ytealknodagdjaaa.Gf8
