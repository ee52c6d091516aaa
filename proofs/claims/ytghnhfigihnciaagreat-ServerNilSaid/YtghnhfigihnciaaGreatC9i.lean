import Derived.Test.YtghnhfigihnciaaGreatC9g
namespace Go.Proofs.YtghnhfigihnciaaGreat.Win
open Go.RowKit Gf8 Aes By8 Cel Cf
/- What the reference's Check needs. Written by tools/mkC9i.py. -/

def epC (nu : Int) (v : Value) : Array Value := #[.int .i64 nu, v]
theorem epC_0 {W : World} {g : Nat} {nu : Int} {v : Value} {t : TypeId} (h : W.heap[g]? = some (.cells (epC nu v) t)) : W.cell? ⟨g, 0, none⟩ = some (.int .i64 nu) := by rw [cell_of_row _ _ _ _ _ _ h]; rfl
theorem epC_1 {W : World} {g : Nat} {nu : Int} {v : Value} {t : TypeId} (h : W.heap[g]? = some (.cells (epC nu v) t)) : W.cell? ⟨g, 0 + 1, none⟩ = some v := by rw [cell_of_row _ _ _ _ _ _ h]; rfl
section
variable {o : Oper} {a : Act} {w : World}
theorem exIeql2 {x y : Operand} {p q : Int} (ho : o.op = .binOp .eql 2 x y 2) (hx : a.eval x = .int .i64 p) (hy : a.eval y = .int .i64 q) : (execOp a.eval o).run Tryz.prog w = .ok (.value (.bool (decide (p = q)))) w := by
  unfold execOp
  simp only [ho, hx, hy]
  by_cases h : p = q
  · subst h; simp [go_sem]
  · simp [go_sem, h]
theorem exIneq2 {x y : Operand} {p q : Int} (ho : o.op = .binOp .neq 2 x y 2) (hx : a.eval x = .int .i64 p) (hy : a.eval y = .int .i64 q) : (execOp a.eval o).run Tryz.prog w = .ok (.value (.bool (decide (p ≠ q)))) w := by
  unfold execOp
  simp only [ho, hx, hy]
  by_cases h : p = q
  · subst h; simp [go_sem]
  · simp [go_sem, h]
theorem exIeql3 {x y : Operand} {p q : Int} (ho : o.op = .binOp .eql 3 x y 3) (hx : a.eval x = .int .i64 p) (hy : a.eval y = .int .i64 q) : (execOp a.eval o).run Tryz.prog w = .ok (.value (.bool (decide (p = q)))) w := by
  unfold execOp
  simp only [ho, hx, hy]
  by_cases h : p = q
  · subst h; simp [go_sem]
  · simp [go_sem, h]
theorem execLdEp {x : Operand} {b off : Nat} {nu : Int} {v : Value} (ho : o.op = .load 65 x) (hx : a.eval x = .pointer (some ⟨b, off, none⟩)) (h0 : w.cell? ⟨b, off + 0, none⟩ = some (.int .i64 nu)) (h1 : w.cell? ⟨b, off + 1, none⟩ = some v) : (execOp a.eval o).run Tryz.prog w = .ok (.value (.agg (epC nu v))) w := by
  have hr := run_loadAt_mid (P := Tryz.prog) w b off 65 [.int .i64 nu, v] _ (fun j z hz => by
    match j, hz with
    | 0, hz => rw [← hz]; exact h0
    | 1, hz => rw [← hz]; exact h1) Tryz.underlying65 rfl (by kernel_rfl)
  unfold execOp
  simp only [ho, hx, Sem.run_bind, hr, Result.andThen_ok, Sem.run_pure]
  rfl
end
end Go.Proofs.YtghnhfigihnciaaGreat.Win
