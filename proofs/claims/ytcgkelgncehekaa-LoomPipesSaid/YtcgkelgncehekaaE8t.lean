import Derived.Test.YtcgkelgncehekaaE8n
namespace Go.Proofs.Ytcgkelgncehekaa.Loo
open Go.RowKit Gf8 Aes By8 Cel Cf Win Drw Prm
/- The reference's within, right, Check. Written by tools/mkE8t.py. -/

theorem oC_at {W : World} {g : Nat} {p q r : Int} {t : TypeId} (h : W.heap[g]? = some (.cells (oC p q r) t)) : W.cell? ⟨g, 0, none⟩ = some (.int .i64 p) ∧ W.cell? ⟨g, 1, none⟩ = some (.int .i64 q) ∧ W.cell? ⟨g, 2, none⟩ = some (.int .i64 r) :=
  ⟨by rw [cell_of_row _ _ _ _ _ _ h]; rfl, by rw [cell_of_row _ _ _ _ _ _ h]; rfl, by rw [cell_of_row _ _ _ _ _ _ h]; rfl⟩
theorem plB_at {W : World} {g : Nat} {u v : Value} {t : TypeId} (h : W.heap[g]? = some (.cells #[u, v] t)) : W.cell? ⟨g, 0, none⟩ = some u ∧ W.cell? ⟨g, 1, none⟩ = some v :=
  ⟨by rw [cell_of_row _ _ _ _ _ _ h]; rfl, by rw [cell_of_row _ _ _ _ _ _ h]; rfl⟩
section
variable {o : Oper} {a : Act} {w : World}
theorem execOf0 {x : Operand} {b : Nat} (ho : o.op = .fieldAddr 35 x 0) (hx : a.eval x = .pointer (some ⟨b, 0, none⟩)) : (execOp a.eval o).run Try.prog w = .ok (.value (.pointer (some ⟨b, 0, none⟩))) w := by
  unfold execOp
  simp only [ho, hx]
  simp [go_sem]
theorem execOf1 {x : Operand} {b : Nat} (ho : o.op = .fieldAddr 35 x 1) (hx : a.eval x = .pointer (some ⟨b, 0, none⟩)) : (execOp a.eval o).run Try.prog w = .ok (.value (.pointer (some ⟨b, 1, none⟩))) w := by
  unfold execOp
  simp only [ho, hx]
  simp [go_sem]
theorem execOf2 {x : Operand} {b : Nat} (ho : o.op = .fieldAddr 35 x 2) (hx : a.eval x = .pointer (some ⟨b, 0, none⟩)) : (execOp a.eval o).run Try.prog w = .ok (.value (.pointer (some ⟨b, 2, none⟩))) w := by
  unfold execOp
  simp only [ho, hx]
  simp [go_sem]
theorem execPf0 {x : Operand} {b : Nat} (ho : o.op = .fieldAddr 32 x 0) (hx : a.eval x = .pointer (some ⟨b, 0, none⟩)) : (execOp a.eval o).run Try.prog w = .ok (.value (.pointer (some ⟨b, 0, none⟩))) w := by
  unfold execOp
  simp only [ho, hx]
  simp [go_sem]
theorem execPf1 {x : Operand} {b : Nat} (ho : o.op = .fieldAddr 32 x 1) (hx : a.eval x = .pointer (some ⟨b, 0, none⟩)) : (execOp a.eval o).run Try.prog w = .ok (.value (.pointer (some ⟨b, 1, none⟩))) w := by
  unfold execOp
  simp only [ho, hx]
  simp [go_sem]
theorem execBxO {x : Operand} {p q r : Int} (ho : o.op = .box 35 x) (hx : a.eval x = .agg (oC p q r)) : (execOp a.eval o).run Try.prog w = .ok (.value (.pointer (some ⟨w.heap.size, 0, none⟩))) (w.alloc (.cells (oC p q r) 35)) := by
  unfold execOp
  simp only [ho, hx]
  simp [go_sem]
theorem execBxP {x : Operand} {u v : Value} (ho : o.op = .box 32 x) (hx : a.eval x = .agg #[u, v]) (hu : ∃ a n c, u = .slice a n c) (hv : ∃ a n c, v = .slice a n c) : (execOp a.eval o).run Try.prog w = .ok (.value (.pointer (some ⟨w.heap.size, 0, none⟩))) (w.alloc (.cells #[u, v] 32)) := by
  obtain ⟨a1, n1, c1, rfl⟩ := hu
  obtain ⟨a2, n2, c2, rfl⟩ := hv
  unfold execOp
  simp only [ho, hx]
  simp [go_sem]
theorem execLnOO {x : Operand} {v : Value} {len : Nat} (ho : o.op = .call { callee := .builtin .len, args := #[x], argTypes := #[30] }) (hx : a.eval x = v) (hv : ∃ ao c, v = .slice ao len c) : (execOp a.eval o).run Try.prog w = .ok (.value (.int .i64 ((len : Nat) : Int))) w := by
  obtain ⟨ao, c, rfl⟩ := hv
  unfold execOp
  simp only [ho, resolve, invoke, builtin, Sem.run_bind, Sem.run_pure, Result.andThen_ok, List.map_toArray, List.map_cons, List.map_nil, hx]
  simp [go_sem]
theorem execLnOs {x : Operand} {v : Value} {len : Nat} (ho : o.op = .call { callee := .builtin .len, args := #[x], argTypes := #[36] }) (hx : a.eval x = v) (hv : ∃ ao c, v = .slice ao len c) : (execOp a.eval o).run Try.prog w = .ok (.value (.int .i64 ((len : Nat) : Int))) w := by
  obtain ⟨ao, c, rfl⟩ := hv
  unfold execOp
  simp only [ho, resolve, invoke, builtin, Sem.run_bind, Sem.run_pure, Result.andThen_ok, List.map_toArray, List.map_cons, List.map_nil, hx]
  simp [go_sem]
theorem execIxOO {x i : Operand} {g off n cap k : Nat} (ho : o.op = .indexAddr 30 x i) (hx : a.eval x = .slice (some ⟨g, off, none⟩) n cap) (hi : a.eval i = .int .i64 (k : Int)) (hk : k < n) : (execOp a.eval o).run Try.prog w = .ok (.value (.pointer (some ⟨g, off + k, none⟩))) w := by
  have h1 : (k : Int) < n := by omega
  unfold execOp
  simp only [ho, hx, hi]
  simp [go_sem, h1]
theorem execIxOs {x i : Operand} {g off n cap k : Nat} (ho : o.op = .indexAddr 36 x i) (hx : a.eval x = .slice (some ⟨g, off, none⟩) n cap) (hi : a.eval i = .int .i64 (k : Int)) (hk : k < n) : (execOp a.eval o).run Try.prog w = .ok (.value (.pointer (some ⟨g, off + k * 3, none⟩))) w := by
  have h1 : (k : Int) < n := by omega
  unfold execOp
  simp only [ho, hx, hi]
  simp [go_sem, h1]
theorem execLdO {x : Operand} {g f : Nat} {q : Op3} (ho : o.op = .load 35 x) (hx : a.eval x = .pointer (some ⟨g, f, none⟩)) (h : w.cell? ⟨g, f, none⟩ = some (.int .i64 q.k) ∧ w.cell? ⟨g, f + 1, none⟩ = some (.int .i64 q.a) ∧ w.cell? ⟨g, f + 2, none⟩ = some (.int .i64 q.b)) : (execOp a.eval o).run Try.prog w = .ok (.value (.agg (oC q.k q.a q.b))) w := by
  have h := execLoadMid (P := Try.prog) (cs := (oC q.k q.a q.b).toList) ho hx (fun j v hv => by
    match j, hv with
    | 0, hv => exact h.1.trans hv
    | 1, hv => exact h.2.1.trans hv
    | 2, hv => exact h.2.2.trans hv
    | j + 3, hv => cases hv) Try.underlying35 rfl (by show _ = some 3; kernel_rfl)
  exact h
end
theorem SliceO.shp {W : World} {v : Value} {n : Nat} {q : Nat → Op3} (h : SliceO W v n q) : ∃ a c, v = .slice a n c := by
  obtain ⟨a, c, e, _⟩ := h.shape
  exact ⟨a, c, e⟩
theorem SliceO.open {W : World} {v : Value} {n : Nat} {q : Nat → Op3} (h : SliceO W v n q) (h0 : 0 < n) : ∃ b off c, v = .slice (some ⟨b, off, none⟩) n c := by
  obtain ⟨a, cap, e1, h1⟩ := h.shape
  obtain ⟨b, off, e2, _⟩ := h1 h0
  exact ⟨b, off, cap, by rw [e1, e2]⟩
theorem SliceO.at {W : World} {v : Value} {n b off c j : Nat} {q : Nat → Op3} (h : SliceO W v n q) (e : v = .slice (some ⟨b, off, none⟩) n c) (hj : j < n) : W.cell? ⟨b, off + j * 3, none⟩ = some (.int .i64 (q j).k) ∧ W.cell? ⟨b, off + j * 3 + 1, none⟩ = some (.int .i64 (q j).a) ∧ W.cell? ⟨b, off + j * 3 + 2, none⟩ = some (.int .i64 (q j).b) := by
  obtain ⟨a, cap, e1, h1⟩ := h.shape
  rw [e] at e1
  obtain ⟨b2, off2, e2, _, h3⟩ := h1 (by omega)
  rw [e2] at e1
  injection e1 with e3
  injection e3 with e3
  injection e3 with e4 e5 _
  rw [e4, e5]
  exact h3 j hj
end Go.Proofs.Ytcgkelgncehekaa.Loo
