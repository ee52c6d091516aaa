import Derived.Test.YtedjoakpbknflaaDoorE0
import Derived.Test.YtedjoakpbknflaaDoorB6
namespace Go.Proofs.YtedjoakpbknflaaDoor
open Go.RowKit

def abcC : Array Value := #[.int .u8 97, .int .u8 98, .int .u8 99]
/-- A row of the letters abc that the region itself laid. -/
def Fresh (V : World) (v : Value) (w : World) : Prop := ∃ b fr, v = .slice (some ⟨b, 0, none⟩) 3 3 ∧ V.heap.size ≤ b ∧ w.heap[b]? = some (.cells abcC 5 fr)
/-- What the region's operations leave. -/
def Slot (V : World) (j : Nat) (v : Value) (w : World) : Prop :=
  match j with
  | 0 => v = .bool true
  | 3 | 9 | 20 => v = .agg HS.new.cells
  | 4 | 5 | 21 | 22 => v = .agg (tab8 32 (sumD HS.new))
  | 10 | 11 | 14 | 15 => Fresh V v w
  | 12 => v = .agg h_abc.cells
  | 13 | 16 => v = .agg (tab8 32 (sumD h_abc))
  | _ => v = .bool false
def Rw (w w' : World) : Prop := ∀ (b : Nat) (fr : Nat × Nat), w.heap[b]? = some (.cells abcC 5 fr) → ∃ fr' : Nat × Nat, w'.heap[b]? = some (.cells abcC 5 fr')
theorem Rw.refl (w : World) : Rw w w := fun _ fr h => ⟨fr, h⟩
theorem Rw.of_below {w w' : World} (h : Below w.heap.size w w') : Rw w w' := fun b fr hb => ⟨fr, by rw [h.block b (Array.getElem?_eq_some_iff.1 hb).1]; exact hb⟩
theorem slot_mono {V w w' : World} (h : Rw w w') {j : Nat} {v : Value} (hs : Slot V j v w) : Slot V j v w' := by
  unfold Slot at *
  split at hs <;> first
    | exact hs
    | (obtain ⟨b, fr, h1, h2, h3⟩ := hs
       obtain ⟨fr', h4⟩ := h b fr h3
       exact ⟨b, fr', h1, h2, h4⟩)
def updV (x : Nat → Value) (j : Nat) (v : Value) : Nat → Value := fun i => if i = j then v else x i
theorem slots_put {V w w' : World} {listed : Array Bool} {x : Nat → Value} {j : Nat} {v : Value} (h : ∀ i, i < 25 → listed.getD i false = true → Slot V i (x i) w) (hr : Rw w w') (hv : Slot V j v w') :
    ∀ i, i < 25 → (listed.setIfInBounds j true).getD i false = true → Slot V i (updV x j v i) w' := by
  intro i hi hl
  unfold updV
  by_cases e : i = j
  · subst e; rw [if_pos rfl]; exact hv
  · rw [if_neg e]
    rw [getD_set_ne false (fun y => e y.symm)] at hl
    exact slot_mono hr (h i hi hl)

section
variable {P : Program} {ops : Array Oper} {Q : Exit → Act → World → Prop} {j : Nat} {o : Oper} {a : Act} {w : World} {K : Act → World → Prop}
theorem step_val {v : Value} {w' : World} (ho : ops[j]? = some o) (hw : Region.wanted o (yielded ops a.tmps) = true) (hv : (execOp a.eval o).run P w = .ok (.value v) w') (hK : K (a.put o.dst v) w') : wpOp P ops Q j K a w := by
  unfold wpOp
  rw [ho]
  simp only [hw, if_true]
  left
  unfold Oper.wp
  rw [hv]
  exact hK
theorem step_call {v : Value} {f : FuncId} {args : Array Value} (ho : ops[j]? = some o) (hw : Region.wanted o (yielded ops a.tmps) = true) (hv : (execOp a.eval o).run P w = .ok (.enter f args) w)
    (hc : Calls P f args w fun e w' => e = .returned v ∧ Below w.heap.size w w') (hK : ∀ w', Below w.heap.size w w' → K (a.put o.dst v) w') : wpOp P ops Q j K a w := by
  unfold wpOp
  rw [ho]
  simp only [hw, if_true]
  left
  unfold Oper.wp
  rw [hv]
  exact hc.mono fun e w' ⟨he, hb⟩ => by subst he; exact hK w' hb
end

/- What each kind of operation does. -/
section
variable {o : Oper} {a : Act} {w : World}
theorem exec_move {x : Operand} {v : Value} (ho : o.op = .move x) (hx : a.eval x = v) : (execOp a.eval o).run Tryd.prog w = .ok (.value v) w := by
  unfold execOp
  simp only [ho, hx]
  rfl
theorem exec_not {x : Operand} {b : Bool} (ho : o.op = .unOp .not 4 x) (hx : a.eval x = .bool b) : (execOp a.eval o).run Tryd.prog w = .ok (.value (.bool (!b))) w := by
  unfold execOp
  simp only [ho, hx]
  simp [go_sem]
theorem exec_pick {x y z : Operand} {b : Bool} {v : Value} (ho : o.op = .pick x y z) (hx : a.eval x = .bool b) (hv : (if b then a.eval y else a.eval z) = v) : (execOp a.eval o).run Tryd.prog w = .ok (.value v) w := by
  unfold execOp
  simp only [ho, hx]
  cases b <;> simp_all [go_sem]
theorem exec_call8 (ho : o.op = .call { callee := .value (.func 10), args := #[], argTypes := #[] }) : (execOp a.eval o).run Tryd.prog w = .ok (.enter 10 #[]) w := by
  unfold execOp
  simp only [ho]
  simp [go_sem]
theorem exec_call11 (ho : o.op = .call { callee := .value (.func 13), args := #[], argTypes := #[] }) : (execOp a.eval o).run Tryd.prog w = .ok (.enter 13 #[]) w := by
  unfold execOp
  simp only [ho]
  simp [go_sem]
theorem exec_call9 {x : Operand} {v : Value} (ho : o.op = .call { callee := .value (.func 11), args := #[x], argTypes := #[27] }) (hx : a.eval x = v) : (execOp a.eval o).run Tryd.prog w = .ok (.enter 11 #[v]) w := by
  unfold execOp
  simp only [ho]
  simp [go_sem] at hx ⊢
  exact hx
theorem exec_call7 {x : Operand} {v : Value} (ho : o.op = .call { callee := .value (.func 9), args := #[x], argTypes := #[33] }) (hx : a.eval x = v) : (execOp a.eval o).run Tryd.prog w = .ok (.enter 9 #[v]) w := by
  unfold execOp
  simp only [ho]
  simp [go_sem] at hx ⊢
  exact hx
theorem exec_call10 {x y : Operand} {v u : Value} (ho : o.op = .call { callee := .value (.func 12), args := #[x, y], argTypes := #[27, 33] }) (hx : a.eval x = v) (hy : a.eval y = u) : (execOp a.eval o).run Tryd.prog w = .ok (.enter 12 #[v, u]) w := by
  unfold execOp
  simp only [ho]
  simp [go_sem] at hx hy ⊢
  exact ⟨hx, hy⟩
theorem exec_load27 {x : Operand} {g : Nat} {c : Array Value} (ho : o.op = .load 27 x) (hx : a.eval x = .pointer (some ⟨g, 0, none⟩)) (hg : w.heap[g]? = some (.cells c 27)) (hi : (Tryd.prog.info? 27).map (·.size) = some c.size) : (execOp a.eval o).run Tryd.prog w = .ok (.value (.agg c)) w := by
  unfold execOp
  simp only [ho, hx, Instr.loadAt, Instr.sureAddr, Sem.run_bind, Sem.run_pure, Result.andThen_ok, run_loadVar_row w g 27 27 c (0, 0) _ hg Tryd.underlying27 rfl hi]
theorem exec_load28 {x : Operand} {g : Nat} {c : Array Value} (ho : o.op = .load 28 x) (hx : a.eval x = .pointer (some ⟨g, 0, none⟩)) (hg : w.heap[g]? = some (.cells c 28)) (hi : (Tryd.prog.info? 28).map (·.size) = some c.size) : (execOp a.eval o).run Tryd.prog w = .ok (.value (.agg c)) w := by
  unfold execOp
  simp only [ho, hx, Instr.loadAt, Instr.sureAddr, Sem.run_bind, Sem.run_pure, Result.andThen_ok, run_loadVar_row w g 28 28 c (0, 0) _ hg Tryd.underlying28 rfl hi]
theorem exec_build (ho : o.op = .buildSlice 33 3 #[(0, .const (.int .u8 97)), (1, .const (.int .u8 98)), (2, .const (.int .u8 99))]) : (execOp a.eval o).run Tryd.prog w = .ok (.value (.slice (some ⟨w.heap.size, 0, none⟩) 3 3)) (w.alloc (.cells abcC 5)) := by
  unfold execOp
  simp only [ho]
  simp [go_sem, abcC]
theorem conv_run {b : Nat} {C : Array Value} {fr : Nat × Nat} (n c : Nat) (h : w.heap[b]? = some (.cells C 5 fr)) :
    (convert 33 33 (.slice (some ⟨b, 0, none⟩) n c)).run Tryd.prog w = .ok (.slice (some ⟨b, 0, none⟩) n c) (w.freeze ⟨b, C.size, none⟩ 1) := by
  have hsh : w.shape? b = some (5, C.size) := by unfold World.shape?; rw [h]
  simp [convert, run_underlying Tryd.underlying33, run_underlying Tryd.underlying5, markStringish, hsh]
theorem exec_conv {x : Operand} {b : Nat} {C : Array Value} {fr : Nat × Nat} {n c : Nat} (ho : o.op = .convert 33 33 x) (hx : a.eval x = .slice (some ⟨b, 0, none⟩) n c) (h : w.heap[b]? = some (.cells C 5 fr)) :
    (execOp a.eval o).run Tryd.prog w = .ok (.value (.slice (some ⟨b, 0, none⟩) n c)) (w.freeze ⟨b, C.size, none⟩ 1) := by
  unfold execOp
  simp only [ho, hx, Sem.run_bind, conv_run n c h, Result.andThen_ok, Sem.run_pure]
theorem freeze_heap {b k : Nat} {C : Array Value} {t : TypeId} {fr : Nat × Nat} (h : w.heap[b]? = some (.cells C t fr)) : (∃ fr', (w.freeze ⟨b, k, none⟩ 1).heap[b]? = some (.cells C t fr')) ∧ (∀ i, i ≠ b → (w.freeze ⟨b, k, none⟩ 1).heap[i]? = w.heap[i]?) ∧ (w.freeze ⟨b, k, none⟩ 1).heap.size = w.heap.size ∧ (w.freeze ⟨b, k, none⟩ 1).os = w.os ∧ (w.freeze ⟨b, k, none⟩ 1).tape = w.tape ∧ (w.freeze ⟨b, k, none⟩ 1).output = w.output := by
  unfold World.freeze
  rw [if_neg (by decide)]
  refine ⟨?_, ?_, ?_, rfl, rfl, rfl⟩
  · simp only [Array.getElem?_modify, if_true, h, Option.map_some]
    exact ⟨_, rfl⟩
  · intro i hi
    simp only [Array.getElem?_modify]
    rw [if_neg (fun e => hi e.symm)]
  · simp
end
end Go.Proofs.YtedjoakpbknflaaDoor
