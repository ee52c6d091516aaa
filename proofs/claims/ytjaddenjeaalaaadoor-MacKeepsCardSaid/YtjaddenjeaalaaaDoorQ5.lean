import Derived.Test.YtjaddenjeaalaaaDoorQ4
import Derived.Test.YtjaddenjeaalaaaDoorK4
namespace Go.Proofs.YtjaddenjeaalaaaDoor
open Go.RowKit

section
variable {o : Oper} {a : Act} {w : World}
theorem execAsg {P : Program} {x : Operand} (ho : o.op = .assign x) : (execOp a.eval o).run P w = .ok (.value (a.eval x)) w := by
  unfold execOp
  simp only [ho]
  rfl
theorem execFd0 {x : Operand} {b : Nat} (ho : o.op = .fieldAddr 34 x 0) (hx : a.eval x = .pointer (some ⟨b, 0, none⟩)) : (execOp a.eval o).run Tryd.prog w = .ok (.value (.pointer (some ⟨b, 0, none⟩))) w := by
  unfold execOp
  simp only [ho, hx]
  simp [go_sem]
theorem execFd1 {x : Operand} {b : Nat} (ho : o.op = .fieldAddr 34 x 1) (hx : a.eval x = .pointer (some ⟨b, 0, none⟩)) : (execOp a.eval o).run Tryd.prog w = .ok (.value (.pointer (some ⟨b, 1, none⟩))) w := by
  unfold execOp
  simp only [ho, hx]
  simp [go_sem]
theorem execFd2 {x : Operand} {b : Nat} (ho : o.op = .fieldAddr 34 x 2) (hx : a.eval x = .pointer (some ⟨b, 0, none⟩)) : (execOp a.eval o).run Tryd.prog w = .ok (.value (.pointer (some ⟨b, 2, none⟩))) w := by
  unfold execOp
  simp only [ho, hx]
  simp [go_sem]
theorem execEmpty (ho : o.op = .buildSlice 22 0 #[]) : (execOp a.eval o).run Tryd.prog w = .ok (.value (.slice (some ⟨w.heap.size, 0, none⟩) 0 0)) (w.alloc (.cells #[] 5)) := by
  unfold execOp
  simp only [ho]
  simp [go_sem]
theorem execAlloc32 (ho : o.op = .alloc 25) : (execOp a.eval o).run Tryd.prog w = .ok (.value (.pointer (some ⟨w.heap.size, 0, none⟩))) (w.alloc (.cells (tab8 32 (fun _ => 0)) 25)) := by
  have z := zero28
  unfold execOp
  simp only [ho]
  simp [go_sem, z]
/-- append to an empty list of the call's own: a copy. -/
theorem execCopy {s x : Operand} {b : Addr} {ao : Option Addr} {m c : Nat} {p : Nat → Int} (ho : o.op = .call { callee := .builtin .append, args := #[s, x], argTypes := #[22, 22] }) (hs : a.eval s = .slice (some b) 0 0) (hx : a.eval x = .slice ao m c)
    (h : SliceB w (.slice ao m c) m p) (hm : m ≤ 140737488355328) : ∃ v' w', (execOp a.eval o).run Tryd.prog w = .ok (.value v') w' ∧ SliceB w' v' m p ∧ Below w.heap.size w w' := by
  obtain ⟨i, h1, h2, h3, h4⟩ := info5
  by_cases h0 : m = 0
  · subst h0
    have hl : (loadCells b 0).run Tryd.prog w = .ok #[] w := by simpa using run_loadCells_list (P := Tryd.prog) w b [] (by simp)
    refine ⟨.slice (some b) 0 0, w, ?_, ⟨⟨_, _, rfl, Nat.le_refl _, by omega, fun h => by omega⟩, fun j hj => by omega⟩, Below.refl _ _⟩
    unfold execOp
    cases ao with
    | none => simp [ho, resolve, invoke, builtin, hs, hx, Builtin.append_, run_underlying Tryd.underlying22, sizeOf, typeInfo, h1, Builtin.lenOf, Builtin.firstCells, loadCells, loadCellsFrom, storeCells]
    | some ad => simp [ho, resolve, invoke, builtin, hs, hx, Builtin.append_, run_underlying Tryd.underlying22, sizeOf, typeInfo, h1, Builtin.lenOf, Builtin.firstCells, loadCells, loadCellsFrom, storeCells]
  · have hao : ∃ b2 off, ao = some ⟨b2, off, none⟩ := by
      obtain ⟨a', c', e, _, _, h5⟩ := h.shape
      cases e
      obtain ⟨b2, off, e, _⟩ := h5 (by omega)
      exact ⟨b2, off, e⟩
    obtain ⟨b2, off, rfl⟩ := hao
    have hsrc := src_some h
    have hr := run_append_grow (P := Tryd.prog) w 22 o.type 5 i (.int .u8 0) Tryd.underlying22 h1 h2 b 0 0 [] (by simp) (by simp) ⟨b2, off, none⟩ m c (vals (firstL p m)) (by rw [vals_len, firstL_len, h3, Nat.mul_one]) hsrc (by omega) (by omega) (growslice_fits (by omega) (by rw [h4]; omega))
    have hge := grownCap_ge w (0 + m) 0 5
    have hcm : grownCap w (0 + m) 0 5 ≤ maxLen := grownCap_le_maxLen w (0 + m) 0 5 (by unfold maxLen; omega)
    generalize grownCap w (0 + m) 0 5 = C at hr hge hcm
    rw [Nat.zero_add] at hr hge
    refine ⟨.slice (some ⟨w.heap.size, 0, none⟩) m C, w.drew.alloc (.cells ((([] : List Value).toArray ++ (vals (firstL p m)).toArray ++ Builtin.zeroCells (Value.int .u8 0).cells (C - m))) 5), ?_, ?_, (Below.refl w.heap.size w).drew.alloc (Nat.le_refl _) _⟩
    · unfold execOp
      simp only [ho, resolve, invoke, builtin, Sem.run_bind, Sem.run_pure, Result.andThen_ok, List.map_toArray, List.map_cons, List.map_nil, hs, hx, hr]
    · have hnew : (w.drew.alloc (.cells ((([] : List Value).toArray ++ (vals (firstL p m)).toArray ++ Builtin.zeroCells (Value.int .u8 0).cells (C - m))) 5)).heap[w.heap.size]? = some (.cells ((([] : List Value).toArray ++ (vals (firstL p m)).toArray ++ Builtin.zeroCells (Value.int .u8 0).cells (C - m))) 5) := heap_alloc_new w.drew _
      refine ⟨⟨_, _, rfl, hge, by unfold maxLen at hcm; omega, fun _ => ⟨_, _, rfl, (Array.getElem?_eq_some_iff.1 hnew).1, fun j hj => ?_⟩⟩, h.bytes⟩
      rw [cell_of_row _ _ _ _ _ _ hnew, Nat.zero_add, Array.getElem?_append_left (by simp [vals, firstL]; omega)]
      simpa using firstL_get hj
end

/-- Which block. -/
def blk : Value → Nat
  | .slice (some ad) _ _ => ad.block
  | _ => 0
/-- A list with marked room. -/
def RmV (base l : Nat) (p : Nat → Int) (v : Value) (W : World) : Prop := ∃ g cap, v = .slice (some ⟨g, 0, none⟩) (l + 80) cap ∧ base ≤ g ∧ l + 80 ≤ cap ∧ cap ≤ maxLen ∧ RowP W g (l + 80) (room p l)
theorem RmV.below {base l : Nat} {p : Nat → Int} {v : Value} {W W' : World} (h : RmV base l p v W) (hb : Below W.heap.size W W') : RmV base l p v W' := by
  obtain ⟨g, cap, h1, h2, h3, h4, h5⟩ := h
  exact ⟨g, cap, h1, h2, h3, h4, h5.below hb⟩
theorem RmV.lt {base l : Nat} {p : Nat → Int} {v : Value} {W : World} (h : RmV base l p v W) : blk v < W.heap.size := by
  obtain ⟨g, cap, rfl, _, _, _, h5⟩ := h
  exact h5.lt
def rid : Nat → Nat
  | 2 => 1
  | 9 => 1
  | 5 => 2
  | 10 => 2
  | 8 => 3
  | _ => 0
def rmS (base M ls lt li : Nat) (ps pt pi : Nat → Int) (vs vt vi : Value) (j : Nat) (v : Value) (W : World) : Prop :=
  match j with
  | 0 => v = .pointer (some ⟨M, 0, none⟩)
  | 1 => v = vs
  | 2 => RmV base ls ps v W
  | 3 => v = .pointer (some ⟨M, 1, none⟩)
  | 4 => v = vt
  | 5 => RmV base lt pt v W
  | 6 => v = .pointer (some ⟨M, 2, none⟩)
  | 7 => v = vi
  | 8 => RmV base li pi v W
  | 9 => RmV base ls ps v W
  | 10 => RmV base lt pt v W
  | _ => True
theorem rmS_mono (base M ls lt li : Nat) (ps pt pi : Nat → Int) (vs vt vi : Value) (j : Nat) (v : Value) (W W' : World) (h : rmS base M ls lt li ps pt pi vs vt vi j v W) (hb : Below W.heap.size W W') : rmS base M ls lt li ps pt pi vs vt vi j v W' := by
  match j, h with
  | 0, h => exact h
  | 1, h => exact h
  | 2, h => exact RmV.below h hb
  | 3, h => exact h
  | 4, h => exact h
  | 5, h => exact RmV.below h hb
  | 6, h => exact h
  | 7, h => exact h
  | 8, h => exact RmV.below h hb
  | 9, h => exact RmV.below h hb
  | 10, h => exact RmV.below h hb
  | _ + 11, _ => trivial
theorem rmS_lt {base M ls lt li : Nat} {ps pt pi : Nat → Int} {vs vt vi : Value} {j : Nat} {v : Value} {W : World} (h : rmS base M ls lt li ps pt pi vs vt vi j v W) (hj : rid j ≠ 0) : blk v < W.heap.size := by
  match j, h with
  | 0, _ => exact absurd rfl hj
  | 1, _ => exact absurd rfl hj
  | 2, h => exact RmV.lt h
  | 3, _ => exact absurd rfl hj
  | 4, _ => exact absurd rfl hj
  | 5, h => exact RmV.lt h
  | 6, _ => exact absurd rfl hj
  | 7, _ => exact absurd rfl hj
  | 8, h => exact RmV.lt h
  | 9, h => exact RmV.lt h
  | 10, h => exact RmV.lt h
  | k + 11, _ => exact absurd (by simp [rid]) hj
def rmD (i j : Nat) (u v : Value) : Prop := rid i ≠ 0 → rid j ≠ 0 → rid i ≠ rid j → blk u ≠ blk v
theorem rmD_fresh {base M ls lt li : Nat} {ps pt pi : Nat → Int} {vs vt vi : Value} {j : Nat} {v : Value} {W : World} (hv : rid j = 0 ∨ W.heap.size ≤ blk v) (i : Nat) (u : Value) (h : rmS base M ls lt li ps pt pi vs vt vi i u W) : rmD i j u v ∧ rmD j i v u := by
  refine ⟨fun h1 h2 _ => ?_, fun h1 h2 _ => ?_⟩
  · have := rmS_lt h h1
    rcases hv with hv | hv
    · exact absurd hv h2
    · omega
  · have := rmS_lt h h2
    rcases hv with hv | hv
    · exact absurd hv h1
    · omega
/-- The facts that go through MacKeeps. -/
structure KS (w W : World) (M ga gb gc ls lt li : Nat) (fa fb fc : Nat → Int) (mc : Array Value) : Prop where
  bel : Below w.heap.size w W
  made : W.heap[M]? = some (.cells mc 34)
  ra : RowP W ga (ls + 80) fa
  rb : RowP W gb (lt + 80) fb
  rc : RowP W gc (li + 80) fc
theorem KS.below {w W W' : World} {M ga gb gc ls lt li : Nat} {fa fb fc : Nat → Int} {mc : Array Value} (h : KS w W M ga gb gc ls lt li fa fb fc mc) (hb : Below W.heap.size W W') : KS w W' M ga gb gc ls lt li fa fb fc mc :=
  ⟨h.bel.trans (hb.mono h.bel.size), by rw [hb.block _ (Array.getElem?_eq_some_iff.1 h.made).1]; exact h.made, h.ra.below hb, h.rb.below hb, h.rc.below hb⟩
end Go.Proofs.YtjaddenjeaalaaaDoor
