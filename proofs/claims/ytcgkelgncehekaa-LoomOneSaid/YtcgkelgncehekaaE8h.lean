import Derived.Test.YtcgkelgncehekaaE8g
import Derived.WalkKit
namespace Go.Proofs.Ytcgkelgncehekaa.Loo
open Go.RowKit Gf8 Aes By8 Cel Cf Win Drw Prm
/- The laws' same, sameLists, sameHistory. Written by tools/mkE8h.py. -/

theorem hC_at {W : World} {g : Nat} {pk tk : Value} {m l : Nat} {en st : Bool} {t : TypeId} (h : W.heap[g]? = some (.cells (hC pk m en st l tk) t)) : W.cell? ⟨g, 0, none⟩ = some pk ∧ W.cell? ⟨g, 1, none⟩ = some (.int .i64 ((m : Nat) : Int)) ∧ W.cell? ⟨g, 2, none⟩ = some (.bool en) ∧ W.cell? ⟨g, 3, none⟩ = some (.bool st) ∧ W.cell? ⟨g, 4, none⟩ = some (.int .i64 ((l : Nat) : Int)) ∧ W.cell? ⟨g, 5, none⟩ = some tk :=
  ⟨by rw [cell_of_row _ _ _ _ _ _ h]; rfl, by rw [cell_of_row _ _ _ _ _ _ h]; rfl, by rw [cell_of_row _ _ _ _ _ _ h]; rfl, by rw [cell_of_row _ _ _ _ _ _ h]; rfl, by rw [cell_of_row _ _ _ _ _ _ h]; rfl, by rw [cell_of_row _ _ _ _ _ _ h]; rfl⟩
theorem oneH {pk tk : Value} (m l : Nat) (en st : Bool) (h1 : ∃ a n c, pk = .slice a n c) (h2 : ∃ a n c, tk = .slice a n c) : (hC pk m en st l tk).all (·.oneCell') = true := by
  obtain ⟨a, n, c, rfl⟩ := h1
  obtain ⟨a2, n2, c2, rfl⟩ := h2
  simp [hC, Value.oneCell']
section
variable {o : Oper} {a : Act} {w : World}
theorem execAlH (ho : o.op = .alloc 26) : (execOp a.eval o).run Try.prog w = .ok (.value (.pointer (some ⟨w.heap.size, 0, none⟩))) (w.alloc (.cells (hC (.slice none 0 0) 0 false false 0 (.slice none 0 0)) 26)) := by
  unfold execOp
  simp only [ho]
  simp [go_sem, hC]
theorem execStH {x y : Operand} {g m l m0 l0 : Nat} {pk tk pk0 tk0 : Value} {en st en0 st0 : Bool} (ho : o.op = .store 26 x y) (hx : a.eval x = .pointer (some ⟨g, 0, none⟩)) (hy : a.eval y = .agg (hC pk m en st l tk)) (hg : w.heap[g]? = some (.cells (hC pk0 m0 en0 st0 l0 tk0) 26)) (h1 : ∃ a n c, pk = .slice a n c) (h2 : ∃ a n c, tk = .slice a n c) : (execOp a.eval o).run Try.prog w = .ok .skip (w.setRow g (hC pk m en st l tk)) := by
  have h := execStMid (P := Try.prog) ho hx hy hg (Nat.le_refl _) (by show _ = some 6; kernel_rfl) (oneH m l en st h1 h2)
  exact h
theorem execFh0 {x : Operand} {b : Nat} (ho : o.op = .fieldAddr 26 x 0) (hx : a.eval x = .pointer (some ⟨b, 0, none⟩)) : (execOp a.eval o).run Try.prog w = .ok (.value (.pointer (some ⟨b, 0, none⟩))) w := by
  unfold execOp
  simp only [ho, hx]
  simp [go_sem]
theorem execFh1 {x : Operand} {b : Nat} (ho : o.op = .fieldAddr 26 x 1) (hx : a.eval x = .pointer (some ⟨b, 0, none⟩)) : (execOp a.eval o).run Try.prog w = .ok (.value (.pointer (some ⟨b, 1, none⟩))) w := by
  unfold execOp
  simp only [ho, hx]
  simp [go_sem]
theorem execFh2 {x : Operand} {b : Nat} (ho : o.op = .fieldAddr 26 x 2) (hx : a.eval x = .pointer (some ⟨b, 0, none⟩)) : (execOp a.eval o).run Try.prog w = .ok (.value (.pointer (some ⟨b, 2, none⟩))) w := by
  unfold execOp
  simp only [ho, hx]
  simp [go_sem]
theorem execFh3 {x : Operand} {b : Nat} (ho : o.op = .fieldAddr 26 x 3) (hx : a.eval x = .pointer (some ⟨b, 0, none⟩)) : (execOp a.eval o).run Try.prog w = .ok (.value (.pointer (some ⟨b, 3, none⟩))) w := by
  unfold execOp
  simp only [ho, hx]
  simp [go_sem]
theorem execFh4 {x : Operand} {b : Nat} (ho : o.op = .fieldAddr 26 x 4) (hx : a.eval x = .pointer (some ⟨b, 0, none⟩)) : (execOp a.eval o).run Try.prog w = .ok (.value (.pointer (some ⟨b, 4, none⟩))) w := by
  unfold execOp
  simp only [ho, hx]
  simp [go_sem]
theorem execFh5 {x : Operand} {b : Nat} (ho : o.op = .fieldAddr 26 x 5) (hx : a.eval x = .pointer (some ⟨b, 0, none⟩)) : (execOp a.eval o).run Try.prog w = .ok (.value (.pointer (some ⟨b, 5, none⟩))) w := by
  unfold execOp
  simp only [ho, hx]
  simp [go_sem]
theorem execLdG {t : TypeId} {x : Operand} {b k : Nat} {v : Value} (ho : o.op = .load t x) (ht : t = 23 ∨ t = 3 ∨ t = 4 ∨ t = 24 ∨ t = 30 ∨ t = 36) (hx : a.eval x = .pointer (some ⟨b, k, none⟩)) (hc : w.cell? ⟨b, k, none⟩ = some v) : (execOp a.eval o).run Try.prog w = .ok (.value v) w := by
  unfold execOp
  rcases ht with rfl | rfl | rfl | rfl | rfl | rfl <;> (simp only [ho, hx]; simp [go_sem, hc])
theorem execLnLL {x : Operand} {v : Value} {len : Nat} (ho : o.op = .call { callee := .builtin .len, args := #[x], argTypes := #[24] }) (hx : a.eval x = v) (hv : ∃ ao c, v = .slice ao len c) : (execOp a.eval o).run Try.prog w = .ok (.value (.int .i64 ((len : Nat) : Int))) w := by
  obtain ⟨ao, c, rfl⟩ := hv
  unfold execOp
  simp only [ho, resolve, invoke, builtin, Sem.run_bind, Sem.run_pure, Result.andThen_ok, List.map_toArray, List.map_cons, List.map_nil, hx]
  simp [go_sem]
theorem execIxLL {x i : Operand} {g off n cap k : Nat} (ho : o.op = .indexAddr 24 x i) (hx : a.eval x = .slice (some ⟨g, off, none⟩) n cap) (hi : a.eval i = .int .i64 (k : Int)) (hk : k < n) : (execOp a.eval o).run Try.prog w = .ok (.value (.pointer (some ⟨g, off + k, none⟩))) w := by
  have h1 : (k : Int) < n := by omega
  unfold execOp
  simp only [ho, hx, hi]
  simp [go_sem, h1]
theorem execEqBB {x y : Operand} {b : Bool} (ho : o.op = .binOp .eql 4 x y 4) (hx : a.eval x = .bool b) (hy : a.eval y = .bool b) : (execOp a.eval o).run Try.prog w = .ok (.value (.bool true)) w := by
  unfold execOp
  simp only [ho, hx, hy]
  simp [go_sem]
theorem execEreql {x : Operand} {p q : Nat} (ho : o.op = .binOp .eql 27 x (.const (.int .i64 ((q : Nat) : Int))) 27) (hx : a.eval x = .int .i64 ((p : Nat) : Int)) : (execOp a.eval o).run Try.prog w = .ok (.value (.bool (decide (p = q)))) w := by
  unfold execOp
  simp only [ho, hx]
  by_cases h : p = q
  · subst h
    simp [go_sem]
  · have h2 : ¬ (p : Int) = q := by omega
    simp [go_sem, h, h2]
theorem execErneq {x : Operand} {p q : Nat} (ho : o.op = .binOp .neq 27 x (.const (.int .i64 ((q : Nat) : Int))) 27) (hx : a.eval x = .int .i64 ((p : Nat) : Int)) : (execOp a.eval o).run Try.prog w = .ok (.value (.bool (decide (p ≠ q)))) w := by
  unfold execOp
  simp only [ho, hx]
  by_cases h : p = q
  · subst h
    simp [go_sem]
  · have h2 : ¬ (p : Int) = q := by omega
    simp [go_sem, h, h2]
end
theorem sl3 {v : Value} {n : Nat} (h : ∃ a c, v = .slice a n c) : ∃ a n c, v = .slice a n c := by
  obtain ⟨a, c, e⟩ := h
  exact ⟨a, n, c, e⟩
set_option maxRecDepth 100000 in
set_option maxHeartbeats 4000000 in
/-- The laws' same. -/
theorem same19 (f g : Nat → Int) (n : Nat) (v u : Value) (V : World) (hv : SliceI V v n f) (hu : SliceI V u n g) (he : ∀ i, i < n → f i = g i) (hn17 : n ≤ 17592186044416) :
    Calls Try.prog 12 #[v, u] V fun e w' => e = .returned (.bool true) ∧ Below V.heap.size V w' := by
  obtain ⟨ia, ic, rfl, -, -, hsh⟩ := hv.shape
  obtain ⟨ja, jc, rfl, -, -, hsj⟩ := hu.shape
  go_enter Try.func12, Try.ntmps12
  refine wo_ 26 [(0, .slice ia n ic), (1, .slice ja n jc)] ?_
  rintro a A ⟨t0, t1, -⟩
  have BW : Below V.heap.size V V := Below.refl _ _
  have BB : Below V.heap.size V V := Below.refl _ _
  refine wp_seq ?_
  refine wi_ A (h2_ t0 t1) (rf_ [] (h2_ t0 t1) ?_)
  rintro a A - ⟨t0, t1, -⟩
  refine wp_seq ?_
  refine wp_seq ?_
  refine wi_ A (h2_ t0 t1) (rv_ 1 (.int .i64 ((n : Nat) : Int)) (fun a ee => execLenI (len := n) rfl (ee _) ⟨_, _, rfl⟩) (rv_ 3 (.int .i64 ((n : Nat) : Int)) (fun a ee => execLenI (len := n) rfl (ee _) ⟨_, _, rfl⟩) (rv_ 4 (.bool false) (fun a ee => execDec (execNeN (p := n) (q := n) rfl (ee _) (ee _)) (decide_eq_false (by omega))) (rf_ [(10, .bool false)] (h2_ t0 t1) ?_))))
  rintro a A ⟨t10, -⟩ ⟨t0, t1, -⟩
  refine wp_cond_false t10 ?_
  refine wp_skip ?_
  clear t10
  refine wp_seq ?_
  refine wp_seq ?_
  refine wi_ A (h2_ t0 t1) (rf_ [(5, .int .i64 ((0 : Nat) : Int))] (h2_ t0 t1) ?_)
  rintro a A ⟨t5, -⟩ ⟨t0, t1, -⟩
  refine wp_block ?_
  refine wp_loop (fun a W => ∃ (i : Nat), i ≤ n ∧ (a.tmps.size = 26 ∧ a.defers = []) ∧ a.eval (.tmp 0) = .slice ia n ic ∧ a.eval (.tmp 1) = .slice ja n jc ∧ a.eval (.tmp 5) = .int .i64 ((i : Nat) : Int) ∧ Below V.heap.size V W) (fun a _ => n - (intOf (a.eval (.tmp 5))).toNat) ⟨0, Nat.zero_le _, A, t0, t1, t5, BB⟩ ?_
  clear A t0 t1 t5 BB a
  rintro a XL4 ⟨i, hi, A, t0, t1, t5, BB⟩
  have es := t5
  refine wp_seq ?_
  refine wp_seq ?_
  refine wi_ A (h3_ t0 t1 t5) (rv_ 2 (.int .i64 ((n : Nat) : Int)) (fun a ee => execLenI (len := n) rfl (ee _) ⟨_, _, rfl⟩) (rv_ 3 (.bool (decide (i < n))) (fun a ee => execLtW (p := i) (q := n) rfl (ee _) (ee _)) (rf_ [(14, .bool (decide (i < n)))] (h3_ t0 t1 t5) ?_)))
  rintro a A ⟨t14, -⟩ ⟨t0, t1, t5, -⟩
  by_cases hlt : i < n
  · rw [decide_eq_true hlt] at t14
    refine wp_cond_true t14 ?_
    refine wp_skip ?_
    clear t14
    refine wp_seq ?_
    refine wp_block ?_
    obtain ⟨ib, io, rfl, hib, hcI⟩ := hsh (by omega)
    obtain ⟨jb, jo, rfl, hjb, hcJ⟩ := hsj (by omega)
    have cI : ∀ X, Below V.heap.size V X → X.cell? ⟨ib, io + i, none⟩ = some (.int .i64 (f i)) := fun X hX => by rw [cell_below hX hib]; exact hcI i hlt
    have cJ : ∀ X, Below V.heap.size V X → X.cell? ⟨jb, jo + i, none⟩ = some (.int .i64 (f i)) := fun X hX => by rw [cell_below hX hjb, he i hlt]; exact hcJ i hlt
    refine wp_seq ?_
    refine wj_ [0, 1, 2, 3, 4, 5, 6, 7, 8] [] [3, 7] [] A (h3_ t0 t1 t5) (fun X6 bD => ?_)
    refine dw_ 2 (.pointer (some ⟨ib, io + i, none⟩)) (fun a X ee => execIdxN (k := i) rfl (ee _) (ee _) hlt) (dv_ 3 (.int .i64 (f i)) (fun a X ee hb => execLdG rfl (Or.inr (Or.inl rfl)) (ee _) (cI X (BB.trans (hb.mono BB.size)))) (dw_ 6 (.pointer (some ⟨jb, jo + i, none⟩)) (fun a X ee => execIdxN (k := i) rfl (ee _) (ee _) hlt) (dv_ 7 (.int .i64 (f i)) (fun a X ee hb => execLdG rfl (Or.inr (Or.inl rfl)) (ee _) (cJ X (BB.trans (hb.mono BB.size)))) (dw_ 8 (.bool false) (fun a X ee => execDec (exIneq3 (p := (f i)) (q := (f i)) rfl (ee _) (ee _)) (decide_eq_false (fun z => z rfl))) (dz_ [(25, .bool false)] (h3_ t0 t1 t5) ?_)))))
    rintro a A ⟨t25, -⟩ ⟨t0, t1, t5, -⟩
    replace BB := BB.trans (bD.mono BB.size)
    clear bD
    refine wp_cond_false t25 ?_
    refine wp_skip ?_
    clear t25
    refine wi_ A (h3_ t0 t1 t5) (rv_ 1 (.int .i64 ((i + 1 : Nat) : Int)) (fun a ee => execAd8 (p := i) (q := 1) rfl (ee _) rfl (by omega)) (rf_ [(5, .int .i64 ((i + 1 : Nat) : Int))] (h2_ t0 t1) ?_))
    rintro a A ⟨t5, -⟩ ⟨t0, t1, -⟩
    exact ⟨⟨i + 1, hlt, A, t0, t1, t5, BB⟩, by show n - (intOf (a.eval (.tmp 5))).toNat < n - (intOf (Act.eval _ (.tmp 5))).toNat; rw [t5, es]; show n - (i + 1) < n - i; omega⟩
  · rw [decide_eq_false hlt] at t14
    refine wp_cond_false t14 ?_
    refine wp_exit ?_
    first | with_reducible refine exit_in ?_ | with_reducible refine exit_then (exit_in ?_) | with_reducible refine exit_then (exit_then (exit_in ?_)) | refine exit_in ?_ | refine exit_then (exit_in ?_) | refine exit_then (exit_then (exit_in ?_))
    clear t14 es
    refine wp_seq ?_
    refine wi_ A (h3_ t0 t1 t5) (rg_ [(4, .bool true)] ?_)
    rintro a A ⟨t4, -⟩
    refine wp_ret ?_
    refine bodyPost_ret (results_tmp rfl _ _ _) A.2 ⟨?_, BB⟩
    show Ending.returned (a.eval (.tmp 4)) = _
    rw [t4]
end Go.Proofs.Ytcgkelgncehekaa.Loo
