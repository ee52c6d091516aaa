import Derived.Test.YtcgkelgncehekabE8g
import Derived.WalkKit
namespace Go.Proofs.Ytcgkelgncehekab.Loo
open Go.RowKit Gf8 Aes By8 Cel Cf Win Drw Prm
/- The laws' same, sameLists, sameHistory. Written by tools/mkE8h.py. -/

theorem hC_at {W : World} {g : Nat} {pk tk : Value} {m l : Nat} {en st : Bool} {t : TypeId} (h : W.heap[g]? = some (.cells (hC pk m en st l tk) t)) : W.cell? ⟨g, 0, none⟩ = some pk ∧ W.cell? ⟨g, 1, none⟩ = some (.int .i64 ((m : Nat) : Int)) ∧ W.cell? ⟨g, 2, none⟩ = some (.bool en) ∧ W.cell? ⟨g, 3, none⟩ = some (.bool st) ∧ W.cell? ⟨g, 4, none⟩ = some (.int .i64 ((l : Nat) : Int)) ∧ W.cell? ⟨g, 5, none⟩ = some tk :=
  ⟨by rw [cell_of_row _ _ _ _ _ _ h]; rfl, by rw [cell_of_row _ _ _ _ _ _ h]; rfl, by rw [cell_of_row _ _ _ _ _ _ h]; rfl, by rw [cell_of_row _ _ _ _ _ _ h]; rfl, by rw [cell_of_row _ _ _ _ _ _ h]; rfl, by rw [cell_of_row _ _ _ _ _ _ h]; rfl⟩
theorem oneH {pk tk : Value} (m l : Nat) (en st : Bool) (h1 : ∃ a n c, pk = .slice a n c) (h2 : ∃ a n c, tk = .slice a n c) : (hC pk m en st l tk).all (·.oneCell') = true := by
  obtain ⟨a, n, c, rfl⟩ := h1
  obtain ⟨a2, n2, c2, rfl⟩ := h2
  simp [hC, Value.oneCell']
section
variable {o : Oper} {a : Act} {w : World}
theorem execBxH {x : Operand} {pk tk : Value} {m l : Nat} {en st : Bool} (ho : o.op = .box 29 x) (hx : a.eval x = .agg (hC pk m en st l tk)) (h1 : ∃ a n c, pk = .slice a n c) (h2 : ∃ a n c, tk = .slice a n c) : (execOp a.eval o).run Try.prog w = .ok (.value (.pointer (some ⟨w.heap.size, 0, none⟩))) (w.alloc (.cells (hC pk m en st l tk) 29)) := by
  obtain ⟨q, n, c, rfl⟩ := h1
  obtain ⟨q2, n2, c2, rfl⟩ := h2
  unfold execOp
  simp only [ho, hx]
  simp [go_sem]
theorem execAlH (ho : o.op = .alloc 29) : (execOp a.eval o).run Try.prog w = .ok (.value (.pointer (some ⟨w.heap.size, 0, none⟩))) (w.alloc (.cells (hC (.slice none 0 0) 0 false false 0 (.slice none 0 0)) 29)) := by
  unfold execOp
  simp only [ho]
  simp [go_sem, hC]
theorem execStH {x y : Operand} {g m l m0 l0 : Nat} {pk tk pk0 tk0 : Value} {en st en0 st0 : Bool} (ho : o.op = .store 29 x y) (hx : a.eval x = .pointer (some ⟨g, 0, none⟩)) (hy : a.eval y = .agg (hC pk m en st l tk)) (hg : w.heap[g]? = some (.cells (hC pk0 m0 en0 st0 l0 tk0) 29)) (h1 : ∃ a n c, pk = .slice a n c) (h2 : ∃ a n c, tk = .slice a n c) : (execOp a.eval o).run Try.prog w = .ok .skip (w.setRow g (hC pk m en st l tk)) := by
  have h := execStMid (P := Try.prog) ho hx hy hg (Nat.le_refl _) (by show _ = some 6; kernel_rfl) (oneH m l en st h1 h2)
  exact h
theorem execFh0 {x : Operand} {b : Nat} (ho : o.op = .fieldAddr 29 x 0) (hx : a.eval x = .pointer (some ⟨b, 0, none⟩)) : (execOp a.eval o).run Try.prog w = .ok (.value (.pointer (some ⟨b, 0, none⟩))) w := by
  unfold execOp
  simp only [ho, hx]
  simp [go_sem]
theorem execFh1 {x : Operand} {b : Nat} (ho : o.op = .fieldAddr 29 x 1) (hx : a.eval x = .pointer (some ⟨b, 0, none⟩)) : (execOp a.eval o).run Try.prog w = .ok (.value (.pointer (some ⟨b, 1, none⟩))) w := by
  unfold execOp
  simp only [ho, hx]
  simp [go_sem]
theorem execFh2 {x : Operand} {b : Nat} (ho : o.op = .fieldAddr 29 x 2) (hx : a.eval x = .pointer (some ⟨b, 0, none⟩)) : (execOp a.eval o).run Try.prog w = .ok (.value (.pointer (some ⟨b, 2, none⟩))) w := by
  unfold execOp
  simp only [ho, hx]
  simp [go_sem]
theorem execFh3 {x : Operand} {b : Nat} (ho : o.op = .fieldAddr 29 x 3) (hx : a.eval x = .pointer (some ⟨b, 0, none⟩)) : (execOp a.eval o).run Try.prog w = .ok (.value (.pointer (some ⟨b, 3, none⟩))) w := by
  unfold execOp
  simp only [ho, hx]
  simp [go_sem]
theorem execFh4 {x : Operand} {b : Nat} (ho : o.op = .fieldAddr 29 x 4) (hx : a.eval x = .pointer (some ⟨b, 0, none⟩)) : (execOp a.eval o).run Try.prog w = .ok (.value (.pointer (some ⟨b, 4, none⟩))) w := by
  unfold execOp
  simp only [ho, hx]
  simp [go_sem]
theorem execFh5 {x : Operand} {b : Nat} (ho : o.op = .fieldAddr 29 x 5) (hx : a.eval x = .pointer (some ⟨b, 0, none⟩)) : (execOp a.eval o).run Try.prog w = .ok (.value (.pointer (some ⟨b, 5, none⟩))) w := by
  unfold execOp
  simp only [ho, hx]
  simp [go_sem]
theorem execLdG {t : TypeId} {x : Operand} {b k : Nat} {v : Value} (ho : o.op = .load t x) (ht : t = 22 ∨ t = 3 ∨ t = 4 ∨ t = 27 ∨ t = 23 ∨ t = 36) (hx : a.eval x = .pointer (some ⟨b, k, none⟩)) (hc : w.cell? ⟨b, k, none⟩ = some v) : (execOp a.eval o).run Try.prog w = .ok (.value v) w := by
  unfold execOp
  rcases ht with rfl | rfl | rfl | rfl | rfl | rfl <;> (simp only [ho, hx]; simp [go_sem, hc])
theorem execLnLL {x : Operand} {v : Value} {len : Nat} (ho : o.op = .call { callee := .builtin .len, args := #[x], argTypes := #[27] }) (hx : a.eval x = v) (hv : ∃ ao c, v = .slice ao len c) : (execOp a.eval o).run Try.prog w = .ok (.value (.int .i64 ((len : Nat) : Int))) w := by
  obtain ⟨ao, c, rfl⟩ := hv
  unfold execOp
  simp only [ho, resolve, invoke, builtin, Sem.run_bind, Sem.run_pure, Result.andThen_ok, List.map_toArray, List.map_cons, List.map_nil, hx]
  simp [go_sem]
theorem execIxLL {x i : Operand} {g off n cap k : Nat} (ho : o.op = .indexAddr 27 x i) (hx : a.eval x = .slice (some ⟨g, off, none⟩) n cap) (hi : a.eval i = .int .i64 (k : Int)) (hk : k < n) : (execOp a.eval o).run Try.prog w = .ok (.value (.pointer (some ⟨g, off + k, none⟩))) w := by
  have h1 : (k : Int) < n := by omega
  unfold execOp
  simp only [ho, hx, hi]
  simp [go_sem, h1]
theorem execEqBB {x y : Operand} {b : Bool} (ho : o.op = .binOp .eql 4 x y 4) (hx : a.eval x = .bool b) (hy : a.eval y = .bool b) : (execOp a.eval o).run Try.prog w = .ok (.value (.bool true)) w := by
  unfold execOp
  simp only [ho, hx, hy]
  simp [go_sem]
theorem execEreql {x : Operand} {p q : Nat} (ho : o.op = .binOp .eql 30 x (.const (.int .i64 ((q : Nat) : Int))) 30) (hx : a.eval x = .int .i64 ((p : Nat) : Int)) : (execOp a.eval o).run Try.prog w = .ok (.value (.bool (decide (p = q)))) w := by
  unfold execOp
  simp only [ho, hx]
  by_cases h : p = q
  · subst h
    simp [go_sem]
  · have h2 : ¬ (p : Int) = q := by omega
    simp [go_sem, h, h2]
theorem execErneq {x : Operand} {p q : Nat} (ho : o.op = .binOp .neq 30 x (.const (.int .i64 ((q : Nat) : Int))) 30) (hx : a.eval x = .int .i64 ((p : Nat) : Int)) : (execOp a.eval o).run Try.prog w = .ok (.value (.bool (decide (p ≠ q)))) w := by
  unfold execOp
  simp only [ho, hx]
  by_cases h : p = q
  · subst h
    simp [go_sem]
  · have h2 : ¬ (p : Int) = q := by omega
    simp [go_sem, h, h2]
end
theorem sl3 {v : Value} {n : Nat} (h : ∃ a c, v = .slice a n c) : ∃ a n c, v = .slice a n c := by
  obtain ⟨a, c, e⟩ := h
  exact ⟨a, n, c, e⟩
set_option maxRecDepth 100000 in
set_option maxHeartbeats 4000000 in
/-- The laws' same. -/
theorem same19 (f g : Nat → Int) (n : Nat) (v u : Value) (V : World) (hv : SliceI V v n f) (hu : SliceI V u n g) (he : ∀ i, i < n → f i = g i) (hn17 : n ≤ 17592186044416) :
    Calls Try.prog 9 #[v, u] V fun e w' => e = .returned (.bool true) ∧ Below V.heap.size V w' := by
  obtain ⟨ia, ic, rfl, -, -, hsh⟩ := hv.shape
  obtain ⟨ja, jc, rfl, -, -, hsj⟩ := hu.shape
  go_enter Try.func9, Try.ntmps9
  refine wo_ 26 [(0, .slice ia n ic), (1, .slice ja n jc)] ?_
  rintro a A ⟨t0, t1, -⟩
  have BW : Below V.heap.size V V := Below.refl _ _
  have BB : Below V.heap.size V V := Below.refl _ _
  refine wp_seq ?_
  refine wi_ A (h2_ t0 t1) (rf_ [] (h2_ t0 t1) ?_)
  rintro a A - ⟨t0, t1, -⟩
  refine wp_seq ?_
  refine wp_seq ?_
  refine wi_ A (h2_ t0 t1) (rv_ 1 (.int .i64 ((n : Nat) : Int)) (fun a ee => execLenI (len := n) rfl (ee _) ⟨_, _, rfl⟩) (rv_ 3 (.int .i64 ((n : Nat) : Int)) (fun a ee => execLenI (len := n) rfl (ee _) ⟨_, _, rfl⟩) (rv_ 4 (.bool false) (fun a ee => execDec (execNeN (p := n) (q := n) rfl (ee _) (ee _)) (decide_eq_false (by omega))) (rf_ [(10, .bool false)] (h2_ t0 t1) ?_))))
  rintro a A ⟨t10, -⟩ ⟨t0, t1, -⟩
  refine wp_cond_false t10 ?_
  refine wp_skip ?_
  clear t10
  refine wp_seq ?_
  refine wp_seq ?_
  refine wi_ A (h2_ t0 t1) (rf_ [(5, .int .i64 ((0 : Nat) : Int))] (h2_ t0 t1) ?_)
  rintro a A ⟨t5, -⟩ ⟨t0, t1, -⟩
  refine wp_block ?_
  refine wp_loop (fun a W => ∃ (i : Nat), i ≤ n ∧ (a.tmps.size = 26 ∧ a.defers = []) ∧ a.eval (.tmp 0) = .slice ia n ic ∧ a.eval (.tmp 1) = .slice ja n jc ∧ a.eval (.tmp 5) = .int .i64 ((i : Nat) : Int) ∧ Below V.heap.size V W) (fun a _ => n - (intOf (a.eval (.tmp 5))).toNat) ⟨0, Nat.zero_le _, A, t0, t1, t5, BB⟩ ?_
  clear A t0 t1 t5 BB a
  rintro a XL4 ⟨i, hi, A, t0, t1, t5, BB⟩
  have es := t5
  refine wp_seq ?_
  refine wp_seq ?_
  refine wi_ A (h3_ t0 t1 t5) (rv_ 2 (.int .i64 ((n : Nat) : Int)) (fun a ee => execLenI (len := n) rfl (ee _) ⟨_, _, rfl⟩) (rv_ 3 (.bool (decide (i < n))) (fun a ee => execLtW (p := i) (q := n) rfl (ee _) (ee _)) (rf_ [(14, .bool (decide (i < n)))] (h3_ t0 t1 t5) ?_)))
  rintro a A ⟨t14, -⟩ ⟨t0, t1, t5, -⟩
  by_cases hlt : i < n
  · rw [decide_eq_true hlt] at t14
    refine wp_cond_true t14 ?_
    refine wp_skip ?_
    clear t14
    refine wp_seq ?_
    refine wp_block ?_
    obtain ⟨ib, io, rfl, hib, hcI⟩ := hsh (by omega)
    obtain ⟨jb, jo, rfl, hjb, hcJ⟩ := hsj (by omega)
    have cI : ∀ X, Below V.heap.size V X → X.cell? ⟨ib, io + i, none⟩ = some (.int .i64 (f i)) := fun X hX => by rw [cell_below hX hib]; exact hcI i hlt
    have cJ : ∀ X, Below V.heap.size V X → X.cell? ⟨jb, jo + i, none⟩ = some (.int .i64 (f i)) := fun X hX => by rw [cell_below hX hjb, he i hlt]; exact hcJ i hlt
    refine wp_seq ?_
    refine wj_ [0, 1, 2, 3, 4, 5, 6, 7, 8] [] [3, 7] [] A (h3_ t0 t1 t5) (fun X6 bD => ?_)
    refine dw_ 2 (.pointer (some ⟨ib, io + i, none⟩)) (fun a X ee => execIdxN (k := i) rfl (ee _) (ee _) hlt) (dv_ 3 (.int .i64 (f i)) (fun a X ee hb => execLdG rfl (Or.inr (Or.inl rfl)) (ee _) (cI X (BB.trans (hb.mono BB.size)))) (dw_ 6 (.pointer (some ⟨jb, jo + i, none⟩)) (fun a X ee => execIdxN (k := i) rfl (ee _) (ee _) hlt) (dv_ 7 (.int .i64 (f i)) (fun a X ee hb => execLdG rfl (Or.inr (Or.inl rfl)) (ee _) (cJ X (BB.trans (hb.mono BB.size)))) (dw_ 8 (.bool false) (fun a X ee => execDec (exIneq3 (p := (f i)) (q := (f i)) rfl (ee _) (ee _)) (decide_eq_false (fun z => z rfl))) (dz_ [(25, .bool false)] (h3_ t0 t1 t5) ?_)))))
    rintro a A ⟨t25, -⟩ ⟨t0, t1, t5, -⟩
    replace BB := BB.trans (bD.mono BB.size)
    clear bD
    refine wp_cond_false t25 ?_
    refine wp_skip ?_
    clear t25
    refine wi_ A (h3_ t0 t1 t5) (rv_ 1 (.int .i64 ((i + 1 : Nat) : Int)) (fun a ee => execAd8 (p := i) (q := 1) rfl (ee _) rfl (by omega)) (rf_ [(5, .int .i64 ((i + 1 : Nat) : Int))] (h2_ t0 t1) ?_))
    rintro a A ⟨t5, -⟩ ⟨t0, t1, -⟩
    exact ⟨⟨i + 1, hlt, A, t0, t1, t5, BB⟩, by show n - (intOf (a.eval (.tmp 5))).toNat < n - (intOf (Act.eval _ (.tmp 5))).toNat; rw [t5, es]; show n - (i + 1) < n - i; omega⟩
  · rw [decide_eq_false hlt] at t14
    refine wp_cond_false t14 ?_
    refine wp_exit ?_
    first | with_reducible refine exit_in ?_ | with_reducible refine exit_then (exit_in ?_) | with_reducible refine exit_then (exit_then (exit_in ?_)) | refine exit_in ?_ | refine exit_then (exit_in ?_) | refine exit_then (exit_then (exit_in ?_))
    clear t14 es
    refine wp_seq ?_
    refine wi_ A (h3_ t0 t1 t5) (rg_ [(4, .bool true)] ?_)
    rintro a A ⟨t4, -⟩
    refine wp_ret ?_
    refine bodyPost_ret (results_tmp rfl _ _ _) A.2 ⟨?_, BB⟩
    show Ending.returned (a.eval (.tmp 4)) = _
    rw [t4]
set_option maxRecDepth 100000 in
set_option maxHeartbeats 4000000 in
/-- The laws' sameLists. -/
theorem sameLists19 (n : Nat) (x y : Nat → Value) (nn : Nat → Nat) (f g : Nat → Nat → Int) (v u : Value) (V : World) (hv : SliceV V v n x) (hu : SliceV V u n y) (hx : ∀ t, t < n → SliceI V (x t) (nn t) (f t)) (hy : ∀ t, t < n → SliceI V (y t) (nn t) (g t)) (he : ∀ t, t < n → ∀ j, j < nn t → f t j = g t j) (hn : ∀ t, t < n → nn t ≤ 17592186044416) (hn17 : n ≤ 17592186044416) :
    Calls Try.prog 18 #[v, u] V fun e w' => e = .returned (.bool true) ∧ Below V.heap.size V w' := by
  obtain ⟨ia, ic, rfl, hsh⟩ := hv
  obtain ⟨ja, jc, rfl, hsj⟩ := hu
  go_enter Try.func18, Try.ntmps18
  refine wo_ 27 [(0, .slice ia n ic), (1, .slice ja n jc)] ?_
  rintro a A ⟨t0, t1, -⟩
  have BW : Below V.heap.size V V := Below.refl _ _
  have BB : Below V.heap.size V V := Below.refl _ _
  refine wp_seq ?_
  refine wi_ A (h2_ t0 t1) (rf_ [] (h2_ t0 t1) ?_)
  rintro a A - ⟨t0, t1, -⟩
  refine wp_seq ?_
  refine wp_seq ?_
  refine wi_ A (h2_ t0 t1) (rv_ 1 (.int .i64 ((n : Nat) : Int)) (fun a ee => execLnLL (len := n) rfl (ee _) ⟨_, _, rfl⟩) (rv_ 3 (.int .i64 ((n : Nat) : Int)) (fun a ee => execLnLL (len := n) rfl (ee _) ⟨_, _, rfl⟩) (rv_ 4 (.bool false) (fun a ee => execDec (execNeN (p := n) (q := n) rfl (ee _) (ee _)) (decide_eq_false (by omega))) (rf_ [(10, .bool false)] (h2_ t0 t1) ?_))))
  rintro a A ⟨t10, -⟩ ⟨t0, t1, -⟩
  refine wp_cond_false t10 ?_
  refine wp_skip ?_
  clear t10
  refine wp_seq ?_
  refine wp_seq ?_
  refine wi_ A (h2_ t0 t1) (rf_ [(5, .int .i64 ((0 : Nat) : Int))] (h2_ t0 t1) ?_)
  rintro a A ⟨t5, -⟩ ⟨t0, t1, -⟩
  refine wp_block ?_
  refine wp_loop (fun a W => ∃ (i : Nat), i ≤ n ∧ (a.tmps.size = 27 ∧ a.defers = []) ∧ a.eval (.tmp 0) = .slice ia n ic ∧ a.eval (.tmp 1) = .slice ja n jc ∧ a.eval (.tmp 5) = .int .i64 ((i : Nat) : Int) ∧ Below V.heap.size V W) (fun a _ => n - (intOf (a.eval (.tmp 5))).toNat) ⟨0, Nat.zero_le _, A, t0, t1, t5, BB⟩ ?_
  clear A t0 t1 t5 BB a
  rintro a XL4 ⟨i, hi, A, t0, t1, t5, BB⟩
  have es := t5
  refine wp_seq ?_
  refine wp_seq ?_
  refine wi_ A (h3_ t0 t1 t5) (rv_ 2 (.int .i64 ((n : Nat) : Int)) (fun a ee => execLnLL (len := n) rfl (ee _) ⟨_, _, rfl⟩) (rv_ 3 (.bool (decide (i < n))) (fun a ee => execLtW (p := i) (q := n) rfl (ee _) (ee _)) (rf_ [(14, .bool (decide (i < n)))] (h3_ t0 t1 t5) ?_)))
  rintro a A ⟨t14, -⟩ ⟨t0, t1, t5, -⟩
  by_cases hlt : i < n
  · rw [decide_eq_true hlt] at t14
    refine wp_cond_true t14 ?_
    refine wp_skip ?_
    clear t14
    refine wp_seq ?_
    refine wp_block ?_
    obtain ⟨ib, io, rfl, hib, hcI⟩ := hsh (by omega)
    obtain ⟨jb, jo, rfl, hjb, hcJ⟩ := hsj (by omega)
    have cI : ∀ X, Below V.heap.size V X → X.cell? ⟨ib, io + i, none⟩ = some (x i) := fun X hX => by rw [cell_below hX hib]; exact hcI i hlt
    have cJ : ∀ X, Below V.heap.size V X → X.cell? ⟨jb, jo + i, none⟩ = some (y i) := fun X hX => by rw [cell_below hX hjb]; exact hcJ i hlt
    refine wp_seq ?_
    refine wj_ [0, 1, 2, 3, 4, 5, 6, 7, 8, 9] [8] [3, 7] [] A (h3_ t0 t1 t5) (fun X6_0 bD => ?_)
    refine dw_ 2 (.pointer (some ⟨ib, io + i, none⟩)) (fun a X ee => execIxLL (k := i) rfl (ee _) (ee _) hlt) (dv_ 3 (x i) (fun a X ee hb => execLdG rfl (Or.inl rfl) (ee _) (cI X (BB.trans (hb.mono BB.size)))) (dw_ 6 (.pointer (some ⟨jb, jo + i, none⟩)) (fun a X ee => execIxLL (k := i) rfl (ee _) (ee _) hlt) (dv_ 7 (y i) (fun a X ee hb => execLdG rfl (Or.inl rfl) (ee _) (cJ X (BB.trans (hb.mono BB.size)))) (dc_ 8 (same19 _ _ _ _ _ X6_0 ((hx i hlt).on (BB.trans (bD.mono BB.size))) ((hy i hlt).on (BB.trans (bD.mono BB.size))) (he i hlt) (hn i hlt)) (cb_ fun X6 bQ => ?_)))))
    replace bD := bD.trans (bQ.mono bD.size)
    clear bQ
    refine ⟨Or.inr bD, ?_⟩
    refine dw_ 9 (.bool false) (fun a X ee => execNot8 (b := true) rfl (ee _)) (dz_ [(26, .bool false)] (h3_ t0 t1 t5) ?_)
    rintro a A ⟨t26, -⟩ ⟨t0, t1, t5, -⟩
    replace BB := BB.trans (bD.mono BB.size)
    clear bD
    refine wp_cond_false t26 ?_
    refine wp_skip ?_
    clear t26
    refine wi_ A (h3_ t0 t1 t5) (rv_ 1 (.int .i64 ((i + 1 : Nat) : Int)) (fun a ee => execAd8 (p := i) (q := 1) rfl (ee _) rfl (by omega)) (rf_ [(5, .int .i64 ((i + 1 : Nat) : Int))] (h2_ t0 t1) ?_))
    rintro a A ⟨t5, -⟩ ⟨t0, t1, -⟩
    exact ⟨⟨i + 1, hlt, A, t0, t1, t5, BB⟩, by show n - (intOf (a.eval (.tmp 5))).toNat < n - (intOf (Act.eval _ (.tmp 5))).toNat; rw [t5, es]; show n - (i + 1) < n - i; omega⟩
  · rw [decide_eq_false hlt] at t14
    refine wp_cond_false t14 ?_
    refine wp_exit ?_
    first | with_reducible refine exit_in ?_ | with_reducible refine exit_then (exit_in ?_) | with_reducible refine exit_then (exit_then (exit_in ?_)) | refine exit_in ?_ | refine exit_then (exit_in ?_) | refine exit_then (exit_then (exit_in ?_))
    clear t14 es
    refine wp_seq ?_
    refine wi_ A (h3_ t0 t1 t5) (rg_ [(4, .bool true)] ?_)
    rintro a A ⟨t4, -⟩
    refine wp_ret ?_
    refine bodyPost_ret (results_tmp rfl _ _ _) A.2 ⟨?_, BB⟩
    show Ending.returned (a.eval (.tmp 4)) = _
    rw [t4]
set_option maxRecDepth 100000 in
set_option maxHeartbeats 4000000 in
/-- The laws' sameHistory. -/
theorem sameHistory19 (pa ta pb tb : Value) (m l N n : Nat) (en st : Bool) (p q : Nat → Int) (x y : Nat → Value) (nn : Nat → Nat) (f g : Nat → Nat → Int) (V : World) (hp : SliceI V pa N p) (hq : SliceI V pb N q) (hpq : ∀ i, i < N → p i = q i) (hN : N ≤ 17592186044416) (hv : SliceV V ta n x) (hu : SliceV V tb n y) (hx : ∀ t, t < n → SliceI V (x t) (nn t) (f t)) (hy : ∀ t, t < n → SliceI V (y t) (nn t) (g t)) (he : ∀ t, t < n → ∀ j, j < nn t → f t j = g t j) (hn : ∀ t, t < n → nn t ≤ 17592186044416) (hn17 : n ≤ 17592186044416) :
    Calls Try.prog 7 #[.agg (hC pa m en st l ta), .agg (hC pb m en st l tb)] V fun e w' => e = .returned (.bool true) ∧ Below V.heap.size V w' := by
  have hs1 := sl3 hp.shp
  have hs2 := sl3 hv.shp
  have hs3 := sl3 hq.shp
  have hs4 := sl3 hu.shp
  go_enter Try.func7, Try.ntmps7
  refine wo_ 45 [(0, .agg (hC pa m en st l ta)), (1, .agg (hC pb m en st l tb))] ?_
  rintro a A ⟨t0, t1, -⟩
  have BW : Below V.heap.size V V := Below.refl _ _
  have BB : Below V.heap.size V V := Below.refl _ _
  refine wp_seq ?_
  obtain ⟨g2, egg2⟩ : ∃ z_ : Nat, V.heap.size = z_ := ⟨_, rfl⟩
  refine wi_ A (h2_ t0 t1) (rs_ 0 (fun a ee => ?_))
  refine stepV rfl rfl (execBxH rfl (ee _) hs1 hs2) ⟨.pointer (some ⟨g2, 0, none⟩), ⟨_, rfl, by subst egg2; rfl⟩, fun X0_1 hX => ?_⟩
  have bQ : Below V.heap.size V X0_1 := by subst hX egg2; exact (belNew V _)
  have Fg2 : (X0_1.heap[g2]? = some (.cells (hC pa m en st l ta) 29)) := by subst hX egg2; exact heapNew V _
  have Fgeg2 : (V.heap.size ≤ g2) := by subst hX egg2; exact (BB).size
  replace BB := BB.trans (bQ.mono BB.size)
  clear bQ hX egg2 ee a
  obtain ⟨g3, egg3⟩ : ∃ z_ : Nat, X0_1.heap.size = z_ := ⟨_, rfl⟩
  refine rs_ 1 (fun a ee => ?_)
  refine stepV rfl rfl (execBxH rfl (ee _) hs3 hs4) ⟨.pointer (some ⟨g3, 0, none⟩), ⟨_, rfl, by subst egg3; rfl⟩, fun X0 hX => ?_⟩
  have bQ : Below X0_1.heap.size X0_1 X0 := by subst hX egg3; exact (belNew X0_1 _)
  have Fg3 : (X0.heap[g3]? = some (.cells (hC pb m en st l tb) 29)) := by subst hX egg3; exact heapNew X0_1 _
  have Fgeg3 : (V.heap.size ≤ g3) := by subst hX egg3; exact (BB).size
  replace Fg2 := (on9 Fg2 bQ)
  replace BB := BB.trans (bQ.mono BB.size)
  clear bQ hX egg3 ee a
  refine rg_ [(2, .pointer (some ⟨g2, 0, none⟩)), (3, .pointer (some ⟨g3, 0, none⟩))] ?_
  rintro a A ⟨t2, t3, -⟩
  refine wp_seq ?_
  refine wi_ A (h2_ t2 t3) (rv_ 0 (.pointer (some ⟨g2, 0, none⟩)) (fun a ee => execFh0 rfl (ee _)) (rv_ 1 (pa) (fun a ee => execLdG rfl (Or.inl rfl) (ee _) (hC_at Fg2).1) (rv_ 2 (.pointer (some ⟨g3, 0, none⟩)) (fun a ee => execFh0 rfl (ee _)) (rv_ 3 (pb) (fun a ee => execLdG rfl (Or.inl rfl) (ee _) (hC_at Fg3).1) (rc_ 4 (same19 _ _ N _ _ X0 (hp.on BB) (hq.on BB) hpq hN) (cb_ fun X1_1 bQ => ?_))))))
  replace Fg2 := (on9 Fg2 bQ)
  replace Fg3 := (on9 Fg3 bQ)
  replace BB := BB.trans (bQ.mono BB.size)
  clear bQ
  refine rv_ 6 (.pointer (some ⟨g2, 1, none⟩)) (fun a ee => execFh1 rfl (ee _)) (rv_ 7 (.int .i64 ((m : Nat) : Int)) (fun a ee => execLdG rfl (Or.inr (Or.inl rfl)) (ee _) (hC_at Fg2).2.1) (rv_ 8 (.pointer (some ⟨g3, 1, none⟩)) (fun a ee => execFh1 rfl (ee _)) (rv_ 9 (.int .i64 ((m : Nat) : Int)) (fun a ee => execLdG rfl (Or.inr (Or.inl rfl)) (ee _) (hC_at Fg3).2.1) (rv_ 10 (.bool true) (fun a ee => execDec (execEqN (p := m) (q := m) rfl (ee _) (ee _)) (decide_eq_true (by rfl))) (rv_ 13 (.pointer (some ⟨g2, 2, none⟩)) (fun a ee => execFh2 rfl (ee _)) (rv_ 14 (.bool en) (fun a ee => execLdG rfl (Or.inr (Or.inr (Or.inl rfl))) (ee _) (hC_at Fg2).2.2.1) (rv_ 15 (.pointer (some ⟨g3, 2, none⟩)) (fun a ee => execFh2 rfl (ee _)) (rv_ 16 (.bool en) (fun a ee => execLdG rfl (Or.inr (Or.inr (Or.inl rfl))) (ee _) (hC_at Fg3).2.2.1) (rv_ 17 (.bool true) (fun a ee => execEqBB (b := en) rfl (ee _) (ee _)) (rv_ 20 (.pointer (some ⟨g2, 3, none⟩)) (fun a ee => execFh3 rfl (ee _)) (rv_ 21 (.bool st) (fun a ee => execLdG rfl (Or.inr (Or.inr (Or.inl rfl))) (ee _) (hC_at Fg2).2.2.2.1) (rv_ 22 (.pointer (some ⟨g3, 3, none⟩)) (fun a ee => execFh3 rfl (ee _)) (rv_ 23 (.bool st) (fun a ee => execLdG rfl (Or.inr (Or.inr (Or.inl rfl))) (ee _) (hC_at Fg3).2.2.2.1) (rv_ 24 (.bool true) (fun a ee => execEqBB (b := st) rfl (ee _) (ee _)) (rv_ 27 (.pointer (some ⟨g2, 4, none⟩)) (fun a ee => execFh4 rfl (ee _)) (rv_ 28 (.int .i64 ((l : Nat) : Int)) (fun a ee => execLdG rfl (Or.inr (Or.inl rfl)) (ee _) (hC_at Fg2).2.2.2.2.1) (rv_ 29 (.pointer (some ⟨g3, 4, none⟩)) (fun a ee => execFh4 rfl (ee _)) (rv_ 30 (.int .i64 ((l : Nat) : Int)) (fun a ee => execLdG rfl (Or.inr (Or.inl rfl)) (ee _) (hC_at Fg3).2.2.2.2.1) (rv_ 31 (.bool true) (fun a ee => execDec (execEqN (p := l) (q := l) rfl (ee _) (ee _)) (decide_eq_true (by rfl))) (rv_ 34 (.pointer (some ⟨g2, 5, none⟩)) (fun a ee => execFh5 rfl (ee _)) (rv_ 35 (ta) (fun a ee => execLdG rfl (Or.inr (Or.inr (Or.inr (Or.inl rfl)))) (ee _) (hC_at Fg2).2.2.2.2.2) (rv_ 36 (.pointer (some ⟨g3, 5, none⟩)) (fun a ee => execFh5 rfl (ee _)) (rv_ 37 (tb) (fun a ee => execLdG rfl (Or.inr (Or.inr (Or.inr (Or.inl rfl)))) (ee _) (hC_at Fg3).2.2.2.2.2) (rc_ 38 (sameLists19 n x y nn f g _ _ X1_1 (hv.on BB) (hu.on BB) (fun t ht => (hx t ht).on BB) (fun t ht => (hy t ht).on BB) he hn hn17) (cb_ fun X1 bQ => ?_)))))))))))))))))))))))))
  replace Fg2 := (on9 Fg2 bQ)
  replace Fg3 := (on9 Fg3 bQ)
  replace BB := BB.trans (bQ.mono BB.size)
  clear bQ
  refine rg_ [(4, .bool true)] ?_
  rintro a A ⟨t4, -⟩
  refine wp_ret ?_
  refine bodyPost_ret (results_tmp rfl _ _ _) A.2 ⟨?_, BB⟩
  show Ending.returned (a.eval (.tmp 4)) = _
  rw [t4]
end Go.Proofs.Ytcgkelgncehekab.Loo
