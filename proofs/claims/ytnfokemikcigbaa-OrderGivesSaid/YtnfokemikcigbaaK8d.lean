import Derived.Test.YtnfokemikcigbaaK8b
namespace Go.Proofs.Ytnfokemikcigbaa.Ord
open Go.RowKit Gf8 Aes By8 Cel Cf Win Drw Prm
open Go.ChangeMaps Go.MapKept
/- The landed buffers of ints. Written by tools/mkK8d.py. -/

section
variable {o : Oper} {a : Act} {w w' : World}
theorem execUpR {x y z : Operand} {t : TypeId} {m k u : Value} (ho : o.op = .mapUpdate t x y z) (hx : a.eval x = m) (hy : a.eval y = k) (hz : a.eval z = u) (hr : (Instr.mapUpdate t m k u).run Try.prog w = .ok () w') : (execOp a.eval o).run Try.prog w = .ok .skip w' := by
  unfold execOp
  simp only [ho, hx, hy, hz, Sem.run_bind, hr, Result.andThen_ok, Sem.run_pure]
theorem execDlR {x y : Operand} {t : TypeId} {m k : Value} (ho : o.op = .call { callee := .builtin .delete, args := #[x, y], argTypes := #[t, 3] }) (hx : a.eval x = m) (hy : a.eval y = k) (hr : ∀ ty, (Builtin.delete_ #[t, 3] ty #[m, k]).run Try.prog w = .ok (.tuple #[]) w') : (execOp a.eval o).run Try.prog w = .ok (.value (.tuple #[])) w' := by
  unfold execOp
  simp only [ho, resolve, invoke, builtin, Sem.run_bind, Sem.run_pure, Result.andThen_ok, List.map_toArray, List.map_cons, List.map_nil, hx, hy, hr]
end
theorem blk_ne {W : World} {b k : Nat} {o : Obj} (h : k ≠ b) : (setBlock W b o).heap[k]? = W.heap[k]? := by simp [setBlock, h.symm]
theorem blk_size {W : World} {b : Nat} {o : Obj} : (setBlock W b o).heap.size = W.heap.size := by simp [setBlock]
section
variable {t : TypeId} {W X : World} {F : Nat → Prop} {g b n k : Nat} {m : Value} {S S' : Its} {o : Obj}
theorem Bq.mi (h : Bq t W F g (.map (some b)) S n) : F b ∧ MI W b S := by
  rcases h.mp with ⟨e, _⟩ | ⟨c, e, h1, h2⟩
  · cases e
  · cases e; exact ⟨h1, h2⟩
theorem Bq.upd (h : Bq t W F g (.map (some b)) S n) (hM : MI (setBlock W b o) b S') : Bq t (setBlock W b o) F g (.map (some b)) S' n :=
  ⟨h.gF, by rw [blk_ne (Ne.symm (h.mi.2.ne h.hg))]; exact h.hg, Or.inr ⟨b, rfl, h.mi.1, hM⟩, fun q hq => by rw [blk_size]; exact h.lt q hq⟩
theorem Bq.made (h : Bq t W F g m [] n) : Bq t ((W.alloc (.map #[] 0)).setCell ⟨g, 0, none⟩ (.map (some W.heap.size))) (fun q => F q ∨ q = W.heap.size) g (.map (some W.heap.size)) [] n := by
  have hg2 := on9 h.hg (belNew W (.map #[] 0))
  have hl := (Array.getElem?_eq_some_iff.1 h.hg).1
  refine ⟨Or.inl h.gF, bC_set0 hg2, Or.inr ⟨_, rfl, Or.inr rfl, (mi_new W).keep ?_⟩, fun q hq => ?_⟩
  · exact heap4o _ hg2 (by omega)
  · have : ((W.alloc (.map #[] 0)).setCell ⟨g, 0, none⟩ (.map (some W.heap.size))).heap.size = W.heap.size + 1 := by simp [World.setCell]
    rw [this]
    rcases hq with hq | rfl
    · exact Nat.lt_succ_of_lt (h.lt q hq)
    · omega
theorem Bq.next (h : Bq t W F g m S n) : Bq t (W.setCell ⟨g, 1, none⟩ (.int .i64 ((k : Nat) : Int))) F g m S k := by
  refine ⟨h.gF, bC_set1 h.hg, h.mp.imp id fun ⟨b, e, q, r⟩ => ⟨b, e, q, r.keep (heap4o _ h.hg (r.ne h.hg))⟩, fun q hq => ?_⟩
  have : (W.setCell ⟨g, 1, none⟩ (.int .i64 ((k : Nat) : Int))).heap.size = W.heap.size := by simp [World.setCell]
  rw [this]; exact h.lt q hq
end
section
variable {o : Oper} {a : Act} {w : World}
theorem execMnIn {x : Operand} (ho : o.op = .binOp .eql 64 x (.const (.map none)) 64) (hx : a.eval x = .map none) : (execOp a.eval o).run Try.prog w = .ok (.value (.bool true)) w := by
  unfold execOp
  simp only [ho, hx]
  kernel_rfl
theorem execMnIs {x : Operand} {b : Nat} (ho : o.op = .binOp .eql 64 x (.const (.map none)) 64) (hx : a.eval x = .map (some b)) : (execOp a.eval o).run Try.prog w = .ok (.value (.bool false)) w := by
  unfold execOp
  simp only [ho, hx]
  kernel_rfl
theorem execBdI0 (ho : o.op = .build 66 #[]) : (execOp a.eval o).run Try.prog w = .ok (.value (.agg (bC (.map none) 0))) w := by
  unfold execOp
  simp only [ho]
  simp [go_sem, bC]
theorem execBxI0 {x : Operand} (ho : o.op = .box 66 x) (hx : a.eval x = .agg (bC (.map none) 0)) : (execOp a.eval o).run Try.prog w = .ok (.value (.pointer (some ⟨w.heap.size, 0, none⟩))) (w.alloc (.cells (bC (.map none) 0) 66)) := by
  unfold execOp
  simp only [ho, hx]
  simp [go_sem, bC]
end
set_option maxRecDepth 100000 in
set_option maxHeartbeats 4000000 in
/-- New. -/
theorem pnewI (V : World) :
    Calls Try.prog 8 #[] V fun e w' => (∃ g F, e = .returned (.pointer (some ⟨g, 0, none⟩)) ∧ BR 66 w' F (.pointer (some ⟨g, 0, none⟩)) [] 0 ∧ ∀ q, F q → V.heap.size ≤ q) ∧ Below V.heap.size V w' := by
  go_enter Try.func8, Try.ntmps8
  refine wo_ 3 [] ?_
  rintro a A -
  have BW : Below V.heap.size V V := Below.refl _ _
  have BB : Below V.heap.size V V := Below.refl _ _
  refine wp_seq ?_
  refine wi_ A h0_ (rg_ [] ?_)
  rintro a A -
  refine wp_seq ?_
  obtain ⟨g, egg⟩ : ∃ z_ : Nat, V.heap.size = z_ := ⟨_, rfl⟩
  refine wi_ A h0_ (rv_ 0 (.agg (bC (.map none) 0)) (fun a ee => execBdI0 rfl) (rs_ 1 (fun a ee => ?_)))
  refine stepV rfl rfl (execBxI0 rfl (ee _)) ⟨.pointer (some ⟨g, 0, none⟩), ⟨_, rfl, by subst egg; rfl⟩, fun X1 hX => ?_⟩
  have bQ : Below V.heap.size V X1 := by subst hX egg; exact (belNew V _)
  have Fg : (X1.heap[g]? = some (.cells (bC (.map none) 0) 66)) := by subst hX egg; exact heapNew V _
  have Fge : (V.heap.size ≤ g) := by subst hX egg; exact (BB).size
  replace BB := BB.trans (bQ.mono BB.size)
  clear bQ hX egg ee a
  refine rg_ [(0, .pointer (some ⟨g, 0, none⟩))] ?_
  rintro a A ⟨t0, -⟩
  refine wp_ret ?_
  refine bodyPost_ret (results_tmp rfl _ _ _) A.2 ⟨⟨g, fun q => q = g, ?_, ⟨g, _, rfl, ⟨rfl, Fg, Or.inl ⟨rfl, rfl⟩, fun q hq => by rw [hq]; exact (Array.getElem?_eq_some_iff.1 Fg).1⟩⟩, fun q hq => by rw [hq]; exact Fge⟩, BB⟩
  show Ending.returned (a.eval (.tmp 0)) = _
  rw [t0]
set_option maxRecDepth 100000 in
set_option maxHeartbeats 4000000 in
/-- At. -/
theorem patpI (g : Nat) (m : Value) (F : Nat → Prop) (S : Its) (n : Nat) (V : World) (hB : Bq 66 V F g m S n) :
    Calls Try.prog 13 #[.pointer (some ⟨g, 0, none⟩)] V fun e w' => e = .returned (.int .i64 ((n : Nat) : Int)) ∧ Below V.heap.size V w' := by
  go_enter Try.func13, Try.ntmps13
  refine wo_ 9 [(0, .pointer (some ⟨g, 0, none⟩))] ?_
  rintro a A ⟨t0, -⟩
  have BW : Below V.heap.size V V := Below.refl _ _
  have BB : Below V.heap.size V V := Below.refl _ _
  refine wp_seq ?_
  refine wi_ A (h1_ t0) (rf_ [] (h1_ t0) ?_)
  rintro a A - ⟨t0, -⟩
  refine wp_seq ?_
  refine wp_seq ?_
  refine wi_ A (h1_ t0) (rv_ 1 (.bool false) (fun a ee => execPIeqls rfl (ee _)) (rf_ [(4, .bool false)] (h1_ t0) ?_))
  rintro a A ⟨t4, -⟩ ⟨t0, -⟩
  refine wp_cond_false t4 ?_
  refine wp_skip ?_
  clear t4
  refine wp_seq ?_
  refine wi_ A (h1_ t0) (rv_ 1 (.pointer (some ⟨g, 0, none⟩)) (fun a ee => execNl20 rfl (ee _)) (rv_ 2 (.pointer (some ⟨g, 1, none⟩)) (fun a ee => execFzI1 rfl (ee _)) (rv_ 3 (.int .i64 ((n : Nat) : Int)) (fun a ee => execL20 rfl (Or.inl rfl) (ee _) (bC_at (hB.on BB).hg).2) (rg_ [(2, .int .i64 ((n : Nat) : Int))] ?_))))
  rintro a A ⟨t2, -⟩
  refine wp_ret ?_
  refine bodyPost_ret (results_tmp rfl _ _ _) A.2 ⟨?_, BB⟩
  show Ending.returned (a.eval (.tmp 2)) = _
  rw [t2]
theorem patI {V F v S n} (h : BR 66 V F v S n) : Calls Try.prog 13 #[v] V fun e w' => e = .returned (.int .i64 ((n : Nat) : Int)) ∧ Below V.heap.size V w' := by
  obtain ⟨g, m, rfl, hB⟩ := h
  exact patpI g m F S n V hB
set_option maxRecDepth 100000 in
set_option maxHeartbeats 4000000 in
/-- Held. -/
theorem pheldpI (g : Nat) (m : Value) (F : Nat → Prop) (S : Its) (n : Nat) (V : World) (hB : Bq 66 V F g m S n) :
    Calls Try.prog 14 #[.pointer (some ⟨g, 0, none⟩)] V fun e w' => e = .returned (.int .i64 ((S.length : Nat) : Int)) ∧ Below V.heap.size V w' := by
  go_enter Try.func14, Try.ntmps14
  refine wo_ 10 [(0, .pointer (some ⟨g, 0, none⟩))] ?_
  rintro a A ⟨t0, -⟩
  have BW : Below V.heap.size V V := Below.refl _ _
  have BB : Below V.heap.size V V := Below.refl _ _
  refine wp_seq ?_
  refine wi_ A (h1_ t0) (rf_ [] (h1_ t0) ?_)
  rintro a A - ⟨t0, -⟩
  refine wp_seq ?_
  refine wp_seq ?_
  refine wi_ A (h1_ t0) (rv_ 1 (.bool false) (fun a ee => execPIeqls rfl (ee _)) (rf_ [(4, .bool false)] (h1_ t0) ?_))
  rintro a A ⟨t4, -⟩ ⟨t0, -⟩
  refine wp_cond_false t4 ?_
  refine wp_skip ?_
  clear t4
  refine wp_seq ?_
  refine wi_ A (h1_ t0) (rv_ 1 (.pointer (some ⟨g, 0, none⟩)) (fun a ee => execNl20 rfl (ee _)) (rv_ 2 (.pointer (some ⟨g, 0, none⟩)) (fun a ee => execFzI0 rfl (ee _)) (rv_ 3 (m) (fun a ee => execL20 rfl (Or.inr (Or.inr (Or.inl rfl))) (ee _) (bC_at (hB.on BB).hg).1) (rv_ 4 (.int .i64 ((S.length : Nat) : Int)) (fun a ee => execLenM (S := S) rfl (ee _) undI (hB.on BB).mp.op) (rg_ [(2, .int .i64 ((S.length : Nat) : Int))] ?_)))))
  rintro a A ⟨t2, -⟩
  refine wp_ret ?_
  refine bodyPost_ret (results_tmp rfl _ _ _) A.2 ⟨?_, BB⟩
  show Ending.returned (a.eval (.tmp 2)) = _
  rw [t2]
theorem pheldI {V F v S n} (h : BR 66 V F v S n) : Calls Try.prog 14 #[v] V fun e w' => e = .returned (.int .i64 ((S.length : Nat) : Int)) ∧ Below V.heap.size V w' := by
  obtain ⟨g, m, rfl, hB⟩ := h
  exact pheldpI g m F S n V hB
set_option maxRecDepth 100000 in
set_option maxHeartbeats 4000000 in
/-- Put. -/
theorem pput_tI (g : Nat) (m : Value) (F : Nat → Prop) (S : Its) (n : Nat) (V : World) (hB : Bq 66 V F g m S n) (i : Int) (u : Value) (hi : I64 i) (h1 : ¬ i < 0) (hq : (lkp S i).isSome = true) :
    Calls Try.prog 11 #[.pointer (some ⟨g, 0, none⟩), .int .i64 i, u] V fun e w' => e = .returned (.int .i64 ((200 : Nat) : Int)) ∧ Below V.heap.size V w' := by
  go_enter Try.func11, Try.ntmps11
  refine wo_ 48 [(0, .pointer (some ⟨g, 0, none⟩)), (1, .int .i64 i), (2, u)] ?_
  rintro a A ⟨t0, t1, t2, -⟩
  have BW : Below V.heap.size V V := Below.refl _ _
  have BB : Below V.heap.size V V := Below.refl _ _
  refine wp_seq ?_
  refine wi_ A (h3_ t0 t1 t2) (rf_ [] (h3_ t0 t1 t2) ?_)
  rintro a A - ⟨t0, t1, t2, -⟩
  refine wp_seq ?_
  refine wp_seq ?_
  refine wi_ A (h3_ t0 t1 t2) (rv_ 1 (.bool false) (fun a ee => execPIeqls rfl (ee _)) (rv_ 4 (.bool false) (fun a ee => execDec (exIlss3 (p := i) (q := 0) rfl (ee _) rfl) (decide_eq_false h1)) (rf_ [(14, .bool false)] (h3_ t0 t1 t2) ?_)))
  rintro a A ⟨t14, -⟩ ⟨t0, t1, t2, -⟩
  refine wp_cond_false t14 ?_
  refine wp_skip ?_
  clear t14
  refine wp_seq ?_
  refine wp_seq ?_
  refine wi_ A (h3_ t0 t1 t2) (rv_ 1 (.pointer (some ⟨g, 0, none⟩)) (fun a ee => execNl20 rfl (ee _)) (rv_ 2 (.pointer (some ⟨g, 0, none⟩)) (fun a ee => execFzI0 rfl (ee _)) (rv_ 3 (m) (fun a ee => execL20 rfl (Or.inr (Or.inr (Or.inl rfl))) (ee _) (bC_at (hB.on BB).hg).1) (rv_ 5 (.tuple #[(lkp S i).getD (.int .i64 0), .bool true]) (fun a ee => execVal (execLkp (S := S) rfl (ee _) (ee _) undI (zerI _) hi (hB.on BB).mp.op) (by rw [hq])) (rf_ [(8, .bool true)] (h3_ t0 t1 t2) ?_)))))
  rintro a A ⟨t8, -⟩ ⟨t0, t1, t2, -⟩
  refine wp_seq ?_
  refine wi_ A (h4_ t0 t1 t2 t8) (rf_ [(32, .bool true)] (h3_ t0 t1 t2) ?_)
  rintro a A ⟨t32, -⟩ ⟨t0, t1, t2, -⟩
  refine wp_cond_true t32 ?_
  clear t32
  refine wp_seq ?_
  refine wi_ A (h3_ t0 t1 t2) (rg_ [(6, .int .i64 ((200 : Nat) : Int))] ?_)
  rintro a A ⟨t6, -⟩
  refine wp_ret ?_
  repeat (first | with_reducible refine ret_in ?_ | with_reducible refine ret_then ?_)
  refine bodyPost_ret (results_tmp rfl _ _ _) A.2 ⟨?_, BB⟩
  show Ending.returned (a.eval (.tmp 6)) = _
  rw [t6]
set_option maxRecDepth 100000 in
set_option maxHeartbeats 4000000 in
/-- Put. -/
theorem pput_lI (g : Nat) (m : Value) (F : Nat → Prop) (S : Its) (n : Nat) (V : World) (hB : Bq 66 V F g m S n) (i : Int) (u : Value) (hi : I64 i) (h1 : ¬ i < 0) (hq : (lkp S i).isSome = false) (h2 : i < ((n : Nat) : Int)) :
    Calls Try.prog 11 #[.pointer (some ⟨g, 0, none⟩), .int .i64 i, u] V fun e w' => e = .returned (.int .i64 ((200 : Nat) : Int)) ∧ Below V.heap.size V w' := by
  go_enter Try.func11, Try.ntmps11
  refine wo_ 48 [(0, .pointer (some ⟨g, 0, none⟩)), (1, .int .i64 i), (2, u)] ?_
  rintro a A ⟨t0, t1, t2, -⟩
  have BW : Below V.heap.size V V := Below.refl _ _
  have BB : Below V.heap.size V V := Below.refl _ _
  refine wp_seq ?_
  refine wi_ A (h3_ t0 t1 t2) (rf_ [] (h3_ t0 t1 t2) ?_)
  rintro a A - ⟨t0, t1, t2, -⟩
  refine wp_seq ?_
  refine wp_seq ?_
  refine wi_ A (h3_ t0 t1 t2) (rv_ 1 (.bool false) (fun a ee => execPIeqls rfl (ee _)) (rv_ 4 (.bool false) (fun a ee => execDec (exIlss3 (p := i) (q := 0) rfl (ee _) rfl) (decide_eq_false h1)) (rf_ [(14, .bool false)] (h3_ t0 t1 t2) ?_)))
  rintro a A ⟨t14, -⟩ ⟨t0, t1, t2, -⟩
  refine wp_cond_false t14 ?_
  refine wp_skip ?_
  clear t14
  refine wp_seq ?_
  refine wp_seq ?_
  refine wi_ A (h3_ t0 t1 t2) (rv_ 1 (.pointer (some ⟨g, 0, none⟩)) (fun a ee => execNl20 rfl (ee _)) (rv_ 2 (.pointer (some ⟨g, 0, none⟩)) (fun a ee => execFzI0 rfl (ee _)) (rv_ 3 (m) (fun a ee => execL20 rfl (Or.inr (Or.inr (Or.inl rfl))) (ee _) (bC_at (hB.on BB).hg).1) (rv_ 5 (.tuple #[(lkp S i).getD (.int .i64 0), .bool false]) (fun a ee => execVal (execLkp (S := S) rfl (ee _) (ee _) undI (zerI _) hi (hB.on BB).mp.op) (by rw [hq])) (rf_ [(8, .bool false)] (h3_ t0 t1 t2) ?_)))))
  rintro a A ⟨t8, -⟩ ⟨t0, t1, t2, -⟩
  refine wp_seq ?_
  refine wi_ A (h4_ t0 t1 t2 t8) (rv_ 4 (.pointer (some ⟨g, 0, none⟩)) (fun a ee => execNl20 rfl (ee _)) (rv_ 5 (.pointer (some ⟨g, 1, none⟩)) (fun a ee => execFzI1 rfl (ee _)) (rv_ 6 (.int .i64 ((n : Nat) : Int)) (fun a ee => execL20 rfl (Or.inl rfl) (ee _) (bC_at (hB.on BB).hg).2) (rv_ 7 (.bool true) (fun a ee => execDec (exIlss3 (p := i) (q := ((n : Nat) : Int)) rfl (ee _) (ee _)) (decide_eq_true h2)) (rf_ [(32, .bool true)] (h3_ t0 t1 t2) ?_)))))
  rintro a A ⟨t32, -⟩ ⟨t0, t1, t2, -⟩
  refine wp_cond_true t32 ?_
  clear t32
  refine wp_seq ?_
  refine wi_ A (h3_ t0 t1 t2) (rg_ [(6, .int .i64 ((200 : Nat) : Int))] ?_)
  rintro a A ⟨t6, -⟩
  refine wp_ret ?_
  repeat (first | with_reducible refine ret_in ?_ | with_reducible refine ret_then ?_)
  refine bodyPost_ret (results_tmp rfl _ _ _) A.2 ⟨?_, BB⟩
  show Ending.returned (a.eval (.tmp 6)) = _
  rw [t6]
set_option maxRecDepth 100000 in
set_option maxHeartbeats 4000000 in
/-- Put. -/
theorem pput_cI (g : Nat) (F : Nat → Prop) (n : Nat) (V : World) (hB : Bq 66 V F g (.map none) [] n) (i : Int) (u : Value) (hi : I64 i) (h1 : ¬ i < 0) (hq : (lkp [] i).isSome = false) (h2 : ¬ i < ((n : Nat) : Int)) (hno : i ∉ kys []) :
    Calls Try.prog 11 #[.pointer (some ⟨g, 0, none⟩), .int .i64 i, u] V fun e w' => ∃ F', e = .returned (.int .i64 ((0 : Nat) : Int)) ∧ BR 66 w' F' (.pointer (some ⟨g, 0, none⟩)) ([] ++ [(i, u)]) n ∧ Saved F V w' ∧ ∀ q, F' q → F q ∨ V.heap.size ≤ q := by
  go_enter Try.func11, Try.ntmps11
  refine wo_ 48 [(0, .pointer (some ⟨g, 0, none⟩)), (1, .int .i64 i), (2, u)] ?_
  rintro a A ⟨t0, t1, t2, -⟩
  have BW : Below V.heap.size V V := Below.refl _ _
  have BB : Below V.heap.size V V := Below.refl _ _
  refine wp_seq ?_
  refine wi_ A (h3_ t0 t1 t2) (rf_ [] (h3_ t0 t1 t2) ?_)
  rintro a A - ⟨t0, t1, t2, -⟩
  refine wp_seq ?_
  refine wp_seq ?_
  refine wi_ A (h3_ t0 t1 t2) (rv_ 1 (.bool false) (fun a ee => execPIeqls rfl (ee _)) (rv_ 4 (.bool false) (fun a ee => execDec (exIlss3 (p := i) (q := 0) rfl (ee _) rfl) (decide_eq_false h1)) (rf_ [(14, .bool false)] (h3_ t0 t1 t2) ?_)))
  rintro a A ⟨t14, -⟩ ⟨t0, t1, t2, -⟩
  refine wp_cond_false t14 ?_
  refine wp_skip ?_
  clear t14
  refine wp_seq ?_
  refine wp_seq ?_
  refine wi_ A (h3_ t0 t1 t2) (rv_ 1 (.pointer (some ⟨g, 0, none⟩)) (fun a ee => execNl20 rfl (ee _)) (rv_ 2 (.pointer (some ⟨g, 0, none⟩)) (fun a ee => execFzI0 rfl (ee _)) (rv_ 3 ((.map none)) (fun a ee => execL20 rfl (Or.inr (Or.inr (Or.inl rfl))) (ee _) (bC_at (hB.on BB).hg).1) (rv_ 5 (.tuple #[(lkp [] i).getD (.int .i64 0), .bool false]) (fun a ee => execVal (execLkp (S := []) rfl (ee _) (ee _) undI (zerI _) hi (hB.on BB).mp.op) (by rw [hq])) (rf_ [(8, .bool false)] (h3_ t0 t1 t2) ?_)))))
  rintro a A ⟨t8, -⟩ ⟨t0, t1, t2, -⟩
  refine wp_seq ?_
  refine wi_ A (h4_ t0 t1 t2 t8) (rv_ 4 (.pointer (some ⟨g, 0, none⟩)) (fun a ee => execNl20 rfl (ee _)) (rv_ 5 (.pointer (some ⟨g, 1, none⟩)) (fun a ee => execFzI1 rfl (ee _)) (rv_ 6 (.int .i64 ((n : Nat) : Int)) (fun a ee => execL20 rfl (Or.inl rfl) (ee _) (bC_at (hB.on BB).hg).2) (rv_ 7 (.bool false) (fun a ee => execDec (exIlss3 (p := i) (q := ((n : Nat) : Int)) rfl (ee _) (ee _)) (decide_eq_false h2)) (rf_ [(32, .bool false)] (h3_ t0 t1 t2) ?_)))))
  rintro a A ⟨t32, -⟩ ⟨t0, t1, t2, -⟩
  refine wp_cond_false t32 ?_
  refine wp_skip ?_
  clear t32
  refine wp_seq ?_
  refine wp_seq ?_
  refine wi_ A (h3_ t0 t1 t2) (rv_ 1 (.pointer (some ⟨g, 0, none⟩)) (fun a ee => execNl20 rfl (ee _)) (rv_ 2 (.pointer (some ⟨g, 0, none⟩)) (fun a ee => execFzI0 rfl (ee _)) (rv_ 3 (.map none) (fun a ee => execL20 rfl (Or.inr (Or.inr (Or.inl rfl))) (ee _) (bC_at (hB.on BB).hg).1) (rv_ 4 (.bool true) (fun a ee => execMnIn rfl (ee _)) (rf_ [(37, .bool true)] (h3_ t0 t1 t2) ?_)))))
  rintro a A ⟨t37, -⟩ ⟨t0, t1, t2, -⟩
  refine wp_cond_true t37 ?_
  clear t37
  have hB5 := hB.on BB
  refine wi_ A (h3_ t0 t1 t2) (rs_ 1 (fun a ee => ?_))
  refine stepV rfl rfl (execMkM rfl) ⟨_, ⟨_, rfl, rfl⟩, fun X6 hX6 => ?_⟩
  have hg6 := on9 hB5.hg (belNew V (.map #[] 0))
  refine rv_ 2 (.pointer (some ⟨g, 0, none⟩)) (fun a ee => execNl20 rfl (ee _)) (rv_ 3 (.pointer (some ⟨g, 0, none⟩)) (fun a ee => execFzI0 rfl (ee _)) (rs_ 4 (fun a ee => ?_)))
  refine stepS rfl rfl (execS20 rfl (Or.inr (Or.inr (Or.inl rfl))) (ee _) (ee _) (Or.inr (Or.inl ⟨_, rfl⟩)) (bC_at (hX6 ▸ hg6)).1 (frozen4 (hX6 ▸ hg6))) ⟨_, ⟨_, rfl, rfl⟩, fun X7 hX7 => ?_⟩
  have hB7 := hB5.made
  obtain ⟨b, eb⟩ : ∃ b, b = V.heap.size := ⟨_, rfl⟩
  have hs7 : Saved F V X7 := by
    rw [hX7, hX6]
    exact (((Saved.refl F V).below BB (Nat.le_refl _)).below (belNew _ _) BB.size).cell _ (Or.inr hB.gF)
  have hF7 : ∀ q, (F q ∨ q = V.heap.size) → F q ∨ V.heap.size ≤ q := fun q hq => hq.imp id (fun e => by rw [e]; exact BB.size)
  replace hB7 : Bq 66 X7 (fun q => F q ∨ q = V.heap.size) g (.map (some b)) [] n := by
    rw [hX7, hX6, eb]
    exact hB7
  refine rf_ [] (h3_ t0 t1 t2) ?_
  rintro a A - ⟨t0, t1, t2, -⟩
  obtain ⟨ob, r8, hM8⟩ := hB7.mi.2.put hi hno u undI
  refine wp_seq ?_
  refine wi_ A (h3_ t0 t1 t2) (?_)
  refine rv_ 1 (.pointer (some ⟨g, 0, none⟩)) (fun a ee => execNl20 rfl (ee _)) (rv_ 2 (.pointer (some ⟨g, 0, none⟩)) (fun a ee => execFzI0 rfl (ee _)) (rv_ 3 (.map (some b)) (fun a ee => execL20 rfl (Or.inr (Or.inr (Or.inl rfl))) (ee _) (bC_at hB7.hg).1) (rs_ 6 (fun a ee => ?_))))
  refine stepS rfl rfl (execUpR rfl (ee _) (ee _) (ee _) r8) ⟨_, ⟨_, rfl, rfl⟩, fun X8 hX => ?_⟩
  refine rg_ [] ?_
  rintro a A -
  replace hM8 := hB7.upd hM8
  rw [← show X8 = setBlock X7 b ob from hX] at hM8
  have hs8 : Saved F V X8 := by
    rw [hX]
    exact sv_blk hs7 (hF7 _ hB7.mi.1)
  have BW : Below X8.heap.size X8 X8 := Below.refl _ _
  have BB : Below X8.heap.size X8 X8 := Below.refl _ _
  refine wp_seq ?_
  refine wi_ A h0_ (rg_ [(6, .int .i64 ((0 : Nat) : Int))] ?_)
  rintro a A ⟨t6, -⟩
  refine wp_ret ?_
  refine bodyPost_ret (results_tmp rfl _ _ _) A.2 ⟨_, ?_, ⟨g, _, rfl, hM8⟩, hs8, hF7⟩
  show Ending.returned (a.eval (.tmp 6)) = _
  rw [t6]
set_option maxRecDepth 100000 in
set_option maxHeartbeats 4000000 in
/-- Put. -/
theorem pput_dI (g : Nat) (b : Nat) (F : Nat → Prop) (S : Its) (n : Nat) (V : World) (hB : Bq 66 V F g (.map (some b)) S n) (i : Int) (u : Value) (hi : I64 i) (h1 : ¬ i < 0) (hq : (lkp S i).isSome = false) (h2 : ¬ i < ((n : Nat) : Int)) (hno : i ∉ kys S) :
    Calls Try.prog 11 #[.pointer (some ⟨g, 0, none⟩), .int .i64 i, u] V fun e w' => ∃ F', e = .returned (.int .i64 ((0 : Nat) : Int)) ∧ BR 66 w' F' (.pointer (some ⟨g, 0, none⟩)) (S ++ [(i, u)]) n ∧ Saved F V w' ∧ ∀ q, F' q → F q ∨ V.heap.size ≤ q := by
  go_enter Try.func11, Try.ntmps11
  refine wo_ 48 [(0, .pointer (some ⟨g, 0, none⟩)), (1, .int .i64 i), (2, u)] ?_
  rintro a A ⟨t0, t1, t2, -⟩
  have BW : Below V.heap.size V V := Below.refl _ _
  have BB : Below V.heap.size V V := Below.refl _ _
  refine wp_seq ?_
  refine wi_ A (h3_ t0 t1 t2) (rf_ [] (h3_ t0 t1 t2) ?_)
  rintro a A - ⟨t0, t1, t2, -⟩
  refine wp_seq ?_
  refine wp_seq ?_
  refine wi_ A (h3_ t0 t1 t2) (rv_ 1 (.bool false) (fun a ee => execPIeqls rfl (ee _)) (rv_ 4 (.bool false) (fun a ee => execDec (exIlss3 (p := i) (q := 0) rfl (ee _) rfl) (decide_eq_false h1)) (rf_ [(14, .bool false)] (h3_ t0 t1 t2) ?_)))
  rintro a A ⟨t14, -⟩ ⟨t0, t1, t2, -⟩
  refine wp_cond_false t14 ?_
  refine wp_skip ?_
  clear t14
  refine wp_seq ?_
  refine wp_seq ?_
  refine wi_ A (h3_ t0 t1 t2) (rv_ 1 (.pointer (some ⟨g, 0, none⟩)) (fun a ee => execNl20 rfl (ee _)) (rv_ 2 (.pointer (some ⟨g, 0, none⟩)) (fun a ee => execFzI0 rfl (ee _)) (rv_ 3 ((.map (some b))) (fun a ee => execL20 rfl (Or.inr (Or.inr (Or.inl rfl))) (ee _) (bC_at (hB.on BB).hg).1) (rv_ 5 (.tuple #[(lkp S i).getD (.int .i64 0), .bool false]) (fun a ee => execVal (execLkp (S := S) rfl (ee _) (ee _) undI (zerI _) hi (hB.on BB).mp.op) (by rw [hq])) (rf_ [(8, .bool false)] (h3_ t0 t1 t2) ?_)))))
  rintro a A ⟨t8, -⟩ ⟨t0, t1, t2, -⟩
  refine wp_seq ?_
  refine wi_ A (h4_ t0 t1 t2 t8) (rv_ 4 (.pointer (some ⟨g, 0, none⟩)) (fun a ee => execNl20 rfl (ee _)) (rv_ 5 (.pointer (some ⟨g, 1, none⟩)) (fun a ee => execFzI1 rfl (ee _)) (rv_ 6 (.int .i64 ((n : Nat) : Int)) (fun a ee => execL20 rfl (Or.inl rfl) (ee _) (bC_at (hB.on BB).hg).2) (rv_ 7 (.bool false) (fun a ee => execDec (exIlss3 (p := i) (q := ((n : Nat) : Int)) rfl (ee _) (ee _)) (decide_eq_false h2)) (rf_ [(32, .bool false)] (h3_ t0 t1 t2) ?_)))))
  rintro a A ⟨t32, -⟩ ⟨t0, t1, t2, -⟩
  refine wp_cond_false t32 ?_
  refine wp_skip ?_
  clear t32
  refine wp_seq ?_
  refine wp_seq ?_
  refine wi_ A (h3_ t0 t1 t2) (rv_ 1 (.pointer (some ⟨g, 0, none⟩)) (fun a ee => execNl20 rfl (ee _)) (rv_ 2 (.pointer (some ⟨g, 0, none⟩)) (fun a ee => execFzI0 rfl (ee _)) (rv_ 3 (.map (some b)) (fun a ee => execL20 rfl (Or.inr (Or.inr (Or.inl rfl))) (ee _) (bC_at (hB.on BB).hg).1) (rv_ 4 (.bool false) (fun a ee => execMnIs rfl (ee _)) (rf_ [(37, .bool false)] (h3_ t0 t1 t2) ?_)))))
  rintro a A ⟨t37, -⟩ ⟨t0, t1, t2, -⟩
  refine wp_cond_false t37 ?_
  refine wp_skip ?_
  clear t37
  have hB7 := hB.on BB
  have hs7 : Saved F V V := (Saved.refl F V).below BB (Nat.le_refl _)
  have hF7 : ∀ q, F q → F q ∨ V.heap.size ≤ q := fun q hq => Or.inl hq
  obtain ⟨ob, r8, hM8⟩ := hB7.mi.2.put hi hno u undI
  refine wp_seq ?_
  refine wi_ A (h3_ t0 t1 t2) (?_)
  refine rv_ 1 (.pointer (some ⟨g, 0, none⟩)) (fun a ee => execNl20 rfl (ee _)) (rv_ 2 (.pointer (some ⟨g, 0, none⟩)) (fun a ee => execFzI0 rfl (ee _)) (rv_ 3 (.map (some b)) (fun a ee => execL20 rfl (Or.inr (Or.inr (Or.inl rfl))) (ee _) (bC_at hB7.hg).1) (rs_ 6 (fun a ee => ?_))))
  refine stepS rfl rfl (execUpR rfl (ee _) (ee _) (ee _) r8) ⟨_, ⟨_, rfl, rfl⟩, fun X8 hX => ?_⟩
  refine rg_ [] ?_
  rintro a A -
  replace hM8 := hB7.upd hM8
  rw [← show X8 = setBlock V b ob from hX] at hM8
  have hs8 : Saved F V X8 := by
    rw [hX]
    exact sv_blk hs7 (hF7 _ hB7.mi.1)
  have BW : Below X8.heap.size X8 X8 := Below.refl _ _
  have BB : Below X8.heap.size X8 X8 := Below.refl _ _
  refine wp_seq ?_
  refine wi_ A h0_ (rg_ [(6, .int .i64 ((0 : Nat) : Int))] ?_)
  rintro a A ⟨t6, -⟩
  refine wp_ret ?_
  refine bodyPost_ret (results_tmp rfl _ _ _) A.2 ⟨_, ?_, ⟨g, _, rfl, hM8⟩, hs8, hF7⟩
  show Ending.returned (a.eval (.tmp 6)) = _
  rw [t6]
theorem pput_wI {V F v S n} (h : BR 66 V F v S n) {i : Int} (u : Value) (hi : I64 i) (h0 : ¬ i < 0) (hq : i ∈ kys S ∨ i < ((n : Nat) : Int)) : Calls Try.prog 11 #[v, .int .i64 i, u] V fun e w' => e = .returned (.int .i64 ((200 : Nat) : Int)) ∧ Below V.heap.size V w' := by
  obtain ⟨g, m, rfl, hB⟩ := h
  cases hl : lkp S i with
  | some x => exact pput_tI g m F S n V hB i u hi h0 (by rw [hl]; rfl)
  | none => exact pput_lI g m F S n V hB i u hi h0 (by rw [hl]; rfl) (hq.elim (fun w => absurd w (lkp_none.1 hl)) id)
theorem pput_oI {V F v S n} (h : BR 66 V F v S n) {i : Int} (u : Value) (hi : I64 i) (h0 : ¬ i < 0) (hno : i ∉ kys S) (h2 : ¬ i < ((n : Nat) : Int)) : Calls Try.prog 11 #[v, .int .i64 i, u] V fun e w' => ∃ F', e = .returned (.int .i64 ((0 : Nat) : Int)) ∧ BR 66 w' F' v (S ++ [(i, u)]) n ∧ Saved F V w' ∧ ∀ q, F' q → F q ∨ V.heap.size ≤ q := by
  obtain ⟨g, m, rfl, hB⟩ := h
  have hq : (lkp S i).isSome = false := by rw [lkp_none.2 hno]; rfl
  rcases hB.mp with ⟨rfl, rfl⟩ | ⟨b, rfl, -, -⟩
  · exact pput_cI g F n V hB i u hi h0 hq h2 hno
  · exact pput_dI g b F S n V hB i u hi h0 hq h2 hno
set_option maxRecDepth 100000 in
set_option maxHeartbeats 4000000 in
/-- Next. -/
theorem pnext_fI (g : Nat) (m : Value) (F : Nat → Prop) (S : Its) (n : Nat) (V : World) (hB : Bq 66 V F g m S n) (hi : I64 ((n : Nat) : Int)) (hq : (lkp S ((n : Nat) : Int)).isSome = false) :
    Calls Try.prog 12 #[.pointer (some ⟨g, 0, none⟩)] V fun e w' => e = .returned (.tuple #[.int .i64 ((0 : Nat) : Int), .bool false]) ∧ Below V.heap.size V w' := by
  go_enter Try.func12, Try.ntmps12
  refine wo_ 41 [(0, .pointer (some ⟨g, 0, none⟩))] ?_
  rintro a A ⟨t0, -⟩
  have BW : Below V.heap.size V V := Below.refl _ _
  have BB : Below V.heap.size V V := Below.refl _ _
  refine wp_seq ?_
  refine wi_ A (h1_ t0) (rf_ [] (h1_ t0) ?_)
  rintro a A - ⟨t0, -⟩
  refine wp_seq ?_
  refine wi_ A (h1_ t0) (rf_ [(4, .int .i64 ((0 : Nat) : Int))] (h1_ t0) ?_)
  rintro a A ⟨t4, -⟩ ⟨t0, -⟩
  refine wp_seq ?_
  refine wp_seq ?_
  refine wi_ A (h2_ t0 t4) (rv_ 1 (.bool false) (fun a ee => execPIeqls rfl (ee _)) (rf_ [(8, .bool false)] (h2_ t0 t4) ?_))
  rintro a A ⟨t8, -⟩ ⟨t0, t4, -⟩
  refine wp_cond_false t8 ?_
  refine wp_skip ?_
  clear t8
  refine wp_seq ?_
  refine wj_ [0, 1, 2, 3, 4, 5, 6, 7, 8, 9, 10, 11, 12, 13] [] [3, 7, 8] [] A (h2_ t0 t4) (fun X4 bD => ?_)
  refine dw_ 1 (.pointer (some ⟨g, 0, none⟩)) (fun a X ee => execNl20 rfl (ee _)) (dw_ 2 (.pointer (some ⟨g, 0, none⟩)) (fun a X ee => execFzI0 rfl (ee _)) (dv_ 3 (m) (fun a X ee hb => execL20 rfl (Or.inr (Or.inr (Or.inl rfl))) (ee _) (bC_at (hB.on (BB.trans (hb.mono BB.size))).hg).1) (dw_ 5 (.pointer (some ⟨g, 0, none⟩)) (fun a X ee => execNl20 rfl (ee _)) (dw_ 6 (.pointer (some ⟨g, 1, none⟩)) (fun a X ee => execFzI1 rfl (ee _)) (dv_ 7 (.int .i64 ((n : Nat) : Int)) (fun a X ee hb => execL20 rfl (Or.inl rfl) (ee _) (bC_at (hB.on (BB.trans (hb.mono BB.size))).hg).2) (dv_ 8 (.tuple #[(lkp S ((n : Nat) : Int)).getD (.int .i64 0), .bool false]) (fun a X ee hb => execVal (execLkp (S := S) rfl (ee _) (ee _) undI (zerI _) hi (hB.on (BB.trans (hb.mono BB.size))).mp.op) (by rw [hq])) (dz_ [(5, (lkp S ((n : Nat) : Int)).getD (.int .i64 0)), (6, .bool false)] (h2_ t0 t4) ?_)))))))
  rintro a A ⟨t5, t6, -⟩ ⟨t0, t4, -⟩
  replace BB := BB.trans (bD.mono BB.size)
  clear bD
  refine wp_seq ?_
  refine wp_seq ?_
  refine wi_ A (h4_ t0 t4 t5 t6) (rv_ 1 (.bool true) (fun a ee => execNot8 (b := false) rfl (ee _)) (rf_ [(23, .bool true)] (h3_ t0 t4 t5) ?_))
  rintro a A ⟨t23, -⟩ ⟨t0, t4, t5, -⟩
  refine wp_cond_true t23 ?_
  clear t23
  refine wp_seq ?_
  refine wi_ A (h3_ t0 t4 t5) (rg_ [(2, .int .i64 ((0 : Nat) : Int)), (3, .bool false)] ?_)
  rintro a A ⟨t2, t3, -⟩
  refine wp_ret ?_
  repeat (first | with_reducible refine ret_in ?_ | with_reducible refine ret_then ?_)
  refine bodyPost_ret (results_tmp2 rfl _ _ _) A.2 ⟨?_, BB⟩
  show Ending.returned (.tuple #[a.eval (.tmp 2), a.eval (.tmp 3)]) = _
  rw [t2, t3]
set_option maxRecDepth 100000 in
set_option maxHeartbeats 4000000 in
/-- Next. -/
theorem pnext_tI (g : Nat) (b : Nat) (x : Value) (F : Nat → Prop) (S : Its) (n : Nat) (V : World) (hB : Bq 66 V F g (.map (some b)) S n) (hi : I64 ((n : Nat) : Int)) (hn : n < 9223372036854775807) (hq : lkp S ((n : Nat) : Int) = some x) :
    Calls Try.prog 12 #[.pointer (some ⟨g, 0, none⟩)] V fun e w' => ∃ F', e = .returned (.tuple #[x, .bool true]) ∧ BR 66 w' F' (.pointer (some ⟨g, 0, none⟩)) (wo S ((n : Nat) : Int)) (n + 1) ∧ Saved F V w' ∧ ∀ q, F' q → F q ∨ V.heap.size ≤ q := by
  go_enter Try.func12, Try.ntmps12
  refine wo_ 41 [(0, .pointer (some ⟨g, 0, none⟩))] ?_
  rintro a A ⟨t0, -⟩
  have BW : Below V.heap.size V V := Below.refl _ _
  have BB : Below V.heap.size V V := Below.refl _ _
  refine wp_seq ?_
  refine wi_ A (h1_ t0) (rf_ [] (h1_ t0) ?_)
  rintro a A - ⟨t0, -⟩
  refine wp_seq ?_
  refine wi_ A (h1_ t0) (rf_ [(4, .int .i64 ((0 : Nat) : Int))] (h1_ t0) ?_)
  rintro a A ⟨t4, -⟩ ⟨t0, -⟩
  refine wp_seq ?_
  refine wp_seq ?_
  refine wi_ A (h2_ t0 t4) (rv_ 1 (.bool false) (fun a ee => execPIeqls rfl (ee _)) (rf_ [(8, .bool false)] (h2_ t0 t4) ?_))
  rintro a A ⟨t8, -⟩ ⟨t0, t4, -⟩
  refine wp_cond_false t8 ?_
  refine wp_skip ?_
  clear t8
  refine wp_seq ?_
  refine wj_ [0, 1, 2, 3, 4, 5, 6, 7, 8, 9, 10, 11, 12, 13] [] [3, 7, 8] [] A (h2_ t0 t4) (fun X4 bD => ?_)
  refine dw_ 1 (.pointer (some ⟨g, 0, none⟩)) (fun a X ee => execNl20 rfl (ee _)) (dw_ 2 (.pointer (some ⟨g, 0, none⟩)) (fun a X ee => execFzI0 rfl (ee _)) (dv_ 3 (.map (some b)) (fun a X ee hb => execL20 rfl (Or.inr (Or.inr (Or.inl rfl))) (ee _) (bC_at (hB.on (BB.trans (hb.mono BB.size))).hg).1) (dw_ 5 (.pointer (some ⟨g, 0, none⟩)) (fun a X ee => execNl20 rfl (ee _)) (dw_ 6 (.pointer (some ⟨g, 1, none⟩)) (fun a X ee => execFzI1 rfl (ee _)) (dv_ 7 (.int .i64 ((n : Nat) : Int)) (fun a X ee hb => execL20 rfl (Or.inl rfl) (ee _) (bC_at (hB.on (BB.trans (hb.mono BB.size))).hg).2) (dv_ 8 (.tuple #[x, .bool true]) (fun a X ee hb => execVal (execLkp (S := S) rfl (ee _) (ee _) undI (zerI _) hi (hB.on (BB.trans (hb.mono BB.size))).mp.op) (by rw [hq]; rfl)) (dz_ [(5, x), (6, .bool true)] (h2_ t0 t4) ?_)))))))
  rintro a A ⟨t5, t6, -⟩ ⟨t0, t4, -⟩
  replace BB := BB.trans (bD.mono BB.size)
  clear bD
  refine wp_seq ?_
  refine wp_seq ?_
  refine wi_ A (h4_ t0 t4 t5 t6) (rv_ 1 (.bool false) (fun a ee => execNot8 (b := true) rfl (ee _)) (rf_ [(23, .bool false)] (h3_ t0 t4 t5) ?_))
  rintro a A ⟨t23, -⟩ ⟨t0, t4, t5, -⟩
  refine wp_cond_false t23 ?_
  refine wp_skip ?_
  clear t23
  have hB6 := hB.on BB
  refine wp_seq ?_
  refine wj_ [0, 1, 2, 3, 4, 5, 6, 7, 8] [8] [3, 7] [8] A (h3_ t0 t4 t5) fun Xd bD => ?_
  refine dw_ 1 (.pointer (some ⟨g, 0, none⟩)) (fun a X ee => execNl20 rfl (ee _)) (dw_ 2 (.pointer (some ⟨g, 0, none⟩)) (fun a X ee => execFzI0 rfl (ee _)) (dv_ 3 (.map (some b)) (fun a X ee hb => execL20 rfl (Or.inr (Or.inr (Or.inl rfl))) (ee _) (bC_at (hB6.on hb).hg).1) (dw_ 5 (.pointer (some ⟨g, 0, none⟩)) (fun a X ee => execNl20 rfl (ee _)) (dw_ 6 (.pointer (some ⟨g, 1, none⟩)) (fun a X ee => execFzI1 rfl (ee _)) (dv_ 7 (.int .i64 ((n : Nat) : Int)) (fun a X ee hb => execL20 rfl (Or.inl rfl) (ee _) (bC_at (hB6.on hb).hg).2) (ds_ 8 (fun a ee => ?_)))))))
  obtain ⟨ob, r7, hM7⟩ := (hB6.on bD).mi.2.delA hi (kys_of hq) undI
  refine stepV rfl rfl (execDlR rfl (ee _) (ee _) r7) ⟨_, ⟨_, rfl, rfl⟩, fun X7 hX => ?_⟩
  refine ⟨Or.inl rfl, ?_⟩
  refine dz_ [] (h2_ t0 t5) ?_
  rintro a A - ⟨t0, t5, -⟩
  replace hM7 := (hB6.on bD).upd hM7
  have hs7 : Saved F V X7 := by
    rw [show X7 = setBlock Xd b ob from hX]
    exact sv_blk (((Saved.refl F V).below BB (Nat.le_refl _)).below bD BB.size) (Or.inl hB6.mi.1)
  rw [← show X7 = setBlock Xd b ob from hX] at hM7
  refine wp_seq ?_
  refine wi_ A (h2_ t0 t5) (?_)
  refine rv_ 1 (.pointer (some ⟨g, 0, none⟩)) (fun a ee => execNl20 rfl (ee _)) (rv_ 2 (.pointer (some ⟨g, 1, none⟩)) (fun a ee => execFzI1 rfl (ee _)) (rv_ 3 (.int .i64 ((n : Nat) : Int)) (fun a ee => execL20 rfl (Or.inl rfl) (ee _) (bC_at hM7.hg).2) (rv_ 4 (.int .i64 ((n + 1 : Nat) : Int)) (fun a ee => execAd8 (p := n) (q := 1) rfl (ee _) rfl (by omega)) (rv_ 5 (.pointer (some ⟨g, 0, none⟩)) (fun a ee => execNl20 rfl (ee _)) (rv_ 6 (.pointer (some ⟨g, 1, none⟩)) (fun a ee => execFzI1 rfl (ee _)) (rs_ 7 (fun a ee => ?_)))))))
  refine stepS rfl rfl (execS20 rfl (Or.inl rfl) (ee _) (ee _) (Or.inl ⟨_, rfl⟩) (bC_at hM7.hg).2 (frozen4 hM7.hg)) ⟨_, ⟨_, rfl, rfl⟩, fun X8 hX8 => ?_⟩
  refine rf_ [] (h1_ t5) ?_
  rintro a A - ⟨t5, -⟩
  have hM8 := hM7.next (k := n + 1)
  rw [← show X8 = X7.setCell ⟨g, 1, none⟩ (.int .i64 ((n + 1 : Nat) : Int)) from hX8] at hM8
  have hs8 : Saved F V X8 := by
    rw [hX8]
    exact hs7.cell _ (Or.inr hB.gF)
  have BW : Below X8.heap.size X8 X8 := Below.refl _ _
  have BB : Below X8.heap.size X8 X8 := Below.refl _ _
  refine wp_seq ?_
  refine wi_ A (h1_ t5) (rg_ [(2, x), (3, .bool true)] ?_)
  rintro a A ⟨t2, t3, -⟩
  refine wp_ret ?_
  refine bodyPost_ret (results_tmp2 rfl _ _ _) A.2 ⟨_, ?_, ⟨g, _, rfl, hM8⟩, hs8, fun q hq => Or.inl hq⟩
  show Ending.returned (.tuple #[a.eval (.tmp 2), a.eval (.tmp 3)]) = _
  rw [t2, t3]
theorem pnext_eI {V F v S n} (h : BR 66 V F v S n) (hn : n < 9223372036854775807) (hq : ((n : Nat) : Int) ∉ kys S) : Calls Try.prog 12 #[v] V fun e w' => e = .returned (.tuple #[.int .i64 ((0 : Nat) : Int), .bool false]) ∧ Below V.heap.size V w' := by
  obtain ⟨g, m, rfl, hB⟩ := h
  exact pnext_fI g m F S n V hB ⟨by omega, by omega⟩ (by rw [lkp_none.2 hq]; rfl)
theorem pnext_oI {V F v S n} {x : Value} (h : BR 66 V F v S n) (hn : n < 9223372036854775807) (hq : lkp S ((n : Nat) : Int) = some x) : Calls Try.prog 12 #[v] V fun e w' => ∃ F', e = .returned (.tuple #[x, .bool true]) ∧ BR 66 w' F' v (wo S ((n : Nat) : Int)) (n + 1) ∧ Saved F V w' ∧ ∀ q, F' q → F q ∨ V.heap.size ≤ q := by
  obtain ⟨g, m, rfl, hB⟩ := h
  rcases hB.mp with ⟨rfl, rfl⟩ | ⟨b, rfl, -, -⟩
  · cases hq
  · exact pnext_tI g b x F S n V hB ⟨by omega, by omega⟩ hn hq
end Go.Proofs.Ytnfokemikcigbaa.Ord
