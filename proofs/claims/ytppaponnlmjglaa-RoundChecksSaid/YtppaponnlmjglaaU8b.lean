import Derived.Test.YtppaponnlmjglaaU8a
namespace Go.Proofs.Ytppaponnlmjglaa.Rnd
open Go.RowKit Gf8 Aes By8 Cel Cf Win
/- The laws' plain; RoundChecks. Written by tools/mkU8b.py. -/

theorem wd0 (V : World) : Wd V 0 (.slice none 0 0) 0 (fun _ => 0) (fun _ => undef) (fun _ => 0) (fun _ _ _ => 0) := ⟨⟨⟨none, 0, rfl, Nat.le_refl _, by omega, fun h => absurd h (Nat.lt_irrefl _)⟩, fun j hj => absurd hj (Nat.not_lt_zero j), fun j hj => absurd hj (Nat.not_lt_zero j)⟩, by omega, fun j hj => absurd hj (Nat.not_lt_zero j), ⟨by omega, by omega⟩⟩
theorem c210 : ckE 0 q0 0 (0, esL 0 (fun _ => 0) (fun _ => 0) (fun _ _ _ => 0)) = 210 := if_neg fun z => absurd z.1 (by decide)
theorem c000 : ckE 32 qp 0 (0, esL 0 (fun _ => 0) (fun _ => 0) (fun _ _ _ => 0)) = 0 := by
  have h : wChk (0, esL 0 (fun _ => 0) (fun _ => 0) (fun _ _ _ => 0)) qp.s qp.r = 0 := by decide
  exact if_pos ⟨by decide, by decide, by decide, h⟩
theorem res_c1 {P : Program} {fn : Func} {p : Tmp} {ty : TypeId} (tmps : Array Value) (w : World) (g : Nat) (t : TypeId) (cs : Array Value) (fr : Nat × Nat) (d : TypeDesc) (h : fn.results = #[.cell p ty]) (hp : tmps.getD p undef = .pointer (some ⟨g, 0, none⟩)) (hg : w.heap[g]? = some (.cells cs t fr)) (hu : P.underlying ty = some d) (hd : (match d with | .struct _ | .array _ _ => true | _ => false) = true) (hi : (P.info? ty).map (·.size) = some cs.size) :
    (results fn tmps).run P w = .ok (.agg cs) w := by
  have hp' : tmps[p]?.getD undef = .pointer (some ⟨g, 0, none⟩) := by simpa using hp
  simp [results, h, hp', asAddr, run_loadVar_row w g t ty cs fr d hg hu hd hi]
section
variable {o : Oper} {a : Act} {w : World}
theorem execBd0 (ho : o.op = .build 24 #[]) : (execOp a.eval o).run Try.prog w = .ok (.value (.agg (cfC (.slice none 0 0) q0))) w := by
  unfold execOp
  simp only [ho, List.map_toArray, List.map_nil]
  kernel_rfl
theorem execBdS (ho : o.op = .build 29 #[]) : (execOp a.eval o).run Try.prog w = .ok (.value (.agg (sC 0 0 (.slice none 0 0)))) w := by
  unfold execOp
  simp only [ho, List.map_toArray, List.map_nil]
  kernel_rfl
theorem execAlC (ho : o.op = .alloc 24) : (execOp a.eval o).run Try.prog w = .ok (.value (.pointer (some ⟨w.heap.size, 0, none⟩))) (w.alloc (.cells (cfC (.slice none 0 0) q0) 24)) := by
  unfold execOp
  simp only [ho]
  simp [go_sem, cfC, q0]
theorem execBdP {x : Operand} {g n c : Nat} (ho : o.op = .build 24 #[(0, x), (1, .const (.int .i64 2)), (2, .const (.int .i64 1)), (5, .const (.int .i64 1)), (7, .const (.int .i64 1)), (8, .const (.int .i64 1)), (10, .const (.int .i64 1))]) (hx : a.eval x = .slice (some ⟨g, 0, none⟩) n c) : (execOp a.eval o).run Try.prog w = .ok (.value (.agg (cfC (.slice (some ⟨g, 0, none⟩) n c) qp))) w := by
  unfold execOp
  simp only [ho, List.map_toArray, List.map_cons, List.map_nil, hx]
  simp [go_sem, cfC, qp]
theorem execMk32 (ho : o.op = .makeSlice 22 (.const (.int .i64 32)) (.const (.int .i64 32))) : (execOp a.eval o).run Try.prog w = .ok (.value (.slice (some ⟨w.heap.size, 0, none⟩) 32 32)) (w.alloc (.cells (bA 32 fun _ => 0) 5)) := by
  have h := run_mk 32 32 (by omega) (by omega) w
  have e : a.eval (.const (.int .i64 32)) = .int .i64 ((32 : Nat) : Int) := rfl
  unfold execOp
  simp only [ho, e, Sem.run_bind, h, Result.andThen_ok, Sem.run_pure]
theorem execStC {x y : Operand} {g : Nat} {mv mv' : Value} {q q' : Cg} (ho : o.op = .store 24 x y) (hx : a.eval x = .pointer (some ⟨g, 0, none⟩)) (hy : a.eval y = .agg (cfC mv' q')) (hg : w.heap[g]? = some (.cells (cfC mv q) 24)) (hm : ∃ g n c, mv' = .slice g n c) : (execOp a.eval o).run Try.prog w = .ok .skip (w.setRow g (cfC mv' q')) := by
  obtain ⟨b, n, c, rfl⟩ := hm
  have h := execStMid (P := Try.prog) ho hx hy hg (Nat.le_refl _) (show (Try.prog.info? 24).map (·.size) = some (cfC (.slice b n c) q').size from by show _ = some 11; kernel_rfl) (by simp [cfC, Value.oneCell'])
  exact h
end
set_option maxRecDepth 100000 in
set_option maxHeartbeats 4000000 in
/-- The laws' plain. -/
theorem plain21 (V : World) :
    Calls Try.prog 5 #[] V fun e w' => (∃ g, e = .returned (.agg (cfC (.slice (some ⟨g, 0, none⟩) 32 32) qp)) ∧ V.heap.size ≤ g ∧ w'.heap[g]? = some (.cells (bA 32 fun _ => 0) 5)) ∧ Below V.heap.size V w' := by
  go_enter Try.func5, Try.ntmps5
  refine wo_ 3 [] ?_
  rintro a A -
  have BW : Below V.heap.size V V := Below.refl _ _
  have BB := BW
  refine wp_seq ?_
  obtain ⟨g0, egg0⟩ : ∃ z_ : Nat, V.heap.size = z_ := ⟨_, rfl⟩
  refine wi_ A h0_ (rs_ 0 (fun a ee => ?_))
  refine stepV rfl rfl (execAlC rfl) ⟨.pointer (some ⟨g0, 0, none⟩), ⟨_, rfl, by subst egg0; rfl⟩, fun X0 hX => ?_⟩
  have bQ : Below V.heap.size V X0 := by subst hX egg0; exact (belNew V _)
  have Fg0 : (X0.heap[g0]? = some (.cells (cfC (.slice none 0 0) q0) 24)) := by subst hX egg0; exact heapNew V _
  have Fge : (V.heap.size ≤ g0) := by subst hX egg0; exact (BB).size
  replace BB := BB.trans (bQ.mono BB.size)
  clear bQ hX egg0 ee a
  refine rg_ [(0, .pointer (some ⟨g0, 0, none⟩))] ?_
  rintro a A ⟨t0, -⟩
  refine wp_seq ?_
  obtain ⟨g1, egg1⟩ : ∃ z_ : Nat, X0.heap.size = z_ := ⟨_, rfl⟩
  refine wi_ A (h1_ t0) (rs_ 0 (fun a ee => ?_))
  refine stepV rfl rfl (execMk32 rfl) ⟨.slice (some ⟨g1, 0, none⟩) 32 32, ⟨_, rfl, by subst egg1; rfl⟩, fun X1_1 hX => ?_⟩
  have bQ : Below X0.heap.size X0 X1_1 := by subst hX egg1; exact (belNew X0 _)
  have Fg1 : (X1_1.heap[g1]? = some (.cells (bA 32 fun _ => 0) 5)) := by subst hX egg1; exact heapNew X0 _
  have Fg1e : (V.heap.size ≤ g1) := by subst hX egg1; exact (BB).size
  replace Fg0 := (on9 Fg0 bQ)
  replace BB := BB.trans (bQ.mono BB.size)
  clear bQ hX egg1 ee a
  refine rv_ 1 (.agg (cfC (.slice (some ⟨g1, 0, none⟩) 32 32) qp)) (fun a ee => execBdP rfl (ee _)) (rs_ 2 (fun a ee => ?_))
  refine stepS rfl rfl (execStC rfl (ee _) (ee _) Fg0 ⟨_, _, _, rfl⟩) ⟨_, ⟨_, rfl, rfl⟩, fun X1 hX => ?_⟩
  obtain ⟨BB, Fg1, Fc⟩ : Below V.heap.size V X1 ∧ (X1.heap[g1]? = some (.cells (bA 32 fun _ => 0) 5)) ∧ (X1.heap[g0]? = some (.cells (cfC (.slice (some ⟨g1, 0, none⟩) 32 32) qp) 24)) := by subst hX; exact ⟨below4 BB Fge _, (by rw [setRow_other _ _ _ _ (ne_type Fg0 Fg1 (by decide))]; exact Fg1), setRow_heap _ _ _ _ _ _ Fg0⟩
  clear Fg0 hX ee a
  refine rf_ [] (h1_ t0) ?_
  rintro a A - ⟨t0, -⟩
  refine wp_ret ?_
  exact bodyPost_ret (res_c1 _ _ g0 24 _ (0, 0) _ Try.results5 t0 Fc Try.underlying24 rfl (by show _ = some 11; kernel_rfl)) A.2 ⟨⟨g1, rfl, Fg1e, Fg1⟩, BB⟩
set_option maxRecDepth 100000 in
set_option maxHeartbeats 4000000 in
/-- RoundChecks. -/
theorem checks21 (mv : Value) (m : Nat) (q : Cg) (nx : Int) (nw : Int) (ev : Value) (n : Nat) (nu : Nat → Int) (tw : Nat → Value) (ln : Nat → Nat) (t : Nat → Nat → Nat → Nat) (V : World) (hW : Wd V nw ev n nu tw ln t) (hm : ∃ g n c, mv = .slice g n c) (hmv : ∃ ao c, mv = .slice ao m c) (hs : I64 q.s) (hr : I64 q.r) :
    Calls Try.prog 3 #[.agg (cfC mv q), .agg (sC nx nw ev)] V fun e w' => e = .returned (.bool true) ∧ Below V.heap.size V w' := by
  have hev : ∃ g n c, ev = .slice g n c := by obtain ⟨g, c, e, _⟩ := hW.eps.shape; exact ⟨g, n, c, e⟩
  go_enter Try.func3, Try.ntmps3
  refine wo_ 24 [(0, .agg (cfC mv q)), (1, .agg (sC nx nw ev))] ?_
  rintro a A ⟨t0, t1, -⟩
  have BW : Below V.heap.size V V := Below.refl _ _
  have BB := BW
  refine wp_seq ?_
  obtain ⟨g2, egg2⟩ : ∃ z_ : Nat, V.heap.size = z_ := ⟨_, rfl⟩
  refine wi_ A (h2_ t0 t1) (rs_ 0 (fun a ee => ?_))
  refine stepV rfl rfl (execBxC hm rfl (ee _)) ⟨.pointer (some ⟨g2, 0, none⟩), ⟨_, rfl, by subst egg2; rfl⟩, fun X0_1 hX => ?_⟩
  have bQ : Below V.heap.size V X0_1 := by subst hX egg2; exact (belNew V _)
  have Fg2 : (X0_1.heap[g2]? = some (.cells (cfC mv q) 24)) := by subst hX egg2; exact heapNew V _
  replace BB := BB.trans (bQ.mono BB.size)
  clear bQ hX egg2 ee a
  obtain ⟨g3, egg3⟩ : ∃ z_ : Nat, X0_1.heap.size = z_ := ⟨_, rfl⟩
  refine rs_ 1 (fun a ee => ?_)
  refine stepV rfl rfl (execBxS hev rfl (ee _)) ⟨.pointer (some ⟨g3, 0, none⟩), ⟨_, rfl, by subst egg3; rfl⟩, fun X0 hX => ?_⟩
  have bQ : Below X0_1.heap.size X0_1 X0 := by subst hX egg3; exact (belNew X0_1 _)
  have Fg3 : (X0.heap[g3]? = some (.cells (sC nx nw ev) 29)) := by subst hX egg3; exact heapNew X0_1 _
  replace Fg2 := (on9 Fg2 bQ)
  replace BB := BB.trans (bQ.mono BB.size)
  clear bQ hX egg3 ee a
  refine rg_ [(2, .pointer (some ⟨g2, 0, none⟩)), (3, .pointer (some ⟨g3, 0, none⟩))] ?_
  rintro a A ⟨t2, t3, -⟩
  refine wp_seq ?_
  refine wp_seq ?_
  refine wi_ A (h2_ t2 t3) (rv_ 0 (.agg (cfC (.slice none 0 0) q0)) (fun a ee => execBd0 rfl) (rv_ 1 (.agg (sC 0 0 (.slice none 0 0))) (fun a ee => execBdS rfl) (rc_ 2 ((c210 ▸ pcheck21 (.slice none 0 0) 0 q0 0 0 (.slice none 0 0) 0 (fun _ => 0) (fun _ => undef) (fun _ => 0) (fun _ _ _ => 0) X0 (wd0 X0) ⟨_, _, _, rfl⟩ ⟨_, _, rfl⟩)) (cb_ fun X1_1 bQ => ?_))))
  replace Fg2 := (on9 Fg2 bQ)
  replace Fg3 := (on9 Fg3 bQ)
  replace BB := BB.trans (bQ.mono BB.size)
  clear bQ
  refine rv_ 3 (.bool false) (fun a ee => execDec (execNeE (p := 210) (q := 210) rfl (ee _) rfl) (decide_eq_false (by decide))) (rc_ 5 (plain21 X1_1) fun e X1_2 hh => ?_)
  obtain ⟨⟨gp, he, _, hg_⟩, hb⟩ := hh
  refine ⟨_, he, ?_⟩
  have bQ : Below X1_1.heap.size X1_1 X1_2 := hb
  have Fgp : (X1_2.heap[gp]? = some (.cells (bA 32 fun _ => 0) 5)) := hg_
  replace Fg2 := (on9 Fg2 bQ)
  replace Fg3 := (on9 Fg3 bQ)
  replace BB := BB.trans (bQ.mono BB.size)
  clear bQ
  refine rv_ 6 (.agg (sC 0 0 (.slice none 0 0))) (fun a ee => execBdS rfl) (rc_ 7 ((c000 ▸ pcheck21 (.slice (some ⟨gp, 0, none⟩) 32 32) 32 qp 0 0 (.slice none 0 0) 0 (fun _ => 0) (fun _ => undef) (fun _ => 0) (fun _ _ _ => 0) X1_2 (wd0 X1_2) ⟨_, _, _, rfl⟩ ⟨_, _, rfl⟩)) (cb_ fun X1 bQ => ?_))
  replace Fg2 := (on9 Fg2 bQ)
  replace Fg3 := (on9 Fg3 bQ)
  replace Fgp := (on9 Fgp bQ)
  replace BB := BB.trans (bQ.mono BB.size)
  clear bQ
  refine rv_ 8 (.bool false) (fun a ee => execDec (execNeE (p := 0) (q := 0) rfl (ee _) rfl) (decide_eq_false (by decide))) (rf_ [(15, .bool false)] (h2_ t2 t3) ?_)
  rintro a A ⟨t15, -⟩ ⟨t2, t3, -⟩
  refine wp_cond_false t15 ?_
  refine wp_skip ?_
  clear t15
  refine wp_seq ?_
  refine wi_ A (h2_ t2 t3) (rv_ 0 (.agg (cfC mv q)) (fun a ee => execLdC rfl (ee _) Fg2) (rv_ 1 (.agg (sC nx nw ev)) (fun a ee => execLdS rfl (ee _) Fg3) (rc_ 2 (rcheck21 mv m q nx nw ev n nu tw ln t X1 (hW.on BB) hm hmv hs hr) (cb_ fun X3 bQ => ?_))))
  replace Fg2 := (on9 Fg2 bQ)
  replace Fg3 := (on9 Fg3 bQ)
  replace Fgp := (on9 Fgp bQ)
  replace BB := BB.trans (bQ.mono BB.size)
  clear bQ
  refine rf_ [(5, .int .i64 ((ckE m q nx (nw, esL n nu ln t) : Nat) : Int))] (h2_ t2 t3) ?_
  rintro a A ⟨t5, -⟩ ⟨t2, t3, -⟩
  refine wp_seq ?_
  refine wi_ A (h3_ t2 t3 t5) (rv_ 0 (.agg (cfC mv q)) (fun a ee => execLdC rfl (ee _) Fg2) (rv_ 1 (.agg (sC nx nw ev)) (fun a ee => execLdS rfl (ee _) Fg3) (rc_ 2 (pcheck21 mv m q nx nw ev n nu tw ln t X3 (hW.on BB) hm hmv) (cb_ fun X4 bQ => ?_))))
  replace Fg2 := (on9 Fg2 bQ)
  replace Fg3 := (on9 Fg3 bQ)
  replace Fgp := (on9 Fgp bQ)
  replace BB := BB.trans (bQ.mono BB.size)
  clear bQ
  refine rv_ 4 (.bool true) (fun a ee => execDec (execEqN (p := ckE m q nx (nw, esL n nu ln t)) (q := ckE m q nx (nw, esL n nu ln t)) rfl (ee _) (ee _)) (decide_eq_true (by omega))) (rg_ [(4, .bool true)] ?_)
  rintro a A ⟨t4, -⟩
  refine wp_ret ?_
  refine bodyPost_ret (results_tmp rfl _ _ _) A.2 ⟨?_, BB⟩
  show Ending.returned (a.eval (.tmp 4)) = _
  rw [t4]
end Go.Proofs.Ytppaponnlmjglaa.Rnd
