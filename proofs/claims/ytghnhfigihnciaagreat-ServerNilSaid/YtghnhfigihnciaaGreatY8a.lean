import Derived.Test.YtghnhfigihnciaaGreatU8b
namespace Go.Proofs.YtghnhfigihnciaaGreat.Srv
open Go.RowKit Gf8 Aes By8 Cel Cf Win Rnd
/- The reference's sameEpoch, SameState, of like states. Written by tools/mkY8a.py. -/

section
variable {o : Oper} {a : Act} {w : World}
theorem execBoxE4 {x : Operand} {z : Int} {v : Value} (ho : o.op = .box 65 x) (hx : a.eval x = .agg (epC z v)) : (execOp a.eval o).run Tryz.prog w = .ok (.value (.pointer (some ⟨w.heap.size, 0, none⟩))) (w.alloc (.cells (epC z v) 65)) := by
  unfold execOp
  simp only [ho, hx]
  simp [go_sem, epC]
theorem execFW0k {x : Operand} {b k : Nat} (ho : o.op = .fieldAddr 31 x 0) (hx : a.eval x = .pointer (some ⟨b, k, none⟩)) : (execOp a.eval o).run Tryz.prog w = .ok (.value (.pointer (some ⟨b, k + 0, none⟩))) w := by
  unfold execOp
  simp only [ho, hx]
  simp [go_sem]
theorem execFW1k {x : Operand} {b k : Nat} (ho : o.op = .fieldAddr 31 x 1) (hx : a.eval x = .pointer (some ⟨b, k, none⟩)) : (execOp a.eval o).run Tryz.prog w = .ok (.value (.pointer (some ⟨b, k + 1, none⟩))) w := by
  unfold execOp
  simp only [ho, hx]
  simp [go_sem]
end
set_option maxRecDepth 100000 in
set_option maxHeartbeats 4000000 in
/-- The reference's sameEpoch, of like epochs. -/
theorem rsamee24 (z : Int) (u v : Value) (l : Nat) (t tt : Nat → Nat → Nat) (V : World) (hT : Tgs V u l t) (hU : Tgs V v l tt) (hl : l < 9223372036854775808) (hq : ∀ k, k < l → ∀ i, i < 16 → t k i = tt k i) :
    Calls Tryz.prog 18 #[.agg (epC z u), .agg (epC z v)] V fun e w' => e = .returned (.bool true) ∧ Below V.heap.size V w' := by
  go_enter Tryz.func18, Tryz.ntmps18
  refine wo_ 38 [(0, .agg (epC z u)), (1, .agg (epC z v))] ?_
  rintro a A ⟨t0, t1, -⟩
  have BW : Below V.heap.size V V := Below.refl _ _
  refine wp_seq ?_
  obtain ⟨g2, egg2⟩ : ∃ z_ : Nat, V.heap.size = z_ := ⟨_, rfl⟩
  refine wi_ A (h2_ t0 t1) (rs_ 0 (fun a ee => ?_))
  refine stepV rfl rfl (execBoxE4 rfl (ee _)) ⟨.pointer (some ⟨g2, 0, none⟩), ⟨_, rfl, by subst egg2; rfl⟩, fun X0_1 hX => ?_⟩
  have bQ : Below V.heap.size V X0_1 := by subst hX egg2; exact (belNew V _)
  have Fg2 : (X0_1.heap[g2]? = some (.cells (epC z u) 65)) := by subst hX egg2; exact heapNew V _
  have bX := bQ
  clear bQ hX egg2 ee a
  obtain ⟨g3, egg3⟩ : ∃ z_ : Nat, X0_1.heap.size = z_ := ⟨_, rfl⟩
  refine rs_ 1 (fun a ee => ?_)
  refine stepV rfl rfl (execBoxE4 rfl (ee _)) ⟨.pointer (some ⟨g3, 0, none⟩), ⟨_, rfl, by subst egg3; rfl⟩, fun X0 hX => ?_⟩
  have bQ : Below X0_1.heap.size X0_1 X0 := by subst hX egg3; exact (belNew X0_1 _)
  have Fg3 : (X0.heap[g3]? = some (.cells (epC z v) 65)) := by subst hX egg3; exact heapNew X0_1 _
  replace Fg2 := (on9 Fg2 bQ)
  replace bX := bX.trans (bQ.mono bX.size)
  clear bQ hX egg3 ee a
  refine rg_ [(2, .pointer (some ⟨g2, 0, none⟩)), (3, .pointer (some ⟨g3, 0, none⟩))] ?_
  rintro a A ⟨t2, t3, -⟩
  replace hT := (hT.on bX)
  replace hU := (hU.on bX)
  have ZX0 := bX.size
  replace BW := BW.trans (bX.mono BW.size)
  clear bX
  have BB : Below X0.heap.size X0 X0 := Below.refl _ _
  refine wp_seq ?_
  refine wp_seq ?_
  refine wi_ A (h2_ t2 t3) (rv_ 0 (.pointer (some ⟨g2, 0 + 0, none⟩)) (fun a ee => execFldE0 rfl (ee _)) (rv_ 1 (.int .i64 z) (fun a ee => execLd2 rfl (ee _) (epC_0 (on9 Fg2 BB))) (rv_ 2 (.pointer (some ⟨g3, 0 + 0, none⟩)) (fun a ee => execFldE0 rfl (ee _)) (rv_ 3 (.int .i64 z) (fun a ee => execLd2 rfl (ee _) (epC_0 (on9 Fg3 BB))) (rv_ 4 (.bool false) (fun a ee => execDec (exIneq2 (p := z) (q := z) rfl (ee _) (ee _)) (decide_eq_false (fun h_ => h_ rfl))) (rv_ 6 (.pointer (some ⟨g2, 0 + 1, none⟩)) (fun a ee => execFldE1 rfl (ee _)) (rv_ 7 (u) (fun a ee => execLdTs rfl (ee _) (epC_1 (on9 Fg2 BB))) (rv_ 8 (.int .i64 ((l : Nat) : Int)) (fun a ee => execLenTs (len := l) rfl (ee _) hT.shp) (rv_ 9 (.pointer (some ⟨g3, 0 + 1, none⟩)) (fun a ee => execFldE1 rfl (ee _)) (rv_ 10 (v) (fun a ee => execLdTs rfl (ee _) (epC_1 (on9 Fg3 BB))) (rv_ 11 (.int .i64 ((l : Nat) : Int)) (fun a ee => execLenTs (len := l) rfl (ee _) hU.shp) (rv_ 12 (.bool false) (fun a ee => execDec (execNeN (p := l) (q := l) rfl (ee _) (ee _)) (decide_eq_false (by omega))) (rf_ [(19, .bool false)] (h2_ t2 t3) ?_)))))))))))))
  rintro a A ⟨t19, -⟩ ⟨t2, t3, -⟩
  refine wp_cond_false t19 ?_
  refine wp_skip ?_
  clear t19
  refine wp_seq ?_
  refine wp_seq ?_
  refine wi_ A (h2_ t2 t3) (rv_ 0 (.pointer (some ⟨g2, 0 + 1, none⟩)) (fun a ee => execFldE1 rfl (ee _)) (rv_ 1 (u) (fun a ee => execLdTs rfl (ee _) (epC_1 (on9 Fg2 BB))) (rv_ 2 (.int .i64 ((l : Nat) : Int)) (fun a ee => execLenTs (len := l) rfl (ee _) hT.shp) (rf_ [(22, .int .i64 ((l : Nat) : Int)), (23, .int .i64 ((0 : Nat) : Int))] (h2_ t2 t3) ?_))))
  rintro a A ⟨t22, t23, -⟩ ⟨t2, t3, -⟩
  refine wp_block ?_
  refine wp_loop (fun a W => ∃ (i : Nat), i ≤ l ∧ (a.tmps.size = 38 ∧ a.defers = []) ∧ a.eval (.tmp 2) = .pointer (some ⟨g2, 0, none⟩) ∧ a.eval (.tmp 3) = .pointer (some ⟨g3, 0, none⟩) ∧ a.eval (.tmp 22) = .int .i64 ((l : Nat) : Int) ∧ a.eval (.tmp 23) = .int .i64 ((i : Nat) : Int) ∧ Below X0.heap.size X0 W) (fun a _ => l - (intOf (a.eval (.tmp 23))).toNat) ⟨0, Nat.zero_le _, A, t2, t3, t22, t23, BB⟩ ?_
  clear A t2 t3 t22 t23 BB a
  rintro a XL4 ⟨i, hi, A, t2, t3, t22, t23, BB⟩
  have esi := t23
  refine wp_seq ?_
  refine wi_ A (h4_ t2 t3 t22 t23) (rv_ 0 (.bool (decide (i < l))) (fun a ee => execLtW (p := i) (q := l) rfl (ee _) (ee _)) (rf_ [(24, .bool (decide (i < l)))] (h4_ t2 t3 t22 t23) ?_))
  rintro a A ⟨t24, -⟩ ⟨t2, t3, t22, t23, -⟩
  refine wp_seq ?_
  by_cases lti : i < l
  · rw [decide_eq_true lti] at t24
    refine wp_cond_true t24 ?_
    refine wp_skip ?_
    clear t24
    refine wp_seq ?_
    refine wp_block ?_
    obtain ⟨tb, tbo, tbc, tbe, htb, htbc⟩ := hT.at (show 0 < l by omega)
    have cT : ∀ X, Below X0.heap.size X0 X → ∀ j_, j_ < 16 → X.cell? ⟨tb, tbo + i * 16 + j_, none⟩ = some (.int .u8 ((t i j_ : Nat) : Int)) := fun X hX j_ hj_ => by rw [cell_below hX htb]; exact htbc i lti j_ hj_
    obtain ⟨ub, ubo, ubc, ube, hub, hubc⟩ := hU.at (show 0 < l by omega)
    have cU : ∀ X, Below X0.heap.size X0 X → ∀ j_, j_ < 16 → X.cell? ⟨ub, ubo + i * 16 + j_, none⟩ = some (.int .u8 ((tt i j_ : Nat) : Int)) := fun X hX j_ hj_ => by rw [cell_below hX hub]; exact hubc i lti j_ hj_
    refine wp_seq ?_
    refine wi_ A (h4_ t2 t3 t22 t23) (rf_ [(5, .int .i64 ((i : Nat) : Int))] (h4_ t2 t3 t22 t23) ?_)
    rintro a A ⟨t5, -⟩ ⟨t2, t3, t22, t23, -⟩
    refine wp_seq ?_
    refine wj_ [0, 1, 2, 3, 4, 5, 6, 7, 8, 9, 10] [] [1, 4, 6, 9] [] A (h5_ t2 t3 t22 t5 t23) (fun X6 bD => ?_)
    refine dw_ 0 (.pointer (some ⟨g2, 0 + 1, none⟩)) (fun a X ee => execFldE1 rfl (ee _)) (dv_ 1 (u) (fun a X ee hb => execLdTs rfl (ee _) (epC_1 (on9 Fg2 (BB.trans (hb.mono BB.size))))) (dw_ 3 (.pointer (some ⟨tb, tbo + i * 16, none⟩)) (fun a X ee => execIdxTs (k := i) rfl ((ee _).trans tbe) (ee _) lti) (dv_ 4 (.agg (bA 16 (t i))) (fun a X ee hb => execLdT rfl (ee _) (fun j_ hj_ => cT X (BB.trans (hb.mono BB.size)) j_ hj_)) (dw_ 5 (.pointer (some ⟨g3, 0 + 1, none⟩)) (fun a X ee => execFldE1 rfl (ee _)) (dv_ 6 (v) (fun a X ee hb => execLdTs rfl (ee _) (epC_1 (on9 Fg3 (BB.trans (hb.mono BB.size))))) (dw_ 8 (.pointer (some ⟨ub, ubo + i * 16, none⟩)) (fun a X ee => execIdxTs (k := i) rfl ((ee _).trans ube) (ee _) lti) (dv_ 9 (.agg (bA 16 (tt i))) (fun a X ee hb => execLdT rfl (ee _) (fun j_ hj_ => cU X (BB.trans (hb.mono BB.size)) j_ hj_)) (dw_ 10 (.bool false) (fun a X ee => execneq16t rfl (ee _) (ee _) (eqB_true (hq i lti))) (dz_ [(36, .bool false)] (h4_ t2 t3 t22 t23) ?_)))))))))
    rintro a A ⟨t36, -⟩ ⟨t2, t3, t22, t23, -⟩
    replace BB := BB.trans (bD.mono BB.size)
    clear bD
    refine wp_cond_false t36 ?_
    refine wp_skip ?_
    clear t36
    refine wi_ A (h4_ t2 t3 t22 t23) (rv_ 0 (.int .i64 ((i + 1 : Nat) : Int)) (fun a ee => execAd8 (p := i) (q := 1) rfl (ee _) rfl (by omega)) (rf_ [(23, .int .i64 ((i + 1 : Nat) : Int))] (h3_ t2 t3 t22) ?_))
    rintro a A ⟨t23, -⟩ ⟨t2, t3, t22, -⟩
    exact ⟨⟨i + 1, lti, A, t2, t3, t22, t23, BB⟩, by show l - (intOf (a.eval (.tmp 23))).toNat < l - (intOf (Act.eval _ (.tmp 23))).toNat; rw [t23, esi]; show l - (i + 1) < l - i; omega⟩
  · rw [decide_eq_false lti] at t24
    refine wp_cond_false t24 ?_
    refine wp_exit ?_
    first | with_reducible refine exit_in ?_ | with_reducible refine exit_then (exit_in ?_) | with_reducible refine exit_then (exit_then (exit_in ?_)) | refine exit_in ?_ | refine exit_then (exit_in ?_) | refine exit_then (exit_then (exit_in ?_))
    clear t24 esi
    have BW2 := BW.trans (BB.mono BW.size)
    refine wp_seq ?_
    refine wi_ A (h4_ t2 t3 t22 t23) (rg_ [(4, .bool true)] ?_)
    rintro a A ⟨t4, -⟩
    refine wp_ret ?_
    refine bodyPost_ret (results_tmp rfl _ _ _) A.2 ⟨?_, BW2⟩
    show Ending.returned (a.eval (.tmp 4)) = _
    rw [t4]
set_option maxRecDepth 100000 in
set_option maxHeartbeats 4000000 in
/-- The reference's SameState, of like states. -/
theorem rsames24 (nx nw : Int) (ev fv : Value) (n : Nat) (nu : Nat → Int) (tw uw : Nat → Value) (ln : Nat → Nat) (t tt : Nat → Nat → Nat → Nat) (V : World) (hE : Eps V ev n nu tw ln t) (hF : Eps V fv n nu uw ln tt) (hn : n < 9223372036854775808) (hq : ∀ j, j < n → ∀ k, k < ln j → ∀ i, i < 16 → t j k i = tt j k i) :
    Calls Tryz.prog 13 #[.agg (sC nx nw ev), .agg (sC nx nw fv)] V fun e w' => e = .returned (.bool true) ∧ Below V.heap.size V w' := by
  have hev : ∃ g n c, ev = .slice g n c := by obtain ⟨g, c, e⟩ := hE.shp; exact ⟨g, n, c, e⟩
  have hfv : ∃ g n c, fv = .slice g n c := by obtain ⟨g, c, e⟩ := hF.shp; exact ⟨g, n, c, e⟩
  go_enter Tryz.func13, Tryz.ntmps13
  refine wo_ 53 [(0, .agg (sC nx nw ev)), (1, .agg (sC nx nw fv))] ?_
  rintro a A ⟨t0, t1, -⟩
  have BW : Below V.heap.size V V := Below.refl _ _
  refine wp_seq ?_
  obtain ⟨g2, egg2⟩ : ∃ z_ : Nat, V.heap.size = z_ := ⟨_, rfl⟩
  refine wi_ A (h2_ t0 t1) (rs_ 0 (fun a ee => ?_))
  refine stepV rfl rfl (execBxS hev rfl (ee _)) ⟨.pointer (some ⟨g2, 0, none⟩), ⟨_, rfl, by subst egg2; rfl⟩, fun X0_1 hX => ?_⟩
  have bQ : Below V.heap.size V X0_1 := by subst hX egg2; exact (belNew V _)
  have Fg2 : (X0_1.heap[g2]? = some (.cells (sC nx nw ev) 33)) := by subst hX egg2; exact heapNew V _
  have bX := bQ
  clear bQ hX egg2 ee a
  obtain ⟨g3, egg3⟩ : ∃ z_ : Nat, X0_1.heap.size = z_ := ⟨_, rfl⟩
  refine rs_ 1 (fun a ee => ?_)
  refine stepV rfl rfl (execBxS hfv rfl (ee _)) ⟨.pointer (some ⟨g3, 0, none⟩), ⟨_, rfl, by subst egg3; rfl⟩, fun X0 hX => ?_⟩
  have bQ : Below X0_1.heap.size X0_1 X0 := by subst hX egg3; exact (belNew X0_1 _)
  have Fg3 : (X0.heap[g3]? = some (.cells (sC nx nw fv) 33)) := by subst hX egg3; exact heapNew X0_1 _
  replace Fg2 := (on9 Fg2 bQ)
  replace bX := bX.trans (bQ.mono bX.size)
  clear bQ hX egg3 ee a
  refine rg_ [(2, .pointer (some ⟨g2, 0, none⟩)), (3, .pointer (some ⟨g3, 0, none⟩))] ?_
  rintro a A ⟨t2, t3, -⟩
  replace hE := (hE.on bX)
  replace hF := (hF.on bX)
  have ZX0 := bX.size
  replace BW := BW.trans (bX.mono BW.size)
  clear bX
  have BB : Below X0.heap.size X0 X0 := Below.refl _ _
  refine wp_seq ?_
  refine wp_seq ?_
  refine wi_ A (h2_ t2 t3) (rv_ 0 (.pointer (some ⟨g2, 0, none⟩)) (fun a ee => execFS0 rfl (ee _)) (rv_ 1 (.int .i64 nx) (fun a ee => execL1 rfl (Or.inr (Or.inl rfl)) (ee _) (row_1 (on9 Fg2 BB) rfl)) (rv_ 2 (.pointer (some ⟨g3, 0, none⟩)) (fun a ee => execFS0 rfl (ee _)) (rv_ 3 (.int .i64 nx) (fun a ee => execL1 rfl (Or.inr (Or.inl rfl)) (ee _) (row_1 (on9 Fg3 BB) rfl)) (rv_ 4 (.bool false) (fun a ee => execDec (exIneq2 (p := nx) (q := nx) rfl (ee _) (ee _)) (decide_eq_false (fun h_ => h_ rfl))) (rv_ 6 (.pointer (some ⟨g2, 1, none⟩)) (fun a ee => execFS1 rfl (ee _)) (rv_ 7 (.pointer (some ⟨g2, 1 + 0, none⟩)) (fun a ee => execFW0k rfl (ee _)) (rv_ 8 (.int .i64 nw) (fun a ee => execL1 rfl (Or.inr (Or.inl rfl)) (ee _) (row_1 (on9 Fg2 BB) rfl)) (rv_ 9 (.pointer (some ⟨g3, 1, none⟩)) (fun a ee => execFS1 rfl (ee _)) (rv_ 10 (.pointer (some ⟨g3, 1 + 0, none⟩)) (fun a ee => execFW0k rfl (ee _)) (rv_ 11 (.int .i64 nw) (fun a ee => execL1 rfl (Or.inr (Or.inl rfl)) (ee _) (row_1 (on9 Fg3 BB) rfl)) (rv_ 12 (.bool false) (fun a ee => execDec (exIneq2 (p := nw) (q := nw) rfl (ee _) (ee _)) (decide_eq_false (fun h_ => h_ rfl))) (rv_ 15 (.pointer (some ⟨g2, 1, none⟩)) (fun a ee => execFS1 rfl (ee _)) (rv_ 16 (.pointer (some ⟨g2, 1 + 1, none⟩)) (fun a ee => execFW1k rfl (ee _)) (rv_ 17 (ev) (fun a ee => execLdEs rfl (ee _) (row_1 (on9 Fg2 BB) rfl)) (rv_ 18 (.int .i64 ((n : Nat) : Int)) (fun a ee => execLenEs (len := n) rfl (ee _) hE.shp) (rv_ 19 (.pointer (some ⟨g3, 1, none⟩)) (fun a ee => execFS1 rfl (ee _)) (rv_ 20 (.pointer (some ⟨g3, 1 + 1, none⟩)) (fun a ee => execFW1k rfl (ee _)) (rv_ 21 (fv) (fun a ee => execLdEs rfl (ee _) (row_1 (on9 Fg3 BB) rfl)) (rv_ 22 (.int .i64 ((n : Nat) : Int)) (fun a ee => execLenEs (len := n) rfl (ee _) hF.shp) (rv_ 23 (.bool false) (fun a ee => execDec (execNeN (p := n) (q := n) rfl (ee _) (ee _)) (decide_eq_false (by omega))) (rf_ [(30, .bool false)] (h2_ t2 t3) ?_))))))))))))))))))))))
  rintro a A ⟨t30, -⟩ ⟨t2, t3, -⟩
  refine wp_cond_false t30 ?_
  refine wp_skip ?_
  clear t30
  refine wp_seq ?_
  refine wp_seq ?_
  refine wi_ A (h2_ t2 t3) (rv_ 0 (.pointer (some ⟨g2, 1, none⟩)) (fun a ee => execFS1 rfl (ee _)) (rv_ 1 (.pointer (some ⟨g2, 1 + 1, none⟩)) (fun a ee => execFW1k rfl (ee _)) (rv_ 2 (ev) (fun a ee => execLdEs rfl (ee _) (row_1 (on9 Fg2 BB) rfl)) (rv_ 3 (.int .i64 ((n : Nat) : Int)) (fun a ee => execLenEs (len := n) rfl (ee _) hE.shp) (rf_ [(34, .int .i64 ((n : Nat) : Int)), (35, .int .i64 ((0 : Nat) : Int))] (h2_ t2 t3) ?_)))))
  rintro a A ⟨t34, t35, -⟩ ⟨t2, t3, -⟩
  refine wp_block ?_
  refine wp_loop (fun a W => ∃ (i : Nat), i ≤ n ∧ (a.tmps.size = 53 ∧ a.defers = []) ∧ a.eval (.tmp 2) = .pointer (some ⟨g2, 0, none⟩) ∧ a.eval (.tmp 3) = .pointer (some ⟨g3, 0, none⟩) ∧ a.eval (.tmp 34) = .int .i64 ((n : Nat) : Int) ∧ a.eval (.tmp 35) = .int .i64 ((i : Nat) : Int) ∧ Below X0.heap.size X0 W) (fun a _ => n - (intOf (a.eval (.tmp 35))).toNat) ⟨0, Nat.zero_le _, A, t2, t3, t34, t35, BB⟩ ?_
  clear A t2 t3 t34 t35 BB a
  rintro a XL4 ⟨i, hi, A, t2, t3, t34, t35, BB⟩
  have esi := t35
  refine wp_seq ?_
  refine wi_ A (h4_ t2 t3 t34 t35) (rv_ 0 (.bool (decide (i < n))) (fun a ee => execLtW (p := i) (q := n) rfl (ee _) (ee _)) (rf_ [(36, .bool (decide (i < n)))] (h4_ t2 t3 t34 t35) ?_))
  rintro a A ⟨t36, -⟩ ⟨t2, t3, t34, t35, -⟩
  refine wp_seq ?_
  by_cases lti : i < n
  · rw [decide_eq_true lti] at t36
    refine wp_cond_true t36 ?_
    refine wp_skip ?_
    clear t36
    refine wp_seq ?_
    refine wp_block ?_
    have hTe := hE.lists i lti
    have hU := hF.lists i lti
    have hln : ln i < 9223372036854775808 := by obtain ⟨_, c_, _, q1, q2, _⟩ := hTe.shape; omega
    obtain ⟨eb, ebo, ebc, ebe, heb, hebc⟩ := hE.at (show 0 < n by omega)
    have cN : ∀ X, Below X0.heap.size X0 X → X.cell? ⟨eb, ebo + i * 2 + 0, none⟩ = some (.int .i64 (nu i)) := fun X hX => by rw [cell_below hX heb]; exact (hebc i lti).1
    have cE : ∀ X, Below X0.heap.size X0 X → X.cell? ⟨eb, ebo + i * 2 + 1, none⟩ = some (tw i) := fun X hX => by rw [cell_below hX heb]; exact (hebc i lti).2
    obtain ⟨fb, fbo, fbc, fbe, hfb, hfbc⟩ := hF.at (show 0 < n by omega)
    have dN : ∀ X, Below X0.heap.size X0 X → X.cell? ⟨fb, fbo + i * 2 + 0, none⟩ = some (.int .i64 (nu i)) := fun X hX => by rw [cell_below hX hfb]; exact (hfbc i lti).1
    have dE : ∀ X, Below X0.heap.size X0 X → X.cell? ⟨fb, fbo + i * 2 + 1, none⟩ = some (uw i) := fun X hX => by rw [cell_below hX hfb]; exact (hfbc i lti).2
    refine wp_seq ?_
    refine wi_ A (h4_ t2 t3 t34 t35) (rf_ [(5, .int .i64 ((i : Nat) : Int))] (h4_ t2 t3 t34 t35) ?_)
    rintro a A ⟨t5, -⟩ ⟨t2, t3, t34, t35, -⟩
    refine wp_seq ?_
    refine wj_ [0, 1, 2, 3, 4, 5, 6, 7, 8, 9, 10, 11, 12, 13] [12] [2, 5, 8, 11] [] A (h5_ t2 t3 t34 t5 t35) (fun X6_0 bD => ?_)
    refine dw_ 0 (.pointer (some ⟨g2, 1, none⟩)) (fun a X ee => execFS1 rfl (ee _)) (dw_ 1 (.pointer (some ⟨g2, 1 + 1, none⟩)) (fun a X ee => execFW1k rfl (ee _)) (dv_ 2 (ev) (fun a X ee hb => execLdEs rfl (ee _) (row_1 (on9 Fg2 (BB.trans (hb.mono BB.size))) rfl)) (dw_ 4 (.pointer (some ⟨eb, ebo + i * 2, none⟩)) (fun a X ee => execIdxEs (k := i) rfl ((ee _).trans ebe) (ee _) lti) (dv_ 5 (.agg (epC (nu i) (tw i))) (fun a X ee hb => execLdEp rfl (ee _) (cN X (BB.trans (hb.mono BB.size))) (cE X (BB.trans (hb.mono BB.size)))) (dw_ 6 (.pointer (some ⟨g3, 1, none⟩)) (fun a X ee => execFS1 rfl (ee _)) (dw_ 7 (.pointer (some ⟨g3, 1 + 1, none⟩)) (fun a X ee => execFW1k rfl (ee _)) (dv_ 8 (fv) (fun a X ee hb => execLdEs rfl (ee _) (row_1 (on9 Fg3 (BB.trans (hb.mono BB.size))) rfl)) (dw_ 10 (.pointer (some ⟨fb, fbo + i * 2, none⟩)) (fun a X ee => execIdxEs (k := i) rfl ((ee _).trans fbe) (ee _) lti) (dv_ 11 (.agg (epC (nu i) (uw i))) (fun a X ee hb => execLdEp rfl (ee _) (dN X (BB.trans (hb.mono BB.size))) (dE X (BB.trans (hb.mono BB.size)))) (dc_ 12 (rsamee24 (nu i) (tw i) (uw i) (ln i) (t i) (tt i) X6_0 (hTe.on (BB.trans (bD.mono BB.size))) (hU.on (BB.trans (bD.mono BB.size))) hln (hq i lti)) (cb_ fun X6 bQ => ?_)))))))))))
    replace bD := bD.trans (bQ.mono bD.size)
    clear bQ
    refine ⟨Or.inr bD, ?_⟩
    refine dw_ 13 (.bool false) (fun a X ee => execNot8 (b := true) rfl (ee _)) (dz_ [(51, .bool false)] (h4_ t2 t3 t34 t35) ?_)
    rintro a A ⟨t51, -⟩ ⟨t2, t3, t34, t35, -⟩
    replace BB := BB.trans (bD.mono BB.size)
    clear bD
    refine wp_cond_false t51 ?_
    refine wp_skip ?_
    clear t51
    refine wi_ A (h4_ t2 t3 t34 t35) (rv_ 0 (.int .i64 ((i + 1 : Nat) : Int)) (fun a ee => execAd8 (p := i) (q := 1) rfl (ee _) rfl (by omega)) (rf_ [(35, .int .i64 ((i + 1 : Nat) : Int))] (h3_ t2 t3 t34) ?_))
    rintro a A ⟨t35, -⟩ ⟨t2, t3, t34, -⟩
    exact ⟨⟨i + 1, lti, A, t2, t3, t34, t35, BB⟩, by show n - (intOf (a.eval (.tmp 35))).toNat < n - (intOf (Act.eval _ (.tmp 35))).toNat; rw [t35, esi]; show n - (i + 1) < n - i; omega⟩
  · rw [decide_eq_false lti] at t36
    refine wp_cond_false t36 ?_
    refine wp_exit ?_
    first | with_reducible refine exit_in ?_ | with_reducible refine exit_then (exit_in ?_) | with_reducible refine exit_then (exit_then (exit_in ?_)) | refine exit_in ?_ | refine exit_then (exit_in ?_) | refine exit_then (exit_then (exit_in ?_))
    clear t36 esi
    have BW2 := BW.trans (BB.mono BW.size)
    refine wp_seq ?_
    refine wi_ A (h4_ t2 t3 t34 t35) (rg_ [(4, .bool true)] ?_)
    rintro a A ⟨t4, -⟩
    refine wp_ret ?_
    refine bodyPost_ret (results_tmp rfl _ _ _) A.2 ⟨?_, BW2⟩
    show Ending.returned (a.eval (.tmp 4)) = _
    rw [t4]
end Go.Proofs.YtghnhfigihnciaaGreat.Srv
