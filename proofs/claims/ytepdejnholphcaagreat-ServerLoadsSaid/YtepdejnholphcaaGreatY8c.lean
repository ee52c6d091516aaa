import Derived.Test.YtepdejnholphcaaGreatY8b
namespace Go.Proofs.YtepdejnholphcaaGreat.Srv
open Go.RowKit Gf8 Aes By8 Cel Cf Win Rnd
/- ServerLoads, over any package of servers. Written by tools/mkY8c.py. -/

section
variable {o : Oper} {a : Act} {w : World}
theorem execPq4n {x : Operand} (ho : o.op = .binOp .eql 31 x (.const (.pointer none)) 31) (hx : a.eval x = .pointer none) : (execOp a.eval o).run Tryz.prog w = .ok (.value (.bool true)) w := by
  unfold execOp
  simp only [ho, hx]
  simp [go_sem]
theorem execPq4s {x : Operand} {g : Addr} (ho : o.op = .binOp .eql 31 x (.const (.pointer none)) 31) (hx : a.eval x = .pointer (some g)) : (execOp a.eval o).run Tryz.prog w = .ok (.value (.bool false)) w := by
  unfold execOp
  simp only [ho, hx]
  simp [go_sem]
theorem execNq4 {x y : Operand} {b : Bool} (ho : o.op = .binOp .neq 4 x y 4) (hx : a.eval x = .bool b) (hy : a.eval y = .bool b) : (execOp a.eval o).run Tryz.prog w = .ok (.value (.bool false)) w := by
  unfold execOp
  simp only [ho, hx, hy]
  cases b <;> simp [go_sem]
end
set_option maxRecDepth 100000 in
set_option maxHeartbeats 4000000 in
/-- ServerLoads. -/
theorem loads24 (I : ImplM) (mv : Value) (m : Nat) (f : Nat → Nat) (q : Cg) (nx nw : Int) (ev : Value) (n : Nat) (nu : Nat → Int) (tw : Nat → Value) (ln : Nat → Nat) (t : Nat → Nat → Nat → Nat) (V : World) (hmS : SliceN V mv m f) (hm8 : m ≤ 140737488351232) (hq : CgI q) (hx : I64 nx) (hW : Wd V nw ev n nu tw ln t) :
    Calls Tryz.prog 3 #[.agg (cfC mv q), .agg (sC nx nw ev)] V fun e w' => e = .returned (.bool true) ∧ Below V.heap.size V w' := by
  have hev : ∃ g n c, ev = .slice g n c := by obtain ⟨g, c, e, _⟩ := hW.eps.shape; exact ⟨g, n, c, e⟩
  have hm : ∃ g n c, mv = .slice g n c := by obtain ⟨g, c, e, _⟩ := hmS.shape; exact ⟨g, m, c, e⟩
  have hmv : ∃ ao c, mv = .slice ao m c := by obtain ⟨g, c, e, _⟩ := hmS.shape; exact ⟨g, c, e⟩
  go_enter Tryz.func3, Tryz.ntmps3
  refine wo_ 63 [(0, .agg (cfC mv q)), (1, .agg (sC nx nw ev))] ?_
  rintro a A ⟨t0, t1, -⟩
  have BW : Below V.heap.size V V := Below.refl _ _
  have BB := BW
  refine wp_seq ?_
  obtain ⟨g2, egg2⟩ : ∃ z_ : Nat, V.heap.size = z_ := ⟨_, rfl⟩
  refine wi_ A (h2_ t0 t1) (rs_ 0 (fun a ee => ?_))
  refine stepV rfl rfl (execBxC hm rfl (ee _)) ⟨.pointer (some ⟨g2, 0, none⟩), ⟨_, rfl, by subst egg2; rfl⟩, fun X0_1 hX => ?_⟩
  have bQ : Below V.heap.size V X0_1 := by subst hX egg2; exact (belNew V _)
  have Fg2 : (X0_1.heap[g2]? = some (.cells (cfC mv q) 24)) := by subst hX egg2; exact heapNew V _
  replace BB := BB.trans (bQ.mono BB.size)
  clear bQ hX egg2 ee a
  obtain ⟨g3, egg3⟩ : ∃ z_ : Nat, X0_1.heap.size = z_ := ⟨_, rfl⟩
  refine rs_ 1 (fun a ee => ?_)
  refine stepV rfl rfl (execBxS hev rfl (ee _)) ⟨.pointer (some ⟨g3, 0, none⟩), ⟨_, rfl, by subst egg3; rfl⟩, fun X0 hX => ?_⟩
  have bQ : Below X0_1.heap.size X0_1 X0 := by subst hX egg3; exact (belNew X0_1 _)
  have Fg3 : (X0.heap[g3]? = some (.cells (sC nx nw ev) 29)) := by subst hX egg3; exact heapNew X0_1 _
  replace Fg2 := (on9 Fg2 bQ)
  replace BB := BB.trans (bQ.mono BB.size)
  clear bQ hX egg3 ee a
  refine rg_ [(2, .pointer (some ⟨g2, 0, none⟩)), (3, .pointer (some ⟨g3, 0, none⟩))] ?_
  rintro a A ⟨t2, t3, -⟩
  refine wp_seq ?_
  refine wp_seq ?_
  refine wi_ A (h2_ t2 t3) (rc_ 0 (awake24 I.toImpl X0) (cb_ fun X1 bQ => ?_))
  replace Fg2 := (on9 Fg2 bQ)
  replace Fg3 := (on9 Fg3 bQ)
  replace BB := BB.trans (bQ.mono BB.size)
  clear bQ
  refine rv_ 1 (.bool false) (fun a ee => execNot8 (b := true) rfl (ee _)) (rf_ [(10, .bool false)] (h2_ t2 t3) ?_)
  rintro a A ⟨t10, -⟩ ⟨t2, t3, -⟩
  refine wp_cond_false t10 ?_
  refine wp_skip ?_
  clear t10
  refine wp_seq ?_
  refine wi_ A (h2_ t2 t3) (rv_ 0 (.agg (cfC mv q)) (fun a ee => execLdC rfl (ee _) Fg2) (rv_ 1 (.agg (sC nx nw ev)) (fun a ee => execLdS rfl (ee _) Fg3) (rc_ 2 (I.load mv m f q nx nw ev n nu tw ln t X1 (hmS.on BB) hm8 hq hx (hW.on BB)) fun e X3 hh => ?_)))
  obtain ⟨⟨v5, he, hk, hl_⟩, hb⟩ := hh
  refine ⟨_, he, ?_⟩
  have bQ : Below X1.heap.size X1 X3 := hb
  have FSv : (((ckE m q nx (nw, esL n nu ln t) ≠ 0 → v5 = .pointer none) ∧ (ckE m q nx (nw, esL n nu ln t) = 0 → (∃ g, v5 = .pointer (some g)) ∧ I.live X3 v5 nx nw n nu ln t))) := ⟨hk, hl_⟩
  replace Fg2 := (on9 Fg2 bQ)
  replace Fg3 := (on9 Fg3 bQ)
  replace BB := BB.trans (bQ.mono BB.size)
  clear bQ
  refine rf_ [(5, v5), (6, .int .i64 ((ckE m q nx (nw, esL n nu ln t) : Nat) : Int))] (h2_ t2 t3) ?_
  rintro a A ⟨t5, t6, -⟩ ⟨t2, t3, -⟩
  by_cases ha : ckE m q nx (nw, esL n nu ln t) = 0
  · obtain ⟨⟨gv5, rfl⟩, FVa⟩ := FSv.2 ha
    clear FSv
    refine wp_seq ?_
    refine wp_seq ?_
    refine wi_ A (h4_ t2 t3 t5 t6) (rv_ 1 (.agg (cfC mv q)) (fun a ee => execLdC rfl (ee _) Fg2) (rv_ 2 (.agg (sC nx nw ev)) (fun a ee => execLdS rfl (ee _) Fg3) (rc_ 3 (rcheck21 mv m q nx nw ev n nu tw ln t X3 (hW.on BB) hm hmv hq.2.1 hq.2.2.1) (cb_ fun X4 bQ => ?_))))
    replace Fg2 := (on9 Fg2 bQ)
    replace Fg3 := (on9 Fg3 bQ)
    replace FVa := (I.on FVa bQ)
    replace BB := BB.trans (bQ.mono BB.size)
    clear bQ
    refine rv_ 4 (.bool false) (fun a ee => execDec (execNeN (p := ckE m q nx (nw, esL n nu ln t)) (q := ckE m q nx (nw, esL n nu ln t)) rfl (ee _) (ee _)) (decide_eq_false (by omega))) (rv_ 7 (.bool false) (fun a ee => execPq4s rfl (ee _)) (rv_ 9 (.bool false) (fun a ee => execDec (execNeE (p := ckE m q nx (nw, esL n nu ln t)) (q := 0) rfl (ee _) rfl) (decide_eq_false (fun z_ => z_ ha))) (rv_ 10 (.bool false) (fun a ee => execNq4 (b := false) rfl (ee _) (ee _)) (rf_ [(28, .bool false)] (h4_ t2 t3 t5 t6) ?_))))
    rintro a A ⟨t28, -⟩ ⟨t2, t3, t5, t6, -⟩
    refine wp_cond_false t28 ?_
    refine wp_skip ?_
    clear t28
    refine wp_seq ?_
    refine wp_seq ?_
    refine wj_ [0, 1, 2, 3, 5, 4, 6, 7, 8] [4, 6] [5] [] A (h4_ t2 t3 t5 t6) (fun X6_0 bD => ?_)
    refine dw_ 1 (.bool true) (fun a X ee => execDec (execEqE (p := ckE m q nx (nw, esL n nu ln t)) (q := 0) rfl (ee _) rfl) (decide_eq_true (ha))) (dv_ 5 (.agg (sC nx nw ev)) (fun a X ee hb => execLdS rfl (ee _) (on9 Fg3 hb)) (dc_ 4 (I.state X6_0 (I.on FVa bD)) fun e X6_1 hh => ?_))
    obtain ⟨⟨fva, uwa, tta, he, hk, hq_⟩, hb⟩ := hh
    refine ⟨_, he, ?_⟩
    have bQ : Below X6_0.heap.size X6_0 X6_1 := hb
    have FEa : ((Eps X6_1 fva n nu uwa ln tta)) := hk
    have FQa : (∀ j, j < n → ∀ k, k < ln j → ∀ i, i < 16 → tta j k i = t j k i) := hq_
    replace bD := bD.trans (bQ.mono bD.size)
    clear bQ
    refine ⟨Or.inr bD, ?_⟩
    refine dc_ 6 (rsames24 nx nw fva ev n nu uwa tw ln tta t X6_1 FEa (hW.on (BB.trans (bD.mono BB.size))).eps hW.n63 FQa) (cb_ fun X6 bQ => ?_)
    replace FEa := (FEa.on bQ)
    replace bD := bD.trans (bQ.mono bD.size)
    clear bQ
    refine ⟨Or.inr bD, ?_⟩
    refine dw_ 7 (.bool false) (fun a X ee => execNot8 (b := true) rfl (ee _)) (dz_ [(37, .bool false)] (h1_ t2) ?_)
    rintro a A ⟨t37, -⟩ ⟨t2, -⟩
    replace Fg2 := (on9 Fg2 bD)
    replace Fg3 := (on9 Fg3 bD)
    replace FVa := (I.on FVa bD)
    replace BB := BB.trans (bD.mono BB.size)
    clear bD
    refine wp_cond_false t37 ?_
    refine wp_skip ?_
    clear t37
    clear FEa FQa FVa
    refine wp_seq ?_
    refine wi_ A (h1_ t2) (rv_ 0 (.agg (cfC mv q)) (fun a ee => execLdC rfl (ee _) Fg2) (rc_ 1 (I.new mv m f q X6 (hmS.on BB) hm8 hq) fun e X8 hh => ?_))
    obtain ⟨⟨v7, he, hk, hl_⟩, hb⟩ := hh
    refine ⟨_, he, ?_⟩
    have bQ : Below X6.heap.size X6 X8 := hb
    have FT : (((ckE m q 0 (0, esL 0 (fun _ => 0) (fun _ => 0) (fun _ _ _ => 0)) ≠ 0 → v7 = .pointer none) ∧ (ckE m q 0 (0, esL 0 (fun _ => 0) (fun _ => 0) (fun _ _ _ => 0)) = 0 → (∃ g, v7 = .pointer (some g)) ∧ I.live X8 v7 0 0 0 (fun _ => 0) (fun _ => 0) (fun _ _ _ => 0)))) := ⟨hk, hl_⟩
    replace Fg2 := (on9 Fg2 bQ)
    replace Fg3 := (on9 Fg3 bQ)
    replace BB := BB.trans (bQ.mono BB.size)
    clear bQ
    refine rf_ [(7, v7), (8, .int .i64 ((ckE m q 0 (0, esL 0 (fun _ => 0) (fun _ => 0) (fun _ _ _ => 0)) : Nat) : Int))] (h1_ t2) ?_
    rintro a A ⟨t7, t8, -⟩ ⟨t2, -⟩
    by_cases hb : ckE m q 0 (0, esL 0 (fun _ => 0) (fun _ => 0) (fun _ _ _ => 0)) = 0
    · obtain ⟨⟨gv7, rfl⟩, FVb⟩ := FT.2 hb
      clear FT
      refine wp_seq ?_
      refine wp_seq ?_
      refine wi_ A (h3_ t2 t7 t8) (rv_ 1 (.agg (cfC mv q)) (fun a ee => execLdC rfl (ee _) Fg2) (rv_ 2 (.agg (sC 0 0 (.slice none 0 0))) (fun a ee => execBdS rfl) (rc_ 3 (rcheck21 mv m q 0 0 (.slice none 0 0) 0 (fun _ => 0) (fun _ => undef) (fun _ => 0) (fun _ _ _ => 0) X8 (wd0 X8) hm hmv hq.2.1 hq.2.2.1) (cb_ fun X9 bQ => ?_))))
      replace Fg2 := (on9 Fg2 bQ)
      replace Fg3 := (on9 Fg3 bQ)
      replace FVb := (I.on FVb bQ)
      replace BB := BB.trans (bQ.mono BB.size)
      clear bQ
      refine rv_ 4 (.bool false) (fun a ee => execDec (execNeN (p := ckE m q 0 (0, esL 0 (fun _ => 0) (fun _ => 0) (fun _ _ _ => 0))) (q := ckE m q 0 (0, esL 0 (fun _ => 0) (fun _ => 0) (fun _ _ _ => 0))) rfl (ee _) (ee _)) (decide_eq_false (by omega))) (rv_ 7 (.bool false) (fun a ee => execPq4s rfl (ee _)) (rv_ 9 (.bool false) (fun a ee => execDec (execNeE (p := ckE m q 0 (0, esL 0 (fun _ => 0) (fun _ => 0) (fun _ _ _ => 0))) (q := 0) rfl (ee _) rfl) (decide_eq_false (fun z_ => z_ hb))) (rv_ 10 (.bool false) (fun a ee => execNq4 (b := false) rfl (ee _) (ee _)) (rf_ [(54, .bool false)] (h2_ t7 t8) ?_))))
      rintro a A ⟨t54, -⟩ ⟨t7, t8, -⟩
      refine wp_cond_false t54 ?_
      refine wp_skip ?_
      clear t54
      refine wp_seq ?_
      refine wi_ A (h2_ t7 t8) (rv_ 1 (.bool false) (fun a ee => execDec (execNeE (p := ckE m q 0 (0, esL 0 (fun _ => 0) (fun _ => 0) (fun _ _ _ => 0))) (q := 0) rfl (ee _) rfl) (decide_eq_false (fun z_ => z_ hb))) (rc_ 4 (I.state X9 FVb) fun e X11_1 hh => ?_))
      obtain ⟨⟨fvb, uwb, ttb, he, hk, hq_⟩, hb⟩ := hh
      refine ⟨_, he, ?_⟩
      have bQ : Below X9.heap.size X9 X11_1 := hb
      have FEb : ((Eps X11_1 fvb 0 (fun _ => 0) uwb (fun _ => 0) ttb)) := hk
      have FQb : (∀ j, j < 0 → ∀ k, k < (fun _ => 0) j → ∀ i, i < 16 → ttb j k i = (fun _ _ _ => 0) j k i) := hq_
      replace Fg2 := (on9 Fg2 bQ)
      replace Fg3 := (on9 Fg3 bQ)
      replace FVb := (I.on FVb bQ)
      replace BB := BB.trans (bQ.mono BB.size)
      clear bQ
      refine rv_ 5 (.agg (sC 0 0 (.slice none 0 0))) (fun a ee => execBdS rfl) (rc_ 6 (rsames24 0 0 fvb (.slice none 0 0) 0 (fun _ => 0) uwb (fun _ => undef) (fun _ => 0) ttb (fun _ _ _ => 0) X11_1 FEb (wd0 X11_1).eps (by omega) FQb) (cb_ fun X11 bQ => ?_))
      replace Fg2 := (on9 Fg2 bQ)
      replace Fg3 := (on9 Fg3 bQ)
      replace FVb := (I.on FVb bQ)
      replace FEb := (FEb.on bQ)
      replace BB := BB.trans (bQ.mono BB.size)
      clear bQ
      refine rg_ [(4, .bool true)] ?_
      rintro a A ⟨t4, -⟩
      refine wp_ret ?_
      refine bodyPost_ret (results_tmp rfl _ _ _) A.2 ⟨?_, BB⟩
      show Ending.returned (a.eval (.tmp 4)) = _
      rw [t4]
    · obtain rfl := FT.1 hb
      clear FT
      refine wp_seq ?_
      refine wp_seq ?_
      refine wi_ A (h3_ t2 t7 t8) (rv_ 1 (.agg (cfC mv q)) (fun a ee => execLdC rfl (ee _) Fg2) (rv_ 2 (.agg (sC 0 0 (.slice none 0 0))) (fun a ee => execBdS rfl) (rc_ 3 (rcheck21 mv m q 0 0 (.slice none 0 0) 0 (fun _ => 0) (fun _ => undef) (fun _ => 0) (fun _ _ _ => 0) X8 (wd0 X8) hm hmv hq.2.1 hq.2.2.1) (cb_ fun X9 bQ => ?_))))
      replace Fg2 := (on9 Fg2 bQ)
      replace Fg3 := (on9 Fg3 bQ)
      replace BB := BB.trans (bQ.mono BB.size)
      clear bQ
      refine rv_ 4 (.bool false) (fun a ee => execDec (execNeN (p := ckE m q 0 (0, esL 0 (fun _ => 0) (fun _ => 0) (fun _ _ _ => 0))) (q := ckE m q 0 (0, esL 0 (fun _ => 0) (fun _ => 0) (fun _ _ _ => 0))) rfl (ee _) (ee _)) (decide_eq_false (by omega))) (rv_ 7 (.bool true) (fun a ee => execPq4n rfl (ee _)) (rv_ 9 (.bool true) (fun a ee => execDec (execNeE (p := ckE m q 0 (0, esL 0 (fun _ => 0) (fun _ => 0) (fun _ _ _ => 0))) (q := 0) rfl (ee _) rfl) (decide_eq_true hb)) (rv_ 10 (.bool false) (fun a ee => execNq4 (b := true) rfl (ee _) (ee _)) (rf_ [(54, .bool false)] (h2_ t7 t8) ?_))))
      rintro a A ⟨t54, -⟩ ⟨t7, t8, -⟩
      refine wp_cond_false t54 ?_
      refine wp_skip ?_
      clear t54
      refine wp_seq ?_
      refine wi_ A (h2_ t7 t8) (rv_ 1 (.bool true) (fun a ee => execDec (execNeE (p := ckE m q 0 (0, esL 0 (fun _ => 0) (fun _ => 0) (fun _ _ _ => 0))) (q := 0) rfl (ee _) rfl) (decide_eq_true hb)) (rg_ [(4, .bool true)] ?_))
      rintro a A ⟨t4, -⟩
      refine wp_ret ?_
      refine bodyPost_ret (results_tmp rfl _ _ _) A.2 ⟨?_, BB⟩
      show Ending.returned (a.eval (.tmp 4)) = _
      rw [t4]
  · obtain rfl := FSv.1 ha
    clear FSv
    refine wp_seq ?_
    refine wp_seq ?_
    refine wi_ A (h4_ t2 t3 t5 t6) (rv_ 1 (.agg (cfC mv q)) (fun a ee => execLdC rfl (ee _) Fg2) (rv_ 2 (.agg (sC nx nw ev)) (fun a ee => execLdS rfl (ee _) Fg3) (rc_ 3 (rcheck21 mv m q nx nw ev n nu tw ln t X3 (hW.on BB) hm hmv hq.2.1 hq.2.2.1) (cb_ fun X4 bQ => ?_))))
    replace Fg2 := (on9 Fg2 bQ)
    replace Fg3 := (on9 Fg3 bQ)
    replace BB := BB.trans (bQ.mono BB.size)
    clear bQ
    refine rv_ 4 (.bool false) (fun a ee => execDec (execNeN (p := ckE m q nx (nw, esL n nu ln t)) (q := ckE m q nx (nw, esL n nu ln t)) rfl (ee _) (ee _)) (decide_eq_false (by omega))) (rv_ 7 (.bool true) (fun a ee => execPq4n rfl (ee _)) (rv_ 9 (.bool true) (fun a ee => execDec (execNeE (p := ckE m q nx (nw, esL n nu ln t)) (q := 0) rfl (ee _) rfl) (decide_eq_true ha)) (rv_ 10 (.bool false) (fun a ee => execNq4 (b := true) rfl (ee _) (ee _)) (rf_ [(28, .bool false)] (h4_ t2 t3 t5 t6) ?_))))
    rintro a A ⟨t28, -⟩ ⟨t2, t3, t5, t6, -⟩
    refine wp_cond_false t28 ?_
    refine wp_skip ?_
    clear t28
    refine wp_seq ?_
    refine wp_seq ?_
    refine wj_ [0, 1, 2, 3, 4, 5, 6, 7, 8] [] [] [] A (h4_ t2 t3 t5 t6) (fun X6 bD => ?_)
    refine dw_ 1 (.bool false) (fun a X ee => execDec (execEqE (p := ckE m q nx (nw, esL n nu ln t)) (q := 0) rfl (ee _) rfl) (decide_eq_false ha)) (dz_ [(37, .bool false)] (h1_ t2) ?_)
    rintro a A ⟨t37, -⟩ ⟨t2, -⟩
    replace Fg2 := (on9 Fg2 bD)
    replace Fg3 := (on9 Fg3 bD)
    replace BB := BB.trans (bD.mono BB.size)
    clear bD
    refine wp_cond_false t37 ?_
    refine wp_skip ?_
    clear t37
    refine wp_seq ?_
    refine wi_ A (h1_ t2) (rv_ 0 (.agg (cfC mv q)) (fun a ee => execLdC rfl (ee _) Fg2) (rc_ 1 (I.new mv m f q X6 (hmS.on BB) hm8 hq) fun e X8 hh => ?_))
    obtain ⟨⟨v7, he, hk, hl_⟩, hb⟩ := hh
    refine ⟨_, he, ?_⟩
    have bQ : Below X6.heap.size X6 X8 := hb
    have FT : (((ckE m q 0 (0, esL 0 (fun _ => 0) (fun _ => 0) (fun _ _ _ => 0)) ≠ 0 → v7 = .pointer none) ∧ (ckE m q 0 (0, esL 0 (fun _ => 0) (fun _ => 0) (fun _ _ _ => 0)) = 0 → (∃ g, v7 = .pointer (some g)) ∧ I.live X8 v7 0 0 0 (fun _ => 0) (fun _ => 0) (fun _ _ _ => 0)))) := ⟨hk, hl_⟩
    replace Fg2 := (on9 Fg2 bQ)
    replace Fg3 := (on9 Fg3 bQ)
    replace BB := BB.trans (bQ.mono BB.size)
    clear bQ
    refine rf_ [(7, v7), (8, .int .i64 ((ckE m q 0 (0, esL 0 (fun _ => 0) (fun _ => 0) (fun _ _ _ => 0)) : Nat) : Int))] (h1_ t2) ?_
    rintro a A ⟨t7, t8, -⟩ ⟨t2, -⟩
    by_cases hb : ckE m q 0 (0, esL 0 (fun _ => 0) (fun _ => 0) (fun _ _ _ => 0)) = 0
    · obtain ⟨⟨gv7, rfl⟩, FVb⟩ := FT.2 hb
      clear FT
      refine wp_seq ?_
      refine wp_seq ?_
      refine wi_ A (h3_ t2 t7 t8) (rv_ 1 (.agg (cfC mv q)) (fun a ee => execLdC rfl (ee _) Fg2) (rv_ 2 (.agg (sC 0 0 (.slice none 0 0))) (fun a ee => execBdS rfl) (rc_ 3 (rcheck21 mv m q 0 0 (.slice none 0 0) 0 (fun _ => 0) (fun _ => undef) (fun _ => 0) (fun _ _ _ => 0) X8 (wd0 X8) hm hmv hq.2.1 hq.2.2.1) (cb_ fun X9 bQ => ?_))))
      replace Fg2 := (on9 Fg2 bQ)
      replace Fg3 := (on9 Fg3 bQ)
      replace FVb := (I.on FVb bQ)
      replace BB := BB.trans (bQ.mono BB.size)
      clear bQ
      refine rv_ 4 (.bool false) (fun a ee => execDec (execNeN (p := ckE m q 0 (0, esL 0 (fun _ => 0) (fun _ => 0) (fun _ _ _ => 0))) (q := ckE m q 0 (0, esL 0 (fun _ => 0) (fun _ => 0) (fun _ _ _ => 0))) rfl (ee _) (ee _)) (decide_eq_false (by omega))) (rv_ 7 (.bool false) (fun a ee => execPq4s rfl (ee _)) (rv_ 9 (.bool false) (fun a ee => execDec (execNeE (p := ckE m q 0 (0, esL 0 (fun _ => 0) (fun _ => 0) (fun _ _ _ => 0))) (q := 0) rfl (ee _) rfl) (decide_eq_false (fun z_ => z_ hb))) (rv_ 10 (.bool false) (fun a ee => execNq4 (b := false) rfl (ee _) (ee _)) (rf_ [(54, .bool false)] (h2_ t7 t8) ?_))))
      rintro a A ⟨t54, -⟩ ⟨t7, t8, -⟩
      refine wp_cond_false t54 ?_
      refine wp_skip ?_
      clear t54
      refine wp_seq ?_
      refine wi_ A (h2_ t7 t8) (rv_ 1 (.bool false) (fun a ee => execDec (execNeE (p := ckE m q 0 (0, esL 0 (fun _ => 0) (fun _ => 0) (fun _ _ _ => 0))) (q := 0) rfl (ee _) rfl) (decide_eq_false (fun z_ => z_ hb))) (rc_ 4 (I.state X9 FVb) fun e X11_1 hh => ?_))
      obtain ⟨⟨fvb, uwb, ttb, he, hk, hq_⟩, hb⟩ := hh
      refine ⟨_, he, ?_⟩
      have bQ : Below X9.heap.size X9 X11_1 := hb
      have FEb : ((Eps X11_1 fvb 0 (fun _ => 0) uwb (fun _ => 0) ttb)) := hk
      have FQb : (∀ j, j < 0 → ∀ k, k < (fun _ => 0) j → ∀ i, i < 16 → ttb j k i = (fun _ _ _ => 0) j k i) := hq_
      replace Fg2 := (on9 Fg2 bQ)
      replace Fg3 := (on9 Fg3 bQ)
      replace FVb := (I.on FVb bQ)
      replace BB := BB.trans (bQ.mono BB.size)
      clear bQ
      refine rv_ 5 (.agg (sC 0 0 (.slice none 0 0))) (fun a ee => execBdS rfl) (rc_ 6 (rsames24 0 0 fvb (.slice none 0 0) 0 (fun _ => 0) uwb (fun _ => undef) (fun _ => 0) ttb (fun _ _ _ => 0) X11_1 FEb (wd0 X11_1).eps (by omega) FQb) (cb_ fun X11 bQ => ?_))
      replace Fg2 := (on9 Fg2 bQ)
      replace Fg3 := (on9 Fg3 bQ)
      replace FVb := (I.on FVb bQ)
      replace FEb := (FEb.on bQ)
      replace BB := BB.trans (bQ.mono BB.size)
      clear bQ
      refine rg_ [(4, .bool true)] ?_
      rintro a A ⟨t4, -⟩
      refine wp_ret ?_
      refine bodyPost_ret (results_tmp rfl _ _ _) A.2 ⟨?_, BB⟩
      show Ending.returned (a.eval (.tmp 4)) = _
      rw [t4]
    · obtain rfl := FT.1 hb
      clear FT
      refine wp_seq ?_
      refine wp_seq ?_
      refine wi_ A (h3_ t2 t7 t8) (rv_ 1 (.agg (cfC mv q)) (fun a ee => execLdC rfl (ee _) Fg2) (rv_ 2 (.agg (sC 0 0 (.slice none 0 0))) (fun a ee => execBdS rfl) (rc_ 3 (rcheck21 mv m q 0 0 (.slice none 0 0) 0 (fun _ => 0) (fun _ => undef) (fun _ => 0) (fun _ _ _ => 0) X8 (wd0 X8) hm hmv hq.2.1 hq.2.2.1) (cb_ fun X9 bQ => ?_))))
      replace Fg2 := (on9 Fg2 bQ)
      replace Fg3 := (on9 Fg3 bQ)
      replace BB := BB.trans (bQ.mono BB.size)
      clear bQ
      refine rv_ 4 (.bool false) (fun a ee => execDec (execNeN (p := ckE m q 0 (0, esL 0 (fun _ => 0) (fun _ => 0) (fun _ _ _ => 0))) (q := ckE m q 0 (0, esL 0 (fun _ => 0) (fun _ => 0) (fun _ _ _ => 0))) rfl (ee _) (ee _)) (decide_eq_false (by omega))) (rv_ 7 (.bool true) (fun a ee => execPq4n rfl (ee _)) (rv_ 9 (.bool true) (fun a ee => execDec (execNeE (p := ckE m q 0 (0, esL 0 (fun _ => 0) (fun _ => 0) (fun _ _ _ => 0))) (q := 0) rfl (ee _) rfl) (decide_eq_true hb)) (rv_ 10 (.bool false) (fun a ee => execNq4 (b := true) rfl (ee _) (ee _)) (rf_ [(54, .bool false)] (h2_ t7 t8) ?_))))
      rintro a A ⟨t54, -⟩ ⟨t7, t8, -⟩
      refine wp_cond_false t54 ?_
      refine wp_skip ?_
      clear t54
      refine wp_seq ?_
      refine wi_ A (h2_ t7 t8) (rv_ 1 (.bool true) (fun a ee => execDec (execNeE (p := ckE m q 0 (0, esL 0 (fun _ => 0) (fun _ => 0) (fun _ _ _ => 0))) (q := 0) rfl (ee _) rfl) (decide_eq_true hb)) (rg_ [(4, .bool true)] ?_))
      rintro a A ⟨t4, -⟩
      refine wp_ret ?_
      refine bodyPost_ret (results_tmp rfl _ _ _) A.2 ⟨?_, BB⟩
      show Ending.returned (a.eval (.tmp 4)) = _
      rw [t4]
end Go.Proofs.YtepdejnholphcaaGreat.Srv
