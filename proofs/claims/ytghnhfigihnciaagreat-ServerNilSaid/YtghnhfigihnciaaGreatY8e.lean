import Derived.Test.YtghnhfigihnciaaGreatY8d
namespace Go.Proofs.YtghnhfigihnciaaGreat.Srv
open Go.RowKit Gf8 Aes By8 Cel Cf Win Rnd
/- played over a nil server; ServerNil. Written by tools/mkY8e.py. -/

/-- A step's cells. -/
def tC (k e : Int) (r t s : Value) : Array Value := #[.int .i64 k, .int .i64 e, r, t, s]
/-- A list of steps. -/
structure Sps4 (W : World) (v : Value) (n : Nat) (kd en : Nat → Int) (rv tv sv : Nat → Value) : Prop where
  shape : ∃ a cap, v = .slice a n cap ∧ n ≤ cap ∧ cap < 9223372036854775808 ∧ (0 < n → ∃ b off, a = some ⟨b, off, none⟩ ∧ b < W.heap.size ∧ ∀ i, i < n → W.cell? ⟨b, off + i * 5 + 0, none⟩ = some (.int .i64 (kd i)) ∧ W.cell? ⟨b, off + i * 5 + 1, none⟩ = some (.int .i64 (en i)) ∧ W.cell? ⟨b, off + i * 5 + 2, none⟩ = some (rv i) ∧ W.cell? ⟨b, off + i * 5 + 3, none⟩ = some (tv i) ∧ W.cell? ⟨b, off + i * 5 + 4, none⟩ = some (sv i))
  sl : ∀ i, i < n → (∃ g n c, rv i = .slice g n c) ∧ (∃ g n c, tv i = .slice g n c) ∧ ∃ g n c, sv i = .slice g n c
theorem Sps4.shp {W : World} {v : Value} {n : Nat} {kd en : Nat → Int} {rv tv sv : Nat → Value} (h : Sps4 W v n kd en rv tv sv) : ∃ ao c, v = .slice ao n c := by obtain ⟨a, c, e, _⟩ := h.shape; exact ⟨a, c, e⟩
theorem Sps4.on {W X : World} {v : Value} {n : Nat} {kd en : Nat → Int} {rv tv sv : Nat → Value} (h : Sps4 W v n kd en rv tv sv) (b : Below W.heap.size W X) : Sps4 X v n kd en rv tv sv := by
  obtain ⟨⟨a, c, e, h1, h2, h3⟩, hs⟩ := h
  refine ⟨⟨a, c, e, h1, h2, fun h0 => ?_⟩, hs⟩
  obtain ⟨g, off, e2, hg, hc⟩ := h3 h0
  refine ⟨g, off, e2, Nat.lt_of_lt_of_le hg b.size, fun i hi => ?_⟩
  rw [cell_below b hg, cell_below b hg, cell_below b hg, cell_below b hg, cell_below b hg]
  exact hc i hi
theorem Sps4.at {W : World} {v : Value} {n : Nat} {kd en : Nat → Int} {rv tv sv : Nat → Value} (h : Sps4 W v n kd en rv tv sv) (hn : 0 < n) : ∃ b off c, v = .slice (some ⟨b, off, none⟩) n c ∧ b < W.heap.size ∧ ∀ i, i < n → W.cell? ⟨b, off + i * 5 + 0, none⟩ = some (.int .i64 (kd i)) ∧ W.cell? ⟨b, off + i * 5 + 1, none⟩ = some (.int .i64 (en i)) ∧ W.cell? ⟨b, off + i * 5 + 2, none⟩ = some (rv i) ∧ W.cell? ⟨b, off + i * 5 + 3, none⟩ = some (tv i) ∧ W.cell? ⟨b, off + i * 5 + 4, none⟩ = some (sv i) := by
  obtain ⟨a, c, e, _, _, h3⟩ := h.shape
  obtain ⟨b, off, rfl, hb, hc⟩ := h3 hn
  exact ⟨b, off, c, e, hb, hc⟩
theorem exit_past24 {id jd : Nat} {Q : Exit → Act → World → Prop} {a : Act} {w : World} (hne : jd ≠ id) (h : Q (.exit jd) a w) : Exit.inBlock id Q (.exit jd) a w := by
  simp only [Exit.inBlock, if_neg hne]
  exact h
section
variable {o : Oper} {a : Act} {w : World}
theorem execLenT4 {x : Operand} {v : Value} {len : Nat} (ho : o.op = .call { callee := .builtin .len, args := #[x], argTypes := #[22] }) (hx : a.eval x = v) (hv : ∃ ao c, v = .slice ao len c) : (execOp a.eval o).run Tryz.prog w = .ok (.value (.int .i64 ((len : Nat) : Int))) w := by
  obtain ⟨ao, c, rfl⟩ := hv
  unfold execOp
  simp only [ho, resolve, invoke, builtin, List.map_toArray, List.map_cons, List.map_nil, hx]
  simp [go_sem]
theorem execIdxT4 {x i : Operand} {b off n cap k : Nat} (ho : o.op = .indexAddr 22 x i) (hx : a.eval x = .slice (some ⟨b, off, none⟩) n cap) (hi : a.eval i = .int .i64 ((k : Nat) : Int)) (hk : k < n) : (execOp a.eval o).run Tryz.prog w = .ok (.value (.pointer (some ⟨b, off + k * 5, none⟩))) w := by
  unfold execOp
  simp only [ho, hx, hi]
  simp [go_sem, hk]
theorem execAlT4 (ho : o.op = .alloc 48) : (execOp a.eval o).run Tryz.prog w = .ok (.value (.pointer (some ⟨w.heap.size, 0, none⟩))) (w.alloc (.cells (tC 0 0 (.slice none 0 0) (.slice none 0 0) (.slice none 0 0)) 48)) := by
  unfold execOp
  simp only [ho]
  simp [go_sem, tC]
theorem execLdT4 {x : Operand} {b k : Nat} {z e : Int} {r t s : Value} (ho : o.op = .load 48 x) (hx : a.eval x = .pointer (some ⟨b, k, none⟩)) (h : w.cell? ⟨b, k + 0, none⟩ = some (.int .i64 z) ∧ w.cell? ⟨b, k + 1, none⟩ = some (.int .i64 e) ∧ w.cell? ⟨b, k + 2, none⟩ = some r ∧ w.cell? ⟨b, k + 3, none⟩ = some t ∧ w.cell? ⟨b, k + 4, none⟩ = some s) : (execOp a.eval o).run Tryz.prog w = .ok (.value (.agg (tC z e r t s))) w := by
  have h := execLoadMid (P := Tryz.prog) (cs := [.int .i64 z, .int .i64 e, r, t, s]) ho hx (fun j v hv => by
    match j, hv with
    | 0, hv => exact h.1.trans hv
    | 1, hv => exact h.2.1.trans hv
    | 2, hv => exact h.2.2.1.trans hv
    | 3, hv => exact h.2.2.2.1.trans hv
    | 4, hv => exact h.2.2.2.2.trans hv
    | _ + 5, hv => simp at hv) Tryz.underlying48 rfl (by kernel_rfl)
  exact h
theorem execStT4 {x y : Operand} {g : Nat} {z e z' e' : Int} {r t s r' t' s' : Value} (ho : o.op = .store 48 x y) (hx : a.eval x = .pointer (some ⟨g, 0, none⟩)) (hy : a.eval y = .agg (tC z' e' r' t' s')) (hg : w.heap[g]? = some (.cells (tC z e r t s) 48)) (hs : (∃ g n c, r' = .slice g n c) ∧ (∃ g n c, t' = .slice g n c) ∧ ∃ g n c, s' = .slice g n c) : (execOp a.eval o).run Tryz.prog w = .ok .skip (w.setRow g (tC z' e' r' t' s')) := by
  obtain ⟨⟨_, _, _, rfl⟩, ⟨_, _, _, rfl⟩, ⟨_, _, _, rfl⟩⟩ := hs
  have h := execStMid (P := Tryz.prog) ho hx hy hg (Nat.le_refl _) (show (Tryz.prog.info? 48).map (·.size) = some 5 from by kernel_rfl) (by simp [tC, Value.oneCell'])
  exact h
theorem execFT0 {x : Operand} {b : Nat} (ho : o.op = .fieldAddr 48 x 0) (hx : a.eval x = .pointer (some ⟨b, 0, none⟩)) : (execOp a.eval o).run Tryz.prog w = .ok (.value (.pointer (some ⟨b, 0, none⟩))) w := by
  unfold execOp
  simp only [ho, hx]
  simp [go_sem]
theorem execFT1 {x : Operand} {b : Nat} (ho : o.op = .fieldAddr 48 x 1) (hx : a.eval x = .pointer (some ⟨b, 0, none⟩)) : (execOp a.eval o).run Tryz.prog w = .ok (.value (.pointer (some ⟨b, 1, none⟩))) w := by
  unfold execOp
  simp only [ho, hx]
  simp [go_sem]
theorem execFT2 {x : Operand} {b : Nat} (ho : o.op = .fieldAddr 48 x 2) (hx : a.eval x = .pointer (some ⟨b, 0, none⟩)) : (execOp a.eval o).run Tryz.prog w = .ok (.value (.pointer (some ⟨b, 2, none⟩))) w := by
  unfold execOp
  simp only [ho, hx]
  simp [go_sem]
theorem execFT3 {x : Operand} {b : Nat} (ho : o.op = .fieldAddr 48 x 3) (hx : a.eval x = .pointer (some ⟨b, 0, none⟩)) : (execOp a.eval o).run Tryz.prog w = .ok (.value (.pointer (some ⟨b, 3, none⟩))) w := by
  unfold execOp
  simp only [ho, hx]
  simp [go_sem]
theorem execFT4 {x : Operand} {b : Nat} (ho : o.op = .fieldAddr 48 x 4) (hx : a.eval x = .pointer (some ⟨b, 0, none⟩)) : (execOp a.eval o).run Tryz.prog w = .ok (.value (.pointer (some ⟨b, 4, none⟩))) w := by
  unfold execOp
  simp only [ho, hx]
  simp [go_sem]
theorem execLdI4 {x : Operand} {b k : Nat} {v : Value} (ho : o.op = .load 46 x) (hx : a.eval x = .pointer (some ⟨b, k, none⟩)) (hc : w.cell? ⟨b, k, none⟩ = some v) : (execOp a.eval o).run Tryz.prog w = .ok (.value v) w := by
  unfold execOp
  simp only [ho, hx]
  simp [go_sem, hc]
end
set_option maxRecDepth 100000 in
set_option maxHeartbeats 4000000 in
/-- played over a nil server. -/
theorem played24 (I : Impl) (v : Value) (n : Nat) (kd en : Nat → Int) (rv tv sv : Nat → Value) (V : World) (hS : Sps4 V v n kd en rv tv sv) (hn : n < 9223372036854775808) :
    Calls Tryz.prog 5 #[.pointer none, .agg zS, v] V fun e w' => e = .returned (.bool true) ∧ Below V.heap.size V w' := by
  go_enter Tryz.func5, Tryz.ntmps5
  refine wo_ 78 [(0, .pointer none), (1, .agg zS), (2, v)] ?_
  rintro a A ⟨t0, t1, t2, -⟩
  have BW : Below V.heap.size V V := Below.refl _ _
  have BB := BW
  refine wp_seq ?_
  obtain ⟨g4, egg4⟩ : ∃ z_ : Nat, V.heap.size = z_ := ⟨_, rfl⟩
  refine wi_ A (h3_ t0 t1 t2) (rs_ 0 (fun a ee => ?_))
  refine stepV rfl rfl (execBxZ rfl (ee _)) ⟨.pointer (some ⟨g4, 0, none⟩), ⟨_, rfl, by subst egg4; rfl⟩, fun X0 hX => ?_⟩
  have bQ : Below V.heap.size V X0 := by subst hX egg4; exact (belNew V _)
  have Fg4 : (X0.heap[g4]? = some (.cells (zS) 35)) := by subst hX egg4; exact heapNew V _
  have Fgeg4 : (V.heap.size ≤ g4) := by subst hX egg4; exact (BB).size
  replace BB := BB.trans (bQ.mono BB.size)
  clear bQ hX egg4 ee a
  refine rf_ [(4, .pointer (some ⟨g4, 0, none⟩))] (h2_ t0 t2) ?_
  rintro a A ⟨t4, -⟩ ⟨t0, t2, -⟩
  refine wp_seq ?_
  refine wp_seq ?_
  refine wi_ A (h3_ t0 t2 t4) (rv_ 1 (.int .i64 ((n : Nat) : Int)) (fun a ee => execLenT4 (len := n) rfl (ee _) hS.shp) (rf_ [(11, v), (12, .int .i64 ((n : Nat) : Int)), (13, .int .i64 ((0 : Nat) : Int))] (h2_ t0 t4) ?_))
  rintro a A ⟨t11, t12, t13, -⟩ ⟨t0, t4, -⟩
  refine wp_block ?_
  refine wp_loop (fun a W => ∃ (i : Nat), i ≤ n ∧ (a.tmps.size = 78 ∧ a.defers = []) ∧ a.eval (.tmp 0) = .pointer none ∧ a.eval (.tmp 4) = .pointer (some ⟨g4, 0, none⟩) ∧ a.eval (.tmp 11) = v ∧ a.eval (.tmp 12) = .int .i64 ((n : Nat) : Int) ∧ a.eval (.tmp 13) = .int .i64 ((i : Nat) : Int) ∧ Below V.heap.size V W ∧ (W.heap[g4]? = some (.cells (zS) 35))) (fun a _ => n - (intOf (a.eval (.tmp 13))).toNat) ⟨0, Nat.zero_le _, A, t0, t4, t11, t12, t13, BB, Fg4⟩ ?_
  clear A t0 t4 t11 t12 t13 BB Fg4 a
  rintro a XL2 ⟨i, hi, A, t0, t4, t11, t12, t13, BB, Fg4⟩
  have esi := t13
  refine wp_seq ?_
  refine wi_ A (h5_ t0 t4 t11 t12 t13) (rv_ 0 (.bool (decide (i < n))) (fun a ee => execLtW (p := i) (q := n) rfl (ee _) (ee _)) (rf_ [(14, .bool (decide (i < n)))] (h5_ t0 t4 t11 t12 t13) ?_))
  rintro a A ⟨t14, -⟩ ⟨t0, t4, t11, t12, t13, -⟩
  refine wp_seq ?_
  by_cases lti : i < n
  · rw [decide_eq_true lti] at t14
    refine wp_cond_true t14 ?_
    refine wp_skip ?_
    clear t14
    refine wp_seq ?_
    refine wp_block ?_
    obtain ⟨sb, so, sc, se, hsb, hcs⟩ := hS.at (show 0 < n by omega)
    have cS : ∀ X, Below V.heap.size V X → X.cell? ⟨sb, so + i * 5 + 0, none⟩ = some (.int .i64 (kd i)) ∧ X.cell? ⟨sb, so + i * 5 + 1, none⟩ = some (.int .i64 (en i)) ∧ X.cell? ⟨sb, so + i * 5 + 2, none⟩ = some (rv i) ∧ X.cell? ⟨sb, so + i * 5 + 3, none⟩ = some (tv i) ∧ X.cell? ⟨sb, so + i * 5 + 4, none⟩ = some (sv i) := fun X hX => by
      rw [cell_below hX hsb, cell_below hX hsb, cell_below hX hsb, cell_below hX hsb, cell_below hX hsb]
      exact hcs i lti
    refine wp_seq ?_
    obtain ⟨g8, egg8⟩ : ∃ z_ : Nat, XL2.heap.size = z_ := ⟨_, rfl⟩
    refine wi_ A (h5_ t0 t4 t11 t12 t13) (rv_ 0 (.pointer (some ⟨sb, so + i * 5, none⟩)) (fun a ee => execIdxT4 (k := i) rfl ((ee _).trans se) (ee _) lti) (rv_ 1 (.agg (tC (kd i) (en i) (rv i) (tv i) (sv i))) (fun a ee => execLdT4 rfl (ee _) (cS XL2 BB)) (rs_ 2 (fun a ee => ?_))))
    refine stepV rfl rfl (execAlT4 rfl) ⟨.pointer (some ⟨g8, 0, none⟩), ⟨_, rfl, by subst egg8; rfl⟩, fun X3_1 hX => ?_⟩
    have bQ : Below XL2.heap.size XL2 X3_1 := by subst hX egg8; exact (belNew XL2 _)
    have Fg8 : (X3_1.heap[g8]? = some (.cells (tC 0 0 (.slice none 0 0) (.slice none 0 0) (.slice none 0 0)) 48)) := by subst hX egg8; exact heapNew XL2 _
    have Fgeg8 : (V.heap.size ≤ g8) := by subst hX egg8; exact (BB).size
    replace Fg4 := (on9 Fg4 bQ)
    replace BB := BB.trans (bQ.mono BB.size)
    clear bQ hX egg8 ee a
    refine rs_ 3 (fun a ee => ?_)
    refine stepS rfl rfl (execStT4 rfl (ee _) (ee _) Fg8 (hS.sl i lti)) ⟨_, ⟨_, rfl, rfl⟩, fun X3 hX => ?_⟩
    obtain ⟨BB, Fg4, Fg8s⟩ : Below V.heap.size V X3 ∧ (X3.heap[g4]? = some (.cells (zS) 35)) ∧ (X3.heap[g8]? = some (.cells (tC (kd i) (en i) (rv i) (tv i) (sv i)) 48)) := by subst hX; exact ⟨below4 BB Fgeg8 _, (by rw [setRow_other _ _ _ _ (ne_type Fg8 Fg4 (by decide))]; exact Fg4), setRow_heap _ _ _ _ _ _ Fg8⟩
    clear Fg8 hX ee a
    refine rf_ [(8, .pointer (some ⟨g8, 0, none⟩))] (h5_ t0 t4 t11 t12 t13) ?_
    rintro a A ⟨t8, -⟩ ⟨t0, t4, t11, t12, t13, -⟩
    refine wp_seq ?_
    obtain ⟨g9, egg9⟩ : ∃ z_ : Nat, X3.heap.size = z_ := ⟨_, rfl⟩
    refine wi_ A (h6_ t0 t4 t11 t12 t13 t8) (rs_ 0 (fun a ee => ?_))
    refine stepV rfl rfl (execAlO rfl) ⟨.pointer (some ⟨g9, 0, none⟩), ⟨_, rfl, by subst egg9; rfl⟩, fun X4_1 hX => ?_⟩
    have bQ : Below X3.heap.size X3 X4_1 := by subst hX egg9; exact (belNew X3 _)
    have Fg9 : (X4_1.heap[g9]? = some (.cells (oZ 0) 42)) := by subst hX egg9; exact heapNew X3 _
    have Fgeg9 : (V.heap.size ≤ g9) := by subst hX egg9; exact (BB).size
    replace Fg4 := (on9 Fg4 bQ)
    replace Fg8s := (on9 Fg8s bQ)
    replace BB := BB.trans (bQ.mono BB.size)
    clear bQ hX egg9 ee a
    obtain ⟨g10, egg10⟩ : ∃ z_ : Nat, X4_1.heap.size = z_ := ⟨_, rfl⟩
    refine rs_ 1 (fun a ee => ?_)
    refine stepV rfl rfl (execAlO rfl) ⟨.pointer (some ⟨g10, 0, none⟩), ⟨_, rfl, by subst egg10; rfl⟩, fun X4 hX => ?_⟩
    have bQ : Below X4_1.heap.size X4_1 X4 := by subst hX egg10; exact (belNew X4_1 _)
    have Fg10 : (X4.heap[g10]? = some (.cells (oZ 0) 42)) := by subst hX egg10; exact heapNew X4_1 _
    have Fgeg10 : (V.heap.size ≤ g10) := by subst hX egg10; exact (BB).size
    have FNg9g10 : (g9 ≠ g10) := by subst hX egg10; exact ne24 Fg9
    replace Fg4 := (on9 Fg4 bQ)
    replace Fg8s := (on9 Fg8s bQ)
    replace Fg9 := (on9 Fg9 bQ)
    replace BB := BB.trans (bQ.mono BB.size)
    clear bQ hX egg10 ee a
    refine rf_ [(9, .pointer (some ⟨g9, 0, none⟩)), (10, .pointer (some ⟨g10, 0, none⟩))] (h6_ t0 t4 t11 t12 t13 t8) ?_
    rintro a A ⟨t9, t10, -⟩ ⟨t0, t4, t11, t12, t13, t8, -⟩
    refine wp_seq ?_
    refine wp_seq ?_
    refine wi_ A (h8_ t0 t4 t11 t12 t13 t8 t9 t10) (rv_ 0 (.pointer (some ⟨g8, 0, none⟩)) (fun a ee => execFT0 rfl (ee _)) (rv_ 1 (.int .i64 (kd i)) (fun a ee => execL1 rfl (Or.inl rfl) (ee _) (row_1 Fg8s rfl)) (rf_ [(18, .int .i64 (kd i))] (h8_ t0 t4 t11 t12 t13 t8 t9 t10) ?_)))
    rintro a A ⟨t18, -⟩ ⟨t0, t4, t11, t12, t13, t8, t9, t10, -⟩
    refine wp_block ?_
    by_cases k1 : kd i = 1
    · refine wp_seq ?_
      refine wi_ A (h9_ t0 t4 t11 t12 t13 t8 t9 t10 t18) (rv_ 0 (.bool true) (fun a ee => execDec (exIeql3 (p := kd i) (q := 1) rfl (ee _) rfl) (decide_eq_true k1)) (rf_ [(19, .bool true)] (h9_ t0 t4 t11 t12 t13 t8 t9 t10 t18) ?_))
      rintro a A ⟨t19, -⟩ ⟨t0, t4, t11, t12, t13, t8, t9, t10, t18, -⟩
      refine wp_cond_true t19 ?_
      clear t19
      refine wp_seq ?_
      refine wi_ A (h9_ t0 t4 t11 t12 t13 t8 t9 t10 t18) (rv_ 0 (.agg zS) (fun a ee => execLdZ rfl (ee _) Fg4) (rv_ 1 (.pointer (some ⟨g8, 1, none⟩)) (fun a ee => execFT1 rfl (ee _)) (rv_ 2 (.int .i64 (en i)) (fun a ee => execL1 rfl (Or.inl rfl) (ee _) (row_1 Fg8s rfl)) (rv_ 3 (.pointer (some ⟨g8, 2, none⟩)) (fun a ee => execFT2 rfl (ee _)) (rv_ 4 (rv i) (fun a ee => execL1 rfl (Or.inr (Or.inr rfl)) (ee _) (row_1 Fg8s rfl)) (rv_ 5 (.pointer (some ⟨g8, 3, none⟩)) (fun a ee => execFT3 rfl (ee _)) (rv_ 6 (tv i) (fun a ee => execL1 rfl (Or.inr (Or.inr rfl)) (ee _) (row_1 Fg8s rfl)) (rc_ 7 (rround24 (en i) (rv i) (tv i) X4) (cb_ fun X7_1 bQ => ?_)))))))))
      replace Fg4 := (on9 Fg4 bQ)
      replace Fg8s := (on9 Fg8s bQ)
      replace Fg9 := (on9 Fg9 bQ)
      replace Fg10 := (on9 Fg10 bQ)
      replace BB := BB.trans (bQ.mono BB.size)
      clear bQ
      refine rs_ 11 (fun a ee => ?_)
      refine stepS rfl rfl (execStO rfl (ee _) (ee _) Fg10) ⟨_, ⟨_, rfl, rfl⟩, fun X7_2 hX => ?_⟩
      obtain ⟨BB, Fg4, Fg8s, Fg9, Fg10s⟩ : Below V.heap.size V X7_2 ∧ (X7_2.heap[g4]? = some (.cells (zS) 35)) ∧ (X7_2.heap[g8]? = some (.cells (tC (kd i) (en i) (rv i) (tv i) (sv i)) 48)) ∧ (X7_2.heap[g9]? = some (.cells (oZ 0) 42)) ∧ (X7_2.heap[g10]? = some (.cells (oZ 210) 42)) := by subst hX; exact ⟨below4 BB Fgeg10 _, (by rw [setRow_other _ _ _ _ (ne_type Fg10 Fg4 (by decide))]; exact Fg4), (by rw [setRow_other _ _ _ _ (ne_type Fg10 Fg8s (by decide))]; exact Fg8s), (by rw [setRow_other _ _ _ _ FNg9g10]; exact Fg9), setRow_heap _ _ _ _ _ _ Fg10⟩
      clear Fg10 hX ee a
      refine rs_ 12 (fun a ee => ?_)
      refine stepS rfl rfl (execStZ rfl (ee _) (ee _) Fg4) ⟨_, ⟨_, rfl, rfl⟩, fun X7 hX => ?_⟩
      obtain ⟨BB, Fg8s, Fg9, Fg10s, Fg4s⟩ : Below V.heap.size V X7 ∧ (X7.heap[g8]? = some (.cells (tC (kd i) (en i) (rv i) (tv i) (sv i)) 48)) ∧ (X7.heap[g9]? = some (.cells (oZ 0) 42)) ∧ (X7.heap[g10]? = some (.cells (oZ 210) 42)) ∧ (X7.heap[g4]? = some (.cells (zS) 35)) := by subst hX; exact ⟨below4 BB Fgeg4 _, (by rw [setRow_other _ _ _ _ (ne_type Fg4 Fg8s (by decide))]; exact Fg8s), (by rw [setRow_other _ _ _ _ (ne_type Fg4 Fg9 (by decide))]; exact Fg9), (by rw [setRow_other _ _ _ _ (ne_type Fg4 Fg10s (by decide))]; exact Fg10s), setRow_heap _ _ _ _ _ _ Fg4⟩
      clear Fg4 hX ee a
      refine rf_ [] (h8_ t0 t4 t11 t12 t13 t8 t9 t10) ?_
      rintro a A - ⟨t0, t4, t11, t12, t13, t8, t9, t10, -⟩
      refine wi_ A (h8_ t0 t4 t11 t12 t13 t8 t9 t10) (rv_ 1 (.pointer (some ⟨g8, 1, none⟩)) (fun a ee => execFT1 rfl (ee _)) (rv_ 2 (.int .i64 (en i)) (fun a ee => execL1 rfl (Or.inl rfl) (ee _) (row_1 Fg8s rfl)) (rv_ 3 (.pointer (some ⟨g8, 2, none⟩)) (fun a ee => execFT2 rfl (ee _)) (rv_ 4 (rv i) (fun a ee => execL1 rfl (Or.inr (Or.inr rfl)) (ee _) (row_1 Fg8s rfl)) (rv_ 5 (.pointer (some ⟨g8, 3, none⟩)) (fun a ee => execFT3 rfl (ee _)) (rv_ 6 (tv i) (fun a ee => execL1 rfl (Or.inr (Or.inr rfl)) (ee _) (row_1 Fg8s rfl)) (rv_ 7 (.pointer (some ⟨g8, 4, none⟩)) (fun a ee => execFT4 rfl (ee _)) (rv_ 8 (sv i) (fun a ee => execLdI4 rfl (ee _) (row_1 Fg8s rfl)) (rc_ 9 (I.round (en i) (rv i) (tv i) (sv i) X7 (hS.sl i lti).1 (hS.sl i lti).2.1 (hS.sl i lti).2.2) (cb_ fun X8_1 bQ => ?_))))))))))
      replace Fg8s := (on9 Fg8s bQ)
      replace Fg9 := (on9 Fg9 bQ)
      replace Fg10s := (on9 Fg10s bQ)
      replace Fg4s := (on9 Fg4s bQ)
      replace BB := BB.trans (bQ.mono BB.size)
      clear bQ
      refine rs_ 10 (fun a ee => ?_)
      refine stepS rfl rfl (execStO rfl (ee _) (ee _) Fg9) ⟨_, ⟨_, rfl, rfl⟩, fun X8 hX => ?_⟩
      obtain ⟨BB, Fg8s, Fg10s, Fg4s, Fg9s⟩ : Below V.heap.size V X8 ∧ (X8.heap[g8]? = some (.cells (tC (kd i) (en i) (rv i) (tv i) (sv i)) 48)) ∧ (X8.heap[g10]? = some (.cells (oZ 210) 42)) ∧ (X8.heap[g4]? = some (.cells (zS) 35)) ∧ (X8.heap[g9]? = some (.cells (oZ 210) 42)) := by subst hX; exact ⟨below4 BB Fgeg9 _, (by rw [setRow_other _ _ _ _ (ne_type Fg9 Fg8s (by decide))]; exact Fg8s), (by rw [setRow_other _ _ _ _ (fun e_ => FNg9g10 e_.symm)]; exact Fg10s), (by rw [setRow_other _ _ _ _ (ne_type Fg9 Fg4s (by decide))]; exact Fg4s), setRow_heap _ _ _ _ _ _ Fg9⟩
      clear Fg9 hX ee a
      refine rf_ [] (h7_ t0 t4 t11 t12 t13 t9 t10) ?_
      rintro a A - ⟨t0, t4, t11, t12, t13, t9, t10, -⟩
      refine wp_seq ?_
      refine wi_ A (h7_ t0 t4 t11 t12 t13 t9 t10) (rv_ 0 (.agg (oZ 210)) (fun a ee => execLdO rfl (ee _) Fg9s) (rv_ 1 (.agg (oZ 210)) (fun a ee => execLdO rfl (ee _) Fg10s) (rc_ 2 (rsameo24 X8) (cb_ fun X18 bQ => ?_))))
      replace Fg8s := (on9 Fg8s bQ)
      replace Fg10s := (on9 Fg10s bQ)
      replace Fg4s := (on9 Fg4s bQ)
      replace Fg9s := (on9 Fg9s bQ)
      replace BB := BB.trans (bQ.mono BB.size)
      clear bQ
      refine rv_ 3 (.bool false) (fun a ee => execNot8 (b := true) rfl (ee _)) (rf_ [(76, .bool false)] (h5_ t0 t4 t11 t12 t13) ?_)
      rintro a A ⟨t76, -⟩ ⟨t0, t4, t11, t12, t13, -⟩
      refine wp_cond_false t76 ?_
      refine wp_skip ?_
      clear t76
      refine wi_ A (h5_ t0 t4 t11 t12 t13) (rv_ 0 (.int .i64 ((i + 1 : Nat) : Int)) (fun a ee => execAd8 (p := i) (q := 1) rfl (ee _) rfl (by omega)) (rf_ [(13, .int .i64 ((i + 1 : Nat) : Int))] (h4_ t0 t4 t11 t12) ?_))
      rintro a A ⟨t13, -⟩ ⟨t0, t4, t11, t12, -⟩
      exact ⟨⟨i + 1, lti, A, t0, t4, t11, t12, t13, BB, Fg4s⟩, by show n - (intOf (a.eval (.tmp 13))).toNat < n - (intOf (Act.eval _ (.tmp 13))).toNat; rw [t13, esi]; show n - (i + 1) < n - i; omega⟩
    · by_cases k2 : kd i = 2
      · refine wp_seq ?_
        refine wi_ A (h9_ t0 t4 t11 t12 t13 t8 t9 t10 t18) (rv_ 0 (.bool false) (fun a ee => execDec (exIeql3 (p := kd i) (q := 1) rfl (ee _) rfl) (decide_eq_false k1)) (rf_ [(19, .bool false)] (h9_ t0 t4 t11 t12 t13 t8 t9 t10 t18) ?_))
        rintro a A ⟨t19, -⟩ ⟨t0, t4, t11, t12, t13, t8, t9, t10, t18, -⟩
        refine wp_cond_false t19 ?_
        clear t19
        refine wp_seq ?_
        refine wi_ A (h9_ t0 t4 t11 t12 t13 t8 t9 t10 t18) (rv_ 0 (.bool true) (fun a ee => execDec (exIeql3 (p := kd i) (q := 2) rfl (ee _) rfl) (decide_eq_true k2)) (rf_ [(42, .bool true)] (h9_ t0 t4 t11 t12 t13 t8 t9 t10 t18) ?_))
        rintro a A ⟨t42, -⟩ ⟨t0, t4, t11, t12, t13, t8, t9, t10, t18, -⟩
        refine wp_cond_true t42 ?_
        clear t42
        refine wp_seq ?_
        refine wi_ A (h9_ t0 t4 t11 t12 t13 t8 t9 t10 t18) (rv_ 0 (.agg zS) (fun a ee => execLdZ rfl (ee _) Fg4) (rv_ 1 (.pointer (some ⟨g8, 2, none⟩)) (fun a ee => execFT2 rfl (ee _)) (rv_ 2 (rv i) (fun a ee => execL1 rfl (Or.inr (Or.inr rfl)) (ee _) (row_1 Fg8s rfl)) (rc_ 3 (rput24 (rv i) X4) (cb_ fun X10_1 bQ => ?_)))))
        replace Fg4 := (on9 Fg4 bQ)
        replace Fg8s := (on9 Fg8s bQ)
        replace Fg9 := (on9 Fg9 bQ)
        replace Fg10 := (on9 Fg10 bQ)
        replace BB := BB.trans (bQ.mono BB.size)
        clear bQ
        refine rs_ 4 (fun a ee => ?_)
        refine stepS rfl rfl (execStZ rfl (ee _) (ee _) Fg4) ⟨_, ⟨_, rfl, rfl⟩, fun X10 hX => ?_⟩
        obtain ⟨BB, Fg8s, Fg9, Fg10, Fg4s⟩ : Below V.heap.size V X10 ∧ (X10.heap[g8]? = some (.cells (tC (kd i) (en i) (rv i) (tv i) (sv i)) 48)) ∧ (X10.heap[g9]? = some (.cells (oZ 0) 42)) ∧ (X10.heap[g10]? = some (.cells (oZ 0) 42)) ∧ (X10.heap[g4]? = some (.cells (zS) 35)) := by subst hX; exact ⟨below4 BB Fgeg4 _, (by rw [setRow_other _ _ _ _ (ne_type Fg4 Fg8s (by decide))]; exact Fg8s), (by rw [setRow_other _ _ _ _ (ne_type Fg4 Fg9 (by decide))]; exact Fg9), (by rw [setRow_other _ _ _ _ (ne_type Fg4 Fg10 (by decide))]; exact Fg10), setRow_heap _ _ _ _ _ _ Fg4⟩
        clear Fg4 hX ee a
        refine rf_ [] (h6_ t0 t4 t11 t12 t13 t8) ?_
        rintro a A - ⟨t0, t4, t11, t12, t13, t8, -⟩
        refine wp_seq ?_
        refine wi_ A (h6_ t0 t4 t11 t12 t13 t8) (rv_ 1 (.pointer (some ⟨g8, 2, none⟩)) (fun a ee => execFT2 rfl (ee _)) (rv_ 2 (rv i) (fun a ee => execL1 rfl (Or.inr (Or.inr rfl)) (ee _) (row_1 Fg8s rfl)) (rc_ 3 (I.put (rv i) X10 (hS.sl i lti).1) (cb_ fun X11 bQ => ?_))))
        replace Fg8s := (on9 Fg8s bQ)
        replace Fg9 := (on9 Fg9 bQ)
        replace Fg10 := (on9 Fg10 bQ)
        replace Fg4s := (on9 Fg4s bQ)
        replace BB := BB.trans (bQ.mono BB.size)
        clear bQ
        refine rf_ [] (h5_ t0 t4 t11 t12 t13) ?_
        rintro a A - ⟨t0, t4, t11, t12, t13, -⟩
        refine wp_exit ?_
        repeat (first | with_reducible refine exit_past24 (by decide) ?_ | with_reducible refine exit_then ?_)
        with_reducible refine exit_in ?_
        refine wi_ A (h5_ t0 t4 t11 t12 t13) (rv_ 0 (.int .i64 ((i + 1 : Nat) : Int)) (fun a ee => execAd8 (p := i) (q := 1) rfl (ee _) rfl (by omega)) (rf_ [(13, .int .i64 ((i + 1 : Nat) : Int))] (h4_ t0 t4 t11 t12) ?_))
        rintro a A ⟨t13, -⟩ ⟨t0, t4, t11, t12, -⟩
        exact ⟨⟨i + 1, lti, A, t0, t4, t11, t12, t13, BB, Fg4s⟩, by show n - (intOf (a.eval (.tmp 13))).toNat < n - (intOf (Act.eval _ (.tmp 13))).toNat; rw [t13, esi]; show n - (i + 1) < n - i; omega⟩
      · by_cases k3 : kd i = 3
        · refine wp_seq ?_
          refine wi_ A (h9_ t0 t4 t11 t12 t13 t8 t9 t10 t18) (rv_ 0 (.bool false) (fun a ee => execDec (exIeql3 (p := kd i) (q := 1) rfl (ee _) rfl) (decide_eq_false k1)) (rf_ [(19, .bool false)] (h9_ t0 t4 t11 t12 t13 t8 t9 t10 t18) ?_))
          rintro a A ⟨t19, -⟩ ⟨t0, t4, t11, t12, t13, t8, t9, t10, t18, -⟩
          refine wp_cond_false t19 ?_
          clear t19
          refine wp_seq ?_
          refine wi_ A (h9_ t0 t4 t11 t12 t13 t8 t9 t10 t18) (rv_ 0 (.bool false) (fun a ee => execDec (exIeql3 (p := kd i) (q := 2) rfl (ee _) rfl) (decide_eq_false k2)) (rf_ [(42, .bool false)] (h9_ t0 t4 t11 t12 t13 t8 t9 t10 t18) ?_))
          rintro a A ⟨t42, -⟩ ⟨t0, t4, t11, t12, t13, t8, t9, t10, t18, -⟩
          refine wp_cond_false t42 ?_
          clear t42
          refine wp_seq ?_
          refine wi_ A (h9_ t0 t4 t11 t12 t13 t8 t9 t10 t18) (rv_ 0 (.bool true) (fun a ee => execDec (exIeql3 (p := kd i) (q := 3) rfl (ee _) rfl) (decide_eq_true k3)) (rf_ [(52, .bool true)] (h9_ t0 t4 t11 t12 t13 t8 t9 t10 t18) ?_))
          rintro a A ⟨t52, -⟩ ⟨t0, t4, t11, t12, t13, t8, t9, t10, t18, -⟩
          refine wp_cond_true t52 ?_
          clear t52
          refine wp_seq ?_
          refine wi_ A (h9_ t0 t4 t11 t12 t13 t8 t9 t10 t18) (rv_ 0 (.agg zS) (fun a ee => execLdZ rfl (ee _) Fg4) (rv_ 1 (.pointer (some ⟨g8, 3, none⟩)) (fun a ee => execFT3 rfl (ee _)) (rv_ 2 (tv i) (fun a ee => execL1 rfl (Or.inr (Or.inr rfl)) (ee _) (row_1 Fg8s rfl)) (rc_ 3 (rfin24 (tv i) X4) (cb_ fun X13_1 bQ => ?_)))))
          replace Fg4 := (on9 Fg4 bQ)
          replace Fg8s := (on9 Fg8s bQ)
          replace Fg9 := (on9 Fg9 bQ)
          replace Fg10 := (on9 Fg10 bQ)
          replace BB := BB.trans (bQ.mono BB.size)
          clear bQ
          refine rs_ 7 (fun a ee => ?_)
          refine stepS rfl rfl (execStO rfl (ee _) (ee _) Fg10) ⟨_, ⟨_, rfl, rfl⟩, fun X13_2 hX => ?_⟩
          obtain ⟨BB, Fg4, Fg8s, Fg9, Fg10s⟩ : Below V.heap.size V X13_2 ∧ (X13_2.heap[g4]? = some (.cells (zS) 35)) ∧ (X13_2.heap[g8]? = some (.cells (tC (kd i) (en i) (rv i) (tv i) (sv i)) 48)) ∧ (X13_2.heap[g9]? = some (.cells (oZ 0) 42)) ∧ (X13_2.heap[g10]? = some (.cells (oZ 210) 42)) := by subst hX; exact ⟨below4 BB Fgeg10 _, (by rw [setRow_other _ _ _ _ (ne_type Fg10 Fg4 (by decide))]; exact Fg4), (by rw [setRow_other _ _ _ _ (ne_type Fg10 Fg8s (by decide))]; exact Fg8s), (by rw [setRow_other _ _ _ _ FNg9g10]; exact Fg9), setRow_heap _ _ _ _ _ _ Fg10⟩
          clear Fg10 hX ee a
          refine rs_ 8 (fun a ee => ?_)
          refine stepS rfl rfl (execStZ rfl (ee _) (ee _) Fg4) ⟨_, ⟨_, rfl, rfl⟩, fun X13 hX => ?_⟩
          obtain ⟨BB, Fg8s, Fg9, Fg10s, Fg4s⟩ : Below V.heap.size V X13 ∧ (X13.heap[g8]? = some (.cells (tC (kd i) (en i) (rv i) (tv i) (sv i)) 48)) ∧ (X13.heap[g9]? = some (.cells (oZ 0) 42)) ∧ (X13.heap[g10]? = some (.cells (oZ 210) 42)) ∧ (X13.heap[g4]? = some (.cells (zS) 35)) := by subst hX; exact ⟨below4 BB Fgeg4 _, (by rw [setRow_other _ _ _ _ (ne_type Fg4 Fg8s (by decide))]; exact Fg8s), (by rw [setRow_other _ _ _ _ (ne_type Fg4 Fg9 (by decide))]; exact Fg9), (by rw [setRow_other _ _ _ _ (ne_type Fg4 Fg10s (by decide))]; exact Fg10s), setRow_heap _ _ _ _ _ _ Fg4⟩
          clear Fg4 hX ee a
          refine rf_ [] (h8_ t0 t4 t11 t12 t13 t8 t9 t10) ?_
          rintro a A - ⟨t0, t4, t11, t12, t13, t8, t9, t10, -⟩
          refine wi_ A (h8_ t0 t4 t11 t12 t13 t8 t9 t10) (rv_ 1 (.pointer (some ⟨g8, 3, none⟩)) (fun a ee => execFT3 rfl (ee _)) (rv_ 2 (tv i) (fun a ee => execL1 rfl (Or.inr (Or.inr rfl)) (ee _) (row_1 Fg8s rfl)) (rc_ 3 (I.finish (tv i) X13 (hS.sl i lti).2.1) (cb_ fun X14_1 bQ => ?_))))
          replace Fg8s := (on9 Fg8s bQ)
          replace Fg9 := (on9 Fg9 bQ)
          replace Fg10s := (on9 Fg10s bQ)
          replace Fg4s := (on9 Fg4s bQ)
          replace BB := BB.trans (bQ.mono BB.size)
          clear bQ
          refine rs_ 4 (fun a ee => ?_)
          refine stepS rfl rfl (execStO rfl (ee _) (ee _) Fg9) ⟨_, ⟨_, rfl, rfl⟩, fun X14 hX => ?_⟩
          obtain ⟨BB, Fg8s, Fg10s, Fg4s, Fg9s⟩ : Below V.heap.size V X14 ∧ (X14.heap[g8]? = some (.cells (tC (kd i) (en i) (rv i) (tv i) (sv i)) 48)) ∧ (X14.heap[g10]? = some (.cells (oZ 210) 42)) ∧ (X14.heap[g4]? = some (.cells (zS) 35)) ∧ (X14.heap[g9]? = some (.cells (oZ 210) 42)) := by subst hX; exact ⟨below4 BB Fgeg9 _, (by rw [setRow_other _ _ _ _ (ne_type Fg9 Fg8s (by decide))]; exact Fg8s), (by rw [setRow_other _ _ _ _ (fun e_ => FNg9g10 e_.symm)]; exact Fg10s), (by rw [setRow_other _ _ _ _ (ne_type Fg9 Fg4s (by decide))]; exact Fg4s), setRow_heap _ _ _ _ _ _ Fg9⟩
          clear Fg9 hX ee a
          refine rf_ [] (h7_ t0 t4 t11 t12 t13 t9 t10) ?_
          rintro a A - ⟨t0, t4, t11, t12, t13, t9, t10, -⟩
          refine wp_seq ?_
          refine wi_ A (h7_ t0 t4 t11 t12 t13 t9 t10) (rv_ 0 (.agg (oZ 210)) (fun a ee => execLdO rfl (ee _) Fg9s) (rv_ 1 (.agg (oZ 210)) (fun a ee => execLdO rfl (ee _) Fg10s) (rc_ 2 (rsameo24 X14) (cb_ fun X18 bQ => ?_))))
          replace Fg8s := (on9 Fg8s bQ)
          replace Fg10s := (on9 Fg10s bQ)
          replace Fg4s := (on9 Fg4s bQ)
          replace Fg9s := (on9 Fg9s bQ)
          replace BB := BB.trans (bQ.mono BB.size)
          clear bQ
          refine rv_ 3 (.bool false) (fun a ee => execNot8 (b := true) rfl (ee _)) (rf_ [(76, .bool false)] (h5_ t0 t4 t11 t12 t13) ?_)
          rintro a A ⟨t76, -⟩ ⟨t0, t4, t11, t12, t13, -⟩
          refine wp_cond_false t76 ?_
          refine wp_skip ?_
          clear t76
          refine wi_ A (h5_ t0 t4 t11 t12 t13) (rv_ 0 (.int .i64 ((i + 1 : Nat) : Int)) (fun a ee => execAd8 (p := i) (q := 1) rfl (ee _) rfl (by omega)) (rf_ [(13, .int .i64 ((i + 1 : Nat) : Int))] (h4_ t0 t4 t11 t12) ?_))
          rintro a A ⟨t13, -⟩ ⟨t0, t4, t11, t12, -⟩
          exact ⟨⟨i + 1, lti, A, t0, t4, t11, t12, t13, BB, Fg4s⟩, by show n - (intOf (a.eval (.tmp 13))).toNat < n - (intOf (Act.eval _ (.tmp 13))).toNat; rw [t13, esi]; show n - (i + 1) < n - i; omega⟩
        · by_cases k4 : kd i = 4
          · refine wp_seq ?_
            refine wi_ A (h9_ t0 t4 t11 t12 t13 t8 t9 t10 t18) (rv_ 0 (.bool false) (fun a ee => execDec (exIeql3 (p := kd i) (q := 1) rfl (ee _) rfl) (decide_eq_false k1)) (rf_ [(19, .bool false)] (h9_ t0 t4 t11 t12 t13 t8 t9 t10 t18) ?_))
            rintro a A ⟨t19, -⟩ ⟨t0, t4, t11, t12, t13, t8, t9, t10, t18, -⟩
            refine wp_cond_false t19 ?_
            clear t19
            refine wp_seq ?_
            refine wi_ A (h9_ t0 t4 t11 t12 t13 t8 t9 t10 t18) (rv_ 0 (.bool false) (fun a ee => execDec (exIeql3 (p := kd i) (q := 2) rfl (ee _) rfl) (decide_eq_false k2)) (rf_ [(42, .bool false)] (h9_ t0 t4 t11 t12 t13 t8 t9 t10 t18) ?_))
            rintro a A ⟨t42, -⟩ ⟨t0, t4, t11, t12, t13, t8, t9, t10, t18, -⟩
            refine wp_cond_false t42 ?_
            clear t42
            refine wp_seq ?_
            refine wi_ A (h9_ t0 t4 t11 t12 t13 t8 t9 t10 t18) (rv_ 0 (.bool false) (fun a ee => execDec (exIeql3 (p := kd i) (q := 3) rfl (ee _) rfl) (decide_eq_false k3)) (rf_ [(52, .bool false)] (h9_ t0 t4 t11 t12 t13 t8 t9 t10 t18) ?_))
            rintro a A ⟨t52, -⟩ ⟨t0, t4, t11, t12, t13, t8, t9, t10, t18, -⟩
            refine wp_cond_false t52 ?_
            clear t52
            refine wp_seq ?_
            refine wi_ A (h9_ t0 t4 t11 t12 t13 t8 t9 t10 t18) (rv_ 0 (.bool true) (fun a ee => execDec (exIeql3 (p := kd i) (q := 4) rfl (ee _) rfl) (decide_eq_true k4)) (rf_ [(65, .bool true)] (h9_ t0 t4 t11 t12 t13 t8 t9 t10 t18) ?_))
            rintro a A ⟨t65, -⟩ ⟨t0, t4, t11, t12, t13, t8, t9, t10, t18, -⟩
            refine wp_cond_true t65 ?_
            clear t65
            refine wp_seq ?_
            refine wp_seq ?_
            refine wj_ [0, 2, 3, 1, 4, 5] [1, 4] [3] [] A (h9_ t0 t4 t11 t12 t13 t8 t9 t10 t18) (fun X16_0 bD => ?_)
            refine dw_ 2 (.pointer (some ⟨g4, 12, none⟩)) (fun a X ee => execFZ2 rfl (ee _)) (dv_ 3 (.agg (sC 0 0 (.slice none 0 0))) (fun a X ee hb => execLdZS rfl (ee _) (on9 Fg4 hb)) (dc_ 1 (I.state0 X16_0) (cb_ fun X16_1 bQ => ?_)))
            replace bD := bD.trans (bQ.mono bD.size)
            clear bQ
            refine ⟨Or.inr bD, ?_⟩
            refine dc_ 4 (rsames24 0 0 (.slice none 0 0) (.slice none 0 0) 0 (fun _ => 0) (fun _ => undef) (fun _ => undef) (fun _ => 0) (fun _ _ _ => 0) (fun _ _ _ => 0) X16_1 (wd0 X16_1).eps (wd0 X16_1).eps (by omega) (fun j hj => absurd hj (Nat.not_lt_zero j))) (cb_ fun X16 bQ => ?_)
            replace bD := bD.trans (bQ.mono bD.size)
            clear bQ
            refine ⟨Or.inr bD, ?_⟩
            refine dw_ 5 (.bool false) (fun a X ee => execNot8 (b := true) rfl (ee _)) (dz_ [(72, .bool false)] (h5_ t0 t4 t11 t12 t13) ?_)
            rintro a A ⟨t72, -⟩ ⟨t0, t4, t11, t12, t13, -⟩
            replace Fg4 := (on9 Fg4 bD)
            replace Fg8s := (on9 Fg8s bD)
            replace Fg9 := (on9 Fg9 bD)
            replace Fg10 := (on9 Fg10 bD)
            replace BB := BB.trans (bD.mono BB.size)
            clear bD
            refine wp_cond_false t72 ?_
            refine wp_skip ?_
            clear t72
            refine wp_exit ?_
            repeat (first | with_reducible refine exit_past24 (by decide) ?_ | with_reducible refine exit_then ?_)
            with_reducible refine exit_in ?_
            refine wi_ A (h5_ t0 t4 t11 t12 t13) (rv_ 0 (.int .i64 ((i + 1 : Nat) : Int)) (fun a ee => execAd8 (p := i) (q := 1) rfl (ee _) rfl (by omega)) (rf_ [(13, .int .i64 ((i + 1 : Nat) : Int))] (h4_ t0 t4 t11 t12) ?_))
            rintro a A ⟨t13, -⟩ ⟨t0, t4, t11, t12, -⟩
            exact ⟨⟨i + 1, lti, A, t0, t4, t11, t12, t13, BB, Fg4⟩, by show n - (intOf (a.eval (.tmp 13))).toNat < n - (intOf (Act.eval _ (.tmp 13))).toNat; rw [t13, esi]; show n - (i + 1) < n - i; omega⟩
          · refine wp_seq ?_
            refine wi_ A (h9_ t0 t4 t11 t12 t13 t8 t9 t10 t18) (rv_ 0 (.bool false) (fun a ee => execDec (exIeql3 (p := kd i) (q := 1) rfl (ee _) rfl) (decide_eq_false k1)) (rf_ [(19, .bool false)] (h9_ t0 t4 t11 t12 t13 t8 t9 t10 t18) ?_))
            rintro a A ⟨t19, -⟩ ⟨t0, t4, t11, t12, t13, t8, t9, t10, t18, -⟩
            refine wp_cond_false t19 ?_
            clear t19
            refine wp_seq ?_
            refine wi_ A (h9_ t0 t4 t11 t12 t13 t8 t9 t10 t18) (rv_ 0 (.bool false) (fun a ee => execDec (exIeql3 (p := kd i) (q := 2) rfl (ee _) rfl) (decide_eq_false k2)) (rf_ [(42, .bool false)] (h9_ t0 t4 t11 t12 t13 t8 t9 t10 t18) ?_))
            rintro a A ⟨t42, -⟩ ⟨t0, t4, t11, t12, t13, t8, t9, t10, t18, -⟩
            refine wp_cond_false t42 ?_
            clear t42
            refine wp_seq ?_
            refine wi_ A (h9_ t0 t4 t11 t12 t13 t8 t9 t10 t18) (rv_ 0 (.bool false) (fun a ee => execDec (exIeql3 (p := kd i) (q := 3) rfl (ee _) rfl) (decide_eq_false k3)) (rf_ [(52, .bool false)] (h9_ t0 t4 t11 t12 t13 t8 t9 t10 t18) ?_))
            rintro a A ⟨t52, -⟩ ⟨t0, t4, t11, t12, t13, t8, t9, t10, t18, -⟩
            refine wp_cond_false t52 ?_
            clear t52
            refine wp_seq ?_
            refine wi_ A (h9_ t0 t4 t11 t12 t13 t8 t9 t10 t18) (rv_ 0 (.bool false) (fun a ee => execDec (exIeql3 (p := kd i) (q := 4) rfl (ee _) rfl) (decide_eq_false k4)) (rf_ [(65, .bool false)] (h9_ t0 t4 t11 t12 t13 t8 t9 t10 t18) ?_))
            rintro a A ⟨t65, -⟩ ⟨t0, t4, t11, t12, t13, t8, t9, t10, t18, -⟩
            refine wp_cond_false t65 ?_
            clear t65
            refine wp_exit ?_
            repeat (first | with_reducible refine exit_past24 (by decide) ?_ | with_reducible refine exit_then ?_)
            with_reducible refine exit_in ?_
            refine wi_ A (h9_ t0 t4 t11 t12 t13 t8 t9 t10 t18) (rv_ 0 (.int .i64 ((i + 1 : Nat) : Int)) (fun a ee => execAd8 (p := i) (q := 1) rfl (ee _) rfl (by omega)) (rf_ [(13, .int .i64 ((i + 1 : Nat) : Int))] (h4_ t0 t4 t11 t12) ?_))
            rintro a A ⟨t13, -⟩ ⟨t0, t4, t11, t12, -⟩
            exact ⟨⟨i + 1, lti, A, t0, t4, t11, t12, t13, BB, Fg4⟩, by show n - (intOf (a.eval (.tmp 13))).toNat < n - (intOf (Act.eval _ (.tmp 13))).toNat; rw [t13, esi]; show n - (i + 1) < n - i; omega⟩
  · rw [decide_eq_false lti] at t14
    refine wp_cond_false t14 ?_
    refine wp_exit ?_
    first | with_reducible refine exit_in ?_ | with_reducible refine exit_then (exit_in ?_) | with_reducible refine exit_then (exit_then (exit_in ?_)) | refine exit_in ?_ | refine exit_then (exit_in ?_) | refine exit_then (exit_then (exit_in ?_))
    clear t14 esi
    refine wp_seq ?_
    refine wi_ A (h5_ t0 t4 t11 t12 t13) (rg_ [(6, .bool true)] ?_)
    rintro a A ⟨t6, -⟩
    refine wp_ret ?_
    refine bodyPost_ret (results_tmp rfl _ _ _) A.2 ⟨?_, BB⟩
    show Ending.returned (a.eval (.tmp 6)) = _
    rw [t6]
set_option maxRecDepth 100000 in
set_option maxHeartbeats 4000000 in
/-- ServerNil. -/
theorem nil24 (I : Impl) (v : Value) (n : Nat) (kd en : Nat → Int) (rv tv sv : Nat → Value) (V : World) (hS : Sps4 V v n kd en rv tv sv) (hn : n < 9223372036854775808) :
    Calls Tryz.prog 3 #[v] V fun e w' => e = .returned (.bool true) ∧ Below V.heap.size V w' := by
  go_enter Tryz.func3, Tryz.ntmps3
  refine wo_ 10 [(0, v)] ?_
  rintro a A ⟨t0, -⟩
  have BW : Below V.heap.size V V := Below.refl _ _
  have BB := BW
  refine wp_seq ?_
  refine wi_ A (h1_ t0) (rf_ [] (h1_ t0) ?_)
  rintro a A - ⟨t0, -⟩
  refine wp_seq ?_
  refine wp_seq ?_
  refine wi_ A (h1_ t0) (rc_ 0 (awake24 I V) (cb_ fun X1 bQ => ?_))
  replace BB := BB.trans (bQ.mono BB.size)
  clear bQ
  refine rv_ 1 (.bool false) (fun a ee => execNot8 (b := true) rfl (ee _)) (rf_ [(5, .bool false)] (h1_ t0) ?_)
  rintro a A ⟨t5, -⟩ ⟨t0, -⟩
  refine wp_cond_false t5 ?_
  refine wp_skip ?_
  clear t5
  refine wp_seq ?_
  refine wi_ A (h1_ t0) (rf_ [(3, .pointer none)] (h1_ t0) ?_)
  rintro a A ⟨t3, -⟩ ⟨t0, -⟩
  refine wp_seq ?_
  refine wi_ A (h2_ t0 t3) (rv_ 1 (.agg zS) (fun a ee => execBdZ rfl) (rc_ 3 (played24 I v n kd en rv tv sv X1 (hS.on BB) hn) (cb_ fun X4 bQ => ?_)))
  replace BB := BB.trans (bQ.mono BB.size)
  clear bQ
  refine rg_ [(2, .bool true)] ?_
  rintro a A ⟨t2, -⟩
  refine wp_ret ?_
  refine bodyPost_ret (results_tmp rfl _ _ _) A.2 ⟨?_, BB⟩
  show Ending.returned (a.eval (.tmp 2)) = _
  rw [t2]
end Go.Proofs.YtghnhfigihnciaaGreat.Srv
