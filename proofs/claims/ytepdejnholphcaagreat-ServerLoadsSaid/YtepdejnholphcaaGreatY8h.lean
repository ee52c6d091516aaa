import Derived.Test.YtepdejnholphcaaGreatY8g
namespace Go.Proofs.YtepdejnholphcaaGreat.Srv
open Go.RowKit Gf8 Aes By8 Cel Cf Win Rnd
/- The landed server: a nil one; Load, New, State. Written by tools/mkY8h.py. -/

/-- A server's cells. -/
def srC (mv : Value) (q : Cg) (nx nw : Int) (ev pv : Value) : Array Value := #[mv, .int .i64 q.l, .int .i64 q.s, .int .i64 q.r, .int .i64 q.u, .int .i64 q.d, .int .i64 q.o, .int .i64 q.c, .int .i64 q.w, .int .i64 q.k, .int .i64 q.h, .int .i64 nx, .int .i64 nw, ev, pv]
section
variable {o : Oper} {a : Act} {w : World}
theorem execPqN {x : Operand} (ho : o.op = .binOp .eql 31 x (.const (.pointer none)) 31) (hx : a.eval x = .pointer none) : (execOp a.eval o).run Tryz.prog w = .ok (.value (.bool true)) w := by
  unfold execOp
  simp only [ho, hx]
  simp [go_sem]
theorem execPqS {x : Operand} {g : Addr} (ho : o.op = .binOp .eql 31 x (.const (.pointer none)) 31) (hx : a.eval x = .pointer (some g)) : (execOp a.eval o).run Tryz.prog w = .ok (.value (.bool false)) w := by
  unfold execOp
  simp only [ho, hx]
  simp [go_sem]
theorem execNlS {x : Operand} {ad : Addr} (ho : o.op = .nilCheck x) (hx : a.eval x = .pointer (some ad)) : (execOp a.eval o).run Tryz.prog w = .ok (.value (.pointer (some ad))) w := by
  unfold execOp
  simp only [ho, hx]
  simp [go_sem]
theorem execFv1 {x : Operand} {b : Nat} (ho : o.op = .fieldAddr 51 x 1) (hx : a.eval x = .pointer (some ⟨b, 0, none⟩)) : (execOp a.eval o).run Tryz.prog w = .ok (.value (.pointer (some ⟨b, 11, none⟩))) w := by
  unfold execOp
  simp only [ho, hx]
  simp [go_sem]
theorem execBdO (ho : o.op = .build 44 #[(3, .const (.int .i64 210))]) : (execOp a.eval o).run Tryz.prog w = .ok (.value (.agg (oZ 210))) w := by
  unfold execOp
  simp only [ho, List.map_toArray, List.map_cons, List.map_nil]
  simp [go_sem, oZ]
theorem execBdV {x y : Operand} {mv ev : Value} {q : Cg} {nx nw : Int} (ho : o.op = .build 51 #[(0, x), (1, y)]) (hx : a.eval x = .agg (cfC mv q)) (hy : a.eval y = .agg (sC nx nw ev)) : (execOp a.eval o).run Tryz.prog w = .ok (.value (.agg (srC mv q nx nw ev (.slice none 0 0)))) w := by
  unfold execOp
  simp only [ho, List.map_toArray, List.map_cons, List.map_nil, hx, hy]
  kernel_rfl
theorem execBxV {x : Operand} {mv ev pv : Value} {q : Cg} {nx nw : Int} (ho : o.op = .box 51 x) (hx : a.eval x = .agg (srC mv q nx nw ev pv)) (hm : ∃ g n c, mv = .slice g n c) (he : ∃ g n c, ev = .slice g n c) (hp : ∃ g n c, pv = .slice g n c) : (execOp a.eval o).run Tryz.prog w = .ok (.value (.pointer (some ⟨w.heap.size, 0, none⟩))) (w.alloc (.cells (srC mv q nx nw ev pv) 51)) := by
  obtain ⟨g, n, c, rfl⟩ := hm
  obtain ⟨g2, n2, c2, rfl⟩ := he
  obtain ⟨g3, n3, c3, rfl⟩ := hp
  unfold execOp
  simp only [ho, hx]
  simp [go_sem, srC]
theorem execStM {x y : Operand} {b : Nat} {v old : Value} (ho : o.op = .store 22 x y) (hx : a.eval x = .pointer (some ⟨b, 0, none⟩)) (hy : a.eval y = v) (hv : ∃ g n c, v = .slice g n c) (hc : w.cell? ⟨b, 0, none⟩ = some old) (hf : w.frozen? ⟨b, 0, none⟩ = false) : (execOp a.eval o).run Tryz.prog w = .ok .skip (w.setCell ⟨b, 0, none⟩ v) := by
  obtain ⟨g, n, c, rfl⟩ := hv
  unfold execOp
  simp only [ho, hx, hy]
  simp [go_sem, hc, hf]
theorem execLdV1 {x : Operand} {g : Nat} {mv ev pv : Value} {q : Cg} {nx nw : Int} (ho : o.op = .load 29 x) (hx : a.eval x = .pointer (some ⟨g, 11, none⟩)) (h : w.heap[g]? = some (.cells (srC mv q nx nw ev pv) 51)) : (execOp a.eval o).run Tryz.prog w = .ok (.value (.agg (sC nx nw ev))) w := by
  have h := execLoadMid (P := Tryz.prog) (cs := [.int .i64 nx, .int .i64 nw, ev]) ho hx (fun j z hv => by
    rw [cell_of_row _ _ _ _ _ _ h]
    match j, hv with
    | 0, hv => exact hv
    | 1, hv => exact hv
    | 2, hv => exact hv
    | _ + 3, hv => simp at hv) Tryz.underlying29 rfl (by kernel_rfl)
  exact h
end
theorem sizeO4 (e : Int) : (Tryz.prog.info? 44).map (·.size) = some (oZ e).size := by show _ = some 11; kernel_rfl
/-- A server in memory. -/
def live4 (W : World) (v : Value) (nx nw : Int) (n : Nat) (nu : Nat → Int) (ln : Nat → Nat) (t : Nat → Nat → Nat → Nat) : Prop := ∃ g mv q ev pv tw, v = .pointer (some ⟨g, 0, none⟩) ∧ W.heap[g]? = some (.cells (srC mv q nx nw ev pv) 51) ∧ Eps W ev n nu tw ln t ∧ n * 32 ≤ 140737488351232 ∧ ∀ j, j < n → ln j * 16 ≤ 140737488351232
theorem live4_on {W X : World} {v : Value} {nx nw : Int} {n : Nat} {nu : Nat → Int} {ln : Nat → Nat} {t : Nat → Nat → Nat → Nat} (h : live4 W v nx nw n nu ln t) (hb : Below W.heap.size W X) : live4 X v nx nw n nu ln t := by
  obtain ⟨g, mv, q, ev, pv, tw, e, hg, hE, h1, h2⟩ := h
  exact ⟨g, mv, q, ev, pv, tw, e, on9 hg hb, hE.on hb, h1, h2⟩
set_option maxRecDepth 100000 in
set_option maxHeartbeats 4000000 in
/-- Round of a nil server. -/
theorem pround0 (en : Int) (rv tv sv : Value) (V : World) :
    Calls Tryz.prog 11 #[.pointer none, .int .i64 en, rv, tv, sv] V fun e w' => e = .returned (.agg (oZ 210)) ∧ Below V.heap.size V w' := by
  go_enter Tryz.func11, Tryz.ntmps11
  refine wo_ 42 [(0, .pointer none)] ?_
  rintro a A ⟨t0, -⟩
  have BW : Below V.heap.size V V := Below.refl _ _
  have BB := BW
  refine wp_seq ?_
  obtain ⟨g10, egg10⟩ : ∃ z_ : Nat, V.heap.size = z_ := ⟨_, rfl⟩
  refine wi_ A (h1_ t0) (rs_ 0 (fun a ee => ?_))
  refine stepV rfl rfl (execAlO rfl) ⟨.pointer (some ⟨g10, 0, none⟩), ⟨_, rfl, by subst egg10; rfl⟩, fun X0 hX => ?_⟩
  have bQ : Below V.heap.size V X0 := by subst hX egg10; exact (belNew V _)
  have Fg10 : (X0.heap[g10]? = some (.cells (oZ 0) 44)) := by subst hX egg10; exact heapNew V _
  have Fgeg10 : (V.heap.size ≤ g10) := by subst hX egg10; exact (BB).size
  replace BB := BB.trans (bQ.mono BB.size)
  clear bQ hX egg10 ee a
  refine rf_ [(10, .pointer (some ⟨g10, 0, none⟩))] (h1_ t0) ?_
  rintro a A ⟨t10, -⟩ ⟨t0, -⟩
  refine wp_seq ?_
  refine wp_seq ?_
  refine wi_ A (h2_ t0 t10) (rv_ 1 (.bool true) (fun a ee => execPqN rfl (ee _)) (rf_ [(13, .bool true)] (h1_ t10) ?_))
  rintro a A ⟨t13, -⟩ ⟨t10, -⟩
  refine wp_cond_true t13 ?_
  clear t13
  refine wp_seq ?_
  refine wi_ A (h1_ t10) (rv_ 0 (.agg (oZ 210)) (fun a ee => execBdO rfl) (rs_ 1 (fun a ee => ?_)))
  refine stepS rfl rfl (execStO rfl (ee _) (ee _) Fg10) ⟨_, ⟨_, rfl, rfl⟩, fun X2 hX => ?_⟩
  obtain ⟨BB, FOg10⟩ : Below V.heap.size V X2 ∧ (X2.heap[g10]? = some (.cells (oZ 210) 44)) := by subst hX; exact ⟨below4 BB Fgeg10 _, setRow_heap _ _ _ _ _ _ Fg10⟩
  clear Fg10 hX ee a
  refine rf_ [] (h1_ t10) ?_
  rintro a A - ⟨t10, -⟩
  refine wp_ret ?_
  repeat (first | with_reducible refine ret_in ?_ | with_reducible refine ret_then ?_)
  refine bodyPost_ret (results_cell1 Tryz.results11 _ _ g10 44 _ (0, 0) _ t10 FOg10 Tryz.underlying44 rfl (sizeO4 _)) A.2 ⟨rfl, BB⟩
set_option maxRecDepth 100000 in
set_option maxHeartbeats 4000000 in
/-- Finish of a nil server. -/
theorem pfin0 (tv : Value) (V : World) :
    Calls Tryz.prog 12 #[.pointer none, tv] V fun e w' => e = .returned (.agg (oZ 210)) ∧ Below V.heap.size V w' := by
  go_enter Tryz.func12, Tryz.ntmps12
  refine wo_ 20 [(0, .pointer none)] ?_
  rintro a A ⟨t0, -⟩
  have BW : Below V.heap.size V V := Below.refl _ _
  have BB := BW
  refine wp_seq ?_
  obtain ⟨g4, egg4⟩ : ∃ z_ : Nat, V.heap.size = z_ := ⟨_, rfl⟩
  refine wi_ A (h1_ t0) (rs_ 0 (fun a ee => ?_))
  refine stepV rfl rfl (execAlO rfl) ⟨.pointer (some ⟨g4, 0, none⟩), ⟨_, rfl, by subst egg4; rfl⟩, fun X0 hX => ?_⟩
  have bQ : Below V.heap.size V X0 := by subst hX egg4; exact (belNew V _)
  have Fg4 : (X0.heap[g4]? = some (.cells (oZ 0) 44)) := by subst hX egg4; exact heapNew V _
  have Fgeg4 : (V.heap.size ≤ g4) := by subst hX egg4; exact (BB).size
  replace BB := BB.trans (bQ.mono BB.size)
  clear bQ hX egg4 ee a
  refine rf_ [(4, .pointer (some ⟨g4, 0, none⟩))] (h1_ t0) ?_
  rintro a A ⟨t4, -⟩ ⟨t0, -⟩
  refine wp_seq ?_
  refine wp_seq ?_
  refine wi_ A (h2_ t0 t4) (rv_ 1 (.bool true) (fun a ee => execPqN rfl (ee _)) (rf_ [(7, .bool true)] (h1_ t4) ?_))
  rintro a A ⟨t7, -⟩ ⟨t4, -⟩
  refine wp_cond_true t7 ?_
  clear t7
  refine wp_seq ?_
  refine wi_ A (h1_ t4) (rv_ 0 (.agg (oZ 210)) (fun a ee => execBdO rfl) (rs_ 1 (fun a ee => ?_)))
  refine stepS rfl rfl (execStO rfl (ee _) (ee _) Fg4) ⟨_, ⟨_, rfl, rfl⟩, fun X2 hX => ?_⟩
  obtain ⟨BB, FOg4⟩ : Below V.heap.size V X2 ∧ (X2.heap[g4]? = some (.cells (oZ 210) 44)) := by subst hX; exact ⟨below4 BB Fgeg4 _, setRow_heap _ _ _ _ _ _ Fg4⟩
  clear Fg4 hX ee a
  refine rf_ [] (h1_ t4) ?_
  rintro a A - ⟨t4, -⟩
  refine wp_ret ?_
  repeat (first | with_reducible refine ret_in ?_ | with_reducible refine ret_then ?_)
  refine bodyPost_ret (results_cell1 Tryz.results12 _ _ g4 44 _ (0, 0) _ t4 FOg4 Tryz.underlying44 rfl (sizeO4 _)) A.2 ⟨rfl, BB⟩
set_option maxRecDepth 100000 in
set_option maxHeartbeats 4000000 in
/-- State of a nil server. -/
theorem pstate0 (V : World) :
    Calls Tryz.prog 8 #[.pointer none] V fun e w' => e = .returned (.agg (sC 0 0 (.slice none 0 0))) ∧ Below V.heap.size V w' := by
  go_enter Tryz.func8, Tryz.ntmps8
  refine wo_ 11 [(0, .pointer none)] ?_
  rintro a A ⟨t0, -⟩
  have BW : Below V.heap.size V V := Below.refl _ _
  have BB := BW
  refine wp_seq ?_
  obtain ⟨g2, egg2⟩ : ∃ z_ : Nat, V.heap.size = z_ := ⟨_, rfl⟩
  refine wi_ A (h1_ t0) (rs_ 0 (fun a ee => ?_))
  refine stepV rfl rfl (execAlS rfl) ⟨.pointer (some ⟨g2, 0, none⟩), ⟨_, rfl, by subst egg2; rfl⟩, fun X0 hX => ?_⟩
  have bQ : Below V.heap.size V X0 := by subst hX egg2; exact (belNew V _)
  have Fg2 : (X0.heap[g2]? = some (.cells (sC 0 0 (.slice none 0 0)) 29)) := by subst hX egg2; exact heapNew V _
  have FGg2 : (V.heap.size ≤ g2) := by subst hX egg2; exact (BB).size
  replace BB := BB.trans (bQ.mono BB.size)
  clear bQ hX egg2 ee a
  refine rf_ [(2, .pointer (some ⟨g2, 0, none⟩))] (h1_ t0) ?_
  rintro a A ⟨t2, -⟩ ⟨t0, -⟩
  refine wp_seq ?_
  refine wp_seq ?_
  refine wi_ A (h2_ t0 t2) (rv_ 1 (.bool true) (fun a ee => execPqN rfl (ee _)) (rf_ [(4, .bool true)] (h1_ t2) ?_))
  rintro a A ⟨t4, -⟩ ⟨t2, -⟩
  refine wp_cond_true t4 ?_
  clear t4
  refine wp_seq ?_
  refine wi_ A (h1_ t2) (rv_ 0 (.agg (sC 0 0 (.slice none 0 0))) (fun a ee => execBdS rfl) (rs_ 1 (fun a ee => ?_)))
  refine stepS rfl rfl (execStS rfl (ee _) (ee _) Fg2 sl_nil) ⟨_, ⟨_, rfl, rfl⟩, fun X2 hX => ?_⟩
  obtain ⟨BB, Fs⟩ : Below V.heap.size V X2 ∧ (X2.heap[g2]? = some (.cells (sC 0 0 (.slice none 0 0)) 29)) := by subst hX; exact ⟨below4 BB FGg2 _, setRow_heap _ _ _ _ _ _ Fg2⟩
  clear Fg2 hX ee a
  refine rf_ [] (h1_ t2) ?_
  rintro a A - ⟨t2, -⟩
  refine wp_ret ?_
  repeat (first | with_reducible refine ret_in ?_ | with_reducible refine ret_then ?_)
  refine bodyPost_ret (results_cell1 Tryz.results8 _ _ g2 29 _ (0, 0) _ t2 Fs Tryz.underlying29 rfl (sizeS4 _ _ _)) A.2 ⟨rfl, BB⟩
set_option maxRecDepth 100000 in
set_option maxHeartbeats 4000000 in
/-- Put of a nil server. -/
theorem pput0 (pv : Value) (V : World) :
    Calls Tryz.prog 10 #[.pointer none, pv] V fun e w' => e = .returned (.tuple #[]) ∧ Below V.heap.size V w' := by
  go_enter Tryz.func10, Tryz.ntmps10
  refine wo_ 25 [(0, .pointer none)] ?_
  rintro a A ⟨t0, -⟩
  have BW : Below V.heap.size V V := Below.refl _ _
  have BB := BW
  refine wp_seq ?_
  refine wp_seq ?_
  refine wi_ A (h1_ t0) (rv_ 1 (.bool true) (fun a ee => execPqN rfl (ee _)) (rg_ [(5, .bool true)] ?_))
  rintro a A ⟨t5, -⟩
  refine wp_cond_true t5 ?_
  refine wp_ret ?_
  repeat (first | with_reducible refine ret_in ?_ | with_reducible refine ret_then ?_)
  exact bodyPost_ret (results_none rfl _ _ _) A.2 ⟨rfl, BB⟩
set_option maxRecDepth 100000 in
set_option maxHeartbeats 4000000 in
/-- State of a server. -/
theorem pstate {v : Value} {nx nw : Int} {n : Nat} {nu : Nat → Int} {ln : Nat → Nat} {t : Nat → Nat → Nat → Nat} (V : World) (h : live4 V v nx nw n nu ln t) :
    Calls Tryz.prog 8 #[v] V fun e w' => (∃ fv uw tt, e = .returned (.agg (sC nx nw fv)) ∧ Eps w' fv n nu uw ln tt ∧ ∀ j, j < n → ∀ k, k < ln j → ∀ i, i < 16 → tt j k i = t j k i) ∧ Below V.heap.size V w' := by
  obtain ⟨g, mv, q, ev, pv, tw, rfl, hg, hE, hn, hl⟩ := h
  go_enter Tryz.func8, Tryz.ntmps8
  refine wo_ 11 [(0, .pointer (some ⟨g, 0, none⟩))] ?_
  rintro a A ⟨t0, -⟩
  have BW : Below V.heap.size V V := Below.refl _ _
  have BB := BW
  refine wp_seq ?_
  obtain ⟨g2, egg2⟩ : ∃ z_ : Nat, V.heap.size = z_ := ⟨_, rfl⟩
  refine wi_ A (h1_ t0) (rs_ 0 (fun a ee => ?_))
  refine stepV rfl rfl (execAlS rfl) ⟨.pointer (some ⟨g2, 0, none⟩), ⟨_, rfl, by subst egg2; rfl⟩, fun X0 hX => ?_⟩
  have bQ : Below V.heap.size V X0 := by subst hX egg2; exact (belNew V _)
  have Fg2 : (X0.heap[g2]? = some (.cells (sC 0 0 (.slice none 0 0)) 29)) := by subst hX egg2; exact heapNew V _
  have FGg2 : (V.heap.size ≤ g2) := by subst hX egg2; exact (BB).size
  replace BB := BB.trans (bQ.mono BB.size)
  clear bQ hX egg2 ee a
  refine rf_ [(2, .pointer (some ⟨g2, 0, none⟩))] (h1_ t0) ?_
  rintro a A ⟨t2, -⟩ ⟨t0, -⟩
  refine wp_seq ?_
  refine wp_seq ?_
  refine wi_ A (h2_ t0 t2) (rv_ 1 (.bool false) (fun a ee => execPqS rfl (ee _)) (rf_ [(4, .bool false)] (h2_ t0 t2) ?_))
  rintro a A ⟨t4, -⟩ ⟨t0, t2, -⟩
  refine wp_cond_false t4 ?_
  refine wp_skip ?_
  clear t4
  refine wp_seq ?_
  refine wi_ A (h2_ t0 t2) (rv_ 1 (.pointer (some ⟨g, 0, none⟩)) (fun a ee => execNlS rfl (ee _)) (rv_ 2 (.pointer (some ⟨g, 11, none⟩)) (fun a ee => execFv1 rfl (ee _)) (rv_ 3 (.agg (sC nx nw ev)) (fun a ee => execLdV1 rfl (ee _) (on9 hg BB)) (rc_ 4 (pcopyS nx nw ev n nu tw ln t X0 (hE.on BB) hn hl) fun e X3_1 hh => ?_))))
  obtain ⟨⟨v10, he, hk⟩, hb⟩ := hh
  refine ⟨_, he, ?_⟩
  have bQ : Below X0.heap.size X0 X3_1 := hb
  have FEp : (Cpx V.heap.size X3_1 v10 n n nu tw ln t) := hk.base (BB).size
  replace Fg2 := (on9 Fg2 bQ)
  replace BB := BB.trans (bQ.mono BB.size)
  clear bQ
  refine rs_ 5 (fun a ee => ?_)
  refine stepS rfl rfl (execStS rfl (ee _) (ee _) Fg2 FEp.shp) ⟨_, ⟨_, rfl, rfl⟩, fun X3 hX => ?_⟩
  obtain ⟨BB, FEp, Fs⟩ : Below V.heap.size V X3 ∧ (Cpx V.heap.size X3 v10 n n nu tw ln t) ∧ (X3.heap[g2]? = some (.cells (sC nx nw v10) 29)) := by subst hX; exact ⟨below4 BB FGg2 _, ((FEp).setR Fg2 (by decide) (by decide)), setRow_heap _ _ _ _ _ _ Fg2⟩
  clear Fg2 hX ee a
  refine rf_ [] (h1_ t2) ?_
  rintro a A - ⟨t2, -⟩
  obtain ⟨uw, FQ⟩ := FEp.eps (fun j hj => (hE.lists j hj).byt) hE.nums
  refine wp_ret ?_
  refine bodyPost_ret (results_cell1 Tryz.results8 _ _ g2 29 _ (0, 0) _ t2 Fs Tryz.underlying29 rfl (sizeS4 _ _ _)) A.2 ⟨⟨v10, uw, t, rfl, FQ, fun _ _ _ _ _ _ => rfl⟩, BB⟩
set_option maxRecDepth 100000 in
set_option maxHeartbeats 4000000 in
/-- Load. -/
theorem pload (mv : Value) (m : Nat) (f : Nat → Nat) (q : Cg) (nx nw : Int) (ev : Value) (n : Nat) (nu : Nat → Int) (tw : Nat → Value) (ln : Nat → Nat) (t : Nat → Nat → Nat → Nat) (V : World) (hmS : SliceN V mv m f) (hm8 : m ≤ 140737488351232) (hW : Wd V nw ev n nu tw ln t) :
    Calls Tryz.prog 5 #[.agg (cfC mv q), .agg (sC nx nw ev)] V fun e w' => (∃ v, e = .returned (.tuple #[v, .int .i64 ((ckE m q nx (nw, esL n nu ln t) : Nat) : Int)]) ∧ (ckE m q nx (nw, esL n nu ln t) ≠ 0 → v = .pointer none) ∧ (ckE m q nx (nw, esL n nu ln t) = 0 → (∃ g, v = .pointer (some g)) ∧ live4 w' v nx nw n nu ln t)) ∧ Below V.heap.size V w' := by
  have hev : ∃ g n c, ev = .slice g n c := by obtain ⟨g, c, e, _⟩ := hW.eps.shape; exact ⟨g, n, c, e⟩
  have hm : ∃ g n c, mv = .slice g n c := by obtain ⟨g, c, e, _⟩ := hmS.shape; exact ⟨g, m, c, e⟩
  have hmv : ∃ ao c, mv = .slice ao m c := by obtain ⟨g, c, e, _⟩ := hmS.shape; exact ⟨g, c, e⟩
  have hn := hW.n32
  have hl := hW.ln16
  go_enter Tryz.func5, Tryz.ntmps5
  refine wo_ 22 [(0, .agg (cfC mv q)), (1, .agg (sC nx nw ev))] ?_
  rintro a A ⟨t0, t1, -⟩
  have BW : Below V.heap.size V V := Below.refl _ _
  have BB := BW
  refine wp_seq ?_
  obtain ⟨g2, egg2⟩ : ∃ z_ : Nat, V.heap.size = z_ := ⟨_, rfl⟩
  refine wi_ A (h2_ t0 t1) (rs_ 0 (fun a ee => ?_))
  refine stepV rfl rfl (execBxC hm rfl (ee _)) ⟨.pointer (some ⟨g2, 0, none⟩), ⟨_, rfl, by subst egg2; rfl⟩, fun X0_1 hX => ?_⟩
  have bQ : Below V.heap.size V X0_1 := by subst hX egg2; exact (belNew V _)
  have Fg2 : (X0_1.heap[g2]? = some (.cells (cfC mv q) 24)) := by subst hX egg2; exact heapNew V _
  have FGg2 : (V.heap.size ≤ g2) := by subst hX egg2; exact (BB).size
  replace BB := BB.trans (bQ.mono BB.size)
  clear bQ hX egg2 ee a
  obtain ⟨g3, egg3⟩ : ∃ z_ : Nat, X0_1.heap.size = z_ := ⟨_, rfl⟩
  refine rs_ 1 (fun a ee => ?_)
  refine stepV rfl rfl (execBxS hev rfl (ee _)) ⟨.pointer (some ⟨g3, 0, none⟩), ⟨_, rfl, by subst egg3; rfl⟩, fun X0 hX => ?_⟩
  have bQ : Below X0_1.heap.size X0_1 X0 := by subst hX egg3; exact (belNew X0_1 _)
  have Fg3 : (X0.heap[g3]? = some (.cells (sC nx nw ev) 29)) := by subst hX egg3; exact heapNew X0_1 _
  have FN : (g2 ≠ g3) := by subst hX egg3; exact Nat.ne_of_lt (Array.getElem?_eq_some_iff.1 Fg2).1
  replace Fg2 := (on9 Fg2 bQ)
  replace BB := BB.trans (bQ.mono BB.size)
  clear bQ hX egg3 ee a
  refine rg_ [(2, .pointer (some ⟨g2, 0, none⟩)), (3, .pointer (some ⟨g3, 0, none⟩))] ?_
  rintro a A ⟨t2, t3, -⟩
  refine wp_seq ?_
  refine wp_seq ?_
  refine wi_ A (h2_ t2 t3) (rv_ 0 (.agg (cfC mv q)) (fun a ee => execLdC rfl (ee _) Fg2) (rv_ 1 (.agg (sC nx nw ev)) (fun a ee => execLdS rfl (ee _) Fg3) (rc_ 2 (pcheck21 mv m q nx nw ev n nu tw ln t X0 (hW.on BB) hm hmv) (cb_ fun X1 bQ => ?_))))
  replace Fg2 := (on9 Fg2 bQ)
  replace Fg3 := (on9 Fg3 bQ)
  replace BB := BB.trans (bQ.mono BB.size)
  clear bQ
  refine rf_ [(6, .int .i64 ((ckE m q nx (nw, esL n nu ln t) : Nat) : Int))] (h2_ t2 t3) ?_
  rintro a A ⟨t6, -⟩ ⟨t2, t3, -⟩
  by_cases hQ : ckE m q nx (nw, esL n nu ln t) = 0
  · refine wp_seq ?_
    refine wi_ A (h3_ t2 t3 t6) (rv_ 1 (.bool false) (fun a ee => execDec (execNeE (p := ckE m q nx (nw, esL n nu ln t)) (q := 0) rfl (ee _) rfl) (decide_eq_false (fun z_ => z_ hQ))) (rf_ [(11, .bool false)] (h2_ t2 t3) ?_))
    rintro a A ⟨t11, -⟩ ⟨t2, t3, -⟩
    refine wp_cond_false t11 ?_
    refine wp_skip ?_
    clear t11
    refine wp_seq ?_
    refine wi_ A (h2_ t2 t3) (rv_ 0 (.pointer (some ⟨g2, 0, none⟩)) (fun a ee => execFC0 rfl (ee _)) (rv_ 1 (mv) (fun a ee => execL1 rfl (Or.inr (Or.inr rfl)) (ee _) (row_1 Fg2 rfl)) (rc_ 2 (pcloneB mv m f X1 (hmS.on BB) (by omega)) fun e X4_1 hh => ?_)))
    obtain ⟨⟨v15, he, hk⟩, hb⟩ := hh
    refine ⟨_, he, ?_⟩
    have bQ : Below X1.heap.size X1 X4_1 := hb
    have FR : (X4_1.ownsRow V.heap.size 5 1 v15 m (bytesL m f)) := ownE_base hk (BB).size
    replace Fg2 := (on9 Fg2 bQ)
    replace Fg3 := (on9 Fg3 bQ)
    replace BB := BB.trans (bQ.mono BB.size)
    clear bQ
    refine rv_ 3 (.pointer (some ⟨g2, 0, none⟩)) (fun a ee => execFC0 rfl (ee _)) (rs_ 4 (fun a ee => ?_))
    refine stepS rfl rfl (execStM rfl (ee _) (ee _) (ownE_shp FR) (row_1 Fg2 rfl) (frozen4 Fg2)) ⟨_, ⟨_, rfl, rfl⟩, fun X4 hX => ?_⟩
    obtain ⟨BB, Fg3, FR, FSt⟩ : Below V.heap.size V X4 ∧ (X4.heap[g3]? = some (.cells (sC nx nw ev) 29)) ∧ (X4.ownsRow V.heap.size 5 1 v15 m (bytesL m f)) ∧ (X4.heap[g2]? = some (.cells (cfC v15 q) 24)) := by subst hX; exact ⟨(BB).setCell FGg2 _, ((heap4o _ Fg2 (fun e_ => FN e_.symm)).trans Fg3), ownE_setC FR Fg2 (by decide), heap4 _ Fg2⟩
    clear Fg2 hX ee a
    refine rf_ [] (h2_ t2 t3) ?_
    rintro a A - ⟨t2, t3, -⟩
    have hv15 := ownE_shp FR
    clear FR
    refine wp_seq ?_
    refine wj_ [0, 1, 2, 3, 4, 5, 6] [2, 4] [0, 1] [] A (h2_ t2 t3) (fun X5_0 bD => ?_)
    refine dv_ 0 (.agg (cfC v15 q)) (fun a X ee hb => execLdC rfl (ee _) (on9 FSt hb)) (dv_ 1 (.agg (sC nx nw ev)) (fun a X ee hb => execLdS rfl (ee _) (on9 Fg3 hb)) (dc_ 2 (pcopyS nx nw ev n nu tw ln t X5_0 (hW.eps.on (BB.trans (bD.mono BB.size))) hn hl) fun e X5_1 hh => ?_))
    obtain ⟨⟨v19, he, hk⟩, hb⟩ := hh
    refine ⟨_, he, ?_⟩
    have bQ : Below X5_0.heap.size X5_0 X5_1 := hb
    have FEp : (Cpx V.heap.size X5_1 v19 n n nu tw ln t) := hk.base ((BB.trans (bD.mono BB.size))).size
    replace bD := bD.trans (bQ.mono bD.size)
    clear bQ
    refine ⟨Or.inr bD, ?_⟩
    obtain ⟨g21, egg21⟩ : ∃ z_ : Nat, X5_1.heap.size = z_ := ⟨_, rfl⟩
    refine dw_ 3 (.agg (srC v15 q nx nw v19 (.slice none 0 0))) (fun a X ee => execBdV rfl (ee _) (ee _)) (ds_ 4 (fun a ee => ?_))
    refine stepV rfl rfl (execBxV rfl (ee _) hv15 FEp.shp sl_nil) ⟨.pointer (some ⟨g21, 0, none⟩), ⟨_, rfl, by subst egg21; rfl⟩, fun X5 hX => ?_⟩
    have bQ : Below X5_1.heap.size X5_1 X5 := by subst hX egg21; exact (belNew X5_1 _)
    have FV : (X5.heap[g21]? = some (.cells (srC v15 q nx nw v19 (.slice none 0 0)) 51)) := by subst hX egg21; exact heapNew X5_1 _
    replace FEp := (FEp.on bQ)
    replace bD := bD.trans (bQ.mono bD.size)
    clear bQ hX egg21 ee a
    refine ⟨Or.inr bD, ?_⟩
    refine dy_ [(4, .pointer (some ⟨g21, 0, none⟩)), (5, .int .i64 ((0 : Nat) : Int))] ?_
    rintro a A ⟨t4, t5, -⟩
    replace Fg3 := (on9 Fg3 bD)
    replace FSt := (on9 FSt bD)
    replace BB := BB.trans (bD.mono BB.size)
    clear bD
    obtain ⟨uw, FQ⟩ := FEp.eps (fun j hj => (hW.eps.lists j hj).byt) hW.eps.nums
    refine wp_ret ?_
    refine bodyPost_ret (results_tmp2 rfl _ _ _) A.2 ⟨⟨_, ?_, fun e_ => absurd hQ e_, fun _ => ⟨⟨_, rfl⟩, g21, _, _, _, _, uw, rfl, FV, FQ, hn, hl⟩⟩, BB⟩
    show Ending.returned (.tuple #[a.eval (.tmp 4), a.eval (.tmp 5)]) = _
    rw [t4, t5]
    rw [hQ]
  · refine wp_seq ?_
    refine wi_ A (h3_ t2 t3 t6) (rv_ 1 (.bool true) (fun a ee => execDec (execNeE (p := ckE m q nx (nw, esL n nu ln t)) (q := 0) rfl (ee _) rfl) (decide_eq_true hQ)) (rf_ [(11, .bool true)] (h1_ t6) ?_))
    rintro a A ⟨t11, -⟩ ⟨t6, -⟩
    refine wp_cond_true t11 ?_
    clear t11
    refine wp_seq ?_
    refine wi_ A (h1_ t6) (rg_ [(4, .pointer none), (5, .int .i64 ((ckE m q nx (nw, esL n nu ln t) : Nat) : Int))] ?_)
    rintro a A ⟨t4, t5, -⟩
    refine wp_ret ?_
    repeat (first | with_reducible refine ret_in ?_ | with_reducible refine ret_then ?_)
    refine bodyPost_ret (results_tmp2 rfl _ _ _) A.2 ⟨⟨_, ?_, fun _ => rfl, fun e_ => absurd e_ hQ⟩, BB⟩
    show Ending.returned (.tuple #[a.eval (.tmp 4), a.eval (.tmp 5)]) = _
    rw [t4, t5]
set_option maxRecDepth 100000 in
set_option maxHeartbeats 4000000 in
/-- New. -/
theorem pnew (mv : Value) (m : Nat) (f : Nat → Nat) (q : Cg) (V : World) (hmS : SliceN V mv m f) (hm8 : m ≤ 140737488351232) :
    Calls Tryz.prog 9 #[.agg (cfC mv q)] V fun e w' => (∃ v, e = .returned (.tuple #[v, .int .i64 ((ckE m q 0 (0, esL 0 (fun _ => 0) (fun _ => 0) (fun _ _ _ => 0)) : Nat) : Int)]) ∧ (ckE m q 0 (0, esL 0 (fun _ => 0) (fun _ => 0) (fun _ _ _ => 0)) ≠ 0 → v = .pointer none) ∧ (ckE m q 0 (0, esL 0 (fun _ => 0) (fun _ => 0) (fun _ _ _ => 0)) = 0 → (∃ g, v = .pointer (some g)) ∧ live4 w' v 0 0 0 (fun _ => 0) (fun _ => 0) (fun _ _ _ => 0))) ∧ Below V.heap.size V w' := by
  have hm : ∃ g n c, mv = .slice g n c := by obtain ⟨g, c, e, _⟩ := hmS.shape; exact ⟨g, m, c, e⟩
  go_enter Tryz.func9, Tryz.ntmps9
  refine wo_ 9 [(0, .agg (cfC mv q))] ?_
  rintro a A ⟨t0, -⟩
  have BW : Below V.heap.size V V := Below.refl _ _
  have BB := BW
  refine wp_seq ?_
  obtain ⟨g1, egg1⟩ : ∃ z_ : Nat, V.heap.size = z_ := ⟨_, rfl⟩
  refine wi_ A (h1_ t0) (rs_ 0 (fun a ee => ?_))
  refine stepV rfl rfl (execBxC hm rfl (ee _)) ⟨.pointer (some ⟨g1, 0, none⟩), ⟨_, rfl, by subst egg1; rfl⟩, fun X0 hX => ?_⟩
  have bQ : Below V.heap.size V X0 := by subst hX egg1; exact (belNew V _)
  have Fg1 : (X0.heap[g1]? = some (.cells (cfC mv q) 24)) := by subst hX egg1; exact heapNew V _
  replace BB := BB.trans (bQ.mono BB.size)
  clear bQ hX egg1 ee a
  refine rg_ [(1, .pointer (some ⟨g1, 0, none⟩))] ?_
  rintro a A ⟨t1, -⟩
  refine wp_seq ?_
  refine wi_ A (h1_ t1) (rv_ 0 (.agg (cfC mv q)) (fun a ee => execLdC rfl (ee _) Fg1) (rv_ 1 (.agg (sC 0 0 (.slice none 0 0))) (fun a ee => execBdS rfl) (rc_ 2 (pload mv m f q 0 0 (.slice none 0 0) 0 (fun _ => 0) (fun _ => undef) (fun _ => 0) (fun _ _ _ => 0) X0 (hmS.on BB) hm8 (wd0 X0)) fun e X1 hh => ?_)))
  obtain ⟨⟨v6, he, hk, hl_⟩, hb⟩ := hh
  refine ⟨_, he, ?_⟩
  have bQ : Below X0.heap.size X0 X1 := hb
  have FK : (((ckE m q 0 (0, esL 0 (fun _ => 0) (fun _ => 0) (fun _ _ _ => 0)) ≠ 0 → v6 = .pointer none) ∧ (ckE m q 0 (0, esL 0 (fun _ => 0) (fun _ => 0) (fun _ _ _ => 0)) = 0 → (∃ g, v6 = .pointer (some g)) ∧ live4 X1 v6 0 0 0 (fun _ => 0) (fun _ => 0) (fun _ _ _ => 0)))) := ⟨hk, hl_⟩
  replace Fg1 := (on9 Fg1 bQ)
  replace BB := BB.trans (bQ.mono BB.size)
  clear bQ
  refine rg_ [(2, v6), (3, .int .i64 ((ckE m q 0 (0, esL 0 (fun _ => 0) (fun _ => 0) (fun _ _ _ => 0)) : Nat) : Int))] ?_
  rintro a A ⟨t2, t3, -⟩
  refine wp_ret ?_
  refine bodyPost_ret (results_tmp2 rfl _ _ _) A.2 ⟨⟨v6, ?_, FK.1, FK.2⟩, BB⟩
  show Ending.returned (.tuple #[a.eval (.tmp 2), a.eval (.tmp 3)]) = _
  rw [t2, t3]
/-- The landed package, of nil servers. -/
def impl : Impl where
  live := live4
  on := live4_on
  round := fun en rv tv sv V _ _ _ => pround0 en rv tv sv V
  put := fun pv V _ => pput0 pv V
  finish := fun tv V _ => pfin0 tv V
  state0 := pstate0
/-- .. and with what makes them. -/
def implM : ImplM where
  toImpl := impl
  load := fun mv m f q nx nw ev n nu tw ln t V h1 h2 _ _ h3 => pload mv m f q nx nw ev n nu tw ln t V h1 h2 h3
  new := fun mv m f q V h1 h2 _ => pnew mv m f q V h1 h2
  state := fun V h => pstate V h
end Go.Proofs.YtepdejnholphcaaGreat.Srv
