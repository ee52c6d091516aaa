import Derived.Test.YtghnhfigihnciaaGreatY8g
namespace Go.Proofs.YtghnhfigihnciaaGreat.Srv
open Go.RowKit Gf8 Aes By8 Cel Cf Win Rnd
/- The landed server: a nil one; Load, New, State. Written by tools/mkY8h.py. -/

/-- A server's cells. -/
def srC (mv : Value) (q : Cg) (nx nw : Int) (ev pv : Value) : Array Value := #[mv, .int .i64 q.l, .int .i64 q.s, .int .i64 q.r, .int .i64 q.u, .int .i64 q.d, .int .i64 q.o, .int .i64 q.c, .int .i64 q.w, .int .i64 q.k, .int .i64 q.h, .int .i64 nx, .int .i64 nw, ev, pv]
section
variable {o : Oper} {a : Act} {w : World}
theorem execPqN {x : Operand} (ho : o.op = .binOp .eql 24 x (.const (.pointer none)) 24) (hx : a.eval x = .pointer none) : (execOp a.eval o).run Tryz.prog w = .ok (.value (.bool true)) w := by
  unfold execOp
  simp only [ho, hx]
  simp [go_sem]
theorem execBdO (ho : o.op = .build 42 #[(3, .const (.int .i64 210))]) : (execOp a.eval o).run Tryz.prog w = .ok (.value (.agg (oZ 210))) w := by
  unfold execOp
  simp only [ho, List.map_toArray, List.map_cons, List.map_nil]
  simp [go_sem, oZ]
end
theorem sizeO4 (e : Int) : (Tryz.prog.info? 42).map (·.size) = some (oZ e).size := by show _ = some 11; kernel_rfl
/-- A server in memory. -/
def live4 (W : World) (v : Value) (nx nw : Int) (n : Nat) (nu : Nat → Int) (ln : Nat → Nat) (t : Nat → Nat → Nat → Nat) : Prop := ∃ g mv q ev pv tw, v = .pointer (some ⟨g, 0, none⟩) ∧ W.heap[g]? = some (.cells (srC mv q nx nw ev pv) 56) ∧ Eps W ev n nu tw ln t ∧ n * 32 ≤ 140737488351232 ∧ ∀ j, j < n → ln j * 16 ≤ 140737488351232
theorem live4_on {W X : World} {v : Value} {nx nw : Int} {n : Nat} {nu : Nat → Int} {ln : Nat → Nat} {t : Nat → Nat → Nat → Nat} (h : live4 W v nx nw n nu ln t) (hb : Below W.heap.size W X) : live4 X v nx nw n nu ln t := by
  obtain ⟨g, mv, q, ev, pv, tw, e, hg, hE, h1, h2⟩ := h
  exact ⟨g, mv, q, ev, pv, tw, e, on9 hg hb, hE.on hb, h1, h2⟩
set_option maxRecDepth 100000 in
set_option maxHeartbeats 4000000 in
/-- Round of a nil server. -/
theorem pround0 (en : Int) (rv tv sv : Value) (V : World) :
    Calls Tryz.prog 7 #[.pointer none, .int .i64 en, rv, tv, sv] V fun e w' => e = .returned (.agg (oZ 210)) ∧ Below V.heap.size V w' := by
  go_enter Tryz.func7, Tryz.ntmps7
  refine wo_ 42 [(0, .pointer none)] ?_
  rintro a A ⟨t0, -⟩
  have BW : Below V.heap.size V V := Below.refl _ _
  have BB := BW
  refine wp_seq ?_
  obtain ⟨g10, egg10⟩ : ∃ z_ : Nat, V.heap.size = z_ := ⟨_, rfl⟩
  refine wi_ A (h1_ t0) (rs_ 0 (fun a ee => ?_))
  refine stepV rfl rfl (execAlO rfl) ⟨.pointer (some ⟨g10, 0, none⟩), ⟨_, rfl, by subst egg10; rfl⟩, fun X0 hX => ?_⟩
  have bQ : Below V.heap.size V X0 := by subst hX egg10; exact (belNew V _)
  have Fg10 : (X0.heap[g10]? = some (.cells (oZ 0) 42)) := by subst hX egg10; exact heapNew V _
  have Fgeg10 : (V.heap.size ≤ g10) := by subst hX egg10; exact (BB).size
  replace BB := BB.trans (bQ.mono BB.size)
  clear bQ hX egg10 ee a
  refine rf_ [(10, .pointer (some ⟨g10, 0, none⟩))] (h1_ t0) ?_
  rintro a A ⟨t10, -⟩ ⟨t0, -⟩
  refine wp_seq ?_
  refine wp_seq ?_
  refine wi_ A (h2_ t0 t10) (rv_ 1 (.bool true) (fun a ee => execPqN rfl (ee _)) (rf_ [(13, .bool true)] (h1_ t10) ?_))
  rintro a A ⟨t13, -⟩ ⟨t10, -⟩
  refine wp_cond_true t13 ?_
  clear t13
  refine wp_seq ?_
  refine wi_ A (h1_ t10) (rv_ 0 (.agg (oZ 210)) (fun a ee => execBdO rfl) (rs_ 1 (fun a ee => ?_)))
  refine stepS rfl rfl (execStO rfl (ee _) (ee _) Fg10) ⟨_, ⟨_, rfl, rfl⟩, fun X2 hX => ?_⟩
  obtain ⟨BB, FOg10⟩ : Below V.heap.size V X2 ∧ (X2.heap[g10]? = some (.cells (oZ 210) 42)) := by subst hX; exact ⟨below4 BB Fgeg10 _, setRow_heap _ _ _ _ _ _ Fg10⟩
  clear Fg10 hX ee a
  refine rf_ [] (h1_ t10) ?_
  rintro a A - ⟨t10, -⟩
  refine wp_ret ?_
  repeat (first | with_reducible refine ret_in ?_ | with_reducible refine ret_then ?_)
  refine bodyPost_ret (results_cell1 Tryz.results7 _ _ g10 42 _ (0, 0) _ t10 FOg10 Tryz.underlying42 rfl (sizeO4 _)) A.2 ⟨rfl, BB⟩
set_option maxRecDepth 100000 in
set_option maxHeartbeats 4000000 in
/-- Finish of a nil server. -/
theorem pfin0 (tv : Value) (V : World) :
    Calls Tryz.prog 8 #[.pointer none, tv] V fun e w' => e = .returned (.agg (oZ 210)) ∧ Below V.heap.size V w' := by
  go_enter Tryz.func8, Tryz.ntmps8
  refine wo_ 20 [(0, .pointer none)] ?_
  rintro a A ⟨t0, -⟩
  have BW : Below V.heap.size V V := Below.refl _ _
  have BB := BW
  refine wp_seq ?_
  obtain ⟨g4, egg4⟩ : ∃ z_ : Nat, V.heap.size = z_ := ⟨_, rfl⟩
  refine wi_ A (h1_ t0) (rs_ 0 (fun a ee => ?_))
  refine stepV rfl rfl (execAlO rfl) ⟨.pointer (some ⟨g4, 0, none⟩), ⟨_, rfl, by subst egg4; rfl⟩, fun X0 hX => ?_⟩
  have bQ : Below V.heap.size V X0 := by subst hX egg4; exact (belNew V _)
  have Fg4 : (X0.heap[g4]? = some (.cells (oZ 0) 42)) := by subst hX egg4; exact heapNew V _
  have Fgeg4 : (V.heap.size ≤ g4) := by subst hX egg4; exact (BB).size
  replace BB := BB.trans (bQ.mono BB.size)
  clear bQ hX egg4 ee a
  refine rf_ [(4, .pointer (some ⟨g4, 0, none⟩))] (h1_ t0) ?_
  rintro a A ⟨t4, -⟩ ⟨t0, -⟩
  refine wp_seq ?_
  refine wp_seq ?_
  refine wi_ A (h2_ t0 t4) (rv_ 1 (.bool true) (fun a ee => execPqN rfl (ee _)) (rf_ [(7, .bool true)] (h1_ t4) ?_))
  rintro a A ⟨t7, -⟩ ⟨t4, -⟩
  refine wp_cond_true t7 ?_
  clear t7
  refine wp_seq ?_
  refine wi_ A (h1_ t4) (rv_ 0 (.agg (oZ 210)) (fun a ee => execBdO rfl) (rs_ 1 (fun a ee => ?_)))
  refine stepS rfl rfl (execStO rfl (ee _) (ee _) Fg4) ⟨_, ⟨_, rfl, rfl⟩, fun X2 hX => ?_⟩
  obtain ⟨BB, FOg4⟩ : Below V.heap.size V X2 ∧ (X2.heap[g4]? = some (.cells (oZ 210) 42)) := by subst hX; exact ⟨below4 BB Fgeg4 _, setRow_heap _ _ _ _ _ _ Fg4⟩
  clear Fg4 hX ee a
  refine rf_ [] (h1_ t4) ?_
  rintro a A - ⟨t4, -⟩
  refine wp_ret ?_
  repeat (first | with_reducible refine ret_in ?_ | with_reducible refine ret_then ?_)
  refine bodyPost_ret (results_cell1 Tryz.results8 _ _ g4 42 _ (0, 0) _ t4 FOg4 Tryz.underlying42 rfl (sizeO4 _)) A.2 ⟨rfl, BB⟩
set_option maxRecDepth 100000 in
set_option maxHeartbeats 4000000 in
/-- State of a nil server. -/
theorem pstate0 (V : World) :
    Calls Tryz.prog 9 #[.pointer none] V fun e w' => e = .returned (.agg (sC 0 0 (.slice none 0 0))) ∧ Below V.heap.size V w' := by
  go_enter Tryz.func9, Tryz.ntmps9
  refine wo_ 11 [(0, .pointer none)] ?_
  rintro a A ⟨t0, -⟩
  have BW : Below V.heap.size V V := Below.refl _ _
  have BB := BW
  refine wp_seq ?_
  obtain ⟨g2, egg2⟩ : ∃ z_ : Nat, V.heap.size = z_ := ⟨_, rfl⟩
  refine wi_ A (h1_ t0) (rs_ 0 (fun a ee => ?_))
  refine stepV rfl rfl (execAlS rfl) ⟨.pointer (some ⟨g2, 0, none⟩), ⟨_, rfl, by subst egg2; rfl⟩, fun X0 hX => ?_⟩
  have bQ : Below V.heap.size V X0 := by subst hX egg2; exact (belNew V _)
  have Fg2 : (X0.heap[g2]? = some (.cells (sC 0 0 (.slice none 0 0)) 33)) := by subst hX egg2; exact heapNew V _
  have FGg2 : (V.heap.size ≤ g2) := by subst hX egg2; exact (BB).size
  replace BB := BB.trans (bQ.mono BB.size)
  clear bQ hX egg2 ee a
  refine rf_ [(2, .pointer (some ⟨g2, 0, none⟩))] (h1_ t0) ?_
  rintro a A ⟨t2, -⟩ ⟨t0, -⟩
  refine wp_seq ?_
  refine wp_seq ?_
  refine wi_ A (h2_ t0 t2) (rv_ 1 (.bool true) (fun a ee => execPqN rfl (ee _)) (rf_ [(4, .bool true)] (h1_ t2) ?_))
  rintro a A ⟨t4, -⟩ ⟨t2, -⟩
  refine wp_cond_true t4 ?_
  clear t4
  refine wp_seq ?_
  refine wi_ A (h1_ t2) (rv_ 0 (.agg (sC 0 0 (.slice none 0 0))) (fun a ee => execBdS rfl) (rs_ 1 (fun a ee => ?_)))
  refine stepS rfl rfl (execStS rfl (ee _) (ee _) Fg2 sl_nil) ⟨_, ⟨_, rfl, rfl⟩, fun X2 hX => ?_⟩
  obtain ⟨BB, Fs⟩ : Below V.heap.size V X2 ∧ (X2.heap[g2]? = some (.cells (sC 0 0 (.slice none 0 0)) 33)) := by subst hX; exact ⟨below4 BB FGg2 _, setRow_heap _ _ _ _ _ _ Fg2⟩
  clear Fg2 hX ee a
  refine rf_ [] (h1_ t2) ?_
  rintro a A - ⟨t2, -⟩
  refine wp_ret ?_
  repeat (first | with_reducible refine ret_in ?_ | with_reducible refine ret_then ?_)
  refine bodyPost_ret (results_cell1 Tryz.results9 _ _ g2 33 _ (0, 0) _ t2 Fs Tryz.underlying33 rfl (sizeS4 _ _ _)) A.2 ⟨rfl, BB⟩
set_option maxRecDepth 100000 in
set_option maxHeartbeats 4000000 in
/-- Put of a nil server. -/
theorem pput0 (pv : Value) (V : World) :
    Calls Tryz.prog 6 #[.pointer none, pv] V fun e w' => e = .returned (.tuple #[]) ∧ Below V.heap.size V w' := by
  go_enter Tryz.func6, Tryz.ntmps6
  refine wo_ 25 [(0, .pointer none)] ?_
  rintro a A ⟨t0, -⟩
  have BW : Below V.heap.size V V := Below.refl _ _
  have BB := BW
  refine wp_seq ?_
  refine wp_seq ?_
  refine wi_ A (h1_ t0) (rv_ 1 (.bool true) (fun a ee => execPqN rfl (ee _)) (rg_ [(5, .bool true)] ?_))
  rintro a A ⟨t5, -⟩
  refine wp_cond_true t5 ?_
  refine wp_ret ?_
  repeat (first | with_reducible refine ret_in ?_ | with_reducible refine ret_then ?_)
  exact bodyPost_ret (results_none rfl _ _ _) A.2 ⟨rfl, BB⟩
/-- The landed package, of nil servers. -/
def impl : Impl where
  live := live4
  on := live4_on
  round := fun en rv tv sv V _ _ _ => pround0 en rv tv sv V
  put := fun pv V _ => pput0 pv V
  finish := fun tv V _ => pfin0 tv V
  state0 := pstate0
end Go.Proofs.YtghnhfigihnciaaGreat.Srv
