import Derived.Test.YtejhbfbnljioeaaGreatDoorJ9e
namespace Go.Proofs.YtejhbfbnljioeaaGreatDoor.Rnd
open Go.RowKit Gf8 Aes By8 Cel Cf Win
/- Configurations and states; the landed round's and the reference's within, right, Check. Written by tools/mkU8a.py. -/

/-- A configuration's numbers, in their order. -/
structure Cg where
  l : Int
  s : Int
  r : Int
  u : Int
  d : Int
  o : Int
  c : Int
  w : Int
  k : Int
  h : Int
def inB (n lo hi : Int) : Bool := decide (lo ≤ n ∧ n ≤ hi)
/-- Its cells; a state's. -/
def cfC (mv : Value) (q : Cg) : Array Value := #[mv, .int .i64 q.l, .int .i64 q.s, .int .i64 q.r, .int .i64 q.u, .int .i64 q.d, .int .i64 q.o, .int .i64 q.c, .int .i64 q.w, .int .i64 q.k, .int .i64 q.h]
def sC (nx nw : Int) (ev : Value) : Array Value := #[.int .i64 nx, .int .i64 nw, ev]
/-- Is it right, by itself? (m: how long its key is) -/
def cfQ (m : Nat) (q : Cg) : Bool := decide (m = 32) && (inB q.l 1 8 && (inB q.s 1 8 && (inB q.r 0 4096 && (inB q.d 1 1000 && (inB q.u 0 q.d && (inB q.o 0 16 && (inB q.c 1 64 && (inB q.w 1 64 && (inB q.k 0 1024 && inB q.h 1 64)))))))))
def q0 : Cg := ⟨0, 0, 0, 0, 0, 0, 0, 0, 0, 0⟩
def qp : Cg := ⟨2, 1, 0, 0, 1, 0, 1, 1, 0, 1⟩
theorem bnf {b : Bool} (h : ¬ b = false) : b = true := (Bool.eq_false_or_eq_true b).resolve_right h
theorem row_1 {W : World} {g k : Nat} {c : Array Value} {t : TypeId} {z : Value} (h : W.heap[g]? = some (.cells c t)) (hz : c[k]? = some z) : W.cell? ⟨g, k, none⟩ = some z := by rw [cell_of_row _ _ _ _ _ _ h]; exact hz
section
variable {o : Oper} {a : Act} {w : World}
theorem execL1 {t : TypeId} {x : Operand} {b k : Nat} {v : Value} (ho : o.op = .load t x) (ht : t = 3 ∨ t = 2 ∨ t = 22) (hx : a.eval x = .pointer (some ⟨b, k, none⟩)) (hc : w.cell? ⟨b, k, none⟩ = some v) : (execOp a.eval o).run Tryz.prog w = .ok (.value v) w := by
  unfold execOp
  rcases ht with rfl | rfl | rfl <;> (simp only [ho, hx]; simp [go_sem, hc])
theorem execBxC {x : Operand} {mv : Value} {q : Cg} (hm : ∃ g n c, mv = .slice g n c) (ho : o.op = .box 24 x) (hx : a.eval x = .agg (cfC mv q)) : (execOp a.eval o).run Tryz.prog w = .ok (.value (.pointer (some ⟨w.heap.size, 0, none⟩))) (w.alloc (.cells (cfC mv q) 24)) := by
  obtain ⟨g, n, c, rfl⟩ := hm
  unfold execOp
  simp only [ho, hx]
  simp [go_sem, cfC]
theorem execFC0 {x : Operand} {b : Nat} (ho : o.op = .fieldAddr 24 x 0) (hx : a.eval x = .pointer (some ⟨b, 0, none⟩)) : (execOp a.eval o).run Tryz.prog w = .ok (.value (.pointer (some ⟨b, 0, none⟩))) w := by
  unfold execOp
  simp only [ho, hx]
  simp [go_sem]
theorem execFC1 {x : Operand} {b : Nat} (ho : o.op = .fieldAddr 24 x 1) (hx : a.eval x = .pointer (some ⟨b, 0, none⟩)) : (execOp a.eval o).run Tryz.prog w = .ok (.value (.pointer (some ⟨b, 1, none⟩))) w := by
  unfold execOp
  simp only [ho, hx]
  simp [go_sem]
theorem execFC2 {x : Operand} {b : Nat} (ho : o.op = .fieldAddr 24 x 2) (hx : a.eval x = .pointer (some ⟨b, 0, none⟩)) : (execOp a.eval o).run Tryz.prog w = .ok (.value (.pointer (some ⟨b, 2, none⟩))) w := by
  unfold execOp
  simp only [ho, hx]
  simp [go_sem]
theorem execFC3 {x : Operand} {b : Nat} (ho : o.op = .fieldAddr 24 x 3) (hx : a.eval x = .pointer (some ⟨b, 0, none⟩)) : (execOp a.eval o).run Tryz.prog w = .ok (.value (.pointer (some ⟨b, 3, none⟩))) w := by
  unfold execOp
  simp only [ho, hx]
  simp [go_sem]
theorem execFC4 {x : Operand} {b : Nat} (ho : o.op = .fieldAddr 24 x 4) (hx : a.eval x = .pointer (some ⟨b, 0, none⟩)) : (execOp a.eval o).run Tryz.prog w = .ok (.value (.pointer (some ⟨b, 4, none⟩))) w := by
  unfold execOp
  simp only [ho, hx]
  simp [go_sem]
theorem execFC5 {x : Operand} {b : Nat} (ho : o.op = .fieldAddr 24 x 5) (hx : a.eval x = .pointer (some ⟨b, 0, none⟩)) : (execOp a.eval o).run Tryz.prog w = .ok (.value (.pointer (some ⟨b, 5, none⟩))) w := by
  unfold execOp
  simp only [ho, hx]
  simp [go_sem]
theorem execFC6 {x : Operand} {b : Nat} (ho : o.op = .fieldAddr 24 x 6) (hx : a.eval x = .pointer (some ⟨b, 0, none⟩)) : (execOp a.eval o).run Tryz.prog w = .ok (.value (.pointer (some ⟨b, 6, none⟩))) w := by
  unfold execOp
  simp only [ho, hx]
  simp [go_sem]
theorem execFC7 {x : Operand} {b : Nat} (ho : o.op = .fieldAddr 24 x 7) (hx : a.eval x = .pointer (some ⟨b, 0, none⟩)) : (execOp a.eval o).run Tryz.prog w = .ok (.value (.pointer (some ⟨b, 7, none⟩))) w := by
  unfold execOp
  simp only [ho, hx]
  simp [go_sem]
theorem execFC8 {x : Operand} {b : Nat} (ho : o.op = .fieldAddr 24 x 8) (hx : a.eval x = .pointer (some ⟨b, 0, none⟩)) : (execOp a.eval o).run Tryz.prog w = .ok (.value (.pointer (some ⟨b, 8, none⟩))) w := by
  unfold execOp
  simp only [ho, hx]
  simp [go_sem]
theorem execFC9 {x : Operand} {b : Nat} (ho : o.op = .fieldAddr 24 x 9) (hx : a.eval x = .pointer (some ⟨b, 0, none⟩)) : (execOp a.eval o).run Tryz.prog w = .ok (.value (.pointer (some ⟨b, 9, none⟩))) w := by
  unfold execOp
  simp only [ho, hx]
  simp [go_sem]
theorem execFC10 {x : Operand} {b : Nat} (ho : o.op = .fieldAddr 24 x 10) (hx : a.eval x = .pointer (some ⟨b, 0, none⟩)) : (execOp a.eval o).run Tryz.prog w = .ok (.value (.pointer (some ⟨b, 10, none⟩))) w := by
  unfold execOp
  simp only [ho, hx]
  simp [go_sem]
theorem execLdC {x : Operand} {g : Nat} {mv : Value} {q : Cg} (ho : o.op = .load 24 x) (hx : a.eval x = .pointer (some ⟨g, 0, none⟩)) (h : w.heap[g]? = some (.cells (cfC mv q) 24)) : (execOp a.eval o).run Tryz.prog w = .ok (.value (.agg (cfC mv q))) w := by
  have h := execLoadMid (P := Tryz.prog) (cs := [mv, .int .i64 q.l, .int .i64 q.s, .int .i64 q.r, .int .i64 q.u, .int .i64 q.d, .int .i64 q.o, .int .i64 q.c, .int .i64 q.w, .int .i64 q.k, .int .i64 q.h]) ho hx (fun j z hv => by
    rw [cell_of_row _ _ _ _ _ _ h]
    match j, hv with
    | 0, hv => exact hv
    | 1, hv => exact hv
    | 2, hv => exact hv
    | 3, hv => exact hv
    | 4, hv => exact hv
    | 5, hv => exact hv
    | 6, hv => exact hv
    | 7, hv => exact hv
    | 8, hv => exact hv
    | 9, hv => exact hv
    | 10, hv => exact hv
    | _ + 11, hv => simp at hv) Tryz.underlying24 rfl (by kernel_rfl)
  exact h
end
set_option maxRecDepth 100000 in
set_option maxHeartbeats 4000000 in
/-- within. -/
theorem pwithin (n lo hi : Int) (V : World) :
    Calls Tryz.prog 14 #[.int .i64 n, .int .i64 lo, .int .i64 hi] V fun e w' => e = .returned (.bool (inB n lo hi)) ∧ Below V.heap.size V w' := by
  by_cases hg : lo ≤ n
  · have hr : inB n lo hi = decide (n ≤ hi) := by unfold inB; exact decide_eq_decide.2 ⟨fun q => q.2, fun q => ⟨hg, q⟩⟩
    go_enter Tryz.func14, Tryz.ntmps14
    refine wo_ 15 [(0, .int .i64 n), (1, .int .i64 lo), (2, .int .i64 hi)] ?_
    rintro a A ⟨t0, t1, t2, -⟩
    have BW : Below V.heap.size V V := Below.refl _ _
    have BB := BW
    refine wp_seq ?_
    refine wi_ A (h3_ t0 t1 t2) (rf_ [] (h3_ t0 t1 t2) ?_)
    rintro a A - ⟨t0, t1, t2, -⟩
    refine wp_seq ?_
    refine wi_ A (h3_ t0 t1 t2) (rv_ 2 (.bool true) (fun a ee => execDec (exIleq3 (p := lo) (q := n) rfl (ee _) (ee _)) (decide_eq_true hg)) (rv_ 6 (.bool (decide (n ≤ hi))) (fun a ee => exIleq3 (p := n) (q := hi) rfl (ee _) (ee _)) (rg_ [(6, .bool (decide (n ≤ hi)))] ?_)))
    rintro a A ⟨t6, -⟩
    refine wp_ret ?_
    refine bodyPost_ret (results_tmp rfl _ _ _) A.2 ⟨?_, BB⟩
    show Ending.returned (a.eval (.tmp 6)) = _
    rw [t6]
    rw [hr]
  · have hr : inB n lo hi = false := decide_eq_false (fun q => hg q.1)
    go_enter Tryz.func14, Tryz.ntmps14
    refine wo_ 15 [(0, .int .i64 n), (1, .int .i64 lo), (2, .int .i64 hi)] ?_
    rintro a A ⟨t0, t1, t2, -⟩
    have BW : Below V.heap.size V V := Below.refl _ _
    have BB := BW
    refine wp_seq ?_
    refine wi_ A (h3_ t0 t1 t2) (rf_ [] (h3_ t0 t1 t2) ?_)
    rintro a A - ⟨t0, t1, t2, -⟩
    refine wp_seq ?_
    refine wi_ A (h3_ t0 t1 t2) (rv_ 2 (.bool false) (fun a ee => execDec (exIleq3 (p := lo) (q := n) rfl (ee _) (ee _)) (decide_eq_false hg)) (rg_ [(6, .bool false)] ?_))
    rintro a A ⟨t6, -⟩
    refine wp_ret ?_
    refine bodyPost_ret (results_tmp rfl _ _ _) A.2 ⟨?_, BB⟩
    show Ending.returned (a.eval (.tmp 6)) = _
    rw [t6]
    rw [hr]
set_option maxRecDepth 100000 in
set_option maxHeartbeats 4000000 in
/-- within. -/
theorem rwithin21 (n lo hi : Int) (V : World) :
    Calls Tryz.prog 22 #[.int .i64 n, .int .i64 lo, .int .i64 hi] V fun e w' => e = .returned (.bool (inB n lo hi)) ∧ Below V.heap.size V w' := by
  by_cases hg : lo ≤ n
  · have hr : inB n lo hi = decide (n ≤ hi) := by unfold inB; exact decide_eq_decide.2 ⟨fun q => q.2, fun q => ⟨hg, q⟩⟩
    go_enter Tryz.func22, Tryz.ntmps22
    refine wo_ 15 [(0, .int .i64 n), (1, .int .i64 lo), (2, .int .i64 hi)] ?_
    rintro a A ⟨t0, t1, t2, -⟩
    have BW : Below V.heap.size V V := Below.refl _ _
    have BB := BW
    refine wp_seq ?_
    refine wi_ A (h3_ t0 t1 t2) (rf_ [] (h3_ t0 t1 t2) ?_)
    rintro a A - ⟨t0, t1, t2, -⟩
    refine wp_seq ?_
    refine wi_ A (h3_ t0 t1 t2) (rv_ 2 (.bool true) (fun a ee => execDec (exIgeq3 (p := n) (q := lo) rfl (ee _) (ee _)) (decide_eq_true hg)) (rv_ 6 (.bool (decide (n ≤ hi))) (fun a ee => exIleq3 (p := n) (q := hi) rfl (ee _) (ee _)) (rg_ [(6, .bool (decide (n ≤ hi)))] ?_)))
    rintro a A ⟨t6, -⟩
    refine wp_ret ?_
    refine bodyPost_ret (results_tmp rfl _ _ _) A.2 ⟨?_, BB⟩
    show Ending.returned (a.eval (.tmp 6)) = _
    rw [t6]
    rw [hr]
  · have hr : inB n lo hi = false := decide_eq_false (fun q => hg q.1)
    go_enter Tryz.func22, Tryz.ntmps22
    refine wo_ 15 [(0, .int .i64 n), (1, .int .i64 lo), (2, .int .i64 hi)] ?_
    rintro a A ⟨t0, t1, t2, -⟩
    have BW : Below V.heap.size V V := Below.refl _ _
    have BB := BW
    refine wp_seq ?_
    refine wi_ A (h3_ t0 t1 t2) (rf_ [] (h3_ t0 t1 t2) ?_)
    rintro a A - ⟨t0, t1, t2, -⟩
    refine wp_seq ?_
    refine wi_ A (h3_ t0 t1 t2) (rv_ 2 (.bool false) (fun a ee => execDec (exIgeq3 (p := n) (q := lo) rfl (ee _) (ee _)) (decide_eq_false hg)) (rg_ [(6, .bool false)] ?_))
    rintro a A ⟨t6, -⟩
    refine wp_ret ?_
    refine bodyPost_ret (results_tmp rfl _ _ _) A.2 ⟨?_, BB⟩
    show Ending.returned (a.eval (.tmp 6)) = _
    rw [t6]
    rw [hr]
set_option maxRecDepth 100000 in
set_option maxHeartbeats 4000000 in
/-- right. -/
theorem pright21 (mv : Value) (m : Nat) (q : Cg) (V : World) (hm : ∃ g n c, mv = .slice g n c) (hmv : ∃ ao c, mv = .slice ao m c) :
    Calls Tryz.prog 7 #[.agg (cfC mv q)] V fun e w' => e = .returned (.bool (cfQ m q)) ∧ Below V.heap.size V w' := by
  go_enter Tryz.func7, Tryz.ntmps7
  refine wo_ 59 [(0, .agg (cfC mv q))] ?_
  rintro a A ⟨t0, -⟩
  have BW : Below V.heap.size V V := Below.refl _ _
  have BB := BW
  refine wp_seq ?_
  obtain ⟨g1, egg1⟩ : ∃ z_ : Nat, V.heap.size = z_ := ⟨_, rfl⟩
  refine wi_ A (h1_ t0) (rs_ 0 (fun a ee => ?_))
  refine stepV rfl rfl (execBxC hm rfl (ee _)) ⟨.pointer (some ⟨g1, 0, none⟩), ⟨_, rfl, by subst egg1; rfl⟩, fun X0 hX => ?_⟩
  have bQ : Below V.heap.size V X0 := by subst hX egg1; exact (belNew V _)
  have Fg1 : (X0.heap[g1]? = some (.cells (cfC mv q) 24)) := by subst hX egg1; exact heapNew V _
  replace BB := BB.trans (bQ.mono BB.size)
  clear bQ hX egg1 ee a
  refine rg_ [(1, .pointer (some ⟨g1, 0, none⟩))] ?_
  rintro a A ⟨t1, -⟩
  refine wp_seq ?_
  by_cases h0 : ¬ m = 32
  · refine wi_ A (h1_ t1) (rv_ 0 (.pointer (some ⟨g1, 0, none⟩)) (fun a ee => execFC0 rfl (ee _)) (rv_ 1 (mv) (fun a ee => execL1 rfl (Or.inr (Or.inr rfl)) (ee _) (row_1 Fg1 rfl)) (rv_ 2 (.int .i64 ((m : Nat) : Int)) (fun a ee => execLenV (len := m) rfl (ee _) hmv) (rv_ 3 (.bool false) (fun a ee => execDec (execEqN (p := m) (q := 32) rfl (ee _) rfl) (decide_eq_false (by omega))) (rg_ [(2, .bool false)] ?_)))))
    rintro a A ⟨t2, -⟩
    refine wp_ret ?_
    refine bodyPost_ret (results_tmp rfl _ _ _) A.2 ⟨?_, BB⟩
    show Ending.returned (a.eval (.tmp 2)) = _
    rw [t2]
    rw [show cfQ m q = false by simp only [cfQ, decide_eq_false h0, Bool.false_and]]
  replace h0 := Classical.not_not.1 h0
  by_cases h1 : inB q.l 1 8 = false
  · refine wi_ A (h1_ t1) (rv_ 0 (.pointer (some ⟨g1, 0, none⟩)) (fun a ee => execFC0 rfl (ee _)) (rv_ 1 (mv) (fun a ee => execL1 rfl (Or.inr (Or.inr rfl)) (ee _) (row_1 Fg1 rfl)) (rv_ 2 (.int .i64 ((m : Nat) : Int)) (fun a ee => execLenV (len := m) rfl (ee _) hmv) (rv_ 3 (.bool true) (fun a ee => execDec (execEqN (p := m) (q := 32) rfl (ee _) rfl) (decide_eq_true (by omega))) (rv_ 5 (.pointer (some ⟨g1, 1, none⟩)) (fun a ee => execFC1 rfl (ee _)) (rv_ 6 (.int .i64 q.l) (fun a ee => execL1 rfl (Or.inl rfl) (ee _) (row_1 Fg1 rfl)) (rc_ 7 ((h1 ▸ pwithin q.l 1 8 X0)) (cb_ fun X1 bQ => ?_))))))))
    replace Fg1 := (on9 Fg1 bQ)
    replace BB := BB.trans (bQ.mono BB.size)
    clear bQ
    refine rg_ [(2, .bool false)] ?_
    rintro a A ⟨t2, -⟩
    refine wp_ret ?_
    refine bodyPost_ret (results_tmp rfl _ _ _) A.2 ⟨?_, BB⟩
    show Ending.returned (a.eval (.tmp 2)) = _
    rw [t2]
    rw [show cfQ m q = false by simp only [cfQ, decide_eq_true h0, h1, Bool.true_and, Bool.false_and]]
  replace h1 := bnf h1
  by_cases h2 : inB q.s 1 8 = false
  · refine wi_ A (h1_ t1) (rv_ 0 (.pointer (some ⟨g1, 0, none⟩)) (fun a ee => execFC0 rfl (ee _)) (rv_ 1 (mv) (fun a ee => execL1 rfl (Or.inr (Or.inr rfl)) (ee _) (row_1 Fg1 rfl)) (rv_ 2 (.int .i64 ((m : Nat) : Int)) (fun a ee => execLenV (len := m) rfl (ee _) hmv) (rv_ 3 (.bool true) (fun a ee => execDec (execEqN (p := m) (q := 32) rfl (ee _) rfl) (decide_eq_true (by omega))) (rv_ 5 (.pointer (some ⟨g1, 1, none⟩)) (fun a ee => execFC1 rfl (ee _)) (rv_ 6 (.int .i64 q.l) (fun a ee => execL1 rfl (Or.inl rfl) (ee _) (row_1 Fg1 rfl)) (rc_ 7 ((h1 ▸ pwithin q.l 1 8 X0)) (cb_ fun X1_1 bQ => ?_))))))))
    replace Fg1 := (on9 Fg1 bQ)
    replace BB := BB.trans (bQ.mono BB.size)
    clear bQ
    refine rv_ 10 (.pointer (some ⟨g1, 2, none⟩)) (fun a ee => execFC2 rfl (ee _)) (rv_ 11 (.int .i64 q.s) (fun a ee => execL1 rfl (Or.inl rfl) (ee _) (row_1 Fg1 rfl)) (rc_ 12 ((h2 ▸ pwithin q.s 1 8 X1_1)) (cb_ fun X1 bQ => ?_)))
    replace Fg1 := (on9 Fg1 bQ)
    replace BB := BB.trans (bQ.mono BB.size)
    clear bQ
    refine rg_ [(2, .bool false)] ?_
    rintro a A ⟨t2, -⟩
    refine wp_ret ?_
    refine bodyPost_ret (results_tmp rfl _ _ _) A.2 ⟨?_, BB⟩
    show Ending.returned (a.eval (.tmp 2)) = _
    rw [t2]
    rw [show cfQ m q = false by simp only [cfQ, decide_eq_true h0, h1, h2, Bool.true_and, Bool.false_and]]
  replace h2 := bnf h2
  by_cases h3 : inB q.r 0 4096 = false
  · refine wi_ A (h1_ t1) (rv_ 0 (.pointer (some ⟨g1, 0, none⟩)) (fun a ee => execFC0 rfl (ee _)) (rv_ 1 (mv) (fun a ee => execL1 rfl (Or.inr (Or.inr rfl)) (ee _) (row_1 Fg1 rfl)) (rv_ 2 (.int .i64 ((m : Nat) : Int)) (fun a ee => execLenV (len := m) rfl (ee _) hmv) (rv_ 3 (.bool true) (fun a ee => execDec (execEqN (p := m) (q := 32) rfl (ee _) rfl) (decide_eq_true (by omega))) (rv_ 5 (.pointer (some ⟨g1, 1, none⟩)) (fun a ee => execFC1 rfl (ee _)) (rv_ 6 (.int .i64 q.l) (fun a ee => execL1 rfl (Or.inl rfl) (ee _) (row_1 Fg1 rfl)) (rc_ 7 ((h1 ▸ pwithin q.l 1 8 X0)) (cb_ fun X1_1 bQ => ?_))))))))
    replace Fg1 := (on9 Fg1 bQ)
    replace BB := BB.trans (bQ.mono BB.size)
    clear bQ
    refine rv_ 10 (.pointer (some ⟨g1, 2, none⟩)) (fun a ee => execFC2 rfl (ee _)) (rv_ 11 (.int .i64 q.s) (fun a ee => execL1 rfl (Or.inl rfl) (ee _) (row_1 Fg1 rfl)) (rc_ 12 ((h2 ▸ pwithin q.s 1 8 X1_1)) (cb_ fun X1_2 bQ => ?_)))
    replace Fg1 := (on9 Fg1 bQ)
    replace BB := BB.trans (bQ.mono BB.size)
    clear bQ
    refine rv_ 15 (.pointer (some ⟨g1, 3, none⟩)) (fun a ee => execFC3 rfl (ee _)) (rv_ 16 (.int .i64 q.r) (fun a ee => execL1 rfl (Or.inl rfl) (ee _) (row_1 Fg1 rfl)) (rc_ 17 ((h3 ▸ pwithin q.r 0 4096 X1_2)) (cb_ fun X1 bQ => ?_)))
    replace Fg1 := (on9 Fg1 bQ)
    replace BB := BB.trans (bQ.mono BB.size)
    clear bQ
    refine rg_ [(2, .bool false)] ?_
    rintro a A ⟨t2, -⟩
    refine wp_ret ?_
    refine bodyPost_ret (results_tmp rfl _ _ _) A.2 ⟨?_, BB⟩
    show Ending.returned (a.eval (.tmp 2)) = _
    rw [t2]
    rw [show cfQ m q = false by simp only [cfQ, decide_eq_true h0, h1, h2, h3, Bool.true_and, Bool.false_and]]
  replace h3 := bnf h3
  by_cases h4 : inB q.d 1 1000 = false
  · refine wi_ A (h1_ t1) (rv_ 0 (.pointer (some ⟨g1, 0, none⟩)) (fun a ee => execFC0 rfl (ee _)) (rv_ 1 (mv) (fun a ee => execL1 rfl (Or.inr (Or.inr rfl)) (ee _) (row_1 Fg1 rfl)) (rv_ 2 (.int .i64 ((m : Nat) : Int)) (fun a ee => execLenV (len := m) rfl (ee _) hmv) (rv_ 3 (.bool true) (fun a ee => execDec (execEqN (p := m) (q := 32) rfl (ee _) rfl) (decide_eq_true (by omega))) (rv_ 5 (.pointer (some ⟨g1, 1, none⟩)) (fun a ee => execFC1 rfl (ee _)) (rv_ 6 (.int .i64 q.l) (fun a ee => execL1 rfl (Or.inl rfl) (ee _) (row_1 Fg1 rfl)) (rc_ 7 ((h1 ▸ pwithin q.l 1 8 X0)) (cb_ fun X1_1 bQ => ?_))))))))
    replace Fg1 := (on9 Fg1 bQ)
    replace BB := BB.trans (bQ.mono BB.size)
    clear bQ
    refine rv_ 10 (.pointer (some ⟨g1, 2, none⟩)) (fun a ee => execFC2 rfl (ee _)) (rv_ 11 (.int .i64 q.s) (fun a ee => execL1 rfl (Or.inl rfl) (ee _) (row_1 Fg1 rfl)) (rc_ 12 ((h2 ▸ pwithin q.s 1 8 X1_1)) (cb_ fun X1_2 bQ => ?_)))
    replace Fg1 := (on9 Fg1 bQ)
    replace BB := BB.trans (bQ.mono BB.size)
    clear bQ
    refine rv_ 15 (.pointer (some ⟨g1, 3, none⟩)) (fun a ee => execFC3 rfl (ee _)) (rv_ 16 (.int .i64 q.r) (fun a ee => execL1 rfl (Or.inl rfl) (ee _) (row_1 Fg1 rfl)) (rc_ 17 ((h3 ▸ pwithin q.r 0 4096 X1_2)) (cb_ fun X1_3 bQ => ?_)))
    replace Fg1 := (on9 Fg1 bQ)
    replace BB := BB.trans (bQ.mono BB.size)
    clear bQ
    refine rv_ 20 (.pointer (some ⟨g1, 5, none⟩)) (fun a ee => execFC5 rfl (ee _)) (rv_ 21 (.int .i64 q.d) (fun a ee => execL1 rfl (Or.inl rfl) (ee _) (row_1 Fg1 rfl)) (rc_ 22 ((h4 ▸ pwithin q.d 1 1000 X1_3)) (cb_ fun X1 bQ => ?_)))
    replace Fg1 := (on9 Fg1 bQ)
    replace BB := BB.trans (bQ.mono BB.size)
    clear bQ
    refine rg_ [(2, .bool false)] ?_
    rintro a A ⟨t2, -⟩
    refine wp_ret ?_
    refine bodyPost_ret (results_tmp rfl _ _ _) A.2 ⟨?_, BB⟩
    show Ending.returned (a.eval (.tmp 2)) = _
    rw [t2]
    rw [show cfQ m q = false by simp only [cfQ, decide_eq_true h0, h1, h2, h3, h4, Bool.true_and, Bool.false_and]]
  replace h4 := bnf h4
  by_cases h5 : inB q.u 0 q.d = false
  · refine wi_ A (h1_ t1) (rv_ 0 (.pointer (some ⟨g1, 0, none⟩)) (fun a ee => execFC0 rfl (ee _)) (rv_ 1 (mv) (fun a ee => execL1 rfl (Or.inr (Or.inr rfl)) (ee _) (row_1 Fg1 rfl)) (rv_ 2 (.int .i64 ((m : Nat) : Int)) (fun a ee => execLenV (len := m) rfl (ee _) hmv) (rv_ 3 (.bool true) (fun a ee => execDec (execEqN (p := m) (q := 32) rfl (ee _) rfl) (decide_eq_true (by omega))) (rv_ 5 (.pointer (some ⟨g1, 1, none⟩)) (fun a ee => execFC1 rfl (ee _)) (rv_ 6 (.int .i64 q.l) (fun a ee => execL1 rfl (Or.inl rfl) (ee _) (row_1 Fg1 rfl)) (rc_ 7 ((h1 ▸ pwithin q.l 1 8 X0)) (cb_ fun X1_1 bQ => ?_))))))))
    replace Fg1 := (on9 Fg1 bQ)
    replace BB := BB.trans (bQ.mono BB.size)
    clear bQ
    refine rv_ 10 (.pointer (some ⟨g1, 2, none⟩)) (fun a ee => execFC2 rfl (ee _)) (rv_ 11 (.int .i64 q.s) (fun a ee => execL1 rfl (Or.inl rfl) (ee _) (row_1 Fg1 rfl)) (rc_ 12 ((h2 ▸ pwithin q.s 1 8 X1_1)) (cb_ fun X1_2 bQ => ?_)))
    replace Fg1 := (on9 Fg1 bQ)
    replace BB := BB.trans (bQ.mono BB.size)
    clear bQ
    refine rv_ 15 (.pointer (some ⟨g1, 3, none⟩)) (fun a ee => execFC3 rfl (ee _)) (rv_ 16 (.int .i64 q.r) (fun a ee => execL1 rfl (Or.inl rfl) (ee _) (row_1 Fg1 rfl)) (rc_ 17 ((h3 ▸ pwithin q.r 0 4096 X1_2)) (cb_ fun X1_3 bQ => ?_)))
    replace Fg1 := (on9 Fg1 bQ)
    replace BB := BB.trans (bQ.mono BB.size)
    clear bQ
    refine rv_ 20 (.pointer (some ⟨g1, 5, none⟩)) (fun a ee => execFC5 rfl (ee _)) (rv_ 21 (.int .i64 q.d) (fun a ee => execL1 rfl (Or.inl rfl) (ee _) (row_1 Fg1 rfl)) (rc_ 22 ((h4 ▸ pwithin q.d 1 1000 X1_3)) (cb_ fun X1_4 bQ => ?_)))
    replace Fg1 := (on9 Fg1 bQ)
    replace BB := BB.trans (bQ.mono BB.size)
    clear bQ
    refine rv_ 25 (.pointer (some ⟨g1, 4, none⟩)) (fun a ee => execFC4 rfl (ee _)) (rv_ 26 (.int .i64 q.u) (fun a ee => execL1 rfl (Or.inl rfl) (ee _) (row_1 Fg1 rfl)) (rv_ 27 (.pointer (some ⟨g1, 5, none⟩)) (fun a ee => execFC5 rfl (ee _)) (rv_ 28 (.int .i64 q.d) (fun a ee => execL1 rfl (Or.inl rfl) (ee _) (row_1 Fg1 rfl)) (rc_ 29 ((h5 ▸ pwithin q.u 0 q.d X1_4)) (cb_ fun X1 bQ => ?_)))))
    replace Fg1 := (on9 Fg1 bQ)
    replace BB := BB.trans (bQ.mono BB.size)
    clear bQ
    refine rg_ [(2, .bool false)] ?_
    rintro a A ⟨t2, -⟩
    refine wp_ret ?_
    refine bodyPost_ret (results_tmp rfl _ _ _) A.2 ⟨?_, BB⟩
    show Ending.returned (a.eval (.tmp 2)) = _
    rw [t2]
    rw [show cfQ m q = false by simp only [cfQ, decide_eq_true h0, h1, h2, h3, h4, h5, Bool.true_and, Bool.false_and]]
  replace h5 := bnf h5
  by_cases h6 : inB q.o 0 16 = false
  · refine wi_ A (h1_ t1) (rv_ 0 (.pointer (some ⟨g1, 0, none⟩)) (fun a ee => execFC0 rfl (ee _)) (rv_ 1 (mv) (fun a ee => execL1 rfl (Or.inr (Or.inr rfl)) (ee _) (row_1 Fg1 rfl)) (rv_ 2 (.int .i64 ((m : Nat) : Int)) (fun a ee => execLenV (len := m) rfl (ee _) hmv) (rv_ 3 (.bool true) (fun a ee => execDec (execEqN (p := m) (q := 32) rfl (ee _) rfl) (decide_eq_true (by omega))) (rv_ 5 (.pointer (some ⟨g1, 1, none⟩)) (fun a ee => execFC1 rfl (ee _)) (rv_ 6 (.int .i64 q.l) (fun a ee => execL1 rfl (Or.inl rfl) (ee _) (row_1 Fg1 rfl)) (rc_ 7 ((h1 ▸ pwithin q.l 1 8 X0)) (cb_ fun X1_1 bQ => ?_))))))))
    replace Fg1 := (on9 Fg1 bQ)
    replace BB := BB.trans (bQ.mono BB.size)
    clear bQ
    refine rv_ 10 (.pointer (some ⟨g1, 2, none⟩)) (fun a ee => execFC2 rfl (ee _)) (rv_ 11 (.int .i64 q.s) (fun a ee => execL1 rfl (Or.inl rfl) (ee _) (row_1 Fg1 rfl)) (rc_ 12 ((h2 ▸ pwithin q.s 1 8 X1_1)) (cb_ fun X1_2 bQ => ?_)))
    replace Fg1 := (on9 Fg1 bQ)
    replace BB := BB.trans (bQ.mono BB.size)
    clear bQ
    refine rv_ 15 (.pointer (some ⟨g1, 3, none⟩)) (fun a ee => execFC3 rfl (ee _)) (rv_ 16 (.int .i64 q.r) (fun a ee => execL1 rfl (Or.inl rfl) (ee _) (row_1 Fg1 rfl)) (rc_ 17 ((h3 ▸ pwithin q.r 0 4096 X1_2)) (cb_ fun X1_3 bQ => ?_)))
    replace Fg1 := (on9 Fg1 bQ)
    replace BB := BB.trans (bQ.mono BB.size)
    clear bQ
    refine rv_ 20 (.pointer (some ⟨g1, 5, none⟩)) (fun a ee => execFC5 rfl (ee _)) (rv_ 21 (.int .i64 q.d) (fun a ee => execL1 rfl (Or.inl rfl) (ee _) (row_1 Fg1 rfl)) (rc_ 22 ((h4 ▸ pwithin q.d 1 1000 X1_3)) (cb_ fun X1_4 bQ => ?_)))
    replace Fg1 := (on9 Fg1 bQ)
    replace BB := BB.trans (bQ.mono BB.size)
    clear bQ
    refine rv_ 25 (.pointer (some ⟨g1, 4, none⟩)) (fun a ee => execFC4 rfl (ee _)) (rv_ 26 (.int .i64 q.u) (fun a ee => execL1 rfl (Or.inl rfl) (ee _) (row_1 Fg1 rfl)) (rv_ 27 (.pointer (some ⟨g1, 5, none⟩)) (fun a ee => execFC5 rfl (ee _)) (rv_ 28 (.int .i64 q.d) (fun a ee => execL1 rfl (Or.inl rfl) (ee _) (row_1 Fg1 rfl)) (rc_ 29 ((h5 ▸ pwithin q.u 0 q.d X1_4)) (cb_ fun X1_5 bQ => ?_)))))
    replace Fg1 := (on9 Fg1 bQ)
    replace BB := BB.trans (bQ.mono BB.size)
    clear bQ
    refine rv_ 32 (.pointer (some ⟨g1, 6, none⟩)) (fun a ee => execFC6 rfl (ee _)) (rv_ 33 (.int .i64 q.o) (fun a ee => execL1 rfl (Or.inl rfl) (ee _) (row_1 Fg1 rfl)) (rc_ 34 ((h6 ▸ pwithin q.o 0 16 X1_5)) (cb_ fun X1 bQ => ?_)))
    replace Fg1 := (on9 Fg1 bQ)
    replace BB := BB.trans (bQ.mono BB.size)
    clear bQ
    refine rg_ [(2, .bool false)] ?_
    rintro a A ⟨t2, -⟩
    refine wp_ret ?_
    refine bodyPost_ret (results_tmp rfl _ _ _) A.2 ⟨?_, BB⟩
    show Ending.returned (a.eval (.tmp 2)) = _
    rw [t2]
    rw [show cfQ m q = false by simp only [cfQ, decide_eq_true h0, h1, h2, h3, h4, h5, h6, Bool.true_and, Bool.false_and]]
  replace h6 := bnf h6
  by_cases h7 : inB q.c 1 64 = false
  · refine wi_ A (h1_ t1) (rv_ 0 (.pointer (some ⟨g1, 0, none⟩)) (fun a ee => execFC0 rfl (ee _)) (rv_ 1 (mv) (fun a ee => execL1 rfl (Or.inr (Or.inr rfl)) (ee _) (row_1 Fg1 rfl)) (rv_ 2 (.int .i64 ((m : Nat) : Int)) (fun a ee => execLenV (len := m) rfl (ee _) hmv) (rv_ 3 (.bool true) (fun a ee => execDec (execEqN (p := m) (q := 32) rfl (ee _) rfl) (decide_eq_true (by omega))) (rv_ 5 (.pointer (some ⟨g1, 1, none⟩)) (fun a ee => execFC1 rfl (ee _)) (rv_ 6 (.int .i64 q.l) (fun a ee => execL1 rfl (Or.inl rfl) (ee _) (row_1 Fg1 rfl)) (rc_ 7 ((h1 ▸ pwithin q.l 1 8 X0)) (cb_ fun X1_1 bQ => ?_))))))))
    replace Fg1 := (on9 Fg1 bQ)
    replace BB := BB.trans (bQ.mono BB.size)
    clear bQ
    refine rv_ 10 (.pointer (some ⟨g1, 2, none⟩)) (fun a ee => execFC2 rfl (ee _)) (rv_ 11 (.int .i64 q.s) (fun a ee => execL1 rfl (Or.inl rfl) (ee _) (row_1 Fg1 rfl)) (rc_ 12 ((h2 ▸ pwithin q.s 1 8 X1_1)) (cb_ fun X1_2 bQ => ?_)))
    replace Fg1 := (on9 Fg1 bQ)
    replace BB := BB.trans (bQ.mono BB.size)
    clear bQ
    refine rv_ 15 (.pointer (some ⟨g1, 3, none⟩)) (fun a ee => execFC3 rfl (ee _)) (rv_ 16 (.int .i64 q.r) (fun a ee => execL1 rfl (Or.inl rfl) (ee _) (row_1 Fg1 rfl)) (rc_ 17 ((h3 ▸ pwithin q.r 0 4096 X1_2)) (cb_ fun X1_3 bQ => ?_)))
    replace Fg1 := (on9 Fg1 bQ)
    replace BB := BB.trans (bQ.mono BB.size)
    clear bQ
    refine rv_ 20 (.pointer (some ⟨g1, 5, none⟩)) (fun a ee => execFC5 rfl (ee _)) (rv_ 21 (.int .i64 q.d) (fun a ee => execL1 rfl (Or.inl rfl) (ee _) (row_1 Fg1 rfl)) (rc_ 22 ((h4 ▸ pwithin q.d 1 1000 X1_3)) (cb_ fun X1_4 bQ => ?_)))
    replace Fg1 := (on9 Fg1 bQ)
    replace BB := BB.trans (bQ.mono BB.size)
    clear bQ
    refine rv_ 25 (.pointer (some ⟨g1, 4, none⟩)) (fun a ee => execFC4 rfl (ee _)) (rv_ 26 (.int .i64 q.u) (fun a ee => execL1 rfl (Or.inl rfl) (ee _) (row_1 Fg1 rfl)) (rv_ 27 (.pointer (some ⟨g1, 5, none⟩)) (fun a ee => execFC5 rfl (ee _)) (rv_ 28 (.int .i64 q.d) (fun a ee => execL1 rfl (Or.inl rfl) (ee _) (row_1 Fg1 rfl)) (rc_ 29 ((h5 ▸ pwithin q.u 0 q.d X1_4)) (cb_ fun X1_5 bQ => ?_)))))
    replace Fg1 := (on9 Fg1 bQ)
    replace BB := BB.trans (bQ.mono BB.size)
    clear bQ
    refine rv_ 32 (.pointer (some ⟨g1, 6, none⟩)) (fun a ee => execFC6 rfl (ee _)) (rv_ 33 (.int .i64 q.o) (fun a ee => execL1 rfl (Or.inl rfl) (ee _) (row_1 Fg1 rfl)) (rc_ 34 ((h6 ▸ pwithin q.o 0 16 X1_5)) (cb_ fun X1_6 bQ => ?_)))
    replace Fg1 := (on9 Fg1 bQ)
    replace BB := BB.trans (bQ.mono BB.size)
    clear bQ
    refine rv_ 37 (.pointer (some ⟨g1, 7, none⟩)) (fun a ee => execFC7 rfl (ee _)) (rv_ 38 (.int .i64 q.c) (fun a ee => execL1 rfl (Or.inl rfl) (ee _) (row_1 Fg1 rfl)) (rc_ 39 ((h7 ▸ pwithin q.c 1 64 X1_6)) (cb_ fun X1 bQ => ?_)))
    replace Fg1 := (on9 Fg1 bQ)
    replace BB := BB.trans (bQ.mono BB.size)
    clear bQ
    refine rg_ [(2, .bool false)] ?_
    rintro a A ⟨t2, -⟩
    refine wp_ret ?_
    refine bodyPost_ret (results_tmp rfl _ _ _) A.2 ⟨?_, BB⟩
    show Ending.returned (a.eval (.tmp 2)) = _
    rw [t2]
    rw [show cfQ m q = false by simp only [cfQ, decide_eq_true h0, h1, h2, h3, h4, h5, h6, h7, Bool.true_and, Bool.false_and]]
  replace h7 := bnf h7
  by_cases h8 : inB q.w 1 64 = false
  · refine wi_ A (h1_ t1) (rv_ 0 (.pointer (some ⟨g1, 0, none⟩)) (fun a ee => execFC0 rfl (ee _)) (rv_ 1 (mv) (fun a ee => execL1 rfl (Or.inr (Or.inr rfl)) (ee _) (row_1 Fg1 rfl)) (rv_ 2 (.int .i64 ((m : Nat) : Int)) (fun a ee => execLenV (len := m) rfl (ee _) hmv) (rv_ 3 (.bool true) (fun a ee => execDec (execEqN (p := m) (q := 32) rfl (ee _) rfl) (decide_eq_true (by omega))) (rv_ 5 (.pointer (some ⟨g1, 1, none⟩)) (fun a ee => execFC1 rfl (ee _)) (rv_ 6 (.int .i64 q.l) (fun a ee => execL1 rfl (Or.inl rfl) (ee _) (row_1 Fg1 rfl)) (rc_ 7 ((h1 ▸ pwithin q.l 1 8 X0)) (cb_ fun X1_1 bQ => ?_))))))))
    replace Fg1 := (on9 Fg1 bQ)
    replace BB := BB.trans (bQ.mono BB.size)
    clear bQ
    refine rv_ 10 (.pointer (some ⟨g1, 2, none⟩)) (fun a ee => execFC2 rfl (ee _)) (rv_ 11 (.int .i64 q.s) (fun a ee => execL1 rfl (Or.inl rfl) (ee _) (row_1 Fg1 rfl)) (rc_ 12 ((h2 ▸ pwithin q.s 1 8 X1_1)) (cb_ fun X1_2 bQ => ?_)))
    replace Fg1 := (on9 Fg1 bQ)
    replace BB := BB.trans (bQ.mono BB.size)
    clear bQ
    refine rv_ 15 (.pointer (some ⟨g1, 3, none⟩)) (fun a ee => execFC3 rfl (ee _)) (rv_ 16 (.int .i64 q.r) (fun a ee => execL1 rfl (Or.inl rfl) (ee _) (row_1 Fg1 rfl)) (rc_ 17 ((h3 ▸ pwithin q.r 0 4096 X1_2)) (cb_ fun X1_3 bQ => ?_)))
    replace Fg1 := (on9 Fg1 bQ)
    replace BB := BB.trans (bQ.mono BB.size)
    clear bQ
    refine rv_ 20 (.pointer (some ⟨g1, 5, none⟩)) (fun a ee => execFC5 rfl (ee _)) (rv_ 21 (.int .i64 q.d) (fun a ee => execL1 rfl (Or.inl rfl) (ee _) (row_1 Fg1 rfl)) (rc_ 22 ((h4 ▸ pwithin q.d 1 1000 X1_3)) (cb_ fun X1_4 bQ => ?_)))
    replace Fg1 := (on9 Fg1 bQ)
    replace BB := BB.trans (bQ.mono BB.size)
    clear bQ
    refine rv_ 25 (.pointer (some ⟨g1, 4, none⟩)) (fun a ee => execFC4 rfl (ee _)) (rv_ 26 (.int .i64 q.u) (fun a ee => execL1 rfl (Or.inl rfl) (ee _) (row_1 Fg1 rfl)) (rv_ 27 (.pointer (some ⟨g1, 5, none⟩)) (fun a ee => execFC5 rfl (ee _)) (rv_ 28 (.int .i64 q.d) (fun a ee => execL1 rfl (Or.inl rfl) (ee _) (row_1 Fg1 rfl)) (rc_ 29 ((h5 ▸ pwithin q.u 0 q.d X1_4)) (cb_ fun X1_5 bQ => ?_)))))
    replace Fg1 := (on9 Fg1 bQ)
    replace BB := BB.trans (bQ.mono BB.size)
    clear bQ
    refine rv_ 32 (.pointer (some ⟨g1, 6, none⟩)) (fun a ee => execFC6 rfl (ee _)) (rv_ 33 (.int .i64 q.o) (fun a ee => execL1 rfl (Or.inl rfl) (ee _) (row_1 Fg1 rfl)) (rc_ 34 ((h6 ▸ pwithin q.o 0 16 X1_5)) (cb_ fun X1_6 bQ => ?_)))
    replace Fg1 := (on9 Fg1 bQ)
    replace BB := BB.trans (bQ.mono BB.size)
    clear bQ
    refine rv_ 37 (.pointer (some ⟨g1, 7, none⟩)) (fun a ee => execFC7 rfl (ee _)) (rv_ 38 (.int .i64 q.c) (fun a ee => execL1 rfl (Or.inl rfl) (ee _) (row_1 Fg1 rfl)) (rc_ 39 ((h7 ▸ pwithin q.c 1 64 X1_6)) (cb_ fun X1_7 bQ => ?_)))
    replace Fg1 := (on9 Fg1 bQ)
    replace BB := BB.trans (bQ.mono BB.size)
    clear bQ
    refine rv_ 42 (.pointer (some ⟨g1, 8, none⟩)) (fun a ee => execFC8 rfl (ee _)) (rv_ 43 (.int .i64 q.w) (fun a ee => execL1 rfl (Or.inl rfl) (ee _) (row_1 Fg1 rfl)) (rc_ 44 ((h8 ▸ pwithin q.w 1 64 X1_7)) (cb_ fun X1 bQ => ?_)))
    replace Fg1 := (on9 Fg1 bQ)
    replace BB := BB.trans (bQ.mono BB.size)
    clear bQ
    refine rg_ [(2, .bool false)] ?_
    rintro a A ⟨t2, -⟩
    refine wp_ret ?_
    refine bodyPost_ret (results_tmp rfl _ _ _) A.2 ⟨?_, BB⟩
    show Ending.returned (a.eval (.tmp 2)) = _
    rw [t2]
    rw [show cfQ m q = false by simp only [cfQ, decide_eq_true h0, h1, h2, h3, h4, h5, h6, h7, h8, Bool.true_and, Bool.false_and]]
  replace h8 := bnf h8
  by_cases h9 : inB q.k 0 1024 = false
  · refine wi_ A (h1_ t1) (rv_ 0 (.pointer (some ⟨g1, 0, none⟩)) (fun a ee => execFC0 rfl (ee _)) (rv_ 1 (mv) (fun a ee => execL1 rfl (Or.inr (Or.inr rfl)) (ee _) (row_1 Fg1 rfl)) (rv_ 2 (.int .i64 ((m : Nat) : Int)) (fun a ee => execLenV (len := m) rfl (ee _) hmv) (rv_ 3 (.bool true) (fun a ee => execDec (execEqN (p := m) (q := 32) rfl (ee _) rfl) (decide_eq_true (by omega))) (rv_ 5 (.pointer (some ⟨g1, 1, none⟩)) (fun a ee => execFC1 rfl (ee _)) (rv_ 6 (.int .i64 q.l) (fun a ee => execL1 rfl (Or.inl rfl) (ee _) (row_1 Fg1 rfl)) (rc_ 7 ((h1 ▸ pwithin q.l 1 8 X0)) (cb_ fun X1_1 bQ => ?_))))))))
    replace Fg1 := (on9 Fg1 bQ)
    replace BB := BB.trans (bQ.mono BB.size)
    clear bQ
    refine rv_ 10 (.pointer (some ⟨g1, 2, none⟩)) (fun a ee => execFC2 rfl (ee _)) (rv_ 11 (.int .i64 q.s) (fun a ee => execL1 rfl (Or.inl rfl) (ee _) (row_1 Fg1 rfl)) (rc_ 12 ((h2 ▸ pwithin q.s 1 8 X1_1)) (cb_ fun X1_2 bQ => ?_)))
    replace Fg1 := (on9 Fg1 bQ)
    replace BB := BB.trans (bQ.mono BB.size)
    clear bQ
    refine rv_ 15 (.pointer (some ⟨g1, 3, none⟩)) (fun a ee => execFC3 rfl (ee _)) (rv_ 16 (.int .i64 q.r) (fun a ee => execL1 rfl (Or.inl rfl) (ee _) (row_1 Fg1 rfl)) (rc_ 17 ((h3 ▸ pwithin q.r 0 4096 X1_2)) (cb_ fun X1_3 bQ => ?_)))
    replace Fg1 := (on9 Fg1 bQ)
    replace BB := BB.trans (bQ.mono BB.size)
    clear bQ
    refine rv_ 20 (.pointer (some ⟨g1, 5, none⟩)) (fun a ee => execFC5 rfl (ee _)) (rv_ 21 (.int .i64 q.d) (fun a ee => execL1 rfl (Or.inl rfl) (ee _) (row_1 Fg1 rfl)) (rc_ 22 ((h4 ▸ pwithin q.d 1 1000 X1_3)) (cb_ fun X1_4 bQ => ?_)))
    replace Fg1 := (on9 Fg1 bQ)
    replace BB := BB.trans (bQ.mono BB.size)
    clear bQ
    refine rv_ 25 (.pointer (some ⟨g1, 4, none⟩)) (fun a ee => execFC4 rfl (ee _)) (rv_ 26 (.int .i64 q.u) (fun a ee => execL1 rfl (Or.inl rfl) (ee _) (row_1 Fg1 rfl)) (rv_ 27 (.pointer (some ⟨g1, 5, none⟩)) (fun a ee => execFC5 rfl (ee _)) (rv_ 28 (.int .i64 q.d) (fun a ee => execL1 rfl (Or.inl rfl) (ee _) (row_1 Fg1 rfl)) (rc_ 29 ((h5 ▸ pwithin q.u 0 q.d X1_4)) (cb_ fun X1_5 bQ => ?_)))))
    replace Fg1 := (on9 Fg1 bQ)
    replace BB := BB.trans (bQ.mono BB.size)
    clear bQ
    refine rv_ 32 (.pointer (some ⟨g1, 6, none⟩)) (fun a ee => execFC6 rfl (ee _)) (rv_ 33 (.int .i64 q.o) (fun a ee => execL1 rfl (Or.inl rfl) (ee _) (row_1 Fg1 rfl)) (rc_ 34 ((h6 ▸ pwithin q.o 0 16 X1_5)) (cb_ fun X1_6 bQ => ?_)))
    replace Fg1 := (on9 Fg1 bQ)
    replace BB := BB.trans (bQ.mono BB.size)
    clear bQ
    refine rv_ 37 (.pointer (some ⟨g1, 7, none⟩)) (fun a ee => execFC7 rfl (ee _)) (rv_ 38 (.int .i64 q.c) (fun a ee => execL1 rfl (Or.inl rfl) (ee _) (row_1 Fg1 rfl)) (rc_ 39 ((h7 ▸ pwithin q.c 1 64 X1_6)) (cb_ fun X1_7 bQ => ?_)))
    replace Fg1 := (on9 Fg1 bQ)
    replace BB := BB.trans (bQ.mono BB.size)
    clear bQ
    refine rv_ 42 (.pointer (some ⟨g1, 8, none⟩)) (fun a ee => execFC8 rfl (ee _)) (rv_ 43 (.int .i64 q.w) (fun a ee => execL1 rfl (Or.inl rfl) (ee _) (row_1 Fg1 rfl)) (rc_ 44 ((h8 ▸ pwithin q.w 1 64 X1_7)) (cb_ fun X1_8 bQ => ?_)))
    replace Fg1 := (on9 Fg1 bQ)
    replace BB := BB.trans (bQ.mono BB.size)
    clear bQ
    refine rv_ 47 (.pointer (some ⟨g1, 9, none⟩)) (fun a ee => execFC9 rfl (ee _)) (rv_ 48 (.int .i64 q.k) (fun a ee => execL1 rfl (Or.inl rfl) (ee _) (row_1 Fg1 rfl)) (rc_ 49 ((h9 ▸ pwithin q.k 0 1024 X1_8)) (cb_ fun X1 bQ => ?_)))
    replace Fg1 := (on9 Fg1 bQ)
    replace BB := BB.trans (bQ.mono BB.size)
    clear bQ
    refine rg_ [(2, .bool false)] ?_
    rintro a A ⟨t2, -⟩
    refine wp_ret ?_
    refine bodyPost_ret (results_tmp rfl _ _ _) A.2 ⟨?_, BB⟩
    show Ending.returned (a.eval (.tmp 2)) = _
    rw [t2]
    rw [show cfQ m q = false by simp only [cfQ, decide_eq_true h0, h1, h2, h3, h4, h5, h6, h7, h8, h9, Bool.true_and, Bool.false_and]]
  replace h9 := bnf h9
  by_cases h10 : inB q.h 1 64 = false
  · refine wi_ A (h1_ t1) (rv_ 0 (.pointer (some ⟨g1, 0, none⟩)) (fun a ee => execFC0 rfl (ee _)) (rv_ 1 (mv) (fun a ee => execL1 rfl (Or.inr (Or.inr rfl)) (ee _) (row_1 Fg1 rfl)) (rv_ 2 (.int .i64 ((m : Nat) : Int)) (fun a ee => execLenV (len := m) rfl (ee _) hmv) (rv_ 3 (.bool true) (fun a ee => execDec (execEqN (p := m) (q := 32) rfl (ee _) rfl) (decide_eq_true (by omega))) (rv_ 5 (.pointer (some ⟨g1, 1, none⟩)) (fun a ee => execFC1 rfl (ee _)) (rv_ 6 (.int .i64 q.l) (fun a ee => execL1 rfl (Or.inl rfl) (ee _) (row_1 Fg1 rfl)) (rc_ 7 ((h1 ▸ pwithin q.l 1 8 X0)) (cb_ fun X1_1 bQ => ?_))))))))
    replace Fg1 := (on9 Fg1 bQ)
    replace BB := BB.trans (bQ.mono BB.size)
    clear bQ
    refine rv_ 10 (.pointer (some ⟨g1, 2, none⟩)) (fun a ee => execFC2 rfl (ee _)) (rv_ 11 (.int .i64 q.s) (fun a ee => execL1 rfl (Or.inl rfl) (ee _) (row_1 Fg1 rfl)) (rc_ 12 ((h2 ▸ pwithin q.s 1 8 X1_1)) (cb_ fun X1_2 bQ => ?_)))
    replace Fg1 := (on9 Fg1 bQ)
    replace BB := BB.trans (bQ.mono BB.size)
    clear bQ
    refine rv_ 15 (.pointer (some ⟨g1, 3, none⟩)) (fun a ee => execFC3 rfl (ee _)) (rv_ 16 (.int .i64 q.r) (fun a ee => execL1 rfl (Or.inl rfl) (ee _) (row_1 Fg1 rfl)) (rc_ 17 ((h3 ▸ pwithin q.r 0 4096 X1_2)) (cb_ fun X1_3 bQ => ?_)))
    replace Fg1 := (on9 Fg1 bQ)
    replace BB := BB.trans (bQ.mono BB.size)
    clear bQ
    refine rv_ 20 (.pointer (some ⟨g1, 5, none⟩)) (fun a ee => execFC5 rfl (ee _)) (rv_ 21 (.int .i64 q.d) (fun a ee => execL1 rfl (Or.inl rfl) (ee _) (row_1 Fg1 rfl)) (rc_ 22 ((h4 ▸ pwithin q.d 1 1000 X1_3)) (cb_ fun X1_4 bQ => ?_)))
    replace Fg1 := (on9 Fg1 bQ)
    replace BB := BB.trans (bQ.mono BB.size)
    clear bQ
    refine rv_ 25 (.pointer (some ⟨g1, 4, none⟩)) (fun a ee => execFC4 rfl (ee _)) (rv_ 26 (.int .i64 q.u) (fun a ee => execL1 rfl (Or.inl rfl) (ee _) (row_1 Fg1 rfl)) (rv_ 27 (.pointer (some ⟨g1, 5, none⟩)) (fun a ee => execFC5 rfl (ee _)) (rv_ 28 (.int .i64 q.d) (fun a ee => execL1 rfl (Or.inl rfl) (ee _) (row_1 Fg1 rfl)) (rc_ 29 ((h5 ▸ pwithin q.u 0 q.d X1_4)) (cb_ fun X1_5 bQ => ?_)))))
    replace Fg1 := (on9 Fg1 bQ)
    replace BB := BB.trans (bQ.mono BB.size)
    clear bQ
    refine rv_ 32 (.pointer (some ⟨g1, 6, none⟩)) (fun a ee => execFC6 rfl (ee _)) (rv_ 33 (.int .i64 q.o) (fun a ee => execL1 rfl (Or.inl rfl) (ee _) (row_1 Fg1 rfl)) (rc_ 34 ((h6 ▸ pwithin q.o 0 16 X1_5)) (cb_ fun X1_6 bQ => ?_)))
    replace Fg1 := (on9 Fg1 bQ)
    replace BB := BB.trans (bQ.mono BB.size)
    clear bQ
    refine rv_ 37 (.pointer (some ⟨g1, 7, none⟩)) (fun a ee => execFC7 rfl (ee _)) (rv_ 38 (.int .i64 q.c) (fun a ee => execL1 rfl (Or.inl rfl) (ee _) (row_1 Fg1 rfl)) (rc_ 39 ((h7 ▸ pwithin q.c 1 64 X1_6)) (cb_ fun X1_7 bQ => ?_)))
    replace Fg1 := (on9 Fg1 bQ)
    replace BB := BB.trans (bQ.mono BB.size)
    clear bQ
    refine rv_ 42 (.pointer (some ⟨g1, 8, none⟩)) (fun a ee => execFC8 rfl (ee _)) (rv_ 43 (.int .i64 q.w) (fun a ee => execL1 rfl (Or.inl rfl) (ee _) (row_1 Fg1 rfl)) (rc_ 44 ((h8 ▸ pwithin q.w 1 64 X1_7)) (cb_ fun X1_8 bQ => ?_)))
    replace Fg1 := (on9 Fg1 bQ)
    replace BB := BB.trans (bQ.mono BB.size)
    clear bQ
    refine rv_ 47 (.pointer (some ⟨g1, 9, none⟩)) (fun a ee => execFC9 rfl (ee _)) (rv_ 48 (.int .i64 q.k) (fun a ee => execL1 rfl (Or.inl rfl) (ee _) (row_1 Fg1 rfl)) (rc_ 49 ((h9 ▸ pwithin q.k 0 1024 X1_8)) (cb_ fun X1_9 bQ => ?_)))
    replace Fg1 := (on9 Fg1 bQ)
    replace BB := BB.trans (bQ.mono BB.size)
    clear bQ
    refine rv_ 52 (.pointer (some ⟨g1, 10, none⟩)) (fun a ee => execFC10 rfl (ee _)) (rv_ 53 (.int .i64 q.h) (fun a ee => execL1 rfl (Or.inl rfl) (ee _) (row_1 Fg1 rfl)) (rc_ 54 ((h10 ▸ pwithin q.h 1 64 X1_9)) (cb_ fun X1 bQ => ?_)))
    replace Fg1 := (on9 Fg1 bQ)
    replace BB := BB.trans (bQ.mono BB.size)
    clear bQ
    refine rg_ [(2, .bool false)] ?_
    rintro a A ⟨t2, -⟩
    refine wp_ret ?_
    refine bodyPost_ret (results_tmp rfl _ _ _) A.2 ⟨?_, BB⟩
    show Ending.returned (a.eval (.tmp 2)) = _
    rw [t2]
    rw [show cfQ m q = false by simp only [cfQ, decide_eq_true h0, h1, h2, h3, h4, h5, h6, h7, h8, h9, h10, Bool.true_and]]
  replace h10 := bnf h10
  refine wi_ A (h1_ t1) (rv_ 0 (.pointer (some ⟨g1, 0, none⟩)) (fun a ee => execFC0 rfl (ee _)) (rv_ 1 (mv) (fun a ee => execL1 rfl (Or.inr (Or.inr rfl)) (ee _) (row_1 Fg1 rfl)) (rv_ 2 (.int .i64 ((m : Nat) : Int)) (fun a ee => execLenV (len := m) rfl (ee _) hmv) (rv_ 3 (.bool true) (fun a ee => execDec (execEqN (p := m) (q := 32) rfl (ee _) rfl) (decide_eq_true (by omega))) (rv_ 5 (.pointer (some ⟨g1, 1, none⟩)) (fun a ee => execFC1 rfl (ee _)) (rv_ 6 (.int .i64 q.l) (fun a ee => execL1 rfl (Or.inl rfl) (ee _) (row_1 Fg1 rfl)) (rc_ 7 ((h1 ▸ pwithin q.l 1 8 X0)) (cb_ fun X1_1 bQ => ?_))))))))
  replace Fg1 := (on9 Fg1 bQ)
  replace BB := BB.trans (bQ.mono BB.size)
  clear bQ
  refine rv_ 10 (.pointer (some ⟨g1, 2, none⟩)) (fun a ee => execFC2 rfl (ee _)) (rv_ 11 (.int .i64 q.s) (fun a ee => execL1 rfl (Or.inl rfl) (ee _) (row_1 Fg1 rfl)) (rc_ 12 ((h2 ▸ pwithin q.s 1 8 X1_1)) (cb_ fun X1_2 bQ => ?_)))
  replace Fg1 := (on9 Fg1 bQ)
  replace BB := BB.trans (bQ.mono BB.size)
  clear bQ
  refine rv_ 15 (.pointer (some ⟨g1, 3, none⟩)) (fun a ee => execFC3 rfl (ee _)) (rv_ 16 (.int .i64 q.r) (fun a ee => execL1 rfl (Or.inl rfl) (ee _) (row_1 Fg1 rfl)) (rc_ 17 ((h3 ▸ pwithin q.r 0 4096 X1_2)) (cb_ fun X1_3 bQ => ?_)))
  replace Fg1 := (on9 Fg1 bQ)
  replace BB := BB.trans (bQ.mono BB.size)
  clear bQ
  refine rv_ 20 (.pointer (some ⟨g1, 5, none⟩)) (fun a ee => execFC5 rfl (ee _)) (rv_ 21 (.int .i64 q.d) (fun a ee => execL1 rfl (Or.inl rfl) (ee _) (row_1 Fg1 rfl)) (rc_ 22 ((h4 ▸ pwithin q.d 1 1000 X1_3)) (cb_ fun X1_4 bQ => ?_)))
  replace Fg1 := (on9 Fg1 bQ)
  replace BB := BB.trans (bQ.mono BB.size)
  clear bQ
  refine rv_ 25 (.pointer (some ⟨g1, 4, none⟩)) (fun a ee => execFC4 rfl (ee _)) (rv_ 26 (.int .i64 q.u) (fun a ee => execL1 rfl (Or.inl rfl) (ee _) (row_1 Fg1 rfl)) (rv_ 27 (.pointer (some ⟨g1, 5, none⟩)) (fun a ee => execFC5 rfl (ee _)) (rv_ 28 (.int .i64 q.d) (fun a ee => execL1 rfl (Or.inl rfl) (ee _) (row_1 Fg1 rfl)) (rc_ 29 ((h5 ▸ pwithin q.u 0 q.d X1_4)) (cb_ fun X1_5 bQ => ?_)))))
  replace Fg1 := (on9 Fg1 bQ)
  replace BB := BB.trans (bQ.mono BB.size)
  clear bQ
  refine rv_ 32 (.pointer (some ⟨g1, 6, none⟩)) (fun a ee => execFC6 rfl (ee _)) (rv_ 33 (.int .i64 q.o) (fun a ee => execL1 rfl (Or.inl rfl) (ee _) (row_1 Fg1 rfl)) (rc_ 34 ((h6 ▸ pwithin q.o 0 16 X1_5)) (cb_ fun X1_6 bQ => ?_)))
  replace Fg1 := (on9 Fg1 bQ)
  replace BB := BB.trans (bQ.mono BB.size)
  clear bQ
  refine rv_ 37 (.pointer (some ⟨g1, 7, none⟩)) (fun a ee => execFC7 rfl (ee _)) (rv_ 38 (.int .i64 q.c) (fun a ee => execL1 rfl (Or.inl rfl) (ee _) (row_1 Fg1 rfl)) (rc_ 39 ((h7 ▸ pwithin q.c 1 64 X1_6)) (cb_ fun X1_7 bQ => ?_)))
  replace Fg1 := (on9 Fg1 bQ)
  replace BB := BB.trans (bQ.mono BB.size)
  clear bQ
  refine rv_ 42 (.pointer (some ⟨g1, 8, none⟩)) (fun a ee => execFC8 rfl (ee _)) (rv_ 43 (.int .i64 q.w) (fun a ee => execL1 rfl (Or.inl rfl) (ee _) (row_1 Fg1 rfl)) (rc_ 44 ((h8 ▸ pwithin q.w 1 64 X1_7)) (cb_ fun X1_8 bQ => ?_)))
  replace Fg1 := (on9 Fg1 bQ)
  replace BB := BB.trans (bQ.mono BB.size)
  clear bQ
  refine rv_ 47 (.pointer (some ⟨g1, 9, none⟩)) (fun a ee => execFC9 rfl (ee _)) (rv_ 48 (.int .i64 q.k) (fun a ee => execL1 rfl (Or.inl rfl) (ee _) (row_1 Fg1 rfl)) (rc_ 49 ((h9 ▸ pwithin q.k 0 1024 X1_8)) (cb_ fun X1_9 bQ => ?_)))
  replace Fg1 := (on9 Fg1 bQ)
  replace BB := BB.trans (bQ.mono BB.size)
  clear bQ
  refine rv_ 52 (.pointer (some ⟨g1, 10, none⟩)) (fun a ee => execFC10 rfl (ee _)) (rv_ 53 (.int .i64 q.h) (fun a ee => execL1 rfl (Or.inl rfl) (ee _) (row_1 Fg1 rfl)) (rc_ 54 ((h10 ▸ pwithin q.h 1 64 X1_9)) (cb_ fun X1 bQ => ?_)))
  replace Fg1 := (on9 Fg1 bQ)
  replace BB := BB.trans (bQ.mono BB.size)
  clear bQ
  refine rg_ [(2, .bool true)] ?_
  rintro a A ⟨t2, -⟩
  refine wp_ret ?_
  refine bodyPost_ret (results_tmp rfl _ _ _) A.2 ⟨?_, BB⟩
  show Ending.returned (a.eval (.tmp 2)) = _
  rw [t2]
  rw [show cfQ m q = true by simp only [cfQ, decide_eq_true h0, h1, h2, h3, h4, h5, h6, h7, h8, h9, h10, Bool.true_and]]
set_option maxRecDepth 100000 in
set_option maxHeartbeats 4000000 in
/-- right. -/
theorem rright21 (mv : Value) (m : Nat) (q : Cg) (V : World) (hm : ∃ g n c, mv = .slice g n c) (hmv : ∃ ao c, mv = .slice ao m c) :
    Calls Tryz.prog 11 #[.agg (cfC mv q)] V fun e w' => e = .returned (.bool (cfQ m q)) ∧ Below V.heap.size V w' := by
  go_enter Tryz.func11, Tryz.ntmps11
  refine wo_ 59 [(0, .agg (cfC mv q))] ?_
  rintro a A ⟨t0, -⟩
  have BW : Below V.heap.size V V := Below.refl _ _
  have BB := BW
  refine wp_seq ?_
  obtain ⟨g1, egg1⟩ : ∃ z_ : Nat, V.heap.size = z_ := ⟨_, rfl⟩
  refine wi_ A (h1_ t0) (rs_ 0 (fun a ee => ?_))
  refine stepV rfl rfl (execBxC hm rfl (ee _)) ⟨.pointer (some ⟨g1, 0, none⟩), ⟨_, rfl, by subst egg1; rfl⟩, fun X0 hX => ?_⟩
  have bQ : Below V.heap.size V X0 := by subst hX egg1; exact (belNew V _)
  have Fg1 : (X0.heap[g1]? = some (.cells (cfC mv q) 24)) := by subst hX egg1; exact heapNew V _
  replace BB := BB.trans (bQ.mono BB.size)
  clear bQ hX egg1 ee a
  refine rg_ [(1, .pointer (some ⟨g1, 0, none⟩))] ?_
  rintro a A ⟨t1, -⟩
  refine wp_seq ?_
  by_cases h0 : ¬ m = 32
  · refine wi_ A (h1_ t1) (rv_ 0 (.pointer (some ⟨g1, 0, none⟩)) (fun a ee => execFC0 rfl (ee _)) (rv_ 1 (mv) (fun a ee => execL1 rfl (Or.inr (Or.inr rfl)) (ee _) (row_1 Fg1 rfl)) (rv_ 2 (.int .i64 ((m : Nat) : Int)) (fun a ee => execLenV (len := m) rfl (ee _) hmv) (rv_ 3 (.bool false) (fun a ee => execDec (execEqN (p := m) (q := 32) rfl (ee _) rfl) (decide_eq_false (by omega))) (rg_ [(2, .bool false)] ?_)))))
    rintro a A ⟨t2, -⟩
    refine wp_ret ?_
    refine bodyPost_ret (results_tmp rfl _ _ _) A.2 ⟨?_, BB⟩
    show Ending.returned (a.eval (.tmp 2)) = _
    rw [t2]
    rw [show cfQ m q = false by simp only [cfQ, decide_eq_false h0, Bool.false_and]]
  replace h0 := Classical.not_not.1 h0
  by_cases h1 : inB q.l 1 8 = false
  · refine wi_ A (h1_ t1) (rv_ 0 (.pointer (some ⟨g1, 0, none⟩)) (fun a ee => execFC0 rfl (ee _)) (rv_ 1 (mv) (fun a ee => execL1 rfl (Or.inr (Or.inr rfl)) (ee _) (row_1 Fg1 rfl)) (rv_ 2 (.int .i64 ((m : Nat) : Int)) (fun a ee => execLenV (len := m) rfl (ee _) hmv) (rv_ 3 (.bool true) (fun a ee => execDec (execEqN (p := m) (q := 32) rfl (ee _) rfl) (decide_eq_true (by omega))) (rv_ 5 (.pointer (some ⟨g1, 1, none⟩)) (fun a ee => execFC1 rfl (ee _)) (rv_ 6 (.int .i64 q.l) (fun a ee => execL1 rfl (Or.inl rfl) (ee _) (row_1 Fg1 rfl)) (rc_ 7 ((h1 ▸ rwithin21 q.l 1 8 X0)) (cb_ fun X1 bQ => ?_))))))))
    replace Fg1 := (on9 Fg1 bQ)
    replace BB := BB.trans (bQ.mono BB.size)
    clear bQ
    refine rg_ [(2, .bool false)] ?_
    rintro a A ⟨t2, -⟩
    refine wp_ret ?_
    refine bodyPost_ret (results_tmp rfl _ _ _) A.2 ⟨?_, BB⟩
    show Ending.returned (a.eval (.tmp 2)) = _
    rw [t2]
    rw [show cfQ m q = false by simp only [cfQ, decide_eq_true h0, h1, Bool.true_and, Bool.false_and]]
  replace h1 := bnf h1
  by_cases h2 : inB q.s 1 8 = false
  · refine wi_ A (h1_ t1) (rv_ 0 (.pointer (some ⟨g1, 0, none⟩)) (fun a ee => execFC0 rfl (ee _)) (rv_ 1 (mv) (fun a ee => execL1 rfl (Or.inr (Or.inr rfl)) (ee _) (row_1 Fg1 rfl)) (rv_ 2 (.int .i64 ((m : Nat) : Int)) (fun a ee => execLenV (len := m) rfl (ee _) hmv) (rv_ 3 (.bool true) (fun a ee => execDec (execEqN (p := m) (q := 32) rfl (ee _) rfl) (decide_eq_true (by omega))) (rv_ 5 (.pointer (some ⟨g1, 1, none⟩)) (fun a ee => execFC1 rfl (ee _)) (rv_ 6 (.int .i64 q.l) (fun a ee => execL1 rfl (Or.inl rfl) (ee _) (row_1 Fg1 rfl)) (rc_ 7 ((h1 ▸ rwithin21 q.l 1 8 X0)) (cb_ fun X1_1 bQ => ?_))))))))
    replace Fg1 := (on9 Fg1 bQ)
    replace BB := BB.trans (bQ.mono BB.size)
    clear bQ
    refine rv_ 10 (.pointer (some ⟨g1, 2, none⟩)) (fun a ee => execFC2 rfl (ee _)) (rv_ 11 (.int .i64 q.s) (fun a ee => execL1 rfl (Or.inl rfl) (ee _) (row_1 Fg1 rfl)) (rc_ 12 ((h2 ▸ rwithin21 q.s 1 8 X1_1)) (cb_ fun X1 bQ => ?_)))
    replace Fg1 := (on9 Fg1 bQ)
    replace BB := BB.trans (bQ.mono BB.size)
    clear bQ
    refine rg_ [(2, .bool false)] ?_
    rintro a A ⟨t2, -⟩
    refine wp_ret ?_
    refine bodyPost_ret (results_tmp rfl _ _ _) A.2 ⟨?_, BB⟩
    show Ending.returned (a.eval (.tmp 2)) = _
    rw [t2]
    rw [show cfQ m q = false by simp only [cfQ, decide_eq_true h0, h1, h2, Bool.true_and, Bool.false_and]]
  replace h2 := bnf h2
  by_cases h3 : inB q.r 0 4096 = false
  · refine wi_ A (h1_ t1) (rv_ 0 (.pointer (some ⟨g1, 0, none⟩)) (fun a ee => execFC0 rfl (ee _)) (rv_ 1 (mv) (fun a ee => execL1 rfl (Or.inr (Or.inr rfl)) (ee _) (row_1 Fg1 rfl)) (rv_ 2 (.int .i64 ((m : Nat) : Int)) (fun a ee => execLenV (len := m) rfl (ee _) hmv) (rv_ 3 (.bool true) (fun a ee => execDec (execEqN (p := m) (q := 32) rfl (ee _) rfl) (decide_eq_true (by omega))) (rv_ 5 (.pointer (some ⟨g1, 1, none⟩)) (fun a ee => execFC1 rfl (ee _)) (rv_ 6 (.int .i64 q.l) (fun a ee => execL1 rfl (Or.inl rfl) (ee _) (row_1 Fg1 rfl)) (rc_ 7 ((h1 ▸ rwithin21 q.l 1 8 X0)) (cb_ fun X1_1 bQ => ?_))))))))
    replace Fg1 := (on9 Fg1 bQ)
    replace BB := BB.trans (bQ.mono BB.size)
    clear bQ
    refine rv_ 10 (.pointer (some ⟨g1, 2, none⟩)) (fun a ee => execFC2 rfl (ee _)) (rv_ 11 (.int .i64 q.s) (fun a ee => execL1 rfl (Or.inl rfl) (ee _) (row_1 Fg1 rfl)) (rc_ 12 ((h2 ▸ rwithin21 q.s 1 8 X1_1)) (cb_ fun X1_2 bQ => ?_)))
    replace Fg1 := (on9 Fg1 bQ)
    replace BB := BB.trans (bQ.mono BB.size)
    clear bQ
    refine rv_ 15 (.pointer (some ⟨g1, 3, none⟩)) (fun a ee => execFC3 rfl (ee _)) (rv_ 16 (.int .i64 q.r) (fun a ee => execL1 rfl (Or.inl rfl) (ee _) (row_1 Fg1 rfl)) (rc_ 17 ((h3 ▸ rwithin21 q.r 0 4096 X1_2)) (cb_ fun X1 bQ => ?_)))
    replace Fg1 := (on9 Fg1 bQ)
    replace BB := BB.trans (bQ.mono BB.size)
    clear bQ
    refine rg_ [(2, .bool false)] ?_
    rintro a A ⟨t2, -⟩
    refine wp_ret ?_
    refine bodyPost_ret (results_tmp rfl _ _ _) A.2 ⟨?_, BB⟩
    show Ending.returned (a.eval (.tmp 2)) = _
    rw [t2]
    rw [show cfQ m q = false by simp only [cfQ, decide_eq_true h0, h1, h2, h3, Bool.true_and, Bool.false_and]]
  replace h3 := bnf h3
  by_cases h4 : inB q.d 1 1000 = false
  · refine wi_ A (h1_ t1) (rv_ 0 (.pointer (some ⟨g1, 0, none⟩)) (fun a ee => execFC0 rfl (ee _)) (rv_ 1 (mv) (fun a ee => execL1 rfl (Or.inr (Or.inr rfl)) (ee _) (row_1 Fg1 rfl)) (rv_ 2 (.int .i64 ((m : Nat) : Int)) (fun a ee => execLenV (len := m) rfl (ee _) hmv) (rv_ 3 (.bool true) (fun a ee => execDec (execEqN (p := m) (q := 32) rfl (ee _) rfl) (decide_eq_true (by omega))) (rv_ 5 (.pointer (some ⟨g1, 1, none⟩)) (fun a ee => execFC1 rfl (ee _)) (rv_ 6 (.int .i64 q.l) (fun a ee => execL1 rfl (Or.inl rfl) (ee _) (row_1 Fg1 rfl)) (rc_ 7 ((h1 ▸ rwithin21 q.l 1 8 X0)) (cb_ fun X1_1 bQ => ?_))))))))
    replace Fg1 := (on9 Fg1 bQ)
    replace BB := BB.trans (bQ.mono BB.size)
    clear bQ
    refine rv_ 10 (.pointer (some ⟨g1, 2, none⟩)) (fun a ee => execFC2 rfl (ee _)) (rv_ 11 (.int .i64 q.s) (fun a ee => execL1 rfl (Or.inl rfl) (ee _) (row_1 Fg1 rfl)) (rc_ 12 ((h2 ▸ rwithin21 q.s 1 8 X1_1)) (cb_ fun X1_2 bQ => ?_)))
    replace Fg1 := (on9 Fg1 bQ)
    replace BB := BB.trans (bQ.mono BB.size)
    clear bQ
    refine rv_ 15 (.pointer (some ⟨g1, 3, none⟩)) (fun a ee => execFC3 rfl (ee _)) (rv_ 16 (.int .i64 q.r) (fun a ee => execL1 rfl (Or.inl rfl) (ee _) (row_1 Fg1 rfl)) (rc_ 17 ((h3 ▸ rwithin21 q.r 0 4096 X1_2)) (cb_ fun X1_3 bQ => ?_)))
    replace Fg1 := (on9 Fg1 bQ)
    replace BB := BB.trans (bQ.mono BB.size)
    clear bQ
    refine rv_ 20 (.pointer (some ⟨g1, 5, none⟩)) (fun a ee => execFC5 rfl (ee _)) (rv_ 21 (.int .i64 q.d) (fun a ee => execL1 rfl (Or.inl rfl) (ee _) (row_1 Fg1 rfl)) (rc_ 22 ((h4 ▸ rwithin21 q.d 1 1000 X1_3)) (cb_ fun X1 bQ => ?_)))
    replace Fg1 := (on9 Fg1 bQ)
    replace BB := BB.trans (bQ.mono BB.size)
    clear bQ
    refine rg_ [(2, .bool false)] ?_
    rintro a A ⟨t2, -⟩
    refine wp_ret ?_
    refine bodyPost_ret (results_tmp rfl _ _ _) A.2 ⟨?_, BB⟩
    show Ending.returned (a.eval (.tmp 2)) = _
    rw [t2]
    rw [show cfQ m q = false by simp only [cfQ, decide_eq_true h0, h1, h2, h3, h4, Bool.true_and, Bool.false_and]]
  replace h4 := bnf h4
  by_cases h5 : inB q.u 0 q.d = false
  · refine wi_ A (h1_ t1) (rv_ 0 (.pointer (some ⟨g1, 0, none⟩)) (fun a ee => execFC0 rfl (ee _)) (rv_ 1 (mv) (fun a ee => execL1 rfl (Or.inr (Or.inr rfl)) (ee _) (row_1 Fg1 rfl)) (rv_ 2 (.int .i64 ((m : Nat) : Int)) (fun a ee => execLenV (len := m) rfl (ee _) hmv) (rv_ 3 (.bool true) (fun a ee => execDec (execEqN (p := m) (q := 32) rfl (ee _) rfl) (decide_eq_true (by omega))) (rv_ 5 (.pointer (some ⟨g1, 1, none⟩)) (fun a ee => execFC1 rfl (ee _)) (rv_ 6 (.int .i64 q.l) (fun a ee => execL1 rfl (Or.inl rfl) (ee _) (row_1 Fg1 rfl)) (rc_ 7 ((h1 ▸ rwithin21 q.l 1 8 X0)) (cb_ fun X1_1 bQ => ?_))))))))
    replace Fg1 := (on9 Fg1 bQ)
    replace BB := BB.trans (bQ.mono BB.size)
    clear bQ
    refine rv_ 10 (.pointer (some ⟨g1, 2, none⟩)) (fun a ee => execFC2 rfl (ee _)) (rv_ 11 (.int .i64 q.s) (fun a ee => execL1 rfl (Or.inl rfl) (ee _) (row_1 Fg1 rfl)) (rc_ 12 ((h2 ▸ rwithin21 q.s 1 8 X1_1)) (cb_ fun X1_2 bQ => ?_)))
    replace Fg1 := (on9 Fg1 bQ)
    replace BB := BB.trans (bQ.mono BB.size)
    clear bQ
    refine rv_ 15 (.pointer (some ⟨g1, 3, none⟩)) (fun a ee => execFC3 rfl (ee _)) (rv_ 16 (.int .i64 q.r) (fun a ee => execL1 rfl (Or.inl rfl) (ee _) (row_1 Fg1 rfl)) (rc_ 17 ((h3 ▸ rwithin21 q.r 0 4096 X1_2)) (cb_ fun X1_3 bQ => ?_)))
    replace Fg1 := (on9 Fg1 bQ)
    replace BB := BB.trans (bQ.mono BB.size)
    clear bQ
    refine rv_ 20 (.pointer (some ⟨g1, 5, none⟩)) (fun a ee => execFC5 rfl (ee _)) (rv_ 21 (.int .i64 q.d) (fun a ee => execL1 rfl (Or.inl rfl) (ee _) (row_1 Fg1 rfl)) (rc_ 22 ((h4 ▸ rwithin21 q.d 1 1000 X1_3)) (cb_ fun X1_4 bQ => ?_)))
    replace Fg1 := (on9 Fg1 bQ)
    replace BB := BB.trans (bQ.mono BB.size)
    clear bQ
    refine rv_ 25 (.pointer (some ⟨g1, 4, none⟩)) (fun a ee => execFC4 rfl (ee _)) (rv_ 26 (.int .i64 q.u) (fun a ee => execL1 rfl (Or.inl rfl) (ee _) (row_1 Fg1 rfl)) (rv_ 27 (.pointer (some ⟨g1, 5, none⟩)) (fun a ee => execFC5 rfl (ee _)) (rv_ 28 (.int .i64 q.d) (fun a ee => execL1 rfl (Or.inl rfl) (ee _) (row_1 Fg1 rfl)) (rc_ 29 ((h5 ▸ rwithin21 q.u 0 q.d X1_4)) (cb_ fun X1 bQ => ?_)))))
    replace Fg1 := (on9 Fg1 bQ)
    replace BB := BB.trans (bQ.mono BB.size)
    clear bQ
    refine rg_ [(2, .bool false)] ?_
    rintro a A ⟨t2, -⟩
    refine wp_ret ?_
    refine bodyPost_ret (results_tmp rfl _ _ _) A.2 ⟨?_, BB⟩
    show Ending.returned (a.eval (.tmp 2)) = _
    rw [t2]
    rw [show cfQ m q = false by simp only [cfQ, decide_eq_true h0, h1, h2, h3, h4, h5, Bool.true_and, Bool.false_and]]
  replace h5 := bnf h5
  by_cases h6 : inB q.o 0 16 = false
  · refine wi_ A (h1_ t1) (rv_ 0 (.pointer (some ⟨g1, 0, none⟩)) (fun a ee => execFC0 rfl (ee _)) (rv_ 1 (mv) (fun a ee => execL1 rfl (Or.inr (Or.inr rfl)) (ee _) (row_1 Fg1 rfl)) (rv_ 2 (.int .i64 ((m : Nat) : Int)) (fun a ee => execLenV (len := m) rfl (ee _) hmv) (rv_ 3 (.bool true) (fun a ee => execDec (execEqN (p := m) (q := 32) rfl (ee _) rfl) (decide_eq_true (by omega))) (rv_ 5 (.pointer (some ⟨g1, 1, none⟩)) (fun a ee => execFC1 rfl (ee _)) (rv_ 6 (.int .i64 q.l) (fun a ee => execL1 rfl (Or.inl rfl) (ee _) (row_1 Fg1 rfl)) (rc_ 7 ((h1 ▸ rwithin21 q.l 1 8 X0)) (cb_ fun X1_1 bQ => ?_))))))))
    replace Fg1 := (on9 Fg1 bQ)
    replace BB := BB.trans (bQ.mono BB.size)
    clear bQ
    refine rv_ 10 (.pointer (some ⟨g1, 2, none⟩)) (fun a ee => execFC2 rfl (ee _)) (rv_ 11 (.int .i64 q.s) (fun a ee => execL1 rfl (Or.inl rfl) (ee _) (row_1 Fg1 rfl)) (rc_ 12 ((h2 ▸ rwithin21 q.s 1 8 X1_1)) (cb_ fun X1_2 bQ => ?_)))
    replace Fg1 := (on9 Fg1 bQ)
    replace BB := BB.trans (bQ.mono BB.size)
    clear bQ
    refine rv_ 15 (.pointer (some ⟨g1, 3, none⟩)) (fun a ee => execFC3 rfl (ee _)) (rv_ 16 (.int .i64 q.r) (fun a ee => execL1 rfl (Or.inl rfl) (ee _) (row_1 Fg1 rfl)) (rc_ 17 ((h3 ▸ rwithin21 q.r 0 4096 X1_2)) (cb_ fun X1_3 bQ => ?_)))
    replace Fg1 := (on9 Fg1 bQ)
    replace BB := BB.trans (bQ.mono BB.size)
    clear bQ
    refine rv_ 20 (.pointer (some ⟨g1, 5, none⟩)) (fun a ee => execFC5 rfl (ee _)) (rv_ 21 (.int .i64 q.d) (fun a ee => execL1 rfl (Or.inl rfl) (ee _) (row_1 Fg1 rfl)) (rc_ 22 ((h4 ▸ rwithin21 q.d 1 1000 X1_3)) (cb_ fun X1_4 bQ => ?_)))
    replace Fg1 := (on9 Fg1 bQ)
    replace BB := BB.trans (bQ.mono BB.size)
    clear bQ
    refine rv_ 25 (.pointer (some ⟨g1, 4, none⟩)) (fun a ee => execFC4 rfl (ee _)) (rv_ 26 (.int .i64 q.u) (fun a ee => execL1 rfl (Or.inl rfl) (ee _) (row_1 Fg1 rfl)) (rv_ 27 (.pointer (some ⟨g1, 5, none⟩)) (fun a ee => execFC5 rfl (ee _)) (rv_ 28 (.int .i64 q.d) (fun a ee => execL1 rfl (Or.inl rfl) (ee _) (row_1 Fg1 rfl)) (rc_ 29 ((h5 ▸ rwithin21 q.u 0 q.d X1_4)) (cb_ fun X1_5 bQ => ?_)))))
    replace Fg1 := (on9 Fg1 bQ)
    replace BB := BB.trans (bQ.mono BB.size)
    clear bQ
    refine rv_ 32 (.pointer (some ⟨g1, 6, none⟩)) (fun a ee => execFC6 rfl (ee _)) (rv_ 33 (.int .i64 q.o) (fun a ee => execL1 rfl (Or.inl rfl) (ee _) (row_1 Fg1 rfl)) (rc_ 34 ((h6 ▸ rwithin21 q.o 0 16 X1_5)) (cb_ fun X1 bQ => ?_)))
    replace Fg1 := (on9 Fg1 bQ)
    replace BB := BB.trans (bQ.mono BB.size)
    clear bQ
    refine rg_ [(2, .bool false)] ?_
    rintro a A ⟨t2, -⟩
    refine wp_ret ?_
    refine bodyPost_ret (results_tmp rfl _ _ _) A.2 ⟨?_, BB⟩
    show Ending.returned (a.eval (.tmp 2)) = _
    rw [t2]
    rw [show cfQ m q = false by simp only [cfQ, decide_eq_true h0, h1, h2, h3, h4, h5, h6, Bool.true_and, Bool.false_and]]
  replace h6 := bnf h6
  by_cases h7 : inB q.c 1 64 = false
  · refine wi_ A (h1_ t1) (rv_ 0 (.pointer (some ⟨g1, 0, none⟩)) (fun a ee => execFC0 rfl (ee _)) (rv_ 1 (mv) (fun a ee => execL1 rfl (Or.inr (Or.inr rfl)) (ee _) (row_1 Fg1 rfl)) (rv_ 2 (.int .i64 ((m : Nat) : Int)) (fun a ee => execLenV (len := m) rfl (ee _) hmv) (rv_ 3 (.bool true) (fun a ee => execDec (execEqN (p := m) (q := 32) rfl (ee _) rfl) (decide_eq_true (by omega))) (rv_ 5 (.pointer (some ⟨g1, 1, none⟩)) (fun a ee => execFC1 rfl (ee _)) (rv_ 6 (.int .i64 q.l) (fun a ee => execL1 rfl (Or.inl rfl) (ee _) (row_1 Fg1 rfl)) (rc_ 7 ((h1 ▸ rwithin21 q.l 1 8 X0)) (cb_ fun X1_1 bQ => ?_))))))))
    replace Fg1 := (on9 Fg1 bQ)
    replace BB := BB.trans (bQ.mono BB.size)
    clear bQ
    refine rv_ 10 (.pointer (some ⟨g1, 2, none⟩)) (fun a ee => execFC2 rfl (ee _)) (rv_ 11 (.int .i64 q.s) (fun a ee => execL1 rfl (Or.inl rfl) (ee _) (row_1 Fg1 rfl)) (rc_ 12 ((h2 ▸ rwithin21 q.s 1 8 X1_1)) (cb_ fun X1_2 bQ => ?_)))
    replace Fg1 := (on9 Fg1 bQ)
    replace BB := BB.trans (bQ.mono BB.size)
    clear bQ
    refine rv_ 15 (.pointer (some ⟨g1, 3, none⟩)) (fun a ee => execFC3 rfl (ee _)) (rv_ 16 (.int .i64 q.r) (fun a ee => execL1 rfl (Or.inl rfl) (ee _) (row_1 Fg1 rfl)) (rc_ 17 ((h3 ▸ rwithin21 q.r 0 4096 X1_2)) (cb_ fun X1_3 bQ => ?_)))
    replace Fg1 := (on9 Fg1 bQ)
    replace BB := BB.trans (bQ.mono BB.size)
    clear bQ
    refine rv_ 20 (.pointer (some ⟨g1, 5, none⟩)) (fun a ee => execFC5 rfl (ee _)) (rv_ 21 (.int .i64 q.d) (fun a ee => execL1 rfl (Or.inl rfl) (ee _) (row_1 Fg1 rfl)) (rc_ 22 ((h4 ▸ rwithin21 q.d 1 1000 X1_3)) (cb_ fun X1_4 bQ => ?_)))
    replace Fg1 := (on9 Fg1 bQ)
    replace BB := BB.trans (bQ.mono BB.size)
    clear bQ
    refine rv_ 25 (.pointer (some ⟨g1, 4, none⟩)) (fun a ee => execFC4 rfl (ee _)) (rv_ 26 (.int .i64 q.u) (fun a ee => execL1 rfl (Or.inl rfl) (ee _) (row_1 Fg1 rfl)) (rv_ 27 (.pointer (some ⟨g1, 5, none⟩)) (fun a ee => execFC5 rfl (ee _)) (rv_ 28 (.int .i64 q.d) (fun a ee => execL1 rfl (Or.inl rfl) (ee _) (row_1 Fg1 rfl)) (rc_ 29 ((h5 ▸ rwithin21 q.u 0 q.d X1_4)) (cb_ fun X1_5 bQ => ?_)))))
    replace Fg1 := (on9 Fg1 bQ)
    replace BB := BB.trans (bQ.mono BB.size)
    clear bQ
    refine rv_ 32 (.pointer (some ⟨g1, 6, none⟩)) (fun a ee => execFC6 rfl (ee _)) (rv_ 33 (.int .i64 q.o) (fun a ee => execL1 rfl (Or.inl rfl) (ee _) (row_1 Fg1 rfl)) (rc_ 34 ((h6 ▸ rwithin21 q.o 0 16 X1_5)) (cb_ fun X1_6 bQ => ?_)))
    replace Fg1 := (on9 Fg1 bQ)
    replace BB := BB.trans (bQ.mono BB.size)
    clear bQ
    refine rv_ 37 (.pointer (some ⟨g1, 7, none⟩)) (fun a ee => execFC7 rfl (ee _)) (rv_ 38 (.int .i64 q.c) (fun a ee => execL1 rfl (Or.inl rfl) (ee _) (row_1 Fg1 rfl)) (rc_ 39 ((h7 ▸ rwithin21 q.c 1 64 X1_6)) (cb_ fun X1 bQ => ?_)))
    replace Fg1 := (on9 Fg1 bQ)
    replace BB := BB.trans (bQ.mono BB.size)
    clear bQ
    refine rg_ [(2, .bool false)] ?_
    rintro a A ⟨t2, -⟩
    refine wp_ret ?_
    refine bodyPost_ret (results_tmp rfl _ _ _) A.2 ⟨?_, BB⟩
    show Ending.returned (a.eval (.tmp 2)) = _
    rw [t2]
    rw [show cfQ m q = false by simp only [cfQ, decide_eq_true h0, h1, h2, h3, h4, h5, h6, h7, Bool.true_and, Bool.false_and]]
  replace h7 := bnf h7
  by_cases h8 : inB q.w 1 64 = false
  · refine wi_ A (h1_ t1) (rv_ 0 (.pointer (some ⟨g1, 0, none⟩)) (fun a ee => execFC0 rfl (ee _)) (rv_ 1 (mv) (fun a ee => execL1 rfl (Or.inr (Or.inr rfl)) (ee _) (row_1 Fg1 rfl)) (rv_ 2 (.int .i64 ((m : Nat) : Int)) (fun a ee => execLenV (len := m) rfl (ee _) hmv) (rv_ 3 (.bool true) (fun a ee => execDec (execEqN (p := m) (q := 32) rfl (ee _) rfl) (decide_eq_true (by omega))) (rv_ 5 (.pointer (some ⟨g1, 1, none⟩)) (fun a ee => execFC1 rfl (ee _)) (rv_ 6 (.int .i64 q.l) (fun a ee => execL1 rfl (Or.inl rfl) (ee _) (row_1 Fg1 rfl)) (rc_ 7 ((h1 ▸ rwithin21 q.l 1 8 X0)) (cb_ fun X1_1 bQ => ?_))))))))
    replace Fg1 := (on9 Fg1 bQ)
    replace BB := BB.trans (bQ.mono BB.size)
    clear bQ
    refine rv_ 10 (.pointer (some ⟨g1, 2, none⟩)) (fun a ee => execFC2 rfl (ee _)) (rv_ 11 (.int .i64 q.s) (fun a ee => execL1 rfl (Or.inl rfl) (ee _) (row_1 Fg1 rfl)) (rc_ 12 ((h2 ▸ rwithin21 q.s 1 8 X1_1)) (cb_ fun X1_2 bQ => ?_)))
    replace Fg1 := (on9 Fg1 bQ)
    replace BB := BB.trans (bQ.mono BB.size)
    clear bQ
    refine rv_ 15 (.pointer (some ⟨g1, 3, none⟩)) (fun a ee => execFC3 rfl (ee _)) (rv_ 16 (.int .i64 q.r) (fun a ee => execL1 rfl (Or.inl rfl) (ee _) (row_1 Fg1 rfl)) (rc_ 17 ((h3 ▸ rwithin21 q.r 0 4096 X1_2)) (cb_ fun X1_3 bQ => ?_)))
    replace Fg1 := (on9 Fg1 bQ)
    replace BB := BB.trans (bQ.mono BB.size)
    clear bQ
    refine rv_ 20 (.pointer (some ⟨g1, 5, none⟩)) (fun a ee => execFC5 rfl (ee _)) (rv_ 21 (.int .i64 q.d) (fun a ee => execL1 rfl (Or.inl rfl) (ee _) (row_1 Fg1 rfl)) (rc_ 22 ((h4 ▸ rwithin21 q.d 1 1000 X1_3)) (cb_ fun X1_4 bQ => ?_)))
    replace Fg1 := (on9 Fg1 bQ)
    replace BB := BB.trans (bQ.mono BB.size)
    clear bQ
    refine rv_ 25 (.pointer (some ⟨g1, 4, none⟩)) (fun a ee => execFC4 rfl (ee _)) (rv_ 26 (.int .i64 q.u) (fun a ee => execL1 rfl (Or.inl rfl) (ee _) (row_1 Fg1 rfl)) (rv_ 27 (.pointer (some ⟨g1, 5, none⟩)) (fun a ee => execFC5 rfl (ee _)) (rv_ 28 (.int .i64 q.d) (fun a ee => execL1 rfl (Or.inl rfl) (ee _) (row_1 Fg1 rfl)) (rc_ 29 ((h5 ▸ rwithin21 q.u 0 q.d X1_4)) (cb_ fun X1_5 bQ => ?_)))))
    replace Fg1 := (on9 Fg1 bQ)
    replace BB := BB.trans (bQ.mono BB.size)
    clear bQ
    refine rv_ 32 (.pointer (some ⟨g1, 6, none⟩)) (fun a ee => execFC6 rfl (ee _)) (rv_ 33 (.int .i64 q.o) (fun a ee => execL1 rfl (Or.inl rfl) (ee _) (row_1 Fg1 rfl)) (rc_ 34 ((h6 ▸ rwithin21 q.o 0 16 X1_5)) (cb_ fun X1_6 bQ => ?_)))
    replace Fg1 := (on9 Fg1 bQ)
    replace BB := BB.trans (bQ.mono BB.size)
    clear bQ
    refine rv_ 37 (.pointer (some ⟨g1, 7, none⟩)) (fun a ee => execFC7 rfl (ee _)) (rv_ 38 (.int .i64 q.c) (fun a ee => execL1 rfl (Or.inl rfl) (ee _) (row_1 Fg1 rfl)) (rc_ 39 ((h7 ▸ rwithin21 q.c 1 64 X1_6)) (cb_ fun X1_7 bQ => ?_)))
    replace Fg1 := (on9 Fg1 bQ)
    replace BB := BB.trans (bQ.mono BB.size)
    clear bQ
    refine rv_ 42 (.pointer (some ⟨g1, 8, none⟩)) (fun a ee => execFC8 rfl (ee _)) (rv_ 43 (.int .i64 q.w) (fun a ee => execL1 rfl (Or.inl rfl) (ee _) (row_1 Fg1 rfl)) (rc_ 44 ((h8 ▸ rwithin21 q.w 1 64 X1_7)) (cb_ fun X1 bQ => ?_)))
    replace Fg1 := (on9 Fg1 bQ)
    replace BB := BB.trans (bQ.mono BB.size)
    clear bQ
    refine rg_ [(2, .bool false)] ?_
    rintro a A ⟨t2, -⟩
    refine wp_ret ?_
    refine bodyPost_ret (results_tmp rfl _ _ _) A.2 ⟨?_, BB⟩
    show Ending.returned (a.eval (.tmp 2)) = _
    rw [t2]
    rw [show cfQ m q = false by simp only [cfQ, decide_eq_true h0, h1, h2, h3, h4, h5, h6, h7, h8, Bool.true_and, Bool.false_and]]
  replace h8 := bnf h8
  by_cases h9 : inB q.k 0 1024 = false
  · refine wi_ A (h1_ t1) (rv_ 0 (.pointer (some ⟨g1, 0, none⟩)) (fun a ee => execFC0 rfl (ee _)) (rv_ 1 (mv) (fun a ee => execL1 rfl (Or.inr (Or.inr rfl)) (ee _) (row_1 Fg1 rfl)) (rv_ 2 (.int .i64 ((m : Nat) : Int)) (fun a ee => execLenV (len := m) rfl (ee _) hmv) (rv_ 3 (.bool true) (fun a ee => execDec (execEqN (p := m) (q := 32) rfl (ee _) rfl) (decide_eq_true (by omega))) (rv_ 5 (.pointer (some ⟨g1, 1, none⟩)) (fun a ee => execFC1 rfl (ee _)) (rv_ 6 (.int .i64 q.l) (fun a ee => execL1 rfl (Or.inl rfl) (ee _) (row_1 Fg1 rfl)) (rc_ 7 ((h1 ▸ rwithin21 q.l 1 8 X0)) (cb_ fun X1_1 bQ => ?_))))))))
    replace Fg1 := (on9 Fg1 bQ)
    replace BB := BB.trans (bQ.mono BB.size)
    clear bQ
    refine rv_ 10 (.pointer (some ⟨g1, 2, none⟩)) (fun a ee => execFC2 rfl (ee _)) (rv_ 11 (.int .i64 q.s) (fun a ee => execL1 rfl (Or.inl rfl) (ee _) (row_1 Fg1 rfl)) (rc_ 12 ((h2 ▸ rwithin21 q.s 1 8 X1_1)) (cb_ fun X1_2 bQ => ?_)))
    replace Fg1 := (on9 Fg1 bQ)
    replace BB := BB.trans (bQ.mono BB.size)
    clear bQ
    refine rv_ 15 (.pointer (some ⟨g1, 3, none⟩)) (fun a ee => execFC3 rfl (ee _)) (rv_ 16 (.int .i64 q.r) (fun a ee => execL1 rfl (Or.inl rfl) (ee _) (row_1 Fg1 rfl)) (rc_ 17 ((h3 ▸ rwithin21 q.r 0 4096 X1_2)) (cb_ fun X1_3 bQ => ?_)))
    replace Fg1 := (on9 Fg1 bQ)
    replace BB := BB.trans (bQ.mono BB.size)
    clear bQ
    refine rv_ 20 (.pointer (some ⟨g1, 5, none⟩)) (fun a ee => execFC5 rfl (ee _)) (rv_ 21 (.int .i64 q.d) (fun a ee => execL1 rfl (Or.inl rfl) (ee _) (row_1 Fg1 rfl)) (rc_ 22 ((h4 ▸ rwithin21 q.d 1 1000 X1_3)) (cb_ fun X1_4 bQ => ?_)))
    replace Fg1 := (on9 Fg1 bQ)
    replace BB := BB.trans (bQ.mono BB.size)
    clear bQ
    refine rv_ 25 (.pointer (some ⟨g1, 4, none⟩)) (fun a ee => execFC4 rfl (ee _)) (rv_ 26 (.int .i64 q.u) (fun a ee => execL1 rfl (Or.inl rfl) (ee _) (row_1 Fg1 rfl)) (rv_ 27 (.pointer (some ⟨g1, 5, none⟩)) (fun a ee => execFC5 rfl (ee _)) (rv_ 28 (.int .i64 q.d) (fun a ee => execL1 rfl (Or.inl rfl) (ee _) (row_1 Fg1 rfl)) (rc_ 29 ((h5 ▸ rwithin21 q.u 0 q.d X1_4)) (cb_ fun X1_5 bQ => ?_)))))
    replace Fg1 := (on9 Fg1 bQ)
    replace BB := BB.trans (bQ.mono BB.size)
    clear bQ
    refine rv_ 32 (.pointer (some ⟨g1, 6, none⟩)) (fun a ee => execFC6 rfl (ee _)) (rv_ 33 (.int .i64 q.o) (fun a ee => execL1 rfl (Or.inl rfl) (ee _) (row_1 Fg1 rfl)) (rc_ 34 ((h6 ▸ rwithin21 q.o 0 16 X1_5)) (cb_ fun X1_6 bQ => ?_)))
    replace Fg1 := (on9 Fg1 bQ)
    replace BB := BB.trans (bQ.mono BB.size)
    clear bQ
    refine rv_ 37 (.pointer (some ⟨g1, 7, none⟩)) (fun a ee => execFC7 rfl (ee _)) (rv_ 38 (.int .i64 q.c) (fun a ee => execL1 rfl (Or.inl rfl) (ee _) (row_1 Fg1 rfl)) (rc_ 39 ((h7 ▸ rwithin21 q.c 1 64 X1_6)) (cb_ fun X1_7 bQ => ?_)))
    replace Fg1 := (on9 Fg1 bQ)
    replace BB := BB.trans (bQ.mono BB.size)
    clear bQ
    refine rv_ 42 (.pointer (some ⟨g1, 8, none⟩)) (fun a ee => execFC8 rfl (ee _)) (rv_ 43 (.int .i64 q.w) (fun a ee => execL1 rfl (Or.inl rfl) (ee _) (row_1 Fg1 rfl)) (rc_ 44 ((h8 ▸ rwithin21 q.w 1 64 X1_7)) (cb_ fun X1_8 bQ => ?_)))
    replace Fg1 := (on9 Fg1 bQ)
    replace BB := BB.trans (bQ.mono BB.size)
    clear bQ
    refine rv_ 47 (.pointer (some ⟨g1, 9, none⟩)) (fun a ee => execFC9 rfl (ee _)) (rv_ 48 (.int .i64 q.k) (fun a ee => execL1 rfl (Or.inl rfl) (ee _) (row_1 Fg1 rfl)) (rc_ 49 ((h9 ▸ rwithin21 q.k 0 1024 X1_8)) (cb_ fun X1 bQ => ?_)))
    replace Fg1 := (on9 Fg1 bQ)
    replace BB := BB.trans (bQ.mono BB.size)
    clear bQ
    refine rg_ [(2, .bool false)] ?_
    rintro a A ⟨t2, -⟩
    refine wp_ret ?_
    refine bodyPost_ret (results_tmp rfl _ _ _) A.2 ⟨?_, BB⟩
    show Ending.returned (a.eval (.tmp 2)) = _
    rw [t2]
    rw [show cfQ m q = false by simp only [cfQ, decide_eq_true h0, h1, h2, h3, h4, h5, h6, h7, h8, h9, Bool.true_and, Bool.false_and]]
  replace h9 := bnf h9
  by_cases h10 : inB q.h 1 64 = false
  · refine wi_ A (h1_ t1) (rv_ 0 (.pointer (some ⟨g1, 0, none⟩)) (fun a ee => execFC0 rfl (ee _)) (rv_ 1 (mv) (fun a ee => execL1 rfl (Or.inr (Or.inr rfl)) (ee _) (row_1 Fg1 rfl)) (rv_ 2 (.int .i64 ((m : Nat) : Int)) (fun a ee => execLenV (len := m) rfl (ee _) hmv) (rv_ 3 (.bool true) (fun a ee => execDec (execEqN (p := m) (q := 32) rfl (ee _) rfl) (decide_eq_true (by omega))) (rv_ 5 (.pointer (some ⟨g1, 1, none⟩)) (fun a ee => execFC1 rfl (ee _)) (rv_ 6 (.int .i64 q.l) (fun a ee => execL1 rfl (Or.inl rfl) (ee _) (row_1 Fg1 rfl)) (rc_ 7 ((h1 ▸ rwithin21 q.l 1 8 X0)) (cb_ fun X1_1 bQ => ?_))))))))
    replace Fg1 := (on9 Fg1 bQ)
    replace BB := BB.trans (bQ.mono BB.size)
    clear bQ
    refine rv_ 10 (.pointer (some ⟨g1, 2, none⟩)) (fun a ee => execFC2 rfl (ee _)) (rv_ 11 (.int .i64 q.s) (fun a ee => execL1 rfl (Or.inl rfl) (ee _) (row_1 Fg1 rfl)) (rc_ 12 ((h2 ▸ rwithin21 q.s 1 8 X1_1)) (cb_ fun X1_2 bQ => ?_)))
    replace Fg1 := (on9 Fg1 bQ)
    replace BB := BB.trans (bQ.mono BB.size)
    clear bQ
    refine rv_ 15 (.pointer (some ⟨g1, 3, none⟩)) (fun a ee => execFC3 rfl (ee _)) (rv_ 16 (.int .i64 q.r) (fun a ee => execL1 rfl (Or.inl rfl) (ee _) (row_1 Fg1 rfl)) (rc_ 17 ((h3 ▸ rwithin21 q.r 0 4096 X1_2)) (cb_ fun X1_3 bQ => ?_)))
    replace Fg1 := (on9 Fg1 bQ)
    replace BB := BB.trans (bQ.mono BB.size)
    clear bQ
    refine rv_ 20 (.pointer (some ⟨g1, 5, none⟩)) (fun a ee => execFC5 rfl (ee _)) (rv_ 21 (.int .i64 q.d) (fun a ee => execL1 rfl (Or.inl rfl) (ee _) (row_1 Fg1 rfl)) (rc_ 22 ((h4 ▸ rwithin21 q.d 1 1000 X1_3)) (cb_ fun X1_4 bQ => ?_)))
    replace Fg1 := (on9 Fg1 bQ)
    replace BB := BB.trans (bQ.mono BB.size)
    clear bQ
    refine rv_ 25 (.pointer (some ⟨g1, 4, none⟩)) (fun a ee => execFC4 rfl (ee _)) (rv_ 26 (.int .i64 q.u) (fun a ee => execL1 rfl (Or.inl rfl) (ee _) (row_1 Fg1 rfl)) (rv_ 27 (.pointer (some ⟨g1, 5, none⟩)) (fun a ee => execFC5 rfl (ee _)) (rv_ 28 (.int .i64 q.d) (fun a ee => execL1 rfl (Or.inl rfl) (ee _) (row_1 Fg1 rfl)) (rc_ 29 ((h5 ▸ rwithin21 q.u 0 q.d X1_4)) (cb_ fun X1_5 bQ => ?_)))))
    replace Fg1 := (on9 Fg1 bQ)
    replace BB := BB.trans (bQ.mono BB.size)
    clear bQ
    refine rv_ 32 (.pointer (some ⟨g1, 6, none⟩)) (fun a ee => execFC6 rfl (ee _)) (rv_ 33 (.int .i64 q.o) (fun a ee => execL1 rfl (Or.inl rfl) (ee _) (row_1 Fg1 rfl)) (rc_ 34 ((h6 ▸ rwithin21 q.o 0 16 X1_5)) (cb_ fun X1_6 bQ => ?_)))
    replace Fg1 := (on9 Fg1 bQ)
    replace BB := BB.trans (bQ.mono BB.size)
    clear bQ
    refine rv_ 37 (.pointer (some ⟨g1, 7, none⟩)) (fun a ee => execFC7 rfl (ee _)) (rv_ 38 (.int .i64 q.c) (fun a ee => execL1 rfl (Or.inl rfl) (ee _) (row_1 Fg1 rfl)) (rc_ 39 ((h7 ▸ rwithin21 q.c 1 64 X1_6)) (cb_ fun X1_7 bQ => ?_)))
    replace Fg1 := (on9 Fg1 bQ)
    replace BB := BB.trans (bQ.mono BB.size)
    clear bQ
    refine rv_ 42 (.pointer (some ⟨g1, 8, none⟩)) (fun a ee => execFC8 rfl (ee _)) (rv_ 43 (.int .i64 q.w) (fun a ee => execL1 rfl (Or.inl rfl) (ee _) (row_1 Fg1 rfl)) (rc_ 44 ((h8 ▸ rwithin21 q.w 1 64 X1_7)) (cb_ fun X1_8 bQ => ?_)))
    replace Fg1 := (on9 Fg1 bQ)
    replace BB := BB.trans (bQ.mono BB.size)
    clear bQ
    refine rv_ 47 (.pointer (some ⟨g1, 9, none⟩)) (fun a ee => execFC9 rfl (ee _)) (rv_ 48 (.int .i64 q.k) (fun a ee => execL1 rfl (Or.inl rfl) (ee _) (row_1 Fg1 rfl)) (rc_ 49 ((h9 ▸ rwithin21 q.k 0 1024 X1_8)) (cb_ fun X1_9 bQ => ?_)))
    replace Fg1 := (on9 Fg1 bQ)
    replace BB := BB.trans (bQ.mono BB.size)
    clear bQ
    refine rv_ 52 (.pointer (some ⟨g1, 10, none⟩)) (fun a ee => execFC10 rfl (ee _)) (rv_ 53 (.int .i64 q.h) (fun a ee => execL1 rfl (Or.inl rfl) (ee _) (row_1 Fg1 rfl)) (rc_ 54 ((h10 ▸ rwithin21 q.h 1 64 X1_9)) (cb_ fun X1 bQ => ?_)))
    replace Fg1 := (on9 Fg1 bQ)
    replace BB := BB.trans (bQ.mono BB.size)
    clear bQ
    refine rg_ [(2, .bool false)] ?_
    rintro a A ⟨t2, -⟩
    refine wp_ret ?_
    refine bodyPost_ret (results_tmp rfl _ _ _) A.2 ⟨?_, BB⟩
    show Ending.returned (a.eval (.tmp 2)) = _
    rw [t2]
    rw [show cfQ m q = false by simp only [cfQ, decide_eq_true h0, h1, h2, h3, h4, h5, h6, h7, h8, h9, h10, Bool.true_and]]
  replace h10 := bnf h10
  refine wi_ A (h1_ t1) (rv_ 0 (.pointer (some ⟨g1, 0, none⟩)) (fun a ee => execFC0 rfl (ee _)) (rv_ 1 (mv) (fun a ee => execL1 rfl (Or.inr (Or.inr rfl)) (ee _) (row_1 Fg1 rfl)) (rv_ 2 (.int .i64 ((m : Nat) : Int)) (fun a ee => execLenV (len := m) rfl (ee _) hmv) (rv_ 3 (.bool true) (fun a ee => execDec (execEqN (p := m) (q := 32) rfl (ee _) rfl) (decide_eq_true (by omega))) (rv_ 5 (.pointer (some ⟨g1, 1, none⟩)) (fun a ee => execFC1 rfl (ee _)) (rv_ 6 (.int .i64 q.l) (fun a ee => execL1 rfl (Or.inl rfl) (ee _) (row_1 Fg1 rfl)) (rc_ 7 ((h1 ▸ rwithin21 q.l 1 8 X0)) (cb_ fun X1_1 bQ => ?_))))))))
  replace Fg1 := (on9 Fg1 bQ)
  replace BB := BB.trans (bQ.mono BB.size)
  clear bQ
  refine rv_ 10 (.pointer (some ⟨g1, 2, none⟩)) (fun a ee => execFC2 rfl (ee _)) (rv_ 11 (.int .i64 q.s) (fun a ee => execL1 rfl (Or.inl rfl) (ee _) (row_1 Fg1 rfl)) (rc_ 12 ((h2 ▸ rwithin21 q.s 1 8 X1_1)) (cb_ fun X1_2 bQ => ?_)))
  replace Fg1 := (on9 Fg1 bQ)
  replace BB := BB.trans (bQ.mono BB.size)
  clear bQ
  refine rv_ 15 (.pointer (some ⟨g1, 3, none⟩)) (fun a ee => execFC3 rfl (ee _)) (rv_ 16 (.int .i64 q.r) (fun a ee => execL1 rfl (Or.inl rfl) (ee _) (row_1 Fg1 rfl)) (rc_ 17 ((h3 ▸ rwithin21 q.r 0 4096 X1_2)) (cb_ fun X1_3 bQ => ?_)))
  replace Fg1 := (on9 Fg1 bQ)
  replace BB := BB.trans (bQ.mono BB.size)
  clear bQ
  refine rv_ 20 (.pointer (some ⟨g1, 5, none⟩)) (fun a ee => execFC5 rfl (ee _)) (rv_ 21 (.int .i64 q.d) (fun a ee => execL1 rfl (Or.inl rfl) (ee _) (row_1 Fg1 rfl)) (rc_ 22 ((h4 ▸ rwithin21 q.d 1 1000 X1_3)) (cb_ fun X1_4 bQ => ?_)))
  replace Fg1 := (on9 Fg1 bQ)
  replace BB := BB.trans (bQ.mono BB.size)
  clear bQ
  refine rv_ 25 (.pointer (some ⟨g1, 4, none⟩)) (fun a ee => execFC4 rfl (ee _)) (rv_ 26 (.int .i64 q.u) (fun a ee => execL1 rfl (Or.inl rfl) (ee _) (row_1 Fg1 rfl)) (rv_ 27 (.pointer (some ⟨g1, 5, none⟩)) (fun a ee => execFC5 rfl (ee _)) (rv_ 28 (.int .i64 q.d) (fun a ee => execL1 rfl (Or.inl rfl) (ee _) (row_1 Fg1 rfl)) (rc_ 29 ((h5 ▸ rwithin21 q.u 0 q.d X1_4)) (cb_ fun X1_5 bQ => ?_)))))
  replace Fg1 := (on9 Fg1 bQ)
  replace BB := BB.trans (bQ.mono BB.size)
  clear bQ
  refine rv_ 32 (.pointer (some ⟨g1, 6, none⟩)) (fun a ee => execFC6 rfl (ee _)) (rv_ 33 (.int .i64 q.o) (fun a ee => execL1 rfl (Or.inl rfl) (ee _) (row_1 Fg1 rfl)) (rc_ 34 ((h6 ▸ rwithin21 q.o 0 16 X1_5)) (cb_ fun X1_6 bQ => ?_)))
  replace Fg1 := (on9 Fg1 bQ)
  replace BB := BB.trans (bQ.mono BB.size)
  clear bQ
  refine rv_ 37 (.pointer (some ⟨g1, 7, none⟩)) (fun a ee => execFC7 rfl (ee _)) (rv_ 38 (.int .i64 q.c) (fun a ee => execL1 rfl (Or.inl rfl) (ee _) (row_1 Fg1 rfl)) (rc_ 39 ((h7 ▸ rwithin21 q.c 1 64 X1_6)) (cb_ fun X1_7 bQ => ?_)))
  replace Fg1 := (on9 Fg1 bQ)
  replace BB := BB.trans (bQ.mono BB.size)
  clear bQ
  refine rv_ 42 (.pointer (some ⟨g1, 8, none⟩)) (fun a ee => execFC8 rfl (ee _)) (rv_ 43 (.int .i64 q.w) (fun a ee => execL1 rfl (Or.inl rfl) (ee _) (row_1 Fg1 rfl)) (rc_ 44 ((h8 ▸ rwithin21 q.w 1 64 X1_7)) (cb_ fun X1_8 bQ => ?_)))
  replace Fg1 := (on9 Fg1 bQ)
  replace BB := BB.trans (bQ.mono BB.size)
  clear bQ
  refine rv_ 47 (.pointer (some ⟨g1, 9, none⟩)) (fun a ee => execFC9 rfl (ee _)) (rv_ 48 (.int .i64 q.k) (fun a ee => execL1 rfl (Or.inl rfl) (ee _) (row_1 Fg1 rfl)) (rc_ 49 ((h9 ▸ rwithin21 q.k 0 1024 X1_8)) (cb_ fun X1_9 bQ => ?_)))
  replace Fg1 := (on9 Fg1 bQ)
  replace BB := BB.trans (bQ.mono BB.size)
  clear bQ
  refine rv_ 52 (.pointer (some ⟨g1, 10, none⟩)) (fun a ee => execFC10 rfl (ee _)) (rv_ 53 (.int .i64 q.h) (fun a ee => execL1 rfl (Or.inl rfl) (ee _) (row_1 Fg1 rfl)) (rc_ 54 ((h10 ▸ rwithin21 q.h 1 64 X1_9)) (cb_ fun X1 bQ => ?_)))
  replace Fg1 := (on9 Fg1 bQ)
  replace BB := BB.trans (bQ.mono BB.size)
  clear bQ
  refine rg_ [(2, .bool true)] ?_
  rintro a A ⟨t2, -⟩
  refine wp_ret ?_
  refine bodyPost_ret (results_tmp rfl _ _ _) A.2 ⟨?_, BB⟩
  show Ending.returned (a.eval (.tmp 2)) = _
  rw [t2]
  rw [show cfQ m q = true by simp only [cfQ, decide_eq_true h0, h1, h2, h3, h4, h5, h6, h7, h8, h9, h10, Bool.true_and]]
end Go.Proofs.YtejhbfbnljioeaaGreatDoor.Rnd
