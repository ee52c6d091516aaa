import Derived.Test.YtepdejnholphcaaGreatJ9f
import Derived.Test.YtepdejnholphcaaGreatC9j
namespace Go.Proofs.YtepdejnholphcaaGreat.Rnd
open Go.RowKit Gf8 Aes By8 Cel Cf Win
/- Configurations and states; the landed round's and the reference's within, right, Check. Written by tools/mkU8a.py. -/

/-- A configuration's numbers, in their order. -/
structure Cg where
  l : Int
  s : Int
  r : Int
  u : Int
  d : Int
  o : Int
  c : Int
  w : Int
  k : Int
  h : Int
def inB (n lo hi : Int) : Bool := decide (lo ≤ n ∧ n ≤ hi)
/-- Its cells; a state's. -/
def cfC (mv : Value) (q : Cg) : Array Value := #[mv, .int .i64 q.l, .int .i64 q.s, .int .i64 q.r, .int .i64 q.u, .int .i64 q.d, .int .i64 q.o, .int .i64 q.c, .int .i64 q.w, .int .i64 q.k, .int .i64 q.h]
def sC (nx nw : Int) (ev : Value) : Array Value := #[.int .i64 nx, .int .i64 nw, ev]
/-- Is it right, by itself? (m: how long its key is) -/
def cfQ (m : Nat) (q : Cg) : Bool := decide (m = 32) && (inB q.l 1 8 && (inB q.s 1 8 && (inB q.r 0 4096 && (inB q.d 1 1000 && (inB q.u 0 q.d && (inB q.o 0 16 && (inB q.c 1 64 && (inB q.w 1 64 && (inB q.k 0 1024 && inB q.h 1 64)))))))))
/-- Check. -/
def ckE (m : Nat) (q : Cg) (nx : Int) (W : Wn) : Nat := if cfQ m q = true ∧ 0 ≤ nx ∧ nx ≤ 4611686018427387904 ∧ wChk W q.s q.r = 0 then 0 else 210
def q0 : Cg := ⟨0, 0, 0, 0, 0, 0, 0, 0, 0, 0⟩
theorem bnf {b : Bool} (h : ¬ b = false) : b = true := (Bool.eq_false_or_eq_true b).resolve_right h
theorem row_1 {W : World} {g k : Nat} {c : Array Value} {t : TypeId} {z : Value} (h : W.heap[g]? = some (.cells c t)) (hz : c[k]? = some z) : W.cell? ⟨g, k, none⟩ = some z := by rw [cell_of_row _ _ _ _ _ _ h]; exact hz
section
variable {o : Oper} {a : Act} {w : World}
theorem execL1 {t : TypeId} {x : Operand} {b k : Nat} {v : Value} (ho : o.op = .load t x) (ht : t = 3 ∨ t = 2 ∨ t = 22) (hx : a.eval x = .pointer (some ⟨b, k, none⟩)) (hc : w.cell? ⟨b, k, none⟩ = some v) : (execOp a.eval o).run Tryz.prog w = .ok (.value v) w := by
  unfold execOp
  rcases ht with rfl | rfl | rfl <;> (simp only [ho, hx]; simp [go_sem, hc])
theorem execBxC {x : Operand} {mv : Value} {q : Cg} (hm : ∃ g n c, mv = .slice g n c) (ho : o.op = .box 24 x) (hx : a.eval x = .agg (cfC mv q)) : (execOp a.eval o).run Tryz.prog w = .ok (.value (.pointer (some ⟨w.heap.size, 0, none⟩))) (w.alloc (.cells (cfC mv q) 24)) := by
  obtain ⟨g, n, c, rfl⟩ := hm
  unfold execOp
  simp only [ho, hx]
  simp [go_sem, cfC]
theorem execBxS {x : Operand} {nx nw : Int} {ev : Value} (hm : ∃ g n c, ev = .slice g n c) (ho : o.op = .box 29 x) (hx : a.eval x = .agg (sC nx nw ev)) : (execOp a.eval o).run Tryz.prog w = .ok (.value (.pointer (some ⟨w.heap.size, 0, none⟩))) (w.alloc (.cells (sC nx nw ev) 29)) := by
  obtain ⟨g, n, c, rfl⟩ := hm
  unfold execOp
  simp only [ho, hx]
  simp [go_sem, sC]
theorem execFC0 {x : Operand} {b : Nat} (ho : o.op = .fieldAddr 24 x 0) (hx : a.eval x = .pointer (some ⟨b, 0, none⟩)) : (execOp a.eval o).run Tryz.prog w = .ok (.value (.pointer (some ⟨b, 0, none⟩))) w := by
  unfold execOp
  simp only [ho, hx]
  simp [go_sem]
theorem execFC1 {x : Operand} {b : Nat} (ho : o.op = .fieldAddr 24 x 1) (hx : a.eval x = .pointer (some ⟨b, 0, none⟩)) : (execOp a.eval o).run Tryz.prog w = .ok (.value (.pointer (some ⟨b, 1, none⟩))) w := by
  unfold execOp
  simp only [ho, hx]
  simp [go_sem]
theorem execFC2 {x : Operand} {b : Nat} (ho : o.op = .fieldAddr 24 x 2) (hx : a.eval x = .pointer (some ⟨b, 0, none⟩)) : (execOp a.eval o).run Tryz.prog w = .ok (.value (.pointer (some ⟨b, 2, none⟩))) w := by
  unfold execOp
  simp only [ho, hx]
  simp [go_sem]
theorem execFC3 {x : Operand} {b : Nat} (ho : o.op = .fieldAddr 24 x 3) (hx : a.eval x = .pointer (some ⟨b, 0, none⟩)) : (execOp a.eval o).run Tryz.prog w = .ok (.value (.pointer (some ⟨b, 3, none⟩))) w := by
  unfold execOp
  simp only [ho, hx]
  simp [go_sem]
theorem execFC4 {x : Operand} {b : Nat} (ho : o.op = .fieldAddr 24 x 4) (hx : a.eval x = .pointer (some ⟨b, 0, none⟩)) : (execOp a.eval o).run Tryz.prog w = .ok (.value (.pointer (some ⟨b, 4, none⟩))) w := by
  unfold execOp
  simp only [ho, hx]
  simp [go_sem]
theorem execFC5 {x : Operand} {b : Nat} (ho : o.op = .fieldAddr 24 x 5) (hx : a.eval x = .pointer (some ⟨b, 0, none⟩)) : (execOp a.eval o).run Tryz.prog w = .ok (.value (.pointer (some ⟨b, 5, none⟩))) w := by
  unfold execOp
  simp only [ho, hx]
  simp [go_sem]
theorem execFC6 {x : Operand} {b : Nat} (ho : o.op = .fieldAddr 24 x 6) (hx : a.eval x = .pointer (some ⟨b, 0, none⟩)) : (execOp a.eval o).run Tryz.prog w = .ok (.value (.pointer (some ⟨b, 6, none⟩))) w := by
  unfold execOp
  simp only [ho, hx]
  simp [go_sem]
theorem execFC7 {x : Operand} {b : Nat} (ho : o.op = .fieldAddr 24 x 7) (hx : a.eval x = .pointer (some ⟨b, 0, none⟩)) : (execOp a.eval o).run Tryz.prog w = .ok (.value (.pointer (some ⟨b, 7, none⟩))) w := by
  unfold execOp
  simp only [ho, hx]
  simp [go_sem]
theorem execFC8 {x : Operand} {b : Nat} (ho : o.op = .fieldAddr 24 x 8) (hx : a.eval x = .pointer (some ⟨b, 0, none⟩)) : (execOp a.eval o).run Tryz.prog w = .ok (.value (.pointer (some ⟨b, 8, none⟩))) w := by
  unfold execOp
  simp only [ho, hx]
  simp [go_sem]
theorem execFC9 {x : Operand} {b : Nat} (ho : o.op = .fieldAddr 24 x 9) (hx : a.eval x = .pointer (some ⟨b, 0, none⟩)) : (execOp a.eval o).run Tryz.prog w = .ok (.value (.pointer (some ⟨b, 9, none⟩))) w := by
  unfold execOp
  simp only [ho, hx]
  simp [go_sem]
theorem execFC10 {x : Operand} {b : Nat} (ho : o.op = .fieldAddr 24 x 10) (hx : a.eval x = .pointer (some ⟨b, 0, none⟩)) : (execOp a.eval o).run Tryz.prog w = .ok (.value (.pointer (some ⟨b, 10, none⟩))) w := by
  unfold execOp
  simp only [ho, hx]
  simp [go_sem]
theorem execFS0 {x : Operand} {b : Nat} (ho : o.op = .fieldAddr 29 x 0) (hx : a.eval x = .pointer (some ⟨b, 0, none⟩)) : (execOp a.eval o).run Tryz.prog w = .ok (.value (.pointer (some ⟨b, 0, none⟩))) w := by
  unfold execOp
  simp only [ho, hx]
  simp [go_sem]
theorem execFS1 {x : Operand} {b : Nat} (ho : o.op = .fieldAddr 29 x 1) (hx : a.eval x = .pointer (some ⟨b, 0, none⟩)) : (execOp a.eval o).run Tryz.prog w = .ok (.value (.pointer (some ⟨b, 1, none⟩))) w := by
  unfold execOp
  simp only [ho, hx]
  simp [go_sem]
theorem execLdC {x : Operand} {g : Nat} {mv : Value} {q : Cg} (ho : o.op = .load 24 x) (hx : a.eval x = .pointer (some ⟨g, 0, none⟩)) (h : w.heap[g]? = some (.cells (cfC mv q) 24)) : (execOp a.eval o).run Tryz.prog w = .ok (.value (.agg (cfC mv q))) w := by
  have h := execLoadMid (P := Tryz.prog) (cs := [mv, .int .i64 q.l, .int .i64 q.s, .int .i64 q.r, .int .i64 q.u, .int .i64 q.d, .int .i64 q.o, .int .i64 q.c, .int .i64 q.w, .int .i64 q.k, .int .i64 q.h]) ho hx (fun j z hv => by
    rw [cell_of_row _ _ _ _ _ _ h]
    match j, hv with
    | 0, hv => exact hv
    | 1, hv => exact hv
    | 2, hv => exact hv
    | 3, hv => exact hv
    | 4, hv => exact hv
    | 5, hv => exact hv
    | 6, hv => exact hv
    | 7, hv => exact hv
    | 8, hv => exact hv
    | 9, hv => exact hv
    | 10, hv => exact hv
    | _ + 11, hv => simp at hv) Tryz.underlying24 rfl (by kernel_rfl)
  exact h
theorem execLdS {x : Operand} {g : Nat} {nx nw : Int} {ev : Value} (ho : o.op = .load 29 x) (hx : a.eval x = .pointer (some ⟨g, 0, none⟩)) (h : w.heap[g]? = some (.cells (sC nx nw ev) 29)) : (execOp a.eval o).run Tryz.prog w = .ok (.value (.agg (sC nx nw ev))) w := by
  have h := execLoadMid (P := Tryz.prog) (cs := [.int .i64 nx, .int .i64 nw, ev]) ho hx (fun j z hv => by
    rw [cell_of_row _ _ _ _ _ _ h]
    match j, hv with
    | 0, hv => exact hv
    | 1, hv => exact hv
    | 2, hv => exact hv
    | _ + 3, hv => simp at hv) Tryz.underlying29 rfl (by kernel_rfl)
  exact h
theorem execLdSW {x : Operand} {g : Nat} {nx nw : Int} {ev : Value} (ho : o.op = .load 27 x) (hx : a.eval x = .pointer (some ⟨g, 1, none⟩)) (h : w.heap[g]? = some (.cells (sC nx nw ev) 29)) : (execOp a.eval o).run Tryz.prog w = .ok (.value (.agg (wC nw ev))) w := by
  have hr := run_loadAt_mid (P := Tryz.prog) w g 1 27 [.int .i64 nw, ev] _ (fun j z hz => by
    rw [cell_of_row _ _ _ _ _ _ h]
    match j, hz with
    | 0, hz => exact hz
    | 1, hz => exact hz) Tryz.underlying27 rfl (by kernel_rfl)
  unfold execOp
  simp only [ho, hx, Sem.run_bind, hr, Result.andThen_ok, Sem.run_pure]
  rfl
end
set_option maxRecDepth 100000 in
set_option maxHeartbeats 4000000 in
/-- within. -/
theorem pwithin (n lo hi : Int) (V : World) :
    Calls Tryz.prog 29 #[.int .i64 n, .int .i64 lo, .int .i64 hi] V fun e w' => e = .returned (.bool (inB n lo hi)) ∧ Below V.heap.size V w' := by
  by_cases hg : lo ≤ n
  · have hr : inB n lo hi = decide (n ≤ hi) := by unfold inB; exact decide_eq_decide.2 ⟨fun q => q.2, fun q => ⟨hg, q⟩⟩
    go_enter Tryz.func29, Tryz.ntmps29
    refine wo_ 15 [(0, .int .i64 n), (1, .int .i64 lo), (2, .int .i64 hi)] ?_
    rintro a A ⟨t0, t1, t2, -⟩
    have BW : Below V.heap.size V V := Below.refl _ _
    have BB := BW
    refine wp_seq ?_
    refine wi_ A (h3_ t0 t1 t2) (rf_ [] (h3_ t0 t1 t2) ?_)
    rintro a A - ⟨t0, t1, t2, -⟩
    refine wp_seq ?_
    refine wi_ A (h3_ t0 t1 t2) (rv_ 2 (.bool true) (fun a ee => execDec (exIleq3 (p := lo) (q := n) rfl (ee _) (ee _)) (decide_eq_true hg)) (rv_ 6 (.bool (decide (n ≤ hi))) (fun a ee => exIleq3 (p := n) (q := hi) rfl (ee _) (ee _)) (rg_ [(6, .bool (decide (n ≤ hi)))] ?_)))
    rintro a A ⟨t6, -⟩
    refine wp_ret ?_
    refine bodyPost_ret (results_tmp rfl _ _ _) A.2 ⟨?_, BB⟩
    show Ending.returned (a.eval (.tmp 6)) = _
    rw [t6]
    rw [hr]
  · have hr : inB n lo hi = false := decide_eq_false (fun q => hg q.1)
    go_enter Tryz.func29, Tryz.ntmps29
    refine wo_ 15 [(0, .int .i64 n), (1, .int .i64 lo), (2, .int .i64 hi)] ?_
    rintro a A ⟨t0, t1, t2, -⟩
    have BW : Below V.heap.size V V := Below.refl _ _
    have BB := BW
    refine wp_seq ?_
    refine wi_ A (h3_ t0 t1 t2) (rf_ [] (h3_ t0 t1 t2) ?_)
    rintro a A - ⟨t0, t1, t2, -⟩
    refine wp_seq ?_
    refine wi_ A (h3_ t0 t1 t2) (rv_ 2 (.bool false) (fun a ee => execDec (exIleq3 (p := lo) (q := n) rfl (ee _) (ee _)) (decide_eq_false hg)) (rg_ [(6, .bool false)] ?_))
    rintro a A ⟨t6, -⟩
    refine wp_ret ?_
    refine bodyPost_ret (results_tmp rfl _ _ _) A.2 ⟨?_, BB⟩
    show Ending.returned (a.eval (.tmp 6)) = _
    rw [t6]
    rw [hr]
set_option maxRecDepth 100000 in
set_option maxHeartbeats 4000000 in
/-- within. -/
theorem rwithin21 (n lo hi : Int) (V : World) :
    Calls Tryz.prog 24 #[.int .i64 n, .int .i64 lo, .int .i64 hi] V fun e w' => e = .returned (.bool (inB n lo hi)) ∧ Below V.heap.size V w' := by
  by_cases hg : lo ≤ n
  · have hr : inB n lo hi = decide (n ≤ hi) := by unfold inB; exact decide_eq_decide.2 ⟨fun q => q.2, fun q => ⟨hg, q⟩⟩
    go_enter Tryz.func24, Tryz.ntmps24
    refine wo_ 15 [(0, .int .i64 n), (1, .int .i64 lo), (2, .int .i64 hi)] ?_
    rintro a A ⟨t0, t1, t2, -⟩
    have BW : Below V.heap.size V V := Below.refl _ _
    have BB := BW
    refine wp_seq ?_
    refine wi_ A (h3_ t0 t1 t2) (rf_ [] (h3_ t0 t1 t2) ?_)
    rintro a A - ⟨t0, t1, t2, -⟩
    refine wp_seq ?_
    refine wi_ A (h3_ t0 t1 t2) (rv_ 2 (.bool true) (fun a ee => execDec (exIgeq3 (p := n) (q := lo) rfl (ee _) (ee _)) (decide_eq_true hg)) (rv_ 6 (.bool (decide (n ≤ hi))) (fun a ee => exIleq3 (p := n) (q := hi) rfl (ee _) (ee _)) (rg_ [(6, .bool (decide (n ≤ hi)))] ?_)))
    rintro a A ⟨t6, -⟩
    refine wp_ret ?_
    refine bodyPost_ret (results_tmp rfl _ _ _) A.2 ⟨?_, BB⟩
    show Ending.returned (a.eval (.tmp 6)) = _
    rw [t6]
    rw [hr]
  · have hr : inB n lo hi = false := decide_eq_false (fun q => hg q.1)
    go_enter Tryz.func24, Tryz.ntmps24
    refine wo_ 15 [(0, .int .i64 n), (1, .int .i64 lo), (2, .int .i64 hi)] ?_
    rintro a A ⟨t0, t1, t2, -⟩
    have BW : Below V.heap.size V V := Below.refl _ _
    have BB := BW
    refine wp_seq ?_
    refine wi_ A (h3_ t0 t1 t2) (rf_ [] (h3_ t0 t1 t2) ?_)
    rintro a A - ⟨t0, t1, t2, -⟩
    refine wp_seq ?_
    refine wi_ A (h3_ t0 t1 t2) (rv_ 2 (.bool false) (fun a ee => execDec (exIgeq3 (p := n) (q := lo) rfl (ee _) (ee _)) (decide_eq_false hg)) (rg_ [(6, .bool false)] ?_))
    rintro a A ⟨t6, -⟩
    refine wp_ret ?_
    refine bodyPost_ret (results_tmp rfl _ _ _) A.2 ⟨?_, BB⟩
    show Ending.returned (a.eval (.tmp 6)) = _
    rw [t6]
    rw [hr]
set_option maxRecDepth 100000 in
set_option maxHeartbeats 4000000 in
/-- right. -/
theorem pright21 (mv : Value) (m : Nat) (q : Cg) (V : World) (hm : ∃ g n c, mv = .slice g n c) (hmv : ∃ ao c, mv = .slice ao m c) :
    Calls Tryz.prog 20 #[.agg (cfC mv q)] V fun e w' => e = .returned (.bool (cfQ m q)) ∧ Below V.heap.size V w' := by
  go_enter Tryz.func20, Tryz.ntmps20
  refine wo_ 59 [(0, .agg (cfC mv q))] ?_
  rintro a A ⟨t0, -⟩
  have BW : Below V.heap.size V V := Below.refl _ _
  have BB := BW
  refine wp_seq ?_
  obtain ⟨g1, egg1⟩ : ∃ z_ : Nat, V.heap.size = z_ := ⟨_, rfl⟩
  refine wi_ A (h1_ t0) (rs_ 0 (fun a ee => ?_))
  refine stepV rfl rfl (execBxC hm rfl (ee _)) ⟨.pointer (some ⟨g1, 0, none⟩), ⟨_, rfl, by subst egg1; rfl⟩, fun X0 hX => ?_⟩
  have bQ : Below V.heap.size V X0 := by subst hX egg1; exact (belNew V _)
  have Fg1 : (X0.heap[g1]? = some (.cells (cfC mv q) 24)) := by subst hX egg1; exact heapNew V _
  replace BB := BB.trans (bQ.mono BB.size)
  clear bQ hX egg1 ee a
  refine rg_ [(1, .pointer (some ⟨g1, 0, none⟩))] ?_
  rintro a A ⟨t1, -⟩
  refine wp_seq ?_
  by_cases h0 : ¬ m = 32
  · refine wi_ A (h1_ t1) (rv_ 0 (.pointer (some ⟨g1, 0, none⟩)) (fun a ee => execFC0 rfl (ee _)) (rv_ 1 (mv) (fun a ee => execL1 rfl (Or.inr (Or.inr rfl)) (ee _) (row_1 Fg1 rfl)) (rv_ 2 (.int .i64 ((m : Nat) : Int)) (fun a ee => execLenV (len := m) rfl (ee _) hmv) (rv_ 3 (.bool false) (fun a ee => execDec (execEqN (p := m) (q := 32) rfl (ee _) rfl) (decide_eq_false (by omega))) (rg_ [(2, .bool false)] ?_)))))
    rintro a A ⟨t2, -⟩
    refine wp_ret ?_
    refine bodyPost_ret (results_tmp rfl _ _ _) A.2 ⟨?_, BB⟩
    show Ending.returned (a.eval (.tmp 2)) = _
    rw [t2]
    rw [show cfQ m q = false by simp only [cfQ, decide_eq_false h0, Bool.false_and]]
  replace h0 := Classical.not_not.1 h0
  by_cases h1 : inB q.l 1 8 = false
  · refine wi_ A (h1_ t1) (rv_ 0 (.pointer (some ⟨g1, 0, none⟩)) (fun a ee => execFC0 rfl (ee _)) (rv_ 1 (mv) (fun a ee => execL1 rfl (Or.inr (Or.inr rfl)) (ee _) (row_1 Fg1 rfl)) (rv_ 2 (.int .i64 ((m : Nat) : Int)) (fun a ee => execLenV (len := m) rfl (ee _) hmv) (rv_ 3 (.bool true) (fun a ee => execDec (execEqN (p := m) (q := 32) rfl (ee _) rfl) (decide_eq_true (by omega))) (rv_ 5 (.pointer (some ⟨g1, 1, none⟩)) (fun a ee => execFC1 rfl (ee _)) (rv_ 6 (.int .i64 q.l) (fun a ee => execL1 rfl (Or.inl rfl) (ee _) (row_1 Fg1 rfl)) (rc_ 7 ((h1 ▸ pwithin q.l 1 8 X0)) (cb_ fun X1 bQ => ?_))))))))
    replace Fg1 := (on9 Fg1 bQ)
    replace BB := BB.trans (bQ.mono BB.size)
    clear bQ
    refine rg_ [(2, .bool false)] ?_
    rintro a A ⟨t2, -⟩
    refine wp_ret ?_
    refine bodyPost_ret (results_tmp rfl _ _ _) A.2 ⟨?_, BB⟩
    show Ending.returned (a.eval (.tmp 2)) = _
    rw [t2]
    rw [show cfQ m q = false by simp only [cfQ, decide_eq_true h0, h1, Bool.true_and, Bool.false_and]]
  replace h1 := bnf h1
  by_cases h2 : inB q.s 1 8 = false
  · refine wi_ A (h1_ t1) (rv_ 0 (.pointer (some ⟨g1, 0, none⟩)) (fun a ee => execFC0 rfl (ee _)) (rv_ 1 (mv) (fun a ee => execL1 rfl (Or.inr (Or.inr rfl)) (ee _) (row_1 Fg1 rfl)) (rv_ 2 (.int .i64 ((m : Nat) : Int)) (fun a ee => execLenV (len := m) rfl (ee _) hmv) (rv_ 3 (.bool true) (fun a ee => execDec (execEqN (p := m) (q := 32) rfl (ee _) rfl) (decide_eq_true (by omega))) (rv_ 5 (.pointer (some ⟨g1, 1, none⟩)) (fun a ee => execFC1 rfl (ee _)) (rv_ 6 (.int .i64 q.l) (fun a ee => execL1 rfl (Or.inl rfl) (ee _) (row_1 Fg1 rfl)) (rc_ 7 ((h1 ▸ pwithin q.l 1 8 X0)) (cb_ fun X1_1 bQ => ?_))))))))
    replace Fg1 := (on9 Fg1 bQ)
    replace BB := BB.trans (bQ.mono BB.size)
    clear bQ
    refine rv_ 10 (.pointer (some ⟨g1, 2, none⟩)) (fun a ee => execFC2 rfl (ee _)) (rv_ 11 (.int .i64 q.s) (fun a ee => execL1 rfl (Or.inl rfl) (ee _) (row_1 Fg1 rfl)) (rc_ 12 ((h2 ▸ pwithin q.s 1 8 X1_1)) (cb_ fun X1 bQ => ?_)))
    replace Fg1 := (on9 Fg1 bQ)
    replace BB := BB.trans (bQ.mono BB.size)
    clear bQ
    refine rg_ [(2, .bool false)] ?_
    rintro a A ⟨t2, -⟩
    refine wp_ret ?_
    refine bodyPost_ret (results_tmp rfl _ _ _) A.2 ⟨?_, BB⟩
    show Ending.returned (a.eval (.tmp 2)) = _
    rw [t2]
    rw [show cfQ m q = false by simp only [cfQ, decide_eq_true h0, h1, h2, Bool.true_and, Bool.false_and]]
  replace h2 := bnf h2
  by_cases h3 : inB q.r 0 4096 = false
  · refine wi_ A (h1_ t1) (rv_ 0 (.pointer (some ⟨g1, 0, none⟩)) (fun a ee => execFC0 rfl (ee _)) (rv_ 1 (mv) (fun a ee => execL1 rfl (Or.inr (Or.inr rfl)) (ee _) (row_1 Fg1 rfl)) (rv_ 2 (.int .i64 ((m : Nat) : Int)) (fun a ee => execLenV (len := m) rfl (ee _) hmv) (rv_ 3 (.bool true) (fun a ee => execDec (execEqN (p := m) (q := 32) rfl (ee _) rfl) (decide_eq_true (by omega))) (rv_ 5 (.pointer (some ⟨g1, 1, none⟩)) (fun a ee => execFC1 rfl (ee _)) (rv_ 6 (.int .i64 q.l) (fun a ee => execL1 rfl (Or.inl rfl) (ee _) (row_1 Fg1 rfl)) (rc_ 7 ((h1 ▸ pwithin q.l 1 8 X0)) (cb_ fun X1_1 bQ => ?_))))))))
    replace Fg1 := (on9 Fg1 bQ)
    replace BB := BB.trans (bQ.mono BB.size)
    clear bQ
    refine rv_ 10 (.pointer (some ⟨g1, 2, none⟩)) (fun a ee => execFC2 rfl (ee _)) (rv_ 11 (.int .i64 q.s) (fun a ee => execL1 rfl (Or.inl rfl) (ee _) (row_1 Fg1 rfl)) (rc_ 12 ((h2 ▸ pwithin q.s 1 8 X1_1)) (cb_ fun X1_2 bQ => ?_)))
    replace Fg1 := (on9 Fg1 bQ)
    replace BB := BB.trans (bQ.mono BB.size)
    clear bQ
    refine rv_ 15 (.pointer (some ⟨g1, 3, none⟩)) (fun a ee => execFC3 rfl (ee _)) (rv_ 16 (.int .i64 q.r) (fun a ee => execL1 rfl (Or.inl rfl) (ee _) (row_1 Fg1 rfl)) (rc_ 17 ((h3 ▸ pwithin q.r 0 4096 X1_2)) (cb_ fun X1 bQ => ?_)))
    replace Fg1 := (on9 Fg1 bQ)
    replace BB := BB.trans (bQ.mono BB.size)
    clear bQ
    refine rg_ [(2, .bool false)] ?_
    rintro a A ⟨t2, -⟩
    refine wp_ret ?_
    refine bodyPost_ret (results_tmp rfl _ _ _) A.2 ⟨?_, BB⟩
    show Ending.returned (a.eval (.tmp 2)) = _
    rw [t2]
    rw [show cfQ m q = false by simp only [cfQ, decide_eq_true h0, h1, h2, h3, Bool.true_and, Bool.false_and]]
  replace h3 := bnf h3
  by_cases h4 : inB q.d 1 1000 = false
  · refine wi_ A (h1_ t1) (rv_ 0 (.pointer (some ⟨g1, 0, none⟩)) (fun a ee => execFC0 rfl (ee _)) (rv_ 1 (mv) (fun a ee => execL1 rfl (Or.inr (Or.inr rfl)) (ee _) (row_1 Fg1 rfl)) (rv_ 2 (.int .i64 ((m : Nat) : Int)) (fun a ee => execLenV (len := m) rfl (ee _) hmv) (rv_ 3 (.bool true) (fun a ee => execDec (execEqN (p := m) (q := 32) rfl (ee _) rfl) (decide_eq_true (by omega))) (rv_ 5 (.pointer (some ⟨g1, 1, none⟩)) (fun a ee => execFC1 rfl (ee _)) (rv_ 6 (.int .i64 q.l) (fun a ee => execL1 rfl (Or.inl rfl) (ee _) (row_1 Fg1 rfl)) (rc_ 7 ((h1 ▸ pwithin q.l 1 8 X0)) (cb_ fun X1_1 bQ => ?_))))))))
    replace Fg1 := (on9 Fg1 bQ)
    replace BB := BB.trans (bQ.mono BB.size)
    clear bQ
    refine rv_ 10 (.pointer (some ⟨g1, 2, none⟩)) (fun a ee => execFC2 rfl (ee _)) (rv_ 11 (.int .i64 q.s) (fun a ee => execL1 rfl (Or.inl rfl) (ee _) (row_1 Fg1 rfl)) (rc_ 12 ((h2 ▸ pwithin q.s 1 8 X1_1)) (cb_ fun X1_2 bQ => ?_)))
    replace Fg1 := (on9 Fg1 bQ)
    replace BB := BB.trans (bQ.mono BB.size)
    clear bQ
    refine rv_ 15 (.pointer (some ⟨g1, 3, none⟩)) (fun a ee => execFC3 rfl (ee _)) (rv_ 16 (.int .i64 q.r) (fun a ee => execL1 rfl (Or.inl rfl) (ee _) (row_1 Fg1 rfl)) (rc_ 17 ((h3 ▸ pwithin q.r 0 4096 X1_2)) (cb_ fun X1_3 bQ => ?_)))
    replace Fg1 := (on9 Fg1 bQ)
    replace BB := BB.trans (bQ.mono BB.size)
    clear bQ
    refine rv_ 20 (.pointer (some ⟨g1, 5, none⟩)) (fun a ee => execFC5 rfl (ee _)) (rv_ 21 (.int .i64 q.d) (fun a ee => execL1 rfl (Or.inl rfl) (ee _) (row_1 Fg1 rfl)) (rc_ 22 ((h4 ▸ pwithin q.d 1 1000 X1_3)) (cb_ fun X1 bQ => ?_)))
    replace Fg1 := (on9 Fg1 bQ)
    replace BB := BB.trans (bQ.mono BB.size)
    clear bQ
    refine rg_ [(2, .bool false)] ?_
    rintro a A ⟨t2, -⟩
    refine wp_ret ?_
    refine bodyPost_ret (results_tmp rfl _ _ _) A.2 ⟨?_, BB⟩
    show Ending.returned (a.eval (.tmp 2)) = _
    rw [t2]
    rw [show cfQ m q = false by simp only [cfQ, decide_eq_true h0, h1, h2, h3, h4, Bool.true_and, Bool.false_and]]
  replace h4 := bnf h4
  by_cases h5 : inB q.u 0 q.d = false
  · refine wi_ A (h1_ t1) (rv_ 0 (.pointer (some ⟨g1, 0, none⟩)) (fun a ee => execFC0 rfl (ee _)) (rv_ 1 (mv) (fun a ee => execL1 rfl (Or.inr (Or.inr rfl)) (ee _) (row_1 Fg1 rfl)) (rv_ 2 (.int .i64 ((m : Nat) : Int)) (fun a ee => execLenV (len := m) rfl (ee _) hmv) (rv_ 3 (.bool true) (fun a ee => execDec (execEqN (p := m) (q := 32) rfl (ee _) rfl) (decide_eq_true (by omega))) (rv_ 5 (.pointer (some ⟨g1, 1, none⟩)) (fun a ee => execFC1 rfl (ee _)) (rv_ 6 (.int .i64 q.l) (fun a ee => execL1 rfl (Or.inl rfl) (ee _) (row_1 Fg1 rfl)) (rc_ 7 ((h1 ▸ pwithin q.l 1 8 X0)) (cb_ fun X1_1 bQ => ?_))))))))
    replace Fg1 := (on9 Fg1 bQ)
    replace BB := BB.trans (bQ.mono BB.size)
    clear bQ
    refine rv_ 10 (.pointer (some ⟨g1, 2, none⟩)) (fun a ee => execFC2 rfl (ee _)) (rv_ 11 (.int .i64 q.s) (fun a ee => execL1 rfl (Or.inl rfl) (ee _) (row_1 Fg1 rfl)) (rc_ 12 ((h2 ▸ pwithin q.s 1 8 X1_1)) (cb_ fun X1_2 bQ => ?_)))
    replace Fg1 := (on9 Fg1 bQ)
    replace BB := BB.trans (bQ.mono BB.size)
    clear bQ
    refine rv_ 15 (.pointer (some ⟨g1, 3, none⟩)) (fun a ee => execFC3 rfl (ee _)) (rv_ 16 (.int .i64 q.r) (fun a ee => execL1 rfl (Or.inl rfl) (ee _) (row_1 Fg1 rfl)) (rc_ 17 ((h3 ▸ pwithin q.r 0 4096 X1_2)) (cb_ fun X1_3 bQ => ?_)))
    replace Fg1 := (on9 Fg1 bQ)
    replace BB := BB.trans (bQ.mono BB.size)
    clear bQ
    refine rv_ 20 (.pointer (some ⟨g1, 5, none⟩)) (fun a ee => execFC5 rfl (ee _)) (rv_ 21 (.int .i64 q.d) (fun a ee => execL1 rfl (Or.inl rfl) (ee _) (row_1 Fg1 rfl)) (rc_ 22 ((h4 ▸ pwithin q.d 1 1000 X1_3)) (cb_ fun X1_4 bQ => ?_)))
    replace Fg1 := (on9 Fg1 bQ)
    replace BB := BB.trans (bQ.mono BB.size)
    clear bQ
    refine rv_ 25 (.pointer (some ⟨g1, 4, none⟩)) (fun a ee => execFC4 rfl (ee _)) (rv_ 26 (.int .i64 q.u) (fun a ee => execL1 rfl (Or.inl rfl) (ee _) (row_1 Fg1 rfl)) (rv_ 27 (.pointer (some ⟨g1, 5, none⟩)) (fun a ee => execFC5 rfl (ee _)) (rv_ 28 (.int .i64 q.d) (fun a ee => execL1 rfl (Or.inl rfl) (ee _) (row_1 Fg1 rfl)) (rc_ 29 ((h5 ▸ pwithin q.u 0 q.d X1_4)) (cb_ fun X1 bQ => ?_)))))
    replace Fg1 := (on9 Fg1 bQ)
    replace BB := BB.trans (bQ.mono BB.size)
    clear bQ
    refine rg_ [(2, .bool false)] ?_
    rintro a A ⟨t2, -⟩
    refine wp_ret ?_
    refine bodyPost_ret (results_tmp rfl _ _ _) A.2 ⟨?_, BB⟩
    show Ending.returned (a.eval (.tmp 2)) = _
    rw [t2]
    rw [show cfQ m q = false by simp only [cfQ, decide_eq_true h0, h1, h2, h3, h4, h5, Bool.true_and, Bool.false_and]]
  replace h5 := bnf h5
  by_cases h6 : inB q.o 0 16 = false
  · refine wi_ A (h1_ t1) (rv_ 0 (.pointer (some ⟨g1, 0, none⟩)) (fun a ee => execFC0 rfl (ee _)) (rv_ 1 (mv) (fun a ee => execL1 rfl (Or.inr (Or.inr rfl)) (ee _) (row_1 Fg1 rfl)) (rv_ 2 (.int .i64 ((m : Nat) : Int)) (fun a ee => execLenV (len := m) rfl (ee _) hmv) (rv_ 3 (.bool true) (fun a ee => execDec (execEqN (p := m) (q := 32) rfl (ee _) rfl) (decide_eq_true (by omega))) (rv_ 5 (.pointer (some ⟨g1, 1, none⟩)) (fun a ee => execFC1 rfl (ee _)) (rv_ 6 (.int .i64 q.l) (fun a ee => execL1 rfl (Or.inl rfl) (ee _) (row_1 Fg1 rfl)) (rc_ 7 ((h1 ▸ pwithin q.l 1 8 X0)) (cb_ fun X1_1 bQ => ?_))))))))
    replace Fg1 := (on9 Fg1 bQ)
    replace BB := BB.trans (bQ.mono BB.size)
    clear bQ
    refine rv_ 10 (.pointer (some ⟨g1, 2, none⟩)) (fun a ee => execFC2 rfl (ee _)) (rv_ 11 (.int .i64 q.s) (fun a ee => execL1 rfl (Or.inl rfl) (ee _) (row_1 Fg1 rfl)) (rc_ 12 ((h2 ▸ pwithin q.s 1 8 X1_1)) (cb_ fun X1_2 bQ => ?_)))
    replace Fg1 := (on9 Fg1 bQ)
    replace BB := BB.trans (bQ.mono BB.size)
    clear bQ
    refine rv_ 15 (.pointer (some ⟨g1, 3, none⟩)) (fun a ee => execFC3 rfl (ee _)) (rv_ 16 (.int .i64 q.r) (fun a ee => execL1 rfl (Or.inl rfl) (ee _) (row_1 Fg1 rfl)) (rc_ 17 ((h3 ▸ pwithin q.r 0 4096 X1_2)) (cb_ fun X1_3 bQ => ?_)))
    replace Fg1 := (on9 Fg1 bQ)
    replace BB := BB.trans (bQ.mono BB.size)
    clear bQ
    refine rv_ 20 (.pointer (some ⟨g1, 5, none⟩)) (fun a ee => execFC5 rfl (ee _)) (rv_ 21 (.int .i64 q.d) (fun a ee => execL1 rfl (Or.inl rfl) (ee _) (row_1 Fg1 rfl)) (rc_ 22 ((h4 ▸ pwithin q.d 1 1000 X1_3)) (cb_ fun X1_4 bQ => ?_)))
    replace Fg1 := (on9 Fg1 bQ)
    replace BB := BB.trans (bQ.mono BB.size)
    clear bQ
    refine rv_ 25 (.pointer (some ⟨g1, 4, none⟩)) (fun a ee => execFC4 rfl (ee _)) (rv_ 26 (.int .i64 q.u) (fun a ee => execL1 rfl (Or.inl rfl) (ee _) (row_1 Fg1 rfl)) (rv_ 27 (.pointer (some ⟨g1, 5, none⟩)) (fun a ee => execFC5 rfl (ee _)) (rv_ 28 (.int .i64 q.d) (fun a ee => execL1 rfl (Or.inl rfl) (ee _) (row_1 Fg1 rfl)) (rc_ 29 ((h5 ▸ pwithin q.u 0 q.d X1_4)) (cb_ fun X1_5 bQ => ?_)))))
    replace Fg1 := (on9 Fg1 bQ)
    replace BB := BB.trans (bQ.mono BB.size)
    clear bQ
    refine rv_ 32 (.pointer (some ⟨g1, 6, none⟩)) (fun a ee => execFC6 rfl (ee _)) (rv_ 33 (.int .i64 q.o) (fun a ee => execL1 rfl (Or.inl rfl) (ee _) (row_1 Fg1 rfl)) (rc_ 34 ((h6 ▸ pwithin q.o 0 16 X1_5)) (cb_ fun X1 bQ => ?_)))
    replace Fg1 := (on9 Fg1 bQ)
    replace BB := BB.trans (bQ.mono BB.size)
    clear bQ
    refine rg_ [(2, .bool false)] ?_
    rintro a A ⟨t2, -⟩
    refine wp_ret ?_
    refine bodyPost_ret (results_tmp rfl _ _ _) A.2 ⟨?_, BB⟩
    show Ending.returned (a.eval (.tmp 2)) = _
    rw [t2]
    rw [show cfQ m q = false by simp only [cfQ, decide_eq_true h0, h1, h2, h3, h4, h5, h6, Bool.true_and, Bool.false_and]]
  replace h6 := bnf h6
  by_cases h7 : inB q.c 1 64 = false
  · refine wi_ A (h1_ t1) (rv_ 0 (.pointer (some ⟨g1, 0, none⟩)) (fun a ee => execFC0 rfl (ee _)) (rv_ 1 (mv) (fun a ee => execL1 rfl (Or.inr (Or.inr rfl)) (ee _) (row_1 Fg1 rfl)) (rv_ 2 (.int .i64 ((m : Nat) : Int)) (fun a ee => execLenV (len := m) rfl (ee _) hmv) (rv_ 3 (.bool true) (fun a ee => execDec (execEqN (p := m) (q := 32) rfl (ee _) rfl) (decide_eq_true (by omega))) (rv_ 5 (.pointer (some ⟨g1, 1, none⟩)) (fun a ee => execFC1 rfl (ee _)) (rv_ 6 (.int .i64 q.l) (fun a ee => execL1 rfl (Or.inl rfl) (ee _) (row_1 Fg1 rfl)) (rc_ 7 ((h1 ▸ pwithin q.l 1 8 X0)) (cb_ fun X1_1 bQ => ?_))))))))
    replace Fg1 := (on9 Fg1 bQ)
    replace BB := BB.trans (bQ.mono BB.size)
    clear bQ
    refine rv_ 10 (.pointer (some ⟨g1, 2, none⟩)) (fun a ee => execFC2 rfl (ee _)) (rv_ 11 (.int .i64 q.s) (fun a ee => execL1 rfl (Or.inl rfl) (ee _) (row_1 Fg1 rfl)) (rc_ 12 ((h2 ▸ pwithin q.s 1 8 X1_1)) (cb_ fun X1_2 bQ => ?_)))
    replace Fg1 := (on9 Fg1 bQ)
    replace BB := BB.trans (bQ.mono BB.size)
    clear bQ
    refine rv_ 15 (.pointer (some ⟨g1, 3, none⟩)) (fun a ee => execFC3 rfl (ee _)) (rv_ 16 (.int .i64 q.r) (fun a ee => execL1 rfl (Or.inl rfl) (ee _) (row_1 Fg1 rfl)) (rc_ 17 ((h3 ▸ pwithin q.r 0 4096 X1_2)) (cb_ fun X1_3 bQ => ?_)))
    replace Fg1 := (on9 Fg1 bQ)
    replace BB := BB.trans (bQ.mono BB.size)
    clear bQ
    refine rv_ 20 (.pointer (some ⟨g1, 5, none⟩)) (fun a ee => execFC5 rfl (ee _)) (rv_ 21 (.int .i64 q.d) (fun a ee => execL1 rfl (Or.inl rfl) (ee _) (row_1 Fg1 rfl)) (rc_ 22 ((h4 ▸ pwithin q.d 1 1000 X1_3)) (cb_ fun X1_4 bQ => ?_)))
    replace Fg1 := (on9 Fg1 bQ)
    replace BB := BB.trans (bQ.mono BB.size)
    clear bQ
    refine rv_ 25 (.pointer (some ⟨g1, 4, none⟩)) (fun a ee => execFC4 rfl (ee _)) (rv_ 26 (.int .i64 q.u) (fun a ee => execL1 rfl (Or.inl rfl) (ee _) (row_1 Fg1 rfl)) (rv_ 27 (.pointer (some ⟨g1, 5, none⟩)) (fun a ee => execFC5 rfl (ee _)) (rv_ 28 (.int .i64 q.d) (fun a ee => execL1 rfl (Or.inl rfl) (ee _) (row_1 Fg1 rfl)) (rc_ 29 ((h5 ▸ pwithin q.u 0 q.d X1_4)) (cb_ fun X1_5 bQ => ?_)))))
    replace Fg1 := (on9 Fg1 bQ)
    replace BB := BB.trans (bQ.mono BB.size)
    clear bQ
    refine rv_ 32 (.pointer (some ⟨g1, 6, none⟩)) (fun a ee => execFC6 rfl (ee _)) (rv_ 33 (.int .i64 q.o) (fun a ee => execL1 rfl (Or.inl rfl) (ee _) (row_1 Fg1 rfl)) (rc_ 34 ((h6 ▸ pwithin q.o 0 16 X1_5)) (cb_ fun X1_6 bQ => ?_)))
    replace Fg1 := (on9 Fg1 bQ)
    replace BB := BB.trans (bQ.mono BB.size)
    clear bQ
    refine rv_ 37 (.pointer (some ⟨g1, 7, none⟩)) (fun a ee => execFC7 rfl (ee _)) (rv_ 38 (.int .i64 q.c) (fun a ee => execL1 rfl (Or.inl rfl) (ee _) (row_1 Fg1 rfl)) (rc_ 39 ((h7 ▸ pwithin q.c 1 64 X1_6)) (cb_ fun X1 bQ => ?_)))
    replace Fg1 := (on9 Fg1 bQ)
    replace BB := BB.trans (bQ.mono BB.size)
    clear bQ
    refine rg_ [(2, .bool false)] ?_
    rintro a A ⟨t2, -⟩
    refine wp_ret ?_
    refine bodyPost_ret (results_tmp rfl _ _ _) A.2 ⟨?_, BB⟩
    show Ending.returned (a.eval (.tmp 2)) = _
    rw [t2]
    rw [show cfQ m q = false by simp only [cfQ, decide_eq_true h0, h1, h2, h3, h4, h5, h6, h7, Bool.true_and, Bool.false_and]]
  replace h7 := bnf h7
  by_cases h8 : inB q.w 1 64 = false
  · refine wi_ A (h1_ t1) (rv_ 0 (.pointer (some ⟨g1, 0, none⟩)) (fun a ee => execFC0 rfl (ee _)) (rv_ 1 (mv) (fun a ee => execL1 rfl (Or.inr (Or.inr rfl)) (ee _) (row_1 Fg1 rfl)) (rv_ 2 (.int .i64 ((m : Nat) : Int)) (fun a ee => execLenV (len := m) rfl (ee _) hmv) (rv_ 3 (.bool true) (fun a ee => execDec (execEqN (p := m) (q := 32) rfl (ee _) rfl) (decide_eq_true (by omega))) (rv_ 5 (.pointer (some ⟨g1, 1, none⟩)) (fun a ee => execFC1 rfl (ee _)) (rv_ 6 (.int .i64 q.l) (fun a ee => execL1 rfl (Or.inl rfl) (ee _) (row_1 Fg1 rfl)) (rc_ 7 ((h1 ▸ pwithin q.l 1 8 X0)) (cb_ fun X1_1 bQ => ?_))))))))
    replace Fg1 := (on9 Fg1 bQ)
    replace BB := BB.trans (bQ.mono BB.size)
    clear bQ
    refine rv_ 10 (.pointer (some ⟨g1, 2, none⟩)) (fun a ee => execFC2 rfl (ee _)) (rv_ 11 (.int .i64 q.s) (fun a ee => execL1 rfl (Or.inl rfl) (ee _) (row_1 Fg1 rfl)) (rc_ 12 ((h2 ▸ pwithin q.s 1 8 X1_1)) (cb_ fun X1_2 bQ => ?_)))
    replace Fg1 := (on9 Fg1 bQ)
    replace BB := BB.trans (bQ.mono BB.size)
    clear bQ
    refine rv_ 15 (.pointer (some ⟨g1, 3, none⟩)) (fun a ee => execFC3 rfl (ee _)) (rv_ 16 (.int .i64 q.r) (fun a ee => execL1 rfl (Or.inl rfl) (ee _) (row_1 Fg1 rfl)) (rc_ 17 ((h3 ▸ pwithin q.r 0 4096 X1_2)) (cb_ fun X1_3 bQ => ?_)))
    replace Fg1 := (on9 Fg1 bQ)
    replace BB := BB.trans (bQ.mono BB.size)
    clear bQ
    refine rv_ 20 (.pointer (some ⟨g1, 5, none⟩)) (fun a ee => execFC5 rfl (ee _)) (rv_ 21 (.int .i64 q.d) (fun a ee => execL1 rfl (Or.inl rfl) (ee _) (row_1 Fg1 rfl)) (rc_ 22 ((h4 ▸ pwithin q.d 1 1000 X1_3)) (cb_ fun X1_4 bQ => ?_)))
    replace Fg1 := (on9 Fg1 bQ)
    replace BB := BB.trans (bQ.mono BB.size)
    clear bQ
    refine rv_ 25 (.pointer (some ⟨g1, 4, none⟩)) (fun a ee => execFC4 rfl (ee _)) (rv_ 26 (.int .i64 q.u) (fun a ee => execL1 rfl (Or.inl rfl) (ee _) (row_1 Fg1 rfl)) (rv_ 27 (.pointer (some ⟨g1, 5, none⟩)) (fun a ee => execFC5 rfl (ee _)) (rv_ 28 (.int .i64 q.d) (fun a ee => execL1 rfl (Or.inl rfl) (ee _) (row_1 Fg1 rfl)) (rc_ 29 ((h5 ▸ pwithin q.u 0 q.d X1_4)) (cb_ fun X1_5 bQ => ?_)))))
    replace Fg1 := (on9 Fg1 bQ)
    replace BB := BB.trans (bQ.mono BB.size)
    clear bQ
    refine rv_ 32 (.pointer (some ⟨g1, 6, none⟩)) (fun a ee => execFC6 rfl (ee _)) (rv_ 33 (.int .i64 q.o) (fun a ee => execL1 rfl (Or.inl rfl) (ee _) (row_1 Fg1 rfl)) (rc_ 34 ((h6 ▸ pwithin q.o 0 16 X1_5)) (cb_ fun X1_6 bQ => ?_)))
    replace Fg1 := (on9 Fg1 bQ)
    replace BB := BB.trans (bQ.mono BB.size)
    clear bQ
    refine rv_ 37 (.pointer (some ⟨g1, 7, none⟩)) (fun a ee => execFC7 rfl (ee _)) (rv_ 38 (.int .i64 q.c) (fun a ee => execL1 rfl (Or.inl rfl) (ee _) (row_1 Fg1 rfl)) (rc_ 39 ((h7 ▸ pwithin q.c 1 64 X1_6)) (cb_ fun X1_7 bQ => ?_)))
    replace Fg1 := (on9 Fg1 bQ)
    replace BB := BB.trans (bQ.mono BB.size)
    clear bQ
    refine rv_ 42 (.pointer (some ⟨g1, 8, none⟩)) (fun a ee => execFC8 rfl (ee _)) (rv_ 43 (.int .i64 q.w) (fun a ee => execL1 rfl (Or.inl rfl) (ee _) (row_1 Fg1 rfl)) (rc_ 44 ((h8 ▸ pwithin q.w 1 64 X1_7)) (cb_ fun X1 bQ => ?_)))
    replace Fg1 := (on9 Fg1 bQ)
    replace BB := BB.trans (bQ.mono BB.size)
    clear bQ
    refine rg_ [(2, .bool false)] ?_
    rintro a A ⟨t2, -⟩
    refine wp_ret ?_
    refine bodyPost_ret (results_tmp rfl _ _ _) A.2 ⟨?_, BB⟩
    show Ending.returned (a.eval (.tmp 2)) = _
    rw [t2]
    rw [show cfQ m q = false by simp only [cfQ, decide_eq_true h0, h1, h2, h3, h4, h5, h6, h7, h8, Bool.true_and, Bool.false_and]]
  replace h8 := bnf h8
  by_cases h9 : inB q.k 0 1024 = false
  · refine wi_ A (h1_ t1) (rv_ 0 (.pointer (some ⟨g1, 0, none⟩)) (fun a ee => execFC0 rfl (ee _)) (rv_ 1 (mv) (fun a ee => execL1 rfl (Or.inr (Or.inr rfl)) (ee _) (row_1 Fg1 rfl)) (rv_ 2 (.int .i64 ((m : Nat) : Int)) (fun a ee => execLenV (len := m) rfl (ee _) hmv) (rv_ 3 (.bool true) (fun a ee => execDec (execEqN (p := m) (q := 32) rfl (ee _) rfl) (decide_eq_true (by omega))) (rv_ 5 (.pointer (some ⟨g1, 1, none⟩)) (fun a ee => execFC1 rfl (ee _)) (rv_ 6 (.int .i64 q.l) (fun a ee => execL1 rfl (Or.inl rfl) (ee _) (row_1 Fg1 rfl)) (rc_ 7 ((h1 ▸ pwithin q.l 1 8 X0)) (cb_ fun X1_1 bQ => ?_))))))))
    replace Fg1 := (on9 Fg1 bQ)
    replace BB := BB.trans (bQ.mono BB.size)
    clear bQ
    refine rv_ 10 (.pointer (some ⟨g1, 2, none⟩)) (fun a ee => execFC2 rfl (ee _)) (rv_ 11 (.int .i64 q.s) (fun a ee => execL1 rfl (Or.inl rfl) (ee _) (row_1 Fg1 rfl)) (rc_ 12 ((h2 ▸ pwithin q.s 1 8 X1_1)) (cb_ fun X1_2 bQ => ?_)))
    replace Fg1 := (on9 Fg1 bQ)
    replace BB := BB.trans (bQ.mono BB.size)
    clear bQ
    refine rv_ 15 (.pointer (some ⟨g1, 3, none⟩)) (fun a ee => execFC3 rfl (ee _)) (rv_ 16 (.int .i64 q.r) (fun a ee => execL1 rfl (Or.inl rfl) (ee _) (row_1 Fg1 rfl)) (rc_ 17 ((h3 ▸ pwithin q.r 0 4096 X1_2)) (cb_ fun X1_3 bQ => ?_)))
    replace Fg1 := (on9 Fg1 bQ)
    replace BB := BB.trans (bQ.mono BB.size)
    clear bQ
    refine rv_ 20 (.pointer (some ⟨g1, 5, none⟩)) (fun a ee => execFC5 rfl (ee _)) (rv_ 21 (.int .i64 q.d) (fun a ee => execL1 rfl (Or.inl rfl) (ee _) (row_1 Fg1 rfl)) (rc_ 22 ((h4 ▸ pwithin q.d 1 1000 X1_3)) (cb_ fun X1_4 bQ => ?_)))
    replace Fg1 := (on9 Fg1 bQ)
    replace BB := BB.trans (bQ.mono BB.size)
    clear bQ
    refine rv_ 25 (.pointer (some ⟨g1, 4, none⟩)) (fun a ee => execFC4 rfl (ee _)) (rv_ 26 (.int .i64 q.u) (fun a ee => execL1 rfl (Or.inl rfl) (ee _) (row_1 Fg1 rfl)) (rv_ 27 (.pointer (some ⟨g1, 5, none⟩)) (fun a ee => execFC5 rfl (ee _)) (rv_ 28 (.int .i64 q.d) (fun a ee => execL1 rfl (Or.inl rfl) (ee _) (row_1 Fg1 rfl)) (rc_ 29 ((h5 ▸ pwithin q.u 0 q.d X1_4)) (cb_ fun X1_5 bQ => ?_)))))
    replace Fg1 := (on9 Fg1 bQ)
    replace BB := BB.trans (bQ.mono BB.size)
    clear bQ
    refine rv_ 32 (.pointer (some ⟨g1, 6, none⟩)) (fun a ee => execFC6 rfl (ee _)) (rv_ 33 (.int .i64 q.o) (fun a ee => execL1 rfl (Or.inl rfl) (ee _) (row_1 Fg1 rfl)) (rc_ 34 ((h6 ▸ pwithin q.o 0 16 X1_5)) (cb_ fun X1_6 bQ => ?_)))
    replace Fg1 := (on9 Fg1 bQ)
    replace BB := BB.trans (bQ.mono BB.size)
    clear bQ
    refine rv_ 37 (.pointer (some ⟨g1, 7, none⟩)) (fun a ee => execFC7 rfl (ee _)) (rv_ 38 (.int .i64 q.c) (fun a ee => execL1 rfl (Or.inl rfl) (ee _) (row_1 Fg1 rfl)) (rc_ 39 ((h7 ▸ pwithin q.c 1 64 X1_6)) (cb_ fun X1_7 bQ => ?_)))
    replace Fg1 := (on9 Fg1 bQ)
    replace BB := BB.trans (bQ.mono BB.size)
    clear bQ
    refine rv_ 42 (.pointer (some ⟨g1, 8, none⟩)) (fun a ee => execFC8 rfl (ee _)) (rv_ 43 (.int .i64 q.w) (fun a ee => execL1 rfl (Or.inl rfl) (ee _) (row_1 Fg1 rfl)) (rc_ 44 ((h8 ▸ pwithin q.w 1 64 X1_7)) (cb_ fun X1_8 bQ => ?_)))
    replace Fg1 := (on9 Fg1 bQ)
    replace BB := BB.trans (bQ.mono BB.size)
    clear bQ
    refine rv_ 47 (.pointer (some ⟨g1, 9, none⟩)) (fun a ee => execFC9 rfl (ee _)) (rv_ 48 (.int .i64 q.k) (fun a ee => execL1 rfl (Or.inl rfl) (ee _) (row_1 Fg1 rfl)) (rc_ 49 ((h9 ▸ pwithin q.k 0 1024 X1_8)) (cb_ fun X1 bQ => ?_)))
    replace Fg1 := (on9 Fg1 bQ)
    replace BB := BB.trans (bQ.mono BB.size)
    clear bQ
    refine rg_ [(2, .bool false)] ?_
    rintro a A ⟨t2, -⟩
    refine wp_ret ?_
    refine bodyPost_ret (results_tmp rfl _ _ _) A.2 ⟨?_, BB⟩
    show Ending.returned (a.eval (.tmp 2)) = _
    rw [t2]
    rw [show cfQ m q = false by simp only [cfQ, decide_eq_true h0, h1, h2, h3, h4, h5, h6, h7, h8, h9, Bool.true_and, Bool.false_and]]
  replace h9 := bnf h9
  by_cases h10 : inB q.h 1 64 = false
  · refine wi_ A (h1_ t1) (rv_ 0 (.pointer (some ⟨g1, 0, none⟩)) (fun a ee => execFC0 rfl (ee _)) (rv_ 1 (mv) (fun a ee => execL1 rfl (Or.inr (Or.inr rfl)) (ee _) (row_1 Fg1 rfl)) (rv_ 2 (.int .i64 ((m : Nat) : Int)) (fun a ee => execLenV (len := m) rfl (ee _) hmv) (rv_ 3 (.bool true) (fun a ee => execDec (execEqN (p := m) (q := 32) rfl (ee _) rfl) (decide_eq_true (by omega))) (rv_ 5 (.pointer (some ⟨g1, 1, none⟩)) (fun a ee => execFC1 rfl (ee _)) (rv_ 6 (.int .i64 q.l) (fun a ee => execL1 rfl (Or.inl rfl) (ee _) (row_1 Fg1 rfl)) (rc_ 7 ((h1 ▸ pwithin q.l 1 8 X0)) (cb_ fun X1_1 bQ => ?_))))))))
    replace Fg1 := (on9 Fg1 bQ)
    replace BB := BB.trans (bQ.mono BB.size)
    clear bQ
    refine rv_ 10 (.pointer (some ⟨g1, 2, none⟩)) (fun a ee => execFC2 rfl (ee _)) (rv_ 11 (.int .i64 q.s) (fun a ee => execL1 rfl (Or.inl rfl) (ee _) (row_1 Fg1 rfl)) (rc_ 12 ((h2 ▸ pwithin q.s 1 8 X1_1)) (cb_ fun X1_2 bQ => ?_)))
    replace Fg1 := (on9 Fg1 bQ)
    replace BB := BB.trans (bQ.mono BB.size)
    clear bQ
    refine rv_ 15 (.pointer (some ⟨g1, 3, none⟩)) (fun a ee => execFC3 rfl (ee _)) (rv_ 16 (.int .i64 q.r) (fun a ee => execL1 rfl (Or.inl rfl) (ee _) (row_1 Fg1 rfl)) (rc_ 17 ((h3 ▸ pwithin q.r 0 4096 X1_2)) (cb_ fun X1_3 bQ => ?_)))
    replace Fg1 := (on9 Fg1 bQ)
    replace BB := BB.trans (bQ.mono BB.size)
    clear bQ
    refine rv_ 20 (.pointer (some ⟨g1, 5, none⟩)) (fun a ee => execFC5 rfl (ee _)) (rv_ 21 (.int .i64 q.d) (fun a ee => execL1 rfl (Or.inl rfl) (ee _) (row_1 Fg1 rfl)) (rc_ 22 ((h4 ▸ pwithin q.d 1 1000 X1_3)) (cb_ fun X1_4 bQ => ?_)))
    replace Fg1 := (on9 Fg1 bQ)
    replace BB := BB.trans (bQ.mono BB.size)
    clear bQ
    refine rv_ 25 (.pointer (some ⟨g1, 4, none⟩)) (fun a ee => execFC4 rfl (ee _)) (rv_ 26 (.int .i64 q.u) (fun a ee => execL1 rfl (Or.inl rfl) (ee _) (row_1 Fg1 rfl)) (rv_ 27 (.pointer (some ⟨g1, 5, none⟩)) (fun a ee => execFC5 rfl (ee _)) (rv_ 28 (.int .i64 q.d) (fun a ee => execL1 rfl (Or.inl rfl) (ee _) (row_1 Fg1 rfl)) (rc_ 29 ((h5 ▸ pwithin q.u 0 q.d X1_4)) (cb_ fun X1_5 bQ => ?_)))))
    replace Fg1 := (on9 Fg1 bQ)
    replace BB := BB.trans (bQ.mono BB.size)
    clear bQ
    refine rv_ 32 (.pointer (some ⟨g1, 6, none⟩)) (fun a ee => execFC6 rfl (ee _)) (rv_ 33 (.int .i64 q.o) (fun a ee => execL1 rfl (Or.inl rfl) (ee _) (row_1 Fg1 rfl)) (rc_ 34 ((h6 ▸ pwithin q.o 0 16 X1_5)) (cb_ fun X1_6 bQ => ?_)))
    replace Fg1 := (on9 Fg1 bQ)
    replace BB := BB.trans (bQ.mono BB.size)
    clear bQ
    refine rv_ 37 (.pointer (some ⟨g1, 7, none⟩)) (fun a ee => execFC7 rfl (ee _)) (rv_ 38 (.int .i64 q.c) (fun a ee => execL1 rfl (Or.inl rfl) (ee _) (row_1 Fg1 rfl)) (rc_ 39 ((h7 ▸ pwithin q.c 1 64 X1_6)) (cb_ fun X1_7 bQ => ?_)))
    replace Fg1 := (on9 Fg1 bQ)
    replace BB := BB.trans (bQ.mono BB.size)
    clear bQ
    refine rv_ 42 (.pointer (some ⟨g1, 8, none⟩)) (fun a ee => execFC8 rfl (ee _)) (rv_ 43 (.int .i64 q.w) (fun a ee => execL1 rfl (Or.inl rfl) (ee _) (row_1 Fg1 rfl)) (rc_ 44 ((h8 ▸ pwithin q.w 1 64 X1_7)) (cb_ fun X1_8 bQ => ?_)))
    replace Fg1 := (on9 Fg1 bQ)
    replace BB := BB.trans (bQ.mono BB.size)
    clear bQ
    refine rv_ 47 (.pointer (some ⟨g1, 9, none⟩)) (fun a ee => execFC9 rfl (ee _)) (rv_ 48 (.int .i64 q.k) (fun a ee => execL1 rfl (Or.inl rfl) (ee _) (row_1 Fg1 rfl)) (rc_ 49 ((h9 ▸ pwithin q.k 0 1024 X1_8)) (cb_ fun X1_9 bQ => ?_)))
    replace Fg1 := (on9 Fg1 bQ)
    replace BB := BB.trans (bQ.mono BB.size)
    clear bQ
    refine rv_ 52 (.pointer (some ⟨g1, 10, none⟩)) (fun a ee => execFC10 rfl (ee _)) (rv_ 53 (.int .i64 q.h) (fun a ee => execL1 rfl (Or.inl rfl) (ee _) (row_1 Fg1 rfl)) (rc_ 54 ((h10 ▸ pwithin q.h 1 64 X1_9)) (cb_ fun X1 bQ => ?_)))
    replace Fg1 := (on9 Fg1 bQ)
    replace BB := BB.trans (bQ.mono BB.size)
    clear bQ
    refine rg_ [(2, .bool false)] ?_
    rintro a A ⟨t2, -⟩
    refine wp_ret ?_
    refine bodyPost_ret (results_tmp rfl _ _ _) A.2 ⟨?_, BB⟩
    show Ending.returned (a.eval (.tmp 2)) = _
    rw [t2]
    rw [show cfQ m q = false by simp only [cfQ, decide_eq_true h0, h1, h2, h3, h4, h5, h6, h7, h8, h9, h10, Bool.true_and]]
  replace h10 := bnf h10
  refine wi_ A (h1_ t1) (rv_ 0 (.pointer (some ⟨g1, 0, none⟩)) (fun a ee => execFC0 rfl (ee _)) (rv_ 1 (mv) (fun a ee => execL1 rfl (Or.inr (Or.inr rfl)) (ee _) (row_1 Fg1 rfl)) (rv_ 2 (.int .i64 ((m : Nat) : Int)) (fun a ee => execLenV (len := m) rfl (ee _) hmv) (rv_ 3 (.bool true) (fun a ee => execDec (execEqN (p := m) (q := 32) rfl (ee _) rfl) (decide_eq_true (by omega))) (rv_ 5 (.pointer (some ⟨g1, 1, none⟩)) (fun a ee => execFC1 rfl (ee _)) (rv_ 6 (.int .i64 q.l) (fun a ee => execL1 rfl (Or.inl rfl) (ee _) (row_1 Fg1 rfl)) (rc_ 7 ((h1 ▸ pwithin q.l 1 8 X0)) (cb_ fun X1_1 bQ => ?_))))))))
  replace Fg1 := (on9 Fg1 bQ)
  replace BB := BB.trans (bQ.mono BB.size)
  clear bQ
  refine rv_ 10 (.pointer (some ⟨g1, 2, none⟩)) (fun a ee => execFC2 rfl (ee _)) (rv_ 11 (.int .i64 q.s) (fun a ee => execL1 rfl (Or.inl rfl) (ee _) (row_1 Fg1 rfl)) (rc_ 12 ((h2 ▸ pwithin q.s 1 8 X1_1)) (cb_ fun X1_2 bQ => ?_)))
  replace Fg1 := (on9 Fg1 bQ)
  replace BB := BB.trans (bQ.mono BB.size)
  clear bQ
  refine rv_ 15 (.pointer (some ⟨g1, 3, none⟩)) (fun a ee => execFC3 rfl (ee _)) (rv_ 16 (.int .i64 q.r) (fun a ee => execL1 rfl (Or.inl rfl) (ee _) (row_1 Fg1 rfl)) (rc_ 17 ((h3 ▸ pwithin q.r 0 4096 X1_2)) (cb_ fun X1_3 bQ => ?_)))
  replace Fg1 := (on9 Fg1 bQ)
  replace BB := BB.trans (bQ.mono BB.size)
  clear bQ
  refine rv_ 20 (.pointer (some ⟨g1, 5, none⟩)) (fun a ee => execFC5 rfl (ee _)) (rv_ 21 (.int .i64 q.d) (fun a ee => execL1 rfl (Or.inl rfl) (ee _) (row_1 Fg1 rfl)) (rc_ 22 ((h4 ▸ pwithin q.d 1 1000 X1_3)) (cb_ fun X1_4 bQ => ?_)))
  replace Fg1 := (on9 Fg1 bQ)
  replace BB := BB.trans (bQ.mono BB.size)
  clear bQ
  refine rv_ 25 (.pointer (some ⟨g1, 4, none⟩)) (fun a ee => execFC4 rfl (ee _)) (rv_ 26 (.int .i64 q.u) (fun a ee => execL1 rfl (Or.inl rfl) (ee _) (row_1 Fg1 rfl)) (rv_ 27 (.pointer (some ⟨g1, 5, none⟩)) (fun a ee => execFC5 rfl (ee _)) (rv_ 28 (.int .i64 q.d) (fun a ee => execL1 rfl (Or.inl rfl) (ee _) (row_1 Fg1 rfl)) (rc_ 29 ((h5 ▸ pwithin q.u 0 q.d X1_4)) (cb_ fun X1_5 bQ => ?_)))))
  replace Fg1 := (on9 Fg1 bQ)
  replace BB := BB.trans (bQ.mono BB.size)
  clear bQ
  refine rv_ 32 (.pointer (some ⟨g1, 6, none⟩)) (fun a ee => execFC6 rfl (ee _)) (rv_ 33 (.int .i64 q.o) (fun a ee => execL1 rfl (Or.inl rfl) (ee _) (row_1 Fg1 rfl)) (rc_ 34 ((h6 ▸ pwithin q.o 0 16 X1_5)) (cb_ fun X1_6 bQ => ?_)))
  replace Fg1 := (on9 Fg1 bQ)
  replace BB := BB.trans (bQ.mono BB.size)
  clear bQ
  refine rv_ 37 (.pointer (some ⟨g1, 7, none⟩)) (fun a ee => execFC7 rfl (ee _)) (rv_ 38 (.int .i64 q.c) (fun a ee => execL1 rfl (Or.inl rfl) (ee _) (row_1 Fg1 rfl)) (rc_ 39 ((h7 ▸ pwithin q.c 1 64 X1_6)) (cb_ fun X1_7 bQ => ?_)))
  replace Fg1 := (on9 Fg1 bQ)
  replace BB := BB.trans (bQ.mono BB.size)
  clear bQ
  refine rv_ 42 (.pointer (some ⟨g1, 8, none⟩)) (fun a ee => execFC8 rfl (ee _)) (rv_ 43 (.int .i64 q.w) (fun a ee => execL1 rfl (Or.inl rfl) (ee _) (row_1 Fg1 rfl)) (rc_ 44 ((h8 ▸ pwithin q.w 1 64 X1_7)) (cb_ fun X1_8 bQ => ?_)))
  replace Fg1 := (on9 Fg1 bQ)
  replace BB := BB.trans (bQ.mono BB.size)
  clear bQ
  refine rv_ 47 (.pointer (some ⟨g1, 9, none⟩)) (fun a ee => execFC9 rfl (ee _)) (rv_ 48 (.int .i64 q.k) (fun a ee => execL1 rfl (Or.inl rfl) (ee _) (row_1 Fg1 rfl)) (rc_ 49 ((h9 ▸ pwithin q.k 0 1024 X1_8)) (cb_ fun X1_9 bQ => ?_)))
  replace Fg1 := (on9 Fg1 bQ)
  replace BB := BB.trans (bQ.mono BB.size)
  clear bQ
  refine rv_ 52 (.pointer (some ⟨g1, 10, none⟩)) (fun a ee => execFC10 rfl (ee _)) (rv_ 53 (.int .i64 q.h) (fun a ee => execL1 rfl (Or.inl rfl) (ee _) (row_1 Fg1 rfl)) (rc_ 54 ((h10 ▸ pwithin q.h 1 64 X1_9)) (cb_ fun X1 bQ => ?_)))
  replace Fg1 := (on9 Fg1 bQ)
  replace BB := BB.trans (bQ.mono BB.size)
  clear bQ
  refine rg_ [(2, .bool true)] ?_
  rintro a A ⟨t2, -⟩
  refine wp_ret ?_
  refine bodyPost_ret (results_tmp rfl _ _ _) A.2 ⟨?_, BB⟩
  show Ending.returned (a.eval (.tmp 2)) = _
  rw [t2]
  rw [show cfQ m q = true by simp only [cfQ, decide_eq_true h0, h1, h2, h3, h4, h5, h6, h7, h8, h9, h10, Bool.true_and]]
set_option maxRecDepth 100000 in
set_option maxHeartbeats 4000000 in
/-- right. -/
theorem rright21 (mv : Value) (m : Nat) (q : Cg) (V : World) (hm : ∃ g n c, mv = .slice g n c) (hmv : ∃ ao c, mv = .slice ao m c) :
    Calls Tryz.prog 16 #[.agg (cfC mv q)] V fun e w' => e = .returned (.bool (cfQ m q)) ∧ Below V.heap.size V w' := by
  go_enter Tryz.func16, Tryz.ntmps16
  refine wo_ 59 [(0, .agg (cfC mv q))] ?_
  rintro a A ⟨t0, -⟩
  have BW : Below V.heap.size V V := Below.refl _ _
  have BB := BW
  refine wp_seq ?_
  obtain ⟨g1, egg1⟩ : ∃ z_ : Nat, V.heap.size = z_ := ⟨_, rfl⟩
  refine wi_ A (h1_ t0) (rs_ 0 (fun a ee => ?_))
  refine stepV rfl rfl (execBxC hm rfl (ee _)) ⟨.pointer (some ⟨g1, 0, none⟩), ⟨_, rfl, by subst egg1; rfl⟩, fun X0 hX => ?_⟩
  have bQ : Below V.heap.size V X0 := by subst hX egg1; exact (belNew V _)
  have Fg1 : (X0.heap[g1]? = some (.cells (cfC mv q) 24)) := by subst hX egg1; exact heapNew V _
  replace BB := BB.trans (bQ.mono BB.size)
  clear bQ hX egg1 ee a
  refine rg_ [(1, .pointer (some ⟨g1, 0, none⟩))] ?_
  rintro a A ⟨t1, -⟩
  refine wp_seq ?_
  by_cases h0 : ¬ m = 32
  · refine wi_ A (h1_ t1) (rv_ 0 (.pointer (some ⟨g1, 0, none⟩)) (fun a ee => execFC0 rfl (ee _)) (rv_ 1 (mv) (fun a ee => execL1 rfl (Or.inr (Or.inr rfl)) (ee _) (row_1 Fg1 rfl)) (rv_ 2 (.int .i64 ((m : Nat) : Int)) (fun a ee => execLenV (len := m) rfl (ee _) hmv) (rv_ 3 (.bool false) (fun a ee => execDec (execEqN (p := m) (q := 32) rfl (ee _) rfl) (decide_eq_false (by omega))) (rg_ [(2, .bool false)] ?_)))))
    rintro a A ⟨t2, -⟩
    refine wp_ret ?_
    refine bodyPost_ret (results_tmp rfl _ _ _) A.2 ⟨?_, BB⟩
    show Ending.returned (a.eval (.tmp 2)) = _
    rw [t2]
    rw [show cfQ m q = false by simp only [cfQ, decide_eq_false h0, Bool.false_and]]
  replace h0 := Classical.not_not.1 h0
  by_cases h1 : inB q.l 1 8 = false
  · refine wi_ A (h1_ t1) (rv_ 0 (.pointer (some ⟨g1, 0, none⟩)) (fun a ee => execFC0 rfl (ee _)) (rv_ 1 (mv) (fun a ee => execL1 rfl (Or.inr (Or.inr rfl)) (ee _) (row_1 Fg1 rfl)) (rv_ 2 (.int .i64 ((m : Nat) : Int)) (fun a ee => execLenV (len := m) rfl (ee _) hmv) (rv_ 3 (.bool true) (fun a ee => execDec (execEqN (p := m) (q := 32) rfl (ee _) rfl) (decide_eq_true (by omega))) (rv_ 5 (.pointer (some ⟨g1, 1, none⟩)) (fun a ee => execFC1 rfl (ee _)) (rv_ 6 (.int .i64 q.l) (fun a ee => execL1 rfl (Or.inl rfl) (ee _) (row_1 Fg1 rfl)) (rc_ 7 ((h1 ▸ rwithin21 q.l 1 8 X0)) (cb_ fun X1 bQ => ?_))))))))
    replace Fg1 := (on9 Fg1 bQ)
    replace BB := BB.trans (bQ.mono BB.size)
    clear bQ
    refine rg_ [(2, .bool false)] ?_
    rintro a A ⟨t2, -⟩
    refine wp_ret ?_
    refine bodyPost_ret (results_tmp rfl _ _ _) A.2 ⟨?_, BB⟩
    show Ending.returned (a.eval (.tmp 2)) = _
    rw [t2]
    rw [show cfQ m q = false by simp only [cfQ, decide_eq_true h0, h1, Bool.true_and, Bool.false_and]]
  replace h1 := bnf h1
  by_cases h2 : inB q.s 1 8 = false
  · refine wi_ A (h1_ t1) (rv_ 0 (.pointer (some ⟨g1, 0, none⟩)) (fun a ee => execFC0 rfl (ee _)) (rv_ 1 (mv) (fun a ee => execL1 rfl (Or.inr (Or.inr rfl)) (ee _) (row_1 Fg1 rfl)) (rv_ 2 (.int .i64 ((m : Nat) : Int)) (fun a ee => execLenV (len := m) rfl (ee _) hmv) (rv_ 3 (.bool true) (fun a ee => execDec (execEqN (p := m) (q := 32) rfl (ee _) rfl) (decide_eq_true (by omega))) (rv_ 5 (.pointer (some ⟨g1, 1, none⟩)) (fun a ee => execFC1 rfl (ee _)) (rv_ 6 (.int .i64 q.l) (fun a ee => execL1 rfl (Or.inl rfl) (ee _) (row_1 Fg1 rfl)) (rc_ 7 ((h1 ▸ rwithin21 q.l 1 8 X0)) (cb_ fun X1_1 bQ => ?_))))))))
    replace Fg1 := (on9 Fg1 bQ)
    replace BB := BB.trans (bQ.mono BB.size)
    clear bQ
    refine rv_ 10 (.pointer (some ⟨g1, 2, none⟩)) (fun a ee => execFC2 rfl (ee _)) (rv_ 11 (.int .i64 q.s) (fun a ee => execL1 rfl (Or.inl rfl) (ee _) (row_1 Fg1 rfl)) (rc_ 12 ((h2 ▸ rwithin21 q.s 1 8 X1_1)) (cb_ fun X1 bQ => ?_)))
    replace Fg1 := (on9 Fg1 bQ)
    replace BB := BB.trans (bQ.mono BB.size)
    clear bQ
    refine rg_ [(2, .bool false)] ?_
    rintro a A ⟨t2, -⟩
    refine wp_ret ?_
    refine bodyPost_ret (results_tmp rfl _ _ _) A.2 ⟨?_, BB⟩
    show Ending.returned (a.eval (.tmp 2)) = _
    rw [t2]
    rw [show cfQ m q = false by simp only [cfQ, decide_eq_true h0, h1, h2, Bool.true_and, Bool.false_and]]
  replace h2 := bnf h2
  by_cases h3 : inB q.r 0 4096 = false
  · refine wi_ A (h1_ t1) (rv_ 0 (.pointer (some ⟨g1, 0, none⟩)) (fun a ee => execFC0 rfl (ee _)) (rv_ 1 (mv) (fun a ee => execL1 rfl (Or.inr (Or.inr rfl)) (ee _) (row_1 Fg1 rfl)) (rv_ 2 (.int .i64 ((m : Nat) : Int)) (fun a ee => execLenV (len := m) rfl (ee _) hmv) (rv_ 3 (.bool true) (fun a ee => execDec (execEqN (p := m) (q := 32) rfl (ee _) rfl) (decide_eq_true (by omega))) (rv_ 5 (.pointer (some ⟨g1, 1, none⟩)) (fun a ee => execFC1 rfl (ee _)) (rv_ 6 (.int .i64 q.l) (fun a ee => execL1 rfl (Or.inl rfl) (ee _) (row_1 Fg1 rfl)) (rc_ 7 ((h1 ▸ rwithin21 q.l 1 8 X0)) (cb_ fun X1_1 bQ => ?_))))))))
    replace Fg1 := (on9 Fg1 bQ)
    replace BB := BB.trans (bQ.mono BB.size)
    clear bQ
    refine rv_ 10 (.pointer (some ⟨g1, 2, none⟩)) (fun a ee => execFC2 rfl (ee _)) (rv_ 11 (.int .i64 q.s) (fun a ee => execL1 rfl (Or.inl rfl) (ee _) (row_1 Fg1 rfl)) (rc_ 12 ((h2 ▸ rwithin21 q.s 1 8 X1_1)) (cb_ fun X1_2 bQ => ?_)))
    replace Fg1 := (on9 Fg1 bQ)
    replace BB := BB.trans (bQ.mono BB.size)
    clear bQ
    refine rv_ 15 (.pointer (some ⟨g1, 3, none⟩)) (fun a ee => execFC3 rfl (ee _)) (rv_ 16 (.int .i64 q.r) (fun a ee => execL1 rfl (Or.inl rfl) (ee _) (row_1 Fg1 rfl)) (rc_ 17 ((h3 ▸ rwithin21 q.r 0 4096 X1_2)) (cb_ fun X1 bQ => ?_)))
    replace Fg1 := (on9 Fg1 bQ)
    replace BB := BB.trans (bQ.mono BB.size)
    clear bQ
    refine rg_ [(2, .bool false)] ?_
    rintro a A ⟨t2, -⟩
    refine wp_ret ?_
    refine bodyPost_ret (results_tmp rfl _ _ _) A.2 ⟨?_, BB⟩
    show Ending.returned (a.eval (.tmp 2)) = _
    rw [t2]
    rw [show cfQ m q = false by simp only [cfQ, decide_eq_true h0, h1, h2, h3, Bool.true_and, Bool.false_and]]
  replace h3 := bnf h3
  by_cases h4 : inB q.d 1 1000 = false
  · refine wi_ A (h1_ t1) (rv_ 0 (.pointer (some ⟨g1, 0, none⟩)) (fun a ee => execFC0 rfl (ee _)) (rv_ 1 (mv) (fun a ee => execL1 rfl (Or.inr (Or.inr rfl)) (ee _) (row_1 Fg1 rfl)) (rv_ 2 (.int .i64 ((m : Nat) : Int)) (fun a ee => execLenV (len := m) rfl (ee _) hmv) (rv_ 3 (.bool true) (fun a ee => execDec (execEqN (p := m) (q := 32) rfl (ee _) rfl) (decide_eq_true (by omega))) (rv_ 5 (.pointer (some ⟨g1, 1, none⟩)) (fun a ee => execFC1 rfl (ee _)) (rv_ 6 (.int .i64 q.l) (fun a ee => execL1 rfl (Or.inl rfl) (ee _) (row_1 Fg1 rfl)) (rc_ 7 ((h1 ▸ rwithin21 q.l 1 8 X0)) (cb_ fun X1_1 bQ => ?_))))))))
    replace Fg1 := (on9 Fg1 bQ)
    replace BB := BB.trans (bQ.mono BB.size)
    clear bQ
    refine rv_ 10 (.pointer (some ⟨g1, 2, none⟩)) (fun a ee => execFC2 rfl (ee _)) (rv_ 11 (.int .i64 q.s) (fun a ee => execL1 rfl (Or.inl rfl) (ee _) (row_1 Fg1 rfl)) (rc_ 12 ((h2 ▸ rwithin21 q.s 1 8 X1_1)) (cb_ fun X1_2 bQ => ?_)))
    replace Fg1 := (on9 Fg1 bQ)
    replace BB := BB.trans (bQ.mono BB.size)
    clear bQ
    refine rv_ 15 (.pointer (some ⟨g1, 3, none⟩)) (fun a ee => execFC3 rfl (ee _)) (rv_ 16 (.int .i64 q.r) (fun a ee => execL1 rfl (Or.inl rfl) (ee _) (row_1 Fg1 rfl)) (rc_ 17 ((h3 ▸ rwithin21 q.r 0 4096 X1_2)) (cb_ fun X1_3 bQ => ?_)))
    replace Fg1 := (on9 Fg1 bQ)
    replace BB := BB.trans (bQ.mono BB.size)
    clear bQ
    refine rv_ 20 (.pointer (some ⟨g1, 5, none⟩)) (fun a ee => execFC5 rfl (ee _)) (rv_ 21 (.int .i64 q.d) (fun a ee => execL1 rfl (Or.inl rfl) (ee _) (row_1 Fg1 rfl)) (rc_ 22 ((h4 ▸ rwithin21 q.d 1 1000 X1_3)) (cb_ fun X1 bQ => ?_)))
    replace Fg1 := (on9 Fg1 bQ)
    replace BB := BB.trans (bQ.mono BB.size)
    clear bQ
    refine rg_ [(2, .bool false)] ?_
    rintro a A ⟨t2, -⟩
    refine wp_ret ?_
    refine bodyPost_ret (results_tmp rfl _ _ _) A.2 ⟨?_, BB⟩
    show Ending.returned (a.eval (.tmp 2)) = _
    rw [t2]
    rw [show cfQ m q = false by simp only [cfQ, decide_eq_true h0, h1, h2, h3, h4, Bool.true_and, Bool.false_and]]
  replace h4 := bnf h4
  by_cases h5 : inB q.u 0 q.d = false
  · refine wi_ A (h1_ t1) (rv_ 0 (.pointer (some ⟨g1, 0, none⟩)) (fun a ee => execFC0 rfl (ee _)) (rv_ 1 (mv) (fun a ee => execL1 rfl (Or.inr (Or.inr rfl)) (ee _) (row_1 Fg1 rfl)) (rv_ 2 (.int .i64 ((m : Nat) : Int)) (fun a ee => execLenV (len := m) rfl (ee _) hmv) (rv_ 3 (.bool true) (fun a ee => execDec (execEqN (p := m) (q := 32) rfl (ee _) rfl) (decide_eq_true (by omega))) (rv_ 5 (.pointer (some ⟨g1, 1, none⟩)) (fun a ee => execFC1 rfl (ee _)) (rv_ 6 (.int .i64 q.l) (fun a ee => execL1 rfl (Or.inl rfl) (ee _) (row_1 Fg1 rfl)) (rc_ 7 ((h1 ▸ rwithin21 q.l 1 8 X0)) (cb_ fun X1_1 bQ => ?_))))))))
    replace Fg1 := (on9 Fg1 bQ)
    replace BB := BB.trans (bQ.mono BB.size)
    clear bQ
    refine rv_ 10 (.pointer (some ⟨g1, 2, none⟩)) (fun a ee => execFC2 rfl (ee _)) (rv_ 11 (.int .i64 q.s) (fun a ee => execL1 rfl (Or.inl rfl) (ee _) (row_1 Fg1 rfl)) (rc_ 12 ((h2 ▸ rwithin21 q.s 1 8 X1_1)) (cb_ fun X1_2 bQ => ?_)))
    replace Fg1 := (on9 Fg1 bQ)
    replace BB := BB.trans (bQ.mono BB.size)
    clear bQ
    refine rv_ 15 (.pointer (some ⟨g1, 3, none⟩)) (fun a ee => execFC3 rfl (ee _)) (rv_ 16 (.int .i64 q.r) (fun a ee => execL1 rfl (Or.inl rfl) (ee _) (row_1 Fg1 rfl)) (rc_ 17 ((h3 ▸ rwithin21 q.r 0 4096 X1_2)) (cb_ fun X1_3 bQ => ?_)))
    replace Fg1 := (on9 Fg1 bQ)
    replace BB := BB.trans (bQ.mono BB.size)
    clear bQ
    refine rv_ 20 (.pointer (some ⟨g1, 5, none⟩)) (fun a ee => execFC5 rfl (ee _)) (rv_ 21 (.int .i64 q.d) (fun a ee => execL1 rfl (Or.inl rfl) (ee _) (row_1 Fg1 rfl)) (rc_ 22 ((h4 ▸ rwithin21 q.d 1 1000 X1_3)) (cb_ fun X1_4 bQ => ?_)))
    replace Fg1 := (on9 Fg1 bQ)
    replace BB := BB.trans (bQ.mono BB.size)
    clear bQ
    refine rv_ 25 (.pointer (some ⟨g1, 4, none⟩)) (fun a ee => execFC4 rfl (ee _)) (rv_ 26 (.int .i64 q.u) (fun a ee => execL1 rfl (Or.inl rfl) (ee _) (row_1 Fg1 rfl)) (rv_ 27 (.pointer (some ⟨g1, 5, none⟩)) (fun a ee => execFC5 rfl (ee _)) (rv_ 28 (.int .i64 q.d) (fun a ee => execL1 rfl (Or.inl rfl) (ee _) (row_1 Fg1 rfl)) (rc_ 29 ((h5 ▸ rwithin21 q.u 0 q.d X1_4)) (cb_ fun X1 bQ => ?_)))))
    replace Fg1 := (on9 Fg1 bQ)
    replace BB := BB.trans (bQ.mono BB.size)
    clear bQ
    refine rg_ [(2, .bool false)] ?_
    rintro a A ⟨t2, -⟩
    refine wp_ret ?_
    refine bodyPost_ret (results_tmp rfl _ _ _) A.2 ⟨?_, BB⟩
    show Ending.returned (a.eval (.tmp 2)) = _
    rw [t2]
    rw [show cfQ m q = false by simp only [cfQ, decide_eq_true h0, h1, h2, h3, h4, h5, Bool.true_and, Bool.false_and]]
  replace h5 := bnf h5
  by_cases h6 : inB q.o 0 16 = false
  · refine wi_ A (h1_ t1) (rv_ 0 (.pointer (some ⟨g1, 0, none⟩)) (fun a ee => execFC0 rfl (ee _)) (rv_ 1 (mv) (fun a ee => execL1 rfl (Or.inr (Or.inr rfl)) (ee _) (row_1 Fg1 rfl)) (rv_ 2 (.int .i64 ((m : Nat) : Int)) (fun a ee => execLenV (len := m) rfl (ee _) hmv) (rv_ 3 (.bool true) (fun a ee => execDec (execEqN (p := m) (q := 32) rfl (ee _) rfl) (decide_eq_true (by omega))) (rv_ 5 (.pointer (some ⟨g1, 1, none⟩)) (fun a ee => execFC1 rfl (ee _)) (rv_ 6 (.int .i64 q.l) (fun a ee => execL1 rfl (Or.inl rfl) (ee _) (row_1 Fg1 rfl)) (rc_ 7 ((h1 ▸ rwithin21 q.l 1 8 X0)) (cb_ fun X1_1 bQ => ?_))))))))
    replace Fg1 := (on9 Fg1 bQ)
    replace BB := BB.trans (bQ.mono BB.size)
    clear bQ
    refine rv_ 10 (.pointer (some ⟨g1, 2, none⟩)) (fun a ee => execFC2 rfl (ee _)) (rv_ 11 (.int .i64 q.s) (fun a ee => execL1 rfl (Or.inl rfl) (ee _) (row_1 Fg1 rfl)) (rc_ 12 ((h2 ▸ rwithin21 q.s 1 8 X1_1)) (cb_ fun X1_2 bQ => ?_)))
    replace Fg1 := (on9 Fg1 bQ)
    replace BB := BB.trans (bQ.mono BB.size)
    clear bQ
    refine rv_ 15 (.pointer (some ⟨g1, 3, none⟩)) (fun a ee => execFC3 rfl (ee _)) (rv_ 16 (.int .i64 q.r) (fun a ee => execL1 rfl (Or.inl rfl) (ee _) (row_1 Fg1 rfl)) (rc_ 17 ((h3 ▸ rwithin21 q.r 0 4096 X1_2)) (cb_ fun X1_3 bQ => ?_)))
    replace Fg1 := (on9 Fg1 bQ)
    replace BB := BB.trans (bQ.mono BB.size)
    clear bQ
    refine rv_ 20 (.pointer (some ⟨g1, 5, none⟩)) (fun a ee => execFC5 rfl (ee _)) (rv_ 21 (.int .i64 q.d) (fun a ee => execL1 rfl (Or.inl rfl) (ee _) (row_1 Fg1 rfl)) (rc_ 22 ((h4 ▸ rwithin21 q.d 1 1000 X1_3)) (cb_ fun X1_4 bQ => ?_)))
    replace Fg1 := (on9 Fg1 bQ)
    replace BB := BB.trans (bQ.mono BB.size)
    clear bQ
    refine rv_ 25 (.pointer (some ⟨g1, 4, none⟩)) (fun a ee => execFC4 rfl (ee _)) (rv_ 26 (.int .i64 q.u) (fun a ee => execL1 rfl (Or.inl rfl) (ee _) (row_1 Fg1 rfl)) (rv_ 27 (.pointer (some ⟨g1, 5, none⟩)) (fun a ee => execFC5 rfl (ee _)) (rv_ 28 (.int .i64 q.d) (fun a ee => execL1 rfl (Or.inl rfl) (ee _) (row_1 Fg1 rfl)) (rc_ 29 ((h5 ▸ rwithin21 q.u 0 q.d X1_4)) (cb_ fun X1_5 bQ => ?_)))))
    replace Fg1 := (on9 Fg1 bQ)
    replace BB := BB.trans (bQ.mono BB.size)
    clear bQ
    refine rv_ 32 (.pointer (some ⟨g1, 6, none⟩)) (fun a ee => execFC6 rfl (ee _)) (rv_ 33 (.int .i64 q.o) (fun a ee => execL1 rfl (Or.inl rfl) (ee _) (row_1 Fg1 rfl)) (rc_ 34 ((h6 ▸ rwithin21 q.o 0 16 X1_5)) (cb_ fun X1 bQ => ?_)))
    replace Fg1 := (on9 Fg1 bQ)
    replace BB := BB.trans (bQ.mono BB.size)
    clear bQ
    refine rg_ [(2, .bool false)] ?_
    rintro a A ⟨t2, -⟩
    refine wp_ret ?_
    refine bodyPost_ret (results_tmp rfl _ _ _) A.2 ⟨?_, BB⟩
    show Ending.returned (a.eval (.tmp 2)) = _
    rw [t2]
    rw [show cfQ m q = false by simp only [cfQ, decide_eq_true h0, h1, h2, h3, h4, h5, h6, Bool.true_and, Bool.false_and]]
  replace h6 := bnf h6
  by_cases h7 : inB q.c 1 64 = false
  · refine wi_ A (h1_ t1) (rv_ 0 (.pointer (some ⟨g1, 0, none⟩)) (fun a ee => execFC0 rfl (ee _)) (rv_ 1 (mv) (fun a ee => execL1 rfl (Or.inr (Or.inr rfl)) (ee _) (row_1 Fg1 rfl)) (rv_ 2 (.int .i64 ((m : Nat) : Int)) (fun a ee => execLenV (len := m) rfl (ee _) hmv) (rv_ 3 (.bool true) (fun a ee => execDec (execEqN (p := m) (q := 32) rfl (ee _) rfl) (decide_eq_true (by omega))) (rv_ 5 (.pointer (some ⟨g1, 1, none⟩)) (fun a ee => execFC1 rfl (ee _)) (rv_ 6 (.int .i64 q.l) (fun a ee => execL1 rfl (Or.inl rfl) (ee _) (row_1 Fg1 rfl)) (rc_ 7 ((h1 ▸ rwithin21 q.l 1 8 X0)) (cb_ fun X1_1 bQ => ?_))))))))
    replace Fg1 := (on9 Fg1 bQ)
    replace BB := BB.trans (bQ.mono BB.size)
    clear bQ
    refine rv_ 10 (.pointer (some ⟨g1, 2, none⟩)) (fun a ee => execFC2 rfl (ee _)) (rv_ 11 (.int .i64 q.s) (fun a ee => execL1 rfl (Or.inl rfl) (ee _) (row_1 Fg1 rfl)) (rc_ 12 ((h2 ▸ rwithin21 q.s 1 8 X1_1)) (cb_ fun X1_2 bQ => ?_)))
    replace Fg1 := (on9 Fg1 bQ)
    replace BB := BB.trans (bQ.mono BB.size)
    clear bQ
    refine rv_ 15 (.pointer (some ⟨g1, 3, none⟩)) (fun a ee => execFC3 rfl (ee _)) (rv_ 16 (.int .i64 q.r) (fun a ee => execL1 rfl (Or.inl rfl) (ee _) (row_1 Fg1 rfl)) (rc_ 17 ((h3 ▸ rwithin21 q.r 0 4096 X1_2)) (cb_ fun X1_3 bQ => ?_)))
    replace Fg1 := (on9 Fg1 bQ)
    replace BB := BB.trans (bQ.mono BB.size)
    clear bQ
    refine rv_ 20 (.pointer (some ⟨g1, 5, none⟩)) (fun a ee => execFC5 rfl (ee _)) (rv_ 21 (.int .i64 q.d) (fun a ee => execL1 rfl (Or.inl rfl) (ee _) (row_1 Fg1 rfl)) (rc_ 22 ((h4 ▸ rwithin21 q.d 1 1000 X1_3)) (cb_ fun X1_4 bQ => ?_)))
    replace Fg1 := (on9 Fg1 bQ)
    replace BB := BB.trans (bQ.mono BB.size)
    clear bQ
    refine rv_ 25 (.pointer (some ⟨g1, 4, none⟩)) (fun a ee => execFC4 rfl (ee _)) (rv_ 26 (.int .i64 q.u) (fun a ee => execL1 rfl (Or.inl rfl) (ee _) (row_1 Fg1 rfl)) (rv_ 27 (.pointer (some ⟨g1, 5, none⟩)) (fun a ee => execFC5 rfl (ee _)) (rv_ 28 (.int .i64 q.d) (fun a ee => execL1 rfl (Or.inl rfl) (ee _) (row_1 Fg1 rfl)) (rc_ 29 ((h5 ▸ rwithin21 q.u 0 q.d X1_4)) (cb_ fun X1_5 bQ => ?_)))))
    replace Fg1 := (on9 Fg1 bQ)
    replace BB := BB.trans (bQ.mono BB.size)
    clear bQ
    refine rv_ 32 (.pointer (some ⟨g1, 6, none⟩)) (fun a ee => execFC6 rfl (ee _)) (rv_ 33 (.int .i64 q.o) (fun a ee => execL1 rfl (Or.inl rfl) (ee _) (row_1 Fg1 rfl)) (rc_ 34 ((h6 ▸ rwithin21 q.o 0 16 X1_5)) (cb_ fun X1_6 bQ => ?_)))
    replace Fg1 := (on9 Fg1 bQ)
    replace BB := BB.trans (bQ.mono BB.size)
    clear bQ
    refine rv_ 37 (.pointer (some ⟨g1, 7, none⟩)) (fun a ee => execFC7 rfl (ee _)) (rv_ 38 (.int .i64 q.c) (fun a ee => execL1 rfl (Or.inl rfl) (ee _) (row_1 Fg1 rfl)) (rc_ 39 ((h7 ▸ rwithin21 q.c 1 64 X1_6)) (cb_ fun X1 bQ => ?_)))
    replace Fg1 := (on9 Fg1 bQ)
    replace BB := BB.trans (bQ.mono BB.size)
    clear bQ
    refine rg_ [(2, .bool false)] ?_
    rintro a A ⟨t2, -⟩
    refine wp_ret ?_
    refine bodyPost_ret (results_tmp rfl _ _ _) A.2 ⟨?_, BB⟩
    show Ending.returned (a.eval (.tmp 2)) = _
    rw [t2]
    rw [show cfQ m q = false by simp only [cfQ, decide_eq_true h0, h1, h2, h3, h4, h5, h6, h7, Bool.true_and, Bool.false_and]]
  replace h7 := bnf h7
  by_cases h8 : inB q.w 1 64 = false
  · refine wi_ A (h1_ t1) (rv_ 0 (.pointer (some ⟨g1, 0, none⟩)) (fun a ee => execFC0 rfl (ee _)) (rv_ 1 (mv) (fun a ee => execL1 rfl (Or.inr (Or.inr rfl)) (ee _) (row_1 Fg1 rfl)) (rv_ 2 (.int .i64 ((m : Nat) : Int)) (fun a ee => execLenV (len := m) rfl (ee _) hmv) (rv_ 3 (.bool true) (fun a ee => execDec (execEqN (p := m) (q := 32) rfl (ee _) rfl) (decide_eq_true (by omega))) (rv_ 5 (.pointer (some ⟨g1, 1, none⟩)) (fun a ee => execFC1 rfl (ee _)) (rv_ 6 (.int .i64 q.l) (fun a ee => execL1 rfl (Or.inl rfl) (ee _) (row_1 Fg1 rfl)) (rc_ 7 ((h1 ▸ rwithin21 q.l 1 8 X0)) (cb_ fun X1_1 bQ => ?_))))))))
    replace Fg1 := (on9 Fg1 bQ)
    replace BB := BB.trans (bQ.mono BB.size)
    clear bQ
    refine rv_ 10 (.pointer (some ⟨g1, 2, none⟩)) (fun a ee => execFC2 rfl (ee _)) (rv_ 11 (.int .i64 q.s) (fun a ee => execL1 rfl (Or.inl rfl) (ee _) (row_1 Fg1 rfl)) (rc_ 12 ((h2 ▸ rwithin21 q.s 1 8 X1_1)) (cb_ fun X1_2 bQ => ?_)))
    replace Fg1 := (on9 Fg1 bQ)
    replace BB := BB.trans (bQ.mono BB.size)
    clear bQ
    refine rv_ 15 (.pointer (some ⟨g1, 3, none⟩)) (fun a ee => execFC3 rfl (ee _)) (rv_ 16 (.int .i64 q.r) (fun a ee => execL1 rfl (Or.inl rfl) (ee _) (row_1 Fg1 rfl)) (rc_ 17 ((h3 ▸ rwithin21 q.r 0 4096 X1_2)) (cb_ fun X1_3 bQ => ?_)))
    replace Fg1 := (on9 Fg1 bQ)
    replace BB := BB.trans (bQ.mono BB.size)
    clear bQ
    refine rv_ 20 (.pointer (some ⟨g1, 5, none⟩)) (fun a ee => execFC5 rfl (ee _)) (rv_ 21 (.int .i64 q.d) (fun a ee => execL1 rfl (Or.inl rfl) (ee _) (row_1 Fg1 rfl)) (rc_ 22 ((h4 ▸ rwithin21 q.d 1 1000 X1_3)) (cb_ fun X1_4 bQ => ?_)))
    replace Fg1 := (on9 Fg1 bQ)
    replace BB := BB.trans (bQ.mono BB.size)
    clear bQ
    refine rv_ 25 (.pointer (some ⟨g1, 4, none⟩)) (fun a ee => execFC4 rfl (ee _)) (rv_ 26 (.int .i64 q.u) (fun a ee => execL1 rfl (Or.inl rfl) (ee _) (row_1 Fg1 rfl)) (rv_ 27 (.pointer (some ⟨g1, 5, none⟩)) (fun a ee => execFC5 rfl (ee _)) (rv_ 28 (.int .i64 q.d) (fun a ee => execL1 rfl (Or.inl rfl) (ee _) (row_1 Fg1 rfl)) (rc_ 29 ((h5 ▸ rwithin21 q.u 0 q.d X1_4)) (cb_ fun X1_5 bQ => ?_)))))
    replace Fg1 := (on9 Fg1 bQ)
    replace BB := BB.trans (bQ.mono BB.size)
    clear bQ
    refine rv_ 32 (.pointer (some ⟨g1, 6, none⟩)) (fun a ee => execFC6 rfl (ee _)) (rv_ 33 (.int .i64 q.o) (fun a ee => execL1 rfl (Or.inl rfl) (ee _) (row_1 Fg1 rfl)) (rc_ 34 ((h6 ▸ rwithin21 q.o 0 16 X1_5)) (cb_ fun X1_6 bQ => ?_)))
    replace Fg1 := (on9 Fg1 bQ)
    replace BB := BB.trans (bQ.mono BB.size)
    clear bQ
    refine rv_ 37 (.pointer (some ⟨g1, 7, none⟩)) (fun a ee => execFC7 rfl (ee _)) (rv_ 38 (.int .i64 q.c) (fun a ee => execL1 rfl (Or.inl rfl) (ee _) (row_1 Fg1 rfl)) (rc_ 39 ((h7 ▸ rwithin21 q.c 1 64 X1_6)) (cb_ fun X1_7 bQ => ?_)))
    replace Fg1 := (on9 Fg1 bQ)
    replace BB := BB.trans (bQ.mono BB.size)
    clear bQ
    refine rv_ 42 (.pointer (some ⟨g1, 8, none⟩)) (fun a ee => execFC8 rfl (ee _)) (rv_ 43 (.int .i64 q.w) (fun a ee => execL1 rfl (Or.inl rfl) (ee _) (row_1 Fg1 rfl)) (rc_ 44 ((h8 ▸ rwithin21 q.w 1 64 X1_7)) (cb_ fun X1 bQ => ?_)))
    replace Fg1 := (on9 Fg1 bQ)
    replace BB := BB.trans (bQ.mono BB.size)
    clear bQ
    refine rg_ [(2, .bool false)] ?_
    rintro a A ⟨t2, -⟩
    refine wp_ret ?_
    refine bodyPost_ret (results_tmp rfl _ _ _) A.2 ⟨?_, BB⟩
    show Ending.returned (a.eval (.tmp 2)) = _
    rw [t2]
    rw [show cfQ m q = false by simp only [cfQ, decide_eq_true h0, h1, h2, h3, h4, h5, h6, h7, h8, Bool.true_and, Bool.false_and]]
  replace h8 := bnf h8
  by_cases h9 : inB q.k 0 1024 = false
  · refine wi_ A (h1_ t1) (rv_ 0 (.pointer (some ⟨g1, 0, none⟩)) (fun a ee => execFC0 rfl (ee _)) (rv_ 1 (mv) (fun a ee => execL1 rfl (Or.inr (Or.inr rfl)) (ee _) (row_1 Fg1 rfl)) (rv_ 2 (.int .i64 ((m : Nat) : Int)) (fun a ee => execLenV (len := m) rfl (ee _) hmv) (rv_ 3 (.bool true) (fun a ee => execDec (execEqN (p := m) (q := 32) rfl (ee _) rfl) (decide_eq_true (by omega))) (rv_ 5 (.pointer (some ⟨g1, 1, none⟩)) (fun a ee => execFC1 rfl (ee _)) (rv_ 6 (.int .i64 q.l) (fun a ee => execL1 rfl (Or.inl rfl) (ee _) (row_1 Fg1 rfl)) (rc_ 7 ((h1 ▸ rwithin21 q.l 1 8 X0)) (cb_ fun X1_1 bQ => ?_))))))))
    replace Fg1 := (on9 Fg1 bQ)
    replace BB := BB.trans (bQ.mono BB.size)
    clear bQ
    refine rv_ 10 (.pointer (some ⟨g1, 2, none⟩)) (fun a ee => execFC2 rfl (ee _)) (rv_ 11 (.int .i64 q.s) (fun a ee => execL1 rfl (Or.inl rfl) (ee _) (row_1 Fg1 rfl)) (rc_ 12 ((h2 ▸ rwithin21 q.s 1 8 X1_1)) (cb_ fun X1_2 bQ => ?_)))
    replace Fg1 := (on9 Fg1 bQ)
    replace BB := BB.trans (bQ.mono BB.size)
    clear bQ
    refine rv_ 15 (.pointer (some ⟨g1, 3, none⟩)) (fun a ee => execFC3 rfl (ee _)) (rv_ 16 (.int .i64 q.r) (fun a ee => execL1 rfl (Or.inl rfl) (ee _) (row_1 Fg1 rfl)) (rc_ 17 ((h3 ▸ rwithin21 q.r 0 4096 X1_2)) (cb_ fun X1_3 bQ => ?_)))
    replace Fg1 := (on9 Fg1 bQ)
    replace BB := BB.trans (bQ.mono BB.size)
    clear bQ
    refine rv_ 20 (.pointer (some ⟨g1, 5, none⟩)) (fun a ee => execFC5 rfl (ee _)) (rv_ 21 (.int .i64 q.d) (fun a ee => execL1 rfl (Or.inl rfl) (ee _) (row_1 Fg1 rfl)) (rc_ 22 ((h4 ▸ rwithin21 q.d 1 1000 X1_3)) (cb_ fun X1_4 bQ => ?_)))
    replace Fg1 := (on9 Fg1 bQ)
    replace BB := BB.trans (bQ.mono BB.size)
    clear bQ
    refine rv_ 25 (.pointer (some ⟨g1, 4, none⟩)) (fun a ee => execFC4 rfl (ee _)) (rv_ 26 (.int .i64 q.u) (fun a ee => execL1 rfl (Or.inl rfl) (ee _) (row_1 Fg1 rfl)) (rv_ 27 (.pointer (some ⟨g1, 5, none⟩)) (fun a ee => execFC5 rfl (ee _)) (rv_ 28 (.int .i64 q.d) (fun a ee => execL1 rfl (Or.inl rfl) (ee _) (row_1 Fg1 rfl)) (rc_ 29 ((h5 ▸ rwithin21 q.u 0 q.d X1_4)) (cb_ fun X1_5 bQ => ?_)))))
    replace Fg1 := (on9 Fg1 bQ)
    replace BB := BB.trans (bQ.mono BB.size)
    clear bQ
    refine rv_ 32 (.pointer (some ⟨g1, 6, none⟩)) (fun a ee => execFC6 rfl (ee _)) (rv_ 33 (.int .i64 q.o) (fun a ee => execL1 rfl (Or.inl rfl) (ee _) (row_1 Fg1 rfl)) (rc_ 34 ((h6 ▸ rwithin21 q.o 0 16 X1_5)) (cb_ fun X1_6 bQ => ?_)))
    replace Fg1 := (on9 Fg1 bQ)
    replace BB := BB.trans (bQ.mono BB.size)
    clear bQ
    refine rv_ 37 (.pointer (some ⟨g1, 7, none⟩)) (fun a ee => execFC7 rfl (ee _)) (rv_ 38 (.int .i64 q.c) (fun a ee => execL1 rfl (Or.inl rfl) (ee _) (row_1 Fg1 rfl)) (rc_ 39 ((h7 ▸ rwithin21 q.c 1 64 X1_6)) (cb_ fun X1_7 bQ => ?_)))
    replace Fg1 := (on9 Fg1 bQ)
    replace BB := BB.trans (bQ.mono BB.size)
    clear bQ
    refine rv_ 42 (.pointer (some ⟨g1, 8, none⟩)) (fun a ee => execFC8 rfl (ee _)) (rv_ 43 (.int .i64 q.w) (fun a ee => execL1 rfl (Or.inl rfl) (ee _) (row_1 Fg1 rfl)) (rc_ 44 ((h8 ▸ rwithin21 q.w 1 64 X1_7)) (cb_ fun X1_8 bQ => ?_)))
    replace Fg1 := (on9 Fg1 bQ)
    replace BB := BB.trans (bQ.mono BB.size)
    clear bQ
    refine rv_ 47 (.pointer (some ⟨g1, 9, none⟩)) (fun a ee => execFC9 rfl (ee _)) (rv_ 48 (.int .i64 q.k) (fun a ee => execL1 rfl (Or.inl rfl) (ee _) (row_1 Fg1 rfl)) (rc_ 49 ((h9 ▸ rwithin21 q.k 0 1024 X1_8)) (cb_ fun X1 bQ => ?_)))
    replace Fg1 := (on9 Fg1 bQ)
    replace BB := BB.trans (bQ.mono BB.size)
    clear bQ
    refine rg_ [(2, .bool false)] ?_
    rintro a A ⟨t2, -⟩
    refine wp_ret ?_
    refine bodyPost_ret (results_tmp rfl _ _ _) A.2 ⟨?_, BB⟩
    show Ending.returned (a.eval (.tmp 2)) = _
    rw [t2]
    rw [show cfQ m q = false by simp only [cfQ, decide_eq_true h0, h1, h2, h3, h4, h5, h6, h7, h8, h9, Bool.true_and, Bool.false_and]]
  replace h9 := bnf h9
  by_cases h10 : inB q.h 1 64 = false
  · refine wi_ A (h1_ t1) (rv_ 0 (.pointer (some ⟨g1, 0, none⟩)) (fun a ee => execFC0 rfl (ee _)) (rv_ 1 (mv) (fun a ee => execL1 rfl (Or.inr (Or.inr rfl)) (ee _) (row_1 Fg1 rfl)) (rv_ 2 (.int .i64 ((m : Nat) : Int)) (fun a ee => execLenV (len := m) rfl (ee _) hmv) (rv_ 3 (.bool true) (fun a ee => execDec (execEqN (p := m) (q := 32) rfl (ee _) rfl) (decide_eq_true (by omega))) (rv_ 5 (.pointer (some ⟨g1, 1, none⟩)) (fun a ee => execFC1 rfl (ee _)) (rv_ 6 (.int .i64 q.l) (fun a ee => execL1 rfl (Or.inl rfl) (ee _) (row_1 Fg1 rfl)) (rc_ 7 ((h1 ▸ rwithin21 q.l 1 8 X0)) (cb_ fun X1_1 bQ => ?_))))))))
    replace Fg1 := (on9 Fg1 bQ)
    replace BB := BB.trans (bQ.mono BB.size)
    clear bQ
    refine rv_ 10 (.pointer (some ⟨g1, 2, none⟩)) (fun a ee => execFC2 rfl (ee _)) (rv_ 11 (.int .i64 q.s) (fun a ee => execL1 rfl (Or.inl rfl) (ee _) (row_1 Fg1 rfl)) (rc_ 12 ((h2 ▸ rwithin21 q.s 1 8 X1_1)) (cb_ fun X1_2 bQ => ?_)))
    replace Fg1 := (on9 Fg1 bQ)
    replace BB := BB.trans (bQ.mono BB.size)
    clear bQ
    refine rv_ 15 (.pointer (some ⟨g1, 3, none⟩)) (fun a ee => execFC3 rfl (ee _)) (rv_ 16 (.int .i64 q.r) (fun a ee => execL1 rfl (Or.inl rfl) (ee _) (row_1 Fg1 rfl)) (rc_ 17 ((h3 ▸ rwithin21 q.r 0 4096 X1_2)) (cb_ fun X1_3 bQ => ?_)))
    replace Fg1 := (on9 Fg1 bQ)
    replace BB := BB.trans (bQ.mono BB.size)
    clear bQ
    refine rv_ 20 (.pointer (some ⟨g1, 5, none⟩)) (fun a ee => execFC5 rfl (ee _)) (rv_ 21 (.int .i64 q.d) (fun a ee => execL1 rfl (Or.inl rfl) (ee _) (row_1 Fg1 rfl)) (rc_ 22 ((h4 ▸ rwithin21 q.d 1 1000 X1_3)) (cb_ fun X1_4 bQ => ?_)))
    replace Fg1 := (on9 Fg1 bQ)
    replace BB := BB.trans (bQ.mono BB.size)
    clear bQ
    refine rv_ 25 (.pointer (some ⟨g1, 4, none⟩)) (fun a ee => execFC4 rfl (ee _)) (rv_ 26 (.int .i64 q.u) (fun a ee => execL1 rfl (Or.inl rfl) (ee _) (row_1 Fg1 rfl)) (rv_ 27 (.pointer (some ⟨g1, 5, none⟩)) (fun a ee => execFC5 rfl (ee _)) (rv_ 28 (.int .i64 q.d) (fun a ee => execL1 rfl (Or.inl rfl) (ee _) (row_1 Fg1 rfl)) (rc_ 29 ((h5 ▸ rwithin21 q.u 0 q.d X1_4)) (cb_ fun X1_5 bQ => ?_)))))
    replace Fg1 := (on9 Fg1 bQ)
    replace BB := BB.trans (bQ.mono BB.size)
    clear bQ
    refine rv_ 32 (.pointer (some ⟨g1, 6, none⟩)) (fun a ee => execFC6 rfl (ee _)) (rv_ 33 (.int .i64 q.o) (fun a ee => execL1 rfl (Or.inl rfl) (ee _) (row_1 Fg1 rfl)) (rc_ 34 ((h6 ▸ rwithin21 q.o 0 16 X1_5)) (cb_ fun X1_6 bQ => ?_)))
    replace Fg1 := (on9 Fg1 bQ)
    replace BB := BB.trans (bQ.mono BB.size)
    clear bQ
    refine rv_ 37 (.pointer (some ⟨g1, 7, none⟩)) (fun a ee => execFC7 rfl (ee _)) (rv_ 38 (.int .i64 q.c) (fun a ee => execL1 rfl (Or.inl rfl) (ee _) (row_1 Fg1 rfl)) (rc_ 39 ((h7 ▸ rwithin21 q.c 1 64 X1_6)) (cb_ fun X1_7 bQ => ?_)))
    replace Fg1 := (on9 Fg1 bQ)
    replace BB := BB.trans (bQ.mono BB.size)
    clear bQ
    refine rv_ 42 (.pointer (some ⟨g1, 8, none⟩)) (fun a ee => execFC8 rfl (ee _)) (rv_ 43 (.int .i64 q.w) (fun a ee => execL1 rfl (Or.inl rfl) (ee _) (row_1 Fg1 rfl)) (rc_ 44 ((h8 ▸ rwithin21 q.w 1 64 X1_7)) (cb_ fun X1_8 bQ => ?_)))
    replace Fg1 := (on9 Fg1 bQ)
    replace BB := BB.trans (bQ.mono BB.size)
    clear bQ
    refine rv_ 47 (.pointer (some ⟨g1, 9, none⟩)) (fun a ee => execFC9 rfl (ee _)) (rv_ 48 (.int .i64 q.k) (fun a ee => execL1 rfl (Or.inl rfl) (ee _) (row_1 Fg1 rfl)) (rc_ 49 ((h9 ▸ rwithin21 q.k 0 1024 X1_8)) (cb_ fun X1_9 bQ => ?_)))
    replace Fg1 := (on9 Fg1 bQ)
    replace BB := BB.trans (bQ.mono BB.size)
    clear bQ
    refine rv_ 52 (.pointer (some ⟨g1, 10, none⟩)) (fun a ee => execFC10 rfl (ee _)) (rv_ 53 (.int .i64 q.h) (fun a ee => execL1 rfl (Or.inl rfl) (ee _) (row_1 Fg1 rfl)) (rc_ 54 ((h10 ▸ rwithin21 q.h 1 64 X1_9)) (cb_ fun X1 bQ => ?_)))
    replace Fg1 := (on9 Fg1 bQ)
    replace BB := BB.trans (bQ.mono BB.size)
    clear bQ
    refine rg_ [(2, .bool false)] ?_
    rintro a A ⟨t2, -⟩
    refine wp_ret ?_
    refine bodyPost_ret (results_tmp rfl _ _ _) A.2 ⟨?_, BB⟩
    show Ending.returned (a.eval (.tmp 2)) = _
    rw [t2]
    rw [show cfQ m q = false by simp only [cfQ, decide_eq_true h0, h1, h2, h3, h4, h5, h6, h7, h8, h9, h10, Bool.true_and]]
  replace h10 := bnf h10
  refine wi_ A (h1_ t1) (rv_ 0 (.pointer (some ⟨g1, 0, none⟩)) (fun a ee => execFC0 rfl (ee _)) (rv_ 1 (mv) (fun a ee => execL1 rfl (Or.inr (Or.inr rfl)) (ee _) (row_1 Fg1 rfl)) (rv_ 2 (.int .i64 ((m : Nat) : Int)) (fun a ee => execLenV (len := m) rfl (ee _) hmv) (rv_ 3 (.bool true) (fun a ee => execDec (execEqN (p := m) (q := 32) rfl (ee _) rfl) (decide_eq_true (by omega))) (rv_ 5 (.pointer (some ⟨g1, 1, none⟩)) (fun a ee => execFC1 rfl (ee _)) (rv_ 6 (.int .i64 q.l) (fun a ee => execL1 rfl (Or.inl rfl) (ee _) (row_1 Fg1 rfl)) (rc_ 7 ((h1 ▸ rwithin21 q.l 1 8 X0)) (cb_ fun X1_1 bQ => ?_))))))))
  replace Fg1 := (on9 Fg1 bQ)
  replace BB := BB.trans (bQ.mono BB.size)
  clear bQ
  refine rv_ 10 (.pointer (some ⟨g1, 2, none⟩)) (fun a ee => execFC2 rfl (ee _)) (rv_ 11 (.int .i64 q.s) (fun a ee => execL1 rfl (Or.inl rfl) (ee _) (row_1 Fg1 rfl)) (rc_ 12 ((h2 ▸ rwithin21 q.s 1 8 X1_1)) (cb_ fun X1_2 bQ => ?_)))
  replace Fg1 := (on9 Fg1 bQ)
  replace BB := BB.trans (bQ.mono BB.size)
  clear bQ
  refine rv_ 15 (.pointer (some ⟨g1, 3, none⟩)) (fun a ee => execFC3 rfl (ee _)) (rv_ 16 (.int .i64 q.r) (fun a ee => execL1 rfl (Or.inl rfl) (ee _) (row_1 Fg1 rfl)) (rc_ 17 ((h3 ▸ rwithin21 q.r 0 4096 X1_2)) (cb_ fun X1_3 bQ => ?_)))
  replace Fg1 := (on9 Fg1 bQ)
  replace BB := BB.trans (bQ.mono BB.size)
  clear bQ
  refine rv_ 20 (.pointer (some ⟨g1, 5, none⟩)) (fun a ee => execFC5 rfl (ee _)) (rv_ 21 (.int .i64 q.d) (fun a ee => execL1 rfl (Or.inl rfl) (ee _) (row_1 Fg1 rfl)) (rc_ 22 ((h4 ▸ rwithin21 q.d 1 1000 X1_3)) (cb_ fun X1_4 bQ => ?_)))
  replace Fg1 := (on9 Fg1 bQ)
  replace BB := BB.trans (bQ.mono BB.size)
  clear bQ
  refine rv_ 25 (.pointer (some ⟨g1, 4, none⟩)) (fun a ee => execFC4 rfl (ee _)) (rv_ 26 (.int .i64 q.u) (fun a ee => execL1 rfl (Or.inl rfl) (ee _) (row_1 Fg1 rfl)) (rv_ 27 (.pointer (some ⟨g1, 5, none⟩)) (fun a ee => execFC5 rfl (ee _)) (rv_ 28 (.int .i64 q.d) (fun a ee => execL1 rfl (Or.inl rfl) (ee _) (row_1 Fg1 rfl)) (rc_ 29 ((h5 ▸ rwithin21 q.u 0 q.d X1_4)) (cb_ fun X1_5 bQ => ?_)))))
  replace Fg1 := (on9 Fg1 bQ)
  replace BB := BB.trans (bQ.mono BB.size)
  clear bQ
  refine rv_ 32 (.pointer (some ⟨g1, 6, none⟩)) (fun a ee => execFC6 rfl (ee _)) (rv_ 33 (.int .i64 q.o) (fun a ee => execL1 rfl (Or.inl rfl) (ee _) (row_1 Fg1 rfl)) (rc_ 34 ((h6 ▸ rwithin21 q.o 0 16 X1_5)) (cb_ fun X1_6 bQ => ?_)))
  replace Fg1 := (on9 Fg1 bQ)
  replace BB := BB.trans (bQ.mono BB.size)
  clear bQ
  refine rv_ 37 (.pointer (some ⟨g1, 7, none⟩)) (fun a ee => execFC7 rfl (ee _)) (rv_ 38 (.int .i64 q.c) (fun a ee => execL1 rfl (Or.inl rfl) (ee _) (row_1 Fg1 rfl)) (rc_ 39 ((h7 ▸ rwithin21 q.c 1 64 X1_6)) (cb_ fun X1_7 bQ => ?_)))
  replace Fg1 := (on9 Fg1 bQ)
  replace BB := BB.trans (bQ.mono BB.size)
  clear bQ
  refine rv_ 42 (.pointer (some ⟨g1, 8, none⟩)) (fun a ee => execFC8 rfl (ee _)) (rv_ 43 (.int .i64 q.w) (fun a ee => execL1 rfl (Or.inl rfl) (ee _) (row_1 Fg1 rfl)) (rc_ 44 ((h8 ▸ rwithin21 q.w 1 64 X1_7)) (cb_ fun X1_8 bQ => ?_)))
  replace Fg1 := (on9 Fg1 bQ)
  replace BB := BB.trans (bQ.mono BB.size)
  clear bQ
  refine rv_ 47 (.pointer (some ⟨g1, 9, none⟩)) (fun a ee => execFC9 rfl (ee _)) (rv_ 48 (.int .i64 q.k) (fun a ee => execL1 rfl (Or.inl rfl) (ee _) (row_1 Fg1 rfl)) (rc_ 49 ((h9 ▸ rwithin21 q.k 0 1024 X1_8)) (cb_ fun X1_9 bQ => ?_)))
  replace Fg1 := (on9 Fg1 bQ)
  replace BB := BB.trans (bQ.mono BB.size)
  clear bQ
  refine rv_ 52 (.pointer (some ⟨g1, 10, none⟩)) (fun a ee => execFC10 rfl (ee _)) (rv_ 53 (.int .i64 q.h) (fun a ee => execL1 rfl (Or.inl rfl) (ee _) (row_1 Fg1 rfl)) (rc_ 54 ((h10 ▸ rwithin21 q.h 1 64 X1_9)) (cb_ fun X1 bQ => ?_)))
  replace Fg1 := (on9 Fg1 bQ)
  replace BB := BB.trans (bQ.mono BB.size)
  clear bQ
  refine rg_ [(2, .bool true)] ?_
  rintro a A ⟨t2, -⟩
  refine wp_ret ?_
  refine bodyPost_ret (results_tmp rfl _ _ _) A.2 ⟨?_, BB⟩
  show Ending.returned (a.eval (.tmp 2)) = _
  rw [t2]
  rw [show cfQ m q = true by simp only [cfQ, decide_eq_true h0, h1, h2, h3, h4, h5, h6, h7, h8, h9, h10, Bool.true_and]]
set_option maxRecDepth 100000 in
set_option maxHeartbeats 4000000 in
/-- fits. -/
theorem pfits (mv : Value) (q : Cg) (nx : Int) (nw : Int) (ev : Value) (n : Nat) (nu : Nat → Int) (tw : Nat → Value) (ln : Nat → Nat) (t : Nat → Nat → Nat → Nat) (V : World) (hW : Wd V nw ev n nu tw ln t) (hm : ∃ g n c, mv = .slice g n c) :
    Calls Tryz.prog 21 #[.agg (sC nx nw ev), .agg (cfC mv q)] V fun e w' => e = .returned (.bool (decide (0 ≤ nx ∧ nx ≤ 4611686018427387904 ∧ wChk (nw, esL n nu ln t) q.s q.r = 0))) ∧ Below V.heap.size V w' := by
  have hev : ∃ g n c, ev = .slice g n c := by obtain ⟨g, c, e, _⟩ := hW.eps.shape; exact ⟨g, n, c, e⟩
  by_cases h0 : ¬ 0 ≤ nx
  · go_enter Tryz.func21, Tryz.ntmps21
    refine wo_ 23 [(0, .agg (sC nx nw ev)), (1, .agg (cfC mv q))] ?_
    rintro a A ⟨t0, t1, -⟩
    have BW : Below V.heap.size V V := Below.refl _ _
    have BB := BW
    refine wp_seq ?_
    obtain ⟨g2, egg2⟩ : ∃ z_ : Nat, V.heap.size = z_ := ⟨_, rfl⟩
    refine wi_ A (h2_ t0 t1) (rs_ 0 (fun a ee => ?_))
    refine stepV rfl rfl (execBxS hev rfl (ee _)) ⟨.pointer (some ⟨g2, 0, none⟩), ⟨_, rfl, by subst egg2; rfl⟩, fun X0_1 hX => ?_⟩
    have bQ : Below V.heap.size V X0_1 := by subst hX egg2; exact (belNew V _)
    have Fg2 : (X0_1.heap[g2]? = some (.cells (sC nx nw ev) 29)) := by subst hX egg2; exact heapNew V _
    replace BB := BB.trans (bQ.mono BB.size)
    clear bQ hX egg2 ee a
    obtain ⟨g3, egg3⟩ : ∃ z_ : Nat, X0_1.heap.size = z_ := ⟨_, rfl⟩
    refine rs_ 1 (fun a ee => ?_)
    refine stepV rfl rfl (execBxC hm rfl (ee _)) ⟨.pointer (some ⟨g3, 0, none⟩), ⟨_, rfl, by subst egg3; rfl⟩, fun X0 hX => ?_⟩
    have bQ : Below X0_1.heap.size X0_1 X0 := by subst hX egg3; exact (belNew X0_1 _)
    have Fg3 : (X0.heap[g3]? = some (.cells (cfC mv q) 24)) := by subst hX egg3; exact heapNew X0_1 _
    replace Fg2 := (on9 Fg2 bQ)
    replace BB := BB.trans (bQ.mono BB.size)
    clear bQ hX egg3 ee a
    refine rg_ [(2, .pointer (some ⟨g2, 0, none⟩)), (3, .pointer (some ⟨g3, 0, none⟩))] ?_
    rintro a A ⟨t2, t3, -⟩
    refine wp_seq ?_
    refine wi_ A (h2_ t2 t3) (rv_ 0 (.pointer (some ⟨g2, 0, none⟩)) (fun a ee => execFS0 rfl (ee _)) (rv_ 1 (.int .i64 nx) (fun a ee => execL1 rfl (Or.inr (Or.inl rfl)) (ee _) (row_1 Fg2 rfl)) (rv_ 2 (.bool false) (fun a ee => execDec (exIleq2 (p := (0 : Int)) (q := nx) rfl rfl (ee _)) (decide_eq_false h0)) (rg_ [(4, .bool false)] ?_))))
    rintro a A ⟨t4, -⟩
    refine wp_ret ?_
    refine bodyPost_ret (results_tmp rfl _ _ _) A.2 ⟨?_, BB⟩
    show Ending.returned (a.eval (.tmp 4)) = _
    rw [t4]
    rw [show decide (0 ≤ nx ∧ nx ≤ 4611686018427387904 ∧ wChk (nw, esL n nu ln t) q.s q.r = 0) = false from decide_eq_false fun z => h0 z.1]
  replace h0 := Classical.not_not.1 h0
  by_cases h1 : ¬ nx ≤ 4611686018427387904
  · go_enter Tryz.func21, Tryz.ntmps21
    refine wo_ 23 [(0, .agg (sC nx nw ev)), (1, .agg (cfC mv q))] ?_
    rintro a A ⟨t0, t1, -⟩
    have BW : Below V.heap.size V V := Below.refl _ _
    have BB := BW
    refine wp_seq ?_
    obtain ⟨g2, egg2⟩ : ∃ z_ : Nat, V.heap.size = z_ := ⟨_, rfl⟩
    refine wi_ A (h2_ t0 t1) (rs_ 0 (fun a ee => ?_))
    refine stepV rfl rfl (execBxS hev rfl (ee _)) ⟨.pointer (some ⟨g2, 0, none⟩), ⟨_, rfl, by subst egg2; rfl⟩, fun X0_1 hX => ?_⟩
    have bQ : Below V.heap.size V X0_1 := by subst hX egg2; exact (belNew V _)
    have Fg2 : (X0_1.heap[g2]? = some (.cells (sC nx nw ev) 29)) := by subst hX egg2; exact heapNew V _
    replace BB := BB.trans (bQ.mono BB.size)
    clear bQ hX egg2 ee a
    obtain ⟨g3, egg3⟩ : ∃ z_ : Nat, X0_1.heap.size = z_ := ⟨_, rfl⟩
    refine rs_ 1 (fun a ee => ?_)
    refine stepV rfl rfl (execBxC hm rfl (ee _)) ⟨.pointer (some ⟨g3, 0, none⟩), ⟨_, rfl, by subst egg3; rfl⟩, fun X0 hX => ?_⟩
    have bQ : Below X0_1.heap.size X0_1 X0 := by subst hX egg3; exact (belNew X0_1 _)
    have Fg3 : (X0.heap[g3]? = some (.cells (cfC mv q) 24)) := by subst hX egg3; exact heapNew X0_1 _
    replace Fg2 := (on9 Fg2 bQ)
    replace BB := BB.trans (bQ.mono BB.size)
    clear bQ hX egg3 ee a
    refine rg_ [(2, .pointer (some ⟨g2, 0, none⟩)), (3, .pointer (some ⟨g3, 0, none⟩))] ?_
    rintro a A ⟨t2, t3, -⟩
    refine wp_seq ?_
    refine wi_ A (h2_ t2 t3) (rv_ 0 (.pointer (some ⟨g2, 0, none⟩)) (fun a ee => execFS0 rfl (ee _)) (rv_ 1 (.int .i64 nx) (fun a ee => execL1 rfl (Or.inr (Or.inl rfl)) (ee _) (row_1 Fg2 rfl)) (rv_ 2 (.bool true) (fun a ee => execDec (exIleq2 (p := (0 : Int)) (q := nx) rfl rfl (ee _)) (decide_eq_true h0)) (rv_ 4 (.pointer (some ⟨g2, 0, none⟩)) (fun a ee => execFS0 rfl (ee _)) (rv_ 5 (.int .i64 nx) (fun a ee => execL1 rfl (Or.inr (Or.inl rfl)) (ee _) (row_1 Fg2 rfl)) (rv_ 6 (.bool false) (fun a ee => execDec (exIleq2 (p := nx) (q := 4611686018427387904) rfl (ee _) rfl) (decide_eq_false h1)) (rg_ [(4, .bool false)] ?_)))))))
    rintro a A ⟨t4, -⟩
    refine wp_ret ?_
    refine bodyPost_ret (results_tmp rfl _ _ _) A.2 ⟨?_, BB⟩
    show Ending.returned (a.eval (.tmp 4)) = _
    rw [t4]
    rw [show decide (0 ≤ nx ∧ nx ≤ 4611686018427387904 ∧ wChk (nw, esL n nu ln t) q.s q.r = 0) = false from decide_eq_false fun z => h1 z.2.1]
  replace h1 := Classical.not_not.1 h1
  by_cases h2 : ¬ wChk (nw, esL n nu ln t) q.s q.r = 0
  · go_enter Tryz.func21, Tryz.ntmps21
    refine wo_ 23 [(0, .agg (sC nx nw ev)), (1, .agg (cfC mv q))] ?_
    rintro a A ⟨t0, t1, -⟩
    have BW : Below V.heap.size V V := Below.refl _ _
    have BB := BW
    refine wp_seq ?_
    obtain ⟨g2, egg2⟩ : ∃ z_ : Nat, V.heap.size = z_ := ⟨_, rfl⟩
    refine wi_ A (h2_ t0 t1) (rs_ 0 (fun a ee => ?_))
    refine stepV rfl rfl (execBxS hev rfl (ee _)) ⟨.pointer (some ⟨g2, 0, none⟩), ⟨_, rfl, by subst egg2; rfl⟩, fun X0_1 hX => ?_⟩
    have bQ : Below V.heap.size V X0_1 := by subst hX egg2; exact (belNew V _)
    have Fg2 : (X0_1.heap[g2]? = some (.cells (sC nx nw ev) 29)) := by subst hX egg2; exact heapNew V _
    replace BB := BB.trans (bQ.mono BB.size)
    clear bQ hX egg2 ee a
    obtain ⟨g3, egg3⟩ : ∃ z_ : Nat, X0_1.heap.size = z_ := ⟨_, rfl⟩
    refine rs_ 1 (fun a ee => ?_)
    refine stepV rfl rfl (execBxC hm rfl (ee _)) ⟨.pointer (some ⟨g3, 0, none⟩), ⟨_, rfl, by subst egg3; rfl⟩, fun X0 hX => ?_⟩
    have bQ : Below X0_1.heap.size X0_1 X0 := by subst hX egg3; exact (belNew X0_1 _)
    have Fg3 : (X0.heap[g3]? = some (.cells (cfC mv q) 24)) := by subst hX egg3; exact heapNew X0_1 _
    replace Fg2 := (on9 Fg2 bQ)
    replace BB := BB.trans (bQ.mono BB.size)
    clear bQ hX egg3 ee a
    refine rg_ [(2, .pointer (some ⟨g2, 0, none⟩)), (3, .pointer (some ⟨g3, 0, none⟩))] ?_
    rintro a A ⟨t2, t3, -⟩
    refine wp_seq ?_
    refine wi_ A (h2_ t2 t3) (rv_ 0 (.pointer (some ⟨g2, 0, none⟩)) (fun a ee => execFS0 rfl (ee _)) (rv_ 1 (.int .i64 nx) (fun a ee => execL1 rfl (Or.inr (Or.inl rfl)) (ee _) (row_1 Fg2 rfl)) (rv_ 2 (.bool true) (fun a ee => execDec (exIleq2 (p := (0 : Int)) (q := nx) rfl rfl (ee _)) (decide_eq_true h0)) (rv_ 4 (.pointer (some ⟨g2, 0, none⟩)) (fun a ee => execFS0 rfl (ee _)) (rv_ 5 (.int .i64 nx) (fun a ee => execL1 rfl (Or.inr (Or.inl rfl)) (ee _) (row_1 Fg2 rfl)) (rv_ 6 (.bool true) (fun a ee => execDec (exIleq2 (p := nx) (q := 4611686018427387904) rfl (ee _) rfl) (decide_eq_true h1)) (rv_ 9 (.pointer (some ⟨g2, 1, none⟩)) (fun a ee => execFS1 rfl (ee _)) (rv_ 10 (.agg (wC nw ev)) (fun a ee => execLdSW rfl (ee _) Fg2) (rv_ 11 (.pointer (some ⟨g3, 2, none⟩)) (fun a ee => execFC2 rfl (ee _)) (rv_ 12 (.int .i64 q.s) (fun a ee => execL1 rfl (Or.inl rfl) (ee _) (row_1 Fg3 rfl)) (rv_ 13 (.pointer (some ⟨g3, 3, none⟩)) (fun a ee => execFC3 rfl (ee _)) (rv_ 14 (.int .i64 q.r) (fun a ee => execL1 rfl (Or.inl rfl) (ee _) (row_1 Fg3 rfl)) (rc_ 15 (pcheck nw q.s q.r ev n nu tw ln t X0 (hW.on BB).eps hW.n63 hW.ln43 hW.num) (cb_ fun X1 bQ => ?_))))))))))))))
    replace Fg2 := (on9 Fg2 bQ)
    replace Fg3 := (on9 Fg3 bQ)
    replace BB := BB.trans (bQ.mono BB.size)
    clear bQ
    refine rv_ 16 (.bool false) (fun a ee => execDec (execEqE (p := wChk (nw, esL n nu ln t) q.s q.r) (q := 0) rfl (ee _) rfl) (decide_eq_false h2)) (rg_ [(4, .bool false)] ?_)
    rintro a A ⟨t4, -⟩
    refine wp_ret ?_
    refine bodyPost_ret (results_tmp rfl _ _ _) A.2 ⟨?_, BB⟩
    show Ending.returned (a.eval (.tmp 4)) = _
    rw [t4]
    rw [show decide (0 ≤ nx ∧ nx ≤ 4611686018427387904 ∧ wChk (nw, esL n nu ln t) q.s q.r = 0) = false from decide_eq_false fun z => h2 z.2.2]
  replace h2 := Classical.not_not.1 h2
  go_enter Tryz.func21, Tryz.ntmps21
  refine wo_ 23 [(0, .agg (sC nx nw ev)), (1, .agg (cfC mv q))] ?_
  rintro a A ⟨t0, t1, -⟩
  have BW : Below V.heap.size V V := Below.refl _ _
  have BB := BW
  refine wp_seq ?_
  obtain ⟨g2, egg2⟩ : ∃ z_ : Nat, V.heap.size = z_ := ⟨_, rfl⟩
  refine wi_ A (h2_ t0 t1) (rs_ 0 (fun a ee => ?_))
  refine stepV rfl rfl (execBxS hev rfl (ee _)) ⟨.pointer (some ⟨g2, 0, none⟩), ⟨_, rfl, by subst egg2; rfl⟩, fun X0_1 hX => ?_⟩
  have bQ : Below V.heap.size V X0_1 := by subst hX egg2; exact (belNew V _)
  have Fg2 : (X0_1.heap[g2]? = some (.cells (sC nx nw ev) 29)) := by subst hX egg2; exact heapNew V _
  replace BB := BB.trans (bQ.mono BB.size)
  clear bQ hX egg2 ee a
  obtain ⟨g3, egg3⟩ : ∃ z_ : Nat, X0_1.heap.size = z_ := ⟨_, rfl⟩
  refine rs_ 1 (fun a ee => ?_)
  refine stepV rfl rfl (execBxC hm rfl (ee _)) ⟨.pointer (some ⟨g3, 0, none⟩), ⟨_, rfl, by subst egg3; rfl⟩, fun X0 hX => ?_⟩
  have bQ : Below X0_1.heap.size X0_1 X0 := by subst hX egg3; exact (belNew X0_1 _)
  have Fg3 : (X0.heap[g3]? = some (.cells (cfC mv q) 24)) := by subst hX egg3; exact heapNew X0_1 _
  replace Fg2 := (on9 Fg2 bQ)
  replace BB := BB.trans (bQ.mono BB.size)
  clear bQ hX egg3 ee a
  refine rg_ [(2, .pointer (some ⟨g2, 0, none⟩)), (3, .pointer (some ⟨g3, 0, none⟩))] ?_
  rintro a A ⟨t2, t3, -⟩
  refine wp_seq ?_
  refine wi_ A (h2_ t2 t3) (rv_ 0 (.pointer (some ⟨g2, 0, none⟩)) (fun a ee => execFS0 rfl (ee _)) (rv_ 1 (.int .i64 nx) (fun a ee => execL1 rfl (Or.inr (Or.inl rfl)) (ee _) (row_1 Fg2 rfl)) (rv_ 2 (.bool true) (fun a ee => execDec (exIleq2 (p := (0 : Int)) (q := nx) rfl rfl (ee _)) (decide_eq_true h0)) (rv_ 4 (.pointer (some ⟨g2, 0, none⟩)) (fun a ee => execFS0 rfl (ee _)) (rv_ 5 (.int .i64 nx) (fun a ee => execL1 rfl (Or.inr (Or.inl rfl)) (ee _) (row_1 Fg2 rfl)) (rv_ 6 (.bool true) (fun a ee => execDec (exIleq2 (p := nx) (q := 4611686018427387904) rfl (ee _) rfl) (decide_eq_true h1)) (rv_ 9 (.pointer (some ⟨g2, 1, none⟩)) (fun a ee => execFS1 rfl (ee _)) (rv_ 10 (.agg (wC nw ev)) (fun a ee => execLdSW rfl (ee _) Fg2) (rv_ 11 (.pointer (some ⟨g3, 2, none⟩)) (fun a ee => execFC2 rfl (ee _)) (rv_ 12 (.int .i64 q.s) (fun a ee => execL1 rfl (Or.inl rfl) (ee _) (row_1 Fg3 rfl)) (rv_ 13 (.pointer (some ⟨g3, 3, none⟩)) (fun a ee => execFC3 rfl (ee _)) (rv_ 14 (.int .i64 q.r) (fun a ee => execL1 rfl (Or.inl rfl) (ee _) (row_1 Fg3 rfl)) (rc_ 15 (pcheck nw q.s q.r ev n nu tw ln t X0 (hW.on BB).eps hW.n63 hW.ln43 hW.num) (cb_ fun X1 bQ => ?_))))))))))))))
  replace Fg2 := (on9 Fg2 bQ)
  replace Fg3 := (on9 Fg3 bQ)
  replace BB := BB.trans (bQ.mono BB.size)
  clear bQ
  refine rv_ 16 (.bool true) (fun a ee => execDec (execEqE (p := wChk (nw, esL n nu ln t) q.s q.r) (q := 0) rfl (ee _) rfl) (decide_eq_true h2)) (rg_ [(4, .bool true)] ?_)
  rintro a A ⟨t4, -⟩
  refine wp_ret ?_
  refine bodyPost_ret (results_tmp rfl _ _ _) A.2 ⟨?_, BB⟩
  show Ending.returned (a.eval (.tmp 4)) = _
  rw [t4]
  rw [show decide (0 ≤ nx ∧ nx ≤ 4611686018427387904 ∧ wChk (nw, esL n nu ln t) q.s q.r = 0) = true from decide_eq_true ⟨h0, h1, h2⟩]
set_option maxRecDepth 100000 in
set_option maxHeartbeats 4000000 in
/-- Check. -/
theorem pcheck21 (mv : Value) (m : Nat) (q : Cg) (nx : Int) (nw : Int) (ev : Value) (n : Nat) (nu : Nat → Int) (tw : Nat → Value) (ln : Nat → Nat) (t : Nat → Nat → Nat → Nat) (V : World) (hW : Wd V nw ev n nu tw ln t) (hm : ∃ g n c, mv = .slice g n c) (hmv : ∃ ao c, mv = .slice ao m c) :
    Calls Tryz.prog 13 #[.agg (cfC mv q), .agg (sC nx nw ev)] V fun e w' => e = .returned (.int .i64 ((ckE m q nx (nw, esL n nu ln t) : Nat) : Int)) ∧ Below V.heap.size V w' := by
  have hev : ∃ g n c, ev = .slice g n c := by obtain ⟨g, c, e, _⟩ := hW.eps.shape; exact ⟨g, n, c, e⟩
  by_cases h0 : cfQ m q = false
  · go_enter Tryz.func13, Tryz.ntmps13
    refine wo_ 14 [(0, .agg (cfC mv q)), (1, .agg (sC nx nw ev))] ?_
    rintro a A ⟨t0, t1, -⟩
    have BW : Below V.heap.size V V := Below.refl _ _
    have BB := BW
    refine wp_seq ?_
    obtain ⟨g2, egg2⟩ : ∃ z_ : Nat, V.heap.size = z_ := ⟨_, rfl⟩
    refine wi_ A (h2_ t0 t1) (rs_ 0 (fun a ee => ?_))
    refine stepV rfl rfl (execBxC hm rfl (ee _)) ⟨.pointer (some ⟨g2, 0, none⟩), ⟨_, rfl, by subst egg2; rfl⟩, fun X0_1 hX => ?_⟩
    have bQ : Below V.heap.size V X0_1 := by subst hX egg2; exact (belNew V _)
    have Fg2 : (X0_1.heap[g2]? = some (.cells (cfC mv q) 24)) := by subst hX egg2; exact heapNew V _
    replace BB := BB.trans (bQ.mono BB.size)
    clear bQ hX egg2 ee a
    obtain ⟨g3, egg3⟩ : ∃ z_ : Nat, X0_1.heap.size = z_ := ⟨_, rfl⟩
    refine rs_ 1 (fun a ee => ?_)
    refine stepV rfl rfl (execBxS hev rfl (ee _)) ⟨.pointer (some ⟨g3, 0, none⟩), ⟨_, rfl, by subst egg3; rfl⟩, fun X0 hX => ?_⟩
    have bQ : Below X0_1.heap.size X0_1 X0 := by subst hX egg3; exact (belNew X0_1 _)
    have Fg3 : (X0.heap[g3]? = some (.cells (sC nx nw ev) 29)) := by subst hX egg3; exact heapNew X0_1 _
    replace Fg2 := (on9 Fg2 bQ)
    replace BB := BB.trans (bQ.mono BB.size)
    clear bQ hX egg3 ee a
    refine rg_ [(2, .pointer (some ⟨g2, 0, none⟩)), (3, .pointer (some ⟨g3, 0, none⟩))] ?_
    rintro a A ⟨t2, t3, -⟩
    refine wp_seq ?_
    refine wp_seq ?_
    refine wi_ A (h2_ t2 t3) (rv_ 0 (.agg (cfC mv q)) (fun a ee => execLdC rfl (ee _) Fg2) (rc_ 1 ((h0 ▸ pright21 mv m q X0 hm hmv)) (cb_ fun X1 bQ => ?_)))
    replace Fg2 := (on9 Fg2 bQ)
    replace Fg3 := (on9 Fg3 bQ)
    replace BB := BB.trans (bQ.mono BB.size)
    clear bQ
    refine rv_ 2 (.bool true) (fun a ee => execNot8 (b := false) rfl (ee _)) (rg_ [(13, .bool true)] ?_)
    rintro a A ⟨t13, -⟩
    refine wp_cond_true t13 ?_
    clear t13
    refine wp_seq ?_
    refine wi_ A h0_ (rg_ [(4, .int .i64 ((210 : Nat) : Int))] ?_)
    rintro a A ⟨t4, -⟩
    refine wp_ret ?_
    repeat (first | with_reducible refine ret_in ?_ | with_reducible refine ret_then ?_)
    refine bodyPost_ret (results_tmp rfl _ _ _) A.2 ⟨?_, BB⟩
    show Ending.returned (a.eval (.tmp 4)) = _
    rw [t4]
    rw [show ckE m q nx (nw, esL n nu ln t) = 210 from if_neg fun z => by rw [h0] at z; exact absurd z.1 (by decide)]
    first | done | rfl
  replace h0 := bnf h0
  by_cases h1 : decide (0 ≤ nx ∧ nx ≤ 4611686018427387904 ∧ wChk (nw, esL n nu ln t) q.s q.r = 0) = false
  · go_enter Tryz.func13, Tryz.ntmps13
    refine wo_ 14 [(0, .agg (cfC mv q)), (1, .agg (sC nx nw ev))] ?_
    rintro a A ⟨t0, t1, -⟩
    have BW : Below V.heap.size V V := Below.refl _ _
    have BB := BW
    refine wp_seq ?_
    obtain ⟨g2, egg2⟩ : ∃ z_ : Nat, V.heap.size = z_ := ⟨_, rfl⟩
    refine wi_ A (h2_ t0 t1) (rs_ 0 (fun a ee => ?_))
    refine stepV rfl rfl (execBxC hm rfl (ee _)) ⟨.pointer (some ⟨g2, 0, none⟩), ⟨_, rfl, by subst egg2; rfl⟩, fun X0_1 hX => ?_⟩
    have bQ : Below V.heap.size V X0_1 := by subst hX egg2; exact (belNew V _)
    have Fg2 : (X0_1.heap[g2]? = some (.cells (cfC mv q) 24)) := by subst hX egg2; exact heapNew V _
    replace BB := BB.trans (bQ.mono BB.size)
    clear bQ hX egg2 ee a
    obtain ⟨g3, egg3⟩ : ∃ z_ : Nat, X0_1.heap.size = z_ := ⟨_, rfl⟩
    refine rs_ 1 (fun a ee => ?_)
    refine stepV rfl rfl (execBxS hev rfl (ee _)) ⟨.pointer (some ⟨g3, 0, none⟩), ⟨_, rfl, by subst egg3; rfl⟩, fun X0 hX => ?_⟩
    have bQ : Below X0_1.heap.size X0_1 X0 := by subst hX egg3; exact (belNew X0_1 _)
    have Fg3 : (X0.heap[g3]? = some (.cells (sC nx nw ev) 29)) := by subst hX egg3; exact heapNew X0_1 _
    replace Fg2 := (on9 Fg2 bQ)
    replace BB := BB.trans (bQ.mono BB.size)
    clear bQ hX egg3 ee a
    refine rg_ [(2, .pointer (some ⟨g2, 0, none⟩)), (3, .pointer (some ⟨g3, 0, none⟩))] ?_
    rintro a A ⟨t2, t3, -⟩
    refine wp_seq ?_
    refine wp_seq ?_
    refine wi_ A (h2_ t2 t3) (rv_ 0 (.agg (cfC mv q)) (fun a ee => execLdC rfl (ee _) Fg2) (rc_ 1 ((h0 ▸ pright21 mv m q X0 hm hmv)) (cb_ fun X1_1 bQ => ?_)))
    replace Fg2 := (on9 Fg2 bQ)
    replace Fg3 := (on9 Fg3 bQ)
    replace BB := BB.trans (bQ.mono BB.size)
    clear bQ
    refine rv_ 2 (.bool false) (fun a ee => execNot8 (b := true) rfl (ee _)) (rv_ 4 (.agg (sC nx nw ev)) (fun a ee => execLdS rfl (ee _) Fg3) (rv_ 5 (.agg (cfC mv q)) (fun a ee => execLdC rfl (ee _) Fg2) (rc_ 6 ((h1 ▸ pfits mv q nx nw ev n nu tw ln t X1_1 (hW.on BB) hm)) (cb_ fun X1 bQ => ?_))))
    replace Fg2 := (on9 Fg2 bQ)
    replace Fg3 := (on9 Fg3 bQ)
    replace BB := BB.trans (bQ.mono BB.size)
    clear bQ
    refine rv_ 7 (.bool true) (fun a ee => execNot8 (b := false) rfl (ee _)) (rg_ [(13, .bool true)] ?_)
    rintro a A ⟨t13, -⟩
    refine wp_cond_true t13 ?_
    clear t13
    refine wp_seq ?_
    refine wi_ A h0_ (rg_ [(4, .int .i64 ((210 : Nat) : Int))] ?_)
    rintro a A ⟨t4, -⟩
    refine wp_ret ?_
    repeat (first | with_reducible refine ret_in ?_ | with_reducible refine ret_then ?_)
    refine bodyPost_ret (results_tmp rfl _ _ _) A.2 ⟨?_, BB⟩
    show Ending.returned (a.eval (.tmp 4)) = _
    rw [t4]
    rw [show ckE m q nx (nw, esL n nu ln t) = 210 from if_neg fun z => of_decide_eq_false h1 z.2]
    first | done | rfl
  replace h1 := bnf h1
  go_enter Tryz.func13, Tryz.ntmps13
  refine wo_ 14 [(0, .agg (cfC mv q)), (1, .agg (sC nx nw ev))] ?_
  rintro a A ⟨t0, t1, -⟩
  have BW : Below V.heap.size V V := Below.refl _ _
  have BB := BW
  refine wp_seq ?_
  obtain ⟨g2, egg2⟩ : ∃ z_ : Nat, V.heap.size = z_ := ⟨_, rfl⟩
  refine wi_ A (h2_ t0 t1) (rs_ 0 (fun a ee => ?_))
  refine stepV rfl rfl (execBxC hm rfl (ee _)) ⟨.pointer (some ⟨g2, 0, none⟩), ⟨_, rfl, by subst egg2; rfl⟩, fun X0_1 hX => ?_⟩
  have bQ : Below V.heap.size V X0_1 := by subst hX egg2; exact (belNew V _)
  have Fg2 : (X0_1.heap[g2]? = some (.cells (cfC mv q) 24)) := by subst hX egg2; exact heapNew V _
  replace BB := BB.trans (bQ.mono BB.size)
  clear bQ hX egg2 ee a
  obtain ⟨g3, egg3⟩ : ∃ z_ : Nat, X0_1.heap.size = z_ := ⟨_, rfl⟩
  refine rs_ 1 (fun a ee => ?_)
  refine stepV rfl rfl (execBxS hev rfl (ee _)) ⟨.pointer (some ⟨g3, 0, none⟩), ⟨_, rfl, by subst egg3; rfl⟩, fun X0 hX => ?_⟩
  have bQ : Below X0_1.heap.size X0_1 X0 := by subst hX egg3; exact (belNew X0_1 _)
  have Fg3 : (X0.heap[g3]? = some (.cells (sC nx nw ev) 29)) := by subst hX egg3; exact heapNew X0_1 _
  replace Fg2 := (on9 Fg2 bQ)
  replace BB := BB.trans (bQ.mono BB.size)
  clear bQ hX egg3 ee a
  refine rg_ [(2, .pointer (some ⟨g2, 0, none⟩)), (3, .pointer (some ⟨g3, 0, none⟩))] ?_
  rintro a A ⟨t2, t3, -⟩
  refine wp_seq ?_
  refine wp_seq ?_
  refine wi_ A (h2_ t2 t3) (rv_ 0 (.agg (cfC mv q)) (fun a ee => execLdC rfl (ee _) Fg2) (rc_ 1 ((h0 ▸ pright21 mv m q X0 hm hmv)) (cb_ fun X1_1 bQ => ?_)))
  replace Fg2 := (on9 Fg2 bQ)
  replace Fg3 := (on9 Fg3 bQ)
  replace BB := BB.trans (bQ.mono BB.size)
  clear bQ
  refine rv_ 2 (.bool false) (fun a ee => execNot8 (b := true) rfl (ee _)) (rv_ 4 (.agg (sC nx nw ev)) (fun a ee => execLdS rfl (ee _) Fg3) (rv_ 5 (.agg (cfC mv q)) (fun a ee => execLdC rfl (ee _) Fg2) (rc_ 6 ((h1 ▸ pfits mv q nx nw ev n nu tw ln t X1_1 (hW.on BB) hm)) (cb_ fun X1 bQ => ?_))))
  replace Fg2 := (on9 Fg2 bQ)
  replace Fg3 := (on9 Fg3 bQ)
  replace BB := BB.trans (bQ.mono BB.size)
  clear bQ
  refine rv_ 7 (.bool false) (fun a ee => execNot8 (b := true) rfl (ee _)) (rg_ [(13, .bool false)] ?_)
  rintro a A ⟨t13, -⟩
  refine wp_cond_false t13 ?_
  refine wp_skip ?_
  clear t13
  refine wp_seq ?_
  refine wi_ A h0_ (rg_ [(4, .int .i64 ((0 : Nat) : Int))] ?_)
  rintro a A ⟨t4, -⟩
  refine wp_ret ?_
  refine bodyPost_ret (results_tmp rfl _ _ _) A.2 ⟨?_, BB⟩
  show Ending.returned (a.eval (.tmp 4)) = _
  rw [t4]
  rw [show ckE m q nx (nw, esL n nu ln t) = 0 from if_pos ⟨h0, of_decide_eq_true h1⟩]
  first | done | rfl
set_option maxRecDepth 100000 in
set_option maxHeartbeats 4000000 in
/-- The reference's Check. -/
theorem rcheck21 (mv : Value) (m : Nat) (q : Cg) (nx : Int) (nw : Int) (ev : Value) (n : Nat) (nu : Nat → Int) (tw : Nat → Value) (ln : Nat → Nat) (t : Nat → Nat → Nat → Nat) (V : World) (hW : Wd V nw ev n nu tw ln t) (hm : ∃ g n c, mv = .slice g n c) (hmv : ∃ ao c, mv = .slice ao m c) (hs : I64 q.s) (hr : I64 q.r) :
    Calls Tryz.prog 6 #[.agg (cfC mv q), .agg (sC nx nw ev)] V fun e w' => e = .returned (.int .i64 ((ckE m q nx (nw, esL n nu ln t) : Nat) : Int)) ∧ Below V.heap.size V w' := by
  have hev : ∃ g n c, ev = .slice g n c := by obtain ⟨g, c, e, _⟩ := hW.eps.shape; exact ⟨g, n, c, e⟩
  by_cases h0 : cfQ m q = false
  · go_enter Tryz.func6, Tryz.ntmps6
    refine wo_ 28 [(0, .agg (cfC mv q)), (1, .agg (sC nx nw ev))] ?_
    rintro a A ⟨t0, t1, -⟩
    have BW : Below V.heap.size V V := Below.refl _ _
    have BB := BW
    refine wp_seq ?_
    obtain ⟨g2, egg2⟩ : ∃ z_ : Nat, V.heap.size = z_ := ⟨_, rfl⟩
    refine wi_ A (h2_ t0 t1) (rs_ 0 (fun a ee => ?_))
    refine stepV rfl rfl (execBxC hm rfl (ee _)) ⟨.pointer (some ⟨g2, 0, none⟩), ⟨_, rfl, by subst egg2; rfl⟩, fun X0_1 hX => ?_⟩
    have bQ : Below V.heap.size V X0_1 := by subst hX egg2; exact (belNew V _)
    have Fg2 : (X0_1.heap[g2]? = some (.cells (cfC mv q) 24)) := by subst hX egg2; exact heapNew V _
    replace BB := BB.trans (bQ.mono BB.size)
    clear bQ hX egg2 ee a
    obtain ⟨g3, egg3⟩ : ∃ z_ : Nat, X0_1.heap.size = z_ := ⟨_, rfl⟩
    refine rs_ 1 (fun a ee => ?_)
    refine stepV rfl rfl (execBxS hev rfl (ee _)) ⟨.pointer (some ⟨g3, 0, none⟩), ⟨_, rfl, by subst egg3; rfl⟩, fun X0 hX => ?_⟩
    have bQ : Below X0_1.heap.size X0_1 X0 := by subst hX egg3; exact (belNew X0_1 _)
    have Fg3 : (X0.heap[g3]? = some (.cells (sC nx nw ev) 29)) := by subst hX egg3; exact heapNew X0_1 _
    replace Fg2 := (on9 Fg2 bQ)
    replace BB := BB.trans (bQ.mono BB.size)
    clear bQ hX egg3 ee a
    refine rg_ [(2, .pointer (some ⟨g2, 0, none⟩)), (3, .pointer (some ⟨g3, 0, none⟩))] ?_
    rintro a A ⟨t2, t3, -⟩
    refine wp_seq ?_
    refine wp_seq ?_
    refine wi_ A (h2_ t2 t3) (rv_ 0 (.agg (cfC mv q)) (fun a ee => execLdC rfl (ee _) Fg2) (rc_ 1 ((h0 ▸ rright21 mv m q X0 hm hmv)) (cb_ fun X1 bQ => ?_)))
    replace Fg2 := (on9 Fg2 bQ)
    replace Fg3 := (on9 Fg3 bQ)
    replace BB := BB.trans (bQ.mono BB.size)
    clear bQ
    refine rv_ 2 (.bool true) (fun a ee => execNot8 (b := false) rfl (ee _)) (rg_ [(27, .bool true)] ?_)
    rintro a A ⟨t27, -⟩
    refine wp_cond_true t27 ?_
    clear t27
    refine wp_seq ?_
    refine wi_ A h0_ (rg_ [(4, .int .i64 ((210 : Nat) : Int))] ?_)
    rintro a A ⟨t4, -⟩
    refine wp_ret ?_
    repeat (first | with_reducible refine ret_in ?_ | with_reducible refine ret_then ?_)
    refine bodyPost_ret (results_tmp rfl _ _ _) A.2 ⟨?_, BB⟩
    show Ending.returned (a.eval (.tmp 4)) = _
    rw [t4]
    rw [show ckE m q nx (nw, esL n nu ln t) = 210 from if_neg fun z => by rw [h0] at z; exact absurd z.1 (by decide)]
    first | done | rfl
  replace h0 := bnf h0
  by_cases h1 : nx < 0
  · go_enter Tryz.func6, Tryz.ntmps6
    refine wo_ 28 [(0, .agg (cfC mv q)), (1, .agg (sC nx nw ev))] ?_
    rintro a A ⟨t0, t1, -⟩
    have BW : Below V.heap.size V V := Below.refl _ _
    have BB := BW
    refine wp_seq ?_
    obtain ⟨g2, egg2⟩ : ∃ z_ : Nat, V.heap.size = z_ := ⟨_, rfl⟩
    refine wi_ A (h2_ t0 t1) (rs_ 0 (fun a ee => ?_))
    refine stepV rfl rfl (execBxC hm rfl (ee _)) ⟨.pointer (some ⟨g2, 0, none⟩), ⟨_, rfl, by subst egg2; rfl⟩, fun X0_1 hX => ?_⟩
    have bQ : Below V.heap.size V X0_1 := by subst hX egg2; exact (belNew V _)
    have Fg2 : (X0_1.heap[g2]? = some (.cells (cfC mv q) 24)) := by subst hX egg2; exact heapNew V _
    replace BB := BB.trans (bQ.mono BB.size)
    clear bQ hX egg2 ee a
    obtain ⟨g3, egg3⟩ : ∃ z_ : Nat, X0_1.heap.size = z_ := ⟨_, rfl⟩
    refine rs_ 1 (fun a ee => ?_)
    refine stepV rfl rfl (execBxS hev rfl (ee _)) ⟨.pointer (some ⟨g3, 0, none⟩), ⟨_, rfl, by subst egg3; rfl⟩, fun X0 hX => ?_⟩
    have bQ : Below X0_1.heap.size X0_1 X0 := by subst hX egg3; exact (belNew X0_1 _)
    have Fg3 : (X0.heap[g3]? = some (.cells (sC nx nw ev) 29)) := by subst hX egg3; exact heapNew X0_1 _
    replace Fg2 := (on9 Fg2 bQ)
    replace BB := BB.trans (bQ.mono BB.size)
    clear bQ hX egg3 ee a
    refine rg_ [(2, .pointer (some ⟨g2, 0, none⟩)), (3, .pointer (some ⟨g3, 0, none⟩))] ?_
    rintro a A ⟨t2, t3, -⟩
    refine wp_seq ?_
    refine wp_seq ?_
    refine wi_ A (h2_ t2 t3) (rv_ 0 (.agg (cfC mv q)) (fun a ee => execLdC rfl (ee _) Fg2) (rc_ 1 ((h0 ▸ rright21 mv m q X0 hm hmv)) (cb_ fun X1 bQ => ?_)))
    replace Fg2 := (on9 Fg2 bQ)
    replace Fg3 := (on9 Fg3 bQ)
    replace BB := BB.trans (bQ.mono BB.size)
    clear bQ
    refine rv_ 2 (.bool false) (fun a ee => execNot8 (b := true) rfl (ee _)) (rv_ 4 (.pointer (some ⟨g3, 0, none⟩)) (fun a ee => execFS0 rfl (ee _)) (rv_ 5 (.int .i64 nx) (fun a ee => execL1 rfl (Or.inr (Or.inl rfl)) (ee _) (row_1 Fg3 rfl)) (rv_ 6 (.bool true) (fun a ee => execDec (exIlss2 (p := nx) (q := 0) rfl (ee _) rfl) (decide_eq_true h1)) (rg_ [(27, .bool true)] ?_))))
    rintro a A ⟨t27, -⟩
    refine wp_cond_true t27 ?_
    clear t27
    refine wp_seq ?_
    refine wi_ A h0_ (rg_ [(4, .int .i64 ((210 : Nat) : Int))] ?_)
    rintro a A ⟨t4, -⟩
    refine wp_ret ?_
    repeat (first | with_reducible refine ret_in ?_ | with_reducible refine ret_then ?_)
    refine bodyPost_ret (results_tmp rfl _ _ _) A.2 ⟨?_, BB⟩
    show Ending.returned (a.eval (.tmp 4)) = _
    rw [t4]
    rw [show ckE m q nx (nw, esL n nu ln t) = 210 from if_neg fun z => by omega]
    first | done | rfl
  by_cases h2 : nx > 4611686018427387904
  · go_enter Tryz.func6, Tryz.ntmps6
    refine wo_ 28 [(0, .agg (cfC mv q)), (1, .agg (sC nx nw ev))] ?_
    rintro a A ⟨t0, t1, -⟩
    have BW : Below V.heap.size V V := Below.refl _ _
    have BB := BW
    refine wp_seq ?_
    obtain ⟨g2, egg2⟩ : ∃ z_ : Nat, V.heap.size = z_ := ⟨_, rfl⟩
    refine wi_ A (h2_ t0 t1) (rs_ 0 (fun a ee => ?_))
    refine stepV rfl rfl (execBxC hm rfl (ee _)) ⟨.pointer (some ⟨g2, 0, none⟩), ⟨_, rfl, by subst egg2; rfl⟩, fun X0_1 hX => ?_⟩
    have bQ : Below V.heap.size V X0_1 := by subst hX egg2; exact (belNew V _)
    have Fg2 : (X0_1.heap[g2]? = some (.cells (cfC mv q) 24)) := by subst hX egg2; exact heapNew V _
    replace BB := BB.trans (bQ.mono BB.size)
    clear bQ hX egg2 ee a
    obtain ⟨g3, egg3⟩ : ∃ z_ : Nat, X0_1.heap.size = z_ := ⟨_, rfl⟩
    refine rs_ 1 (fun a ee => ?_)
    refine stepV rfl rfl (execBxS hev rfl (ee _)) ⟨.pointer (some ⟨g3, 0, none⟩), ⟨_, rfl, by subst egg3; rfl⟩, fun X0 hX => ?_⟩
    have bQ : Below X0_1.heap.size X0_1 X0 := by subst hX egg3; exact (belNew X0_1 _)
    have Fg3 : (X0.heap[g3]? = some (.cells (sC nx nw ev) 29)) := by subst hX egg3; exact heapNew X0_1 _
    replace Fg2 := (on9 Fg2 bQ)
    replace BB := BB.trans (bQ.mono BB.size)
    clear bQ hX egg3 ee a
    refine rg_ [(2, .pointer (some ⟨g2, 0, none⟩)), (3, .pointer (some ⟨g3, 0, none⟩))] ?_
    rintro a A ⟨t2, t3, -⟩
    refine wp_seq ?_
    refine wp_seq ?_
    refine wi_ A (h2_ t2 t3) (rv_ 0 (.agg (cfC mv q)) (fun a ee => execLdC rfl (ee _) Fg2) (rc_ 1 ((h0 ▸ rright21 mv m q X0 hm hmv)) (cb_ fun X1 bQ => ?_)))
    replace Fg2 := (on9 Fg2 bQ)
    replace Fg3 := (on9 Fg3 bQ)
    replace BB := BB.trans (bQ.mono BB.size)
    clear bQ
    refine rv_ 2 (.bool false) (fun a ee => execNot8 (b := true) rfl (ee _)) (rv_ 4 (.pointer (some ⟨g3, 0, none⟩)) (fun a ee => execFS0 rfl (ee _)) (rv_ 5 (.int .i64 nx) (fun a ee => execL1 rfl (Or.inr (Or.inl rfl)) (ee _) (row_1 Fg3 rfl)) (rv_ 6 (.bool false) (fun a ee => execDec (exIlss2 (p := nx) (q := 0) rfl (ee _) rfl) (decide_eq_false h1)) (rv_ 9 (.pointer (some ⟨g3, 0, none⟩)) (fun a ee => execFS0 rfl (ee _)) (rv_ 10 (.int .i64 nx) (fun a ee => execL1 rfl (Or.inr (Or.inl rfl)) (ee _) (row_1 Fg3 rfl)) (rv_ 11 (.bool true) (fun a ee => execDec (exIgtr2 (p := nx) (q := 4611686018427387904) rfl (ee _) rfl) (decide_eq_true h2)) (rg_ [(27, .bool true)] ?_)))))))
    rintro a A ⟨t27, -⟩
    refine wp_cond_true t27 ?_
    clear t27
    refine wp_seq ?_
    refine wi_ A h0_ (rg_ [(4, .int .i64 ((210 : Nat) : Int))] ?_)
    rintro a A ⟨t4, -⟩
    refine wp_ret ?_
    repeat (first | with_reducible refine ret_in ?_ | with_reducible refine ret_then ?_)
    refine bodyPost_ret (results_tmp rfl _ _ _) A.2 ⟨?_, BB⟩
    show Ending.returned (a.eval (.tmp 4)) = _
    rw [t4]
    rw [show ckE m q nx (nw, esL n nu ln t) = 210 from if_neg fun z => by omega]
    first | done | rfl
  by_cases h3 : wChk (nw, esL n nu ln t) q.s q.r = 0
  · go_enter Tryz.func6, Tryz.ntmps6
    refine wo_ 28 [(0, .agg (cfC mv q)), (1, .agg (sC nx nw ev))] ?_
    rintro a A ⟨t0, t1, -⟩
    have BW : Below V.heap.size V V := Below.refl _ _
    have BB := BW
    refine wp_seq ?_
    obtain ⟨g2, egg2⟩ : ∃ z_ : Nat, V.heap.size = z_ := ⟨_, rfl⟩
    refine wi_ A (h2_ t0 t1) (rs_ 0 (fun a ee => ?_))
    refine stepV rfl rfl (execBxC hm rfl (ee _)) ⟨.pointer (some ⟨g2, 0, none⟩), ⟨_, rfl, by subst egg2; rfl⟩, fun X0_1 hX => ?_⟩
    have bQ : Below V.heap.size V X0_1 := by subst hX egg2; exact (belNew V _)
    have Fg2 : (X0_1.heap[g2]? = some (.cells (cfC mv q) 24)) := by subst hX egg2; exact heapNew V _
    replace BB := BB.trans (bQ.mono BB.size)
    clear bQ hX egg2 ee a
    obtain ⟨g3, egg3⟩ : ∃ z_ : Nat, X0_1.heap.size = z_ := ⟨_, rfl⟩
    refine rs_ 1 (fun a ee => ?_)
    refine stepV rfl rfl (execBxS hev rfl (ee _)) ⟨.pointer (some ⟨g3, 0, none⟩), ⟨_, rfl, by subst egg3; rfl⟩, fun X0 hX => ?_⟩
    have bQ : Below X0_1.heap.size X0_1 X0 := by subst hX egg3; exact (belNew X0_1 _)
    have Fg3 : (X0.heap[g3]? = some (.cells (sC nx nw ev) 29)) := by subst hX egg3; exact heapNew X0_1 _
    replace Fg2 := (on9 Fg2 bQ)
    replace BB := BB.trans (bQ.mono BB.size)
    clear bQ hX egg3 ee a
    refine rg_ [(2, .pointer (some ⟨g2, 0, none⟩)), (3, .pointer (some ⟨g3, 0, none⟩))] ?_
    rintro a A ⟨t2, t3, -⟩
    refine wp_seq ?_
    refine wp_seq ?_
    refine wi_ A (h2_ t2 t3) (rv_ 0 (.agg (cfC mv q)) (fun a ee => execLdC rfl (ee _) Fg2) (rc_ 1 ((h0 ▸ rright21 mv m q X0 hm hmv)) (cb_ fun X1_1 bQ => ?_)))
    replace Fg2 := (on9 Fg2 bQ)
    replace Fg3 := (on9 Fg3 bQ)
    replace BB := BB.trans (bQ.mono BB.size)
    clear bQ
    refine rv_ 2 (.bool false) (fun a ee => execNot8 (b := true) rfl (ee _)) (rv_ 4 (.pointer (some ⟨g3, 0, none⟩)) (fun a ee => execFS0 rfl (ee _)) (rv_ 5 (.int .i64 nx) (fun a ee => execL1 rfl (Or.inr (Or.inl rfl)) (ee _) (row_1 Fg3 rfl)) (rv_ 6 (.bool false) (fun a ee => execDec (exIlss2 (p := nx) (q := 0) rfl (ee _) rfl) (decide_eq_false h1)) (rv_ 9 (.pointer (some ⟨g3, 0, none⟩)) (fun a ee => execFS0 rfl (ee _)) (rv_ 10 (.int .i64 nx) (fun a ee => execL1 rfl (Or.inr (Or.inl rfl)) (ee _) (row_1 Fg3 rfl)) (rv_ 11 (.bool false) (fun a ee => execDec (exIgtr2 (p := nx) (q := 4611686018427387904) rfl (ee _) rfl) (decide_eq_false h2)) (rv_ 14 (.pointer (some ⟨g3, 1, none⟩)) (fun a ee => execFS1 rfl (ee _)) (rv_ 15 (.agg (wC nw ev)) (fun a ee => execLdSW rfl (ee _) Fg3) (rv_ 16 (.pointer (some ⟨g2, 2, none⟩)) (fun a ee => execFC2 rfl (ee _)) (rv_ 17 (.int .i64 q.s) (fun a ee => execL1 rfl (Or.inl rfl) (ee _) (row_1 Fg2 rfl)) (rv_ 18 (.pointer (some ⟨g2, 3, none⟩)) (fun a ee => execFC3 rfl (ee _)) (rv_ 19 (.int .i64 q.r) (fun a ee => execL1 rfl (Or.inl rfl) (ee _) (row_1 Fg2 rfl)) (rc_ 20 (rcheck16 nw q.s q.r ev n nu tw ln t X1_1 (hW.on BB).eps hW.n63 hW.ln43 hW.num hs hr) (cb_ fun X1 bQ => ?_))))))))))))))
    replace Fg2 := (on9 Fg2 bQ)
    replace Fg3 := (on9 Fg3 bQ)
    replace BB := BB.trans (bQ.mono BB.size)
    clear bQ
    refine rv_ 21 (.bool false) (fun a ee => execDec (execNeN (p := wChk (nw, esL n nu ln t) q.s q.r) (q := 0) rfl (ee _) rfl) (decide_eq_false (by omega))) (rg_ [(27, .bool false)] ?_)
    rintro a A ⟨t27, -⟩
    refine wp_cond_false t27 ?_
    refine wp_skip ?_
    clear t27
    refine wp_seq ?_
    refine wi_ A h0_ (rg_ [(4, .int .i64 ((0 : Nat) : Int))] ?_)
    rintro a A ⟨t4, -⟩
    refine wp_ret ?_
    refine bodyPost_ret (results_tmp rfl _ _ _) A.2 ⟨?_, BB⟩
    show Ending.returned (a.eval (.tmp 4)) = _
    rw [t4]
    rw [show ckE m q nx (nw, esL n nu ln t) = 0 from if_pos ⟨h0, by omega, by omega, h3⟩]
    first | done | rfl
  go_enter Tryz.func6, Tryz.ntmps6
  refine wo_ 28 [(0, .agg (cfC mv q)), (1, .agg (sC nx nw ev))] ?_
  rintro a A ⟨t0, t1, -⟩
  have BW : Below V.heap.size V V := Below.refl _ _
  have BB := BW
  refine wp_seq ?_
  obtain ⟨g2, egg2⟩ : ∃ z_ : Nat, V.heap.size = z_ := ⟨_, rfl⟩
  refine wi_ A (h2_ t0 t1) (rs_ 0 (fun a ee => ?_))
  refine stepV rfl rfl (execBxC hm rfl (ee _)) ⟨.pointer (some ⟨g2, 0, none⟩), ⟨_, rfl, by subst egg2; rfl⟩, fun X0_1 hX => ?_⟩
  have bQ : Below V.heap.size V X0_1 := by subst hX egg2; exact (belNew V _)
  have Fg2 : (X0_1.heap[g2]? = some (.cells (cfC mv q) 24)) := by subst hX egg2; exact heapNew V _
  replace BB := BB.trans (bQ.mono BB.size)
  clear bQ hX egg2 ee a
  obtain ⟨g3, egg3⟩ : ∃ z_ : Nat, X0_1.heap.size = z_ := ⟨_, rfl⟩
  refine rs_ 1 (fun a ee => ?_)
  refine stepV rfl rfl (execBxS hev rfl (ee _)) ⟨.pointer (some ⟨g3, 0, none⟩), ⟨_, rfl, by subst egg3; rfl⟩, fun X0 hX => ?_⟩
  have bQ : Below X0_1.heap.size X0_1 X0 := by subst hX egg3; exact (belNew X0_1 _)
  have Fg3 : (X0.heap[g3]? = some (.cells (sC nx nw ev) 29)) := by subst hX egg3; exact heapNew X0_1 _
  replace Fg2 := (on9 Fg2 bQ)
  replace BB := BB.trans (bQ.mono BB.size)
  clear bQ hX egg3 ee a
  refine rg_ [(2, .pointer (some ⟨g2, 0, none⟩)), (3, .pointer (some ⟨g3, 0, none⟩))] ?_
  rintro a A ⟨t2, t3, -⟩
  refine wp_seq ?_
  refine wp_seq ?_
  refine wi_ A (h2_ t2 t3) (rv_ 0 (.agg (cfC mv q)) (fun a ee => execLdC rfl (ee _) Fg2) (rc_ 1 ((h0 ▸ rright21 mv m q X0 hm hmv)) (cb_ fun X1_1 bQ => ?_)))
  replace Fg2 := (on9 Fg2 bQ)
  replace Fg3 := (on9 Fg3 bQ)
  replace BB := BB.trans (bQ.mono BB.size)
  clear bQ
  refine rv_ 2 (.bool false) (fun a ee => execNot8 (b := true) rfl (ee _)) (rv_ 4 (.pointer (some ⟨g3, 0, none⟩)) (fun a ee => execFS0 rfl (ee _)) (rv_ 5 (.int .i64 nx) (fun a ee => execL1 rfl (Or.inr (Or.inl rfl)) (ee _) (row_1 Fg3 rfl)) (rv_ 6 (.bool false) (fun a ee => execDec (exIlss2 (p := nx) (q := 0) rfl (ee _) rfl) (decide_eq_false h1)) (rv_ 9 (.pointer (some ⟨g3, 0, none⟩)) (fun a ee => execFS0 rfl (ee _)) (rv_ 10 (.int .i64 nx) (fun a ee => execL1 rfl (Or.inr (Or.inl rfl)) (ee _) (row_1 Fg3 rfl)) (rv_ 11 (.bool false) (fun a ee => execDec (exIgtr2 (p := nx) (q := 4611686018427387904) rfl (ee _) rfl) (decide_eq_false h2)) (rv_ 14 (.pointer (some ⟨g3, 1, none⟩)) (fun a ee => execFS1 rfl (ee _)) (rv_ 15 (.agg (wC nw ev)) (fun a ee => execLdSW rfl (ee _) Fg3) (rv_ 16 (.pointer (some ⟨g2, 2, none⟩)) (fun a ee => execFC2 rfl (ee _)) (rv_ 17 (.int .i64 q.s) (fun a ee => execL1 rfl (Or.inl rfl) (ee _) (row_1 Fg2 rfl)) (rv_ 18 (.pointer (some ⟨g2, 3, none⟩)) (fun a ee => execFC3 rfl (ee _)) (rv_ 19 (.int .i64 q.r) (fun a ee => execL1 rfl (Or.inl rfl) (ee _) (row_1 Fg2 rfl)) (rc_ 20 (rcheck16 nw q.s q.r ev n nu tw ln t X1_1 (hW.on BB).eps hW.n63 hW.ln43 hW.num hs hr) (cb_ fun X1 bQ => ?_))))))))))))))
  replace Fg2 := (on9 Fg2 bQ)
  replace Fg3 := (on9 Fg3 bQ)
  replace BB := BB.trans (bQ.mono BB.size)
  clear bQ
  refine rv_ 21 (.bool true) (fun a ee => execDec (execNeN (p := wChk (nw, esL n nu ln t) q.s q.r) (q := 0) rfl (ee _) rfl) (decide_eq_true (by omega))) (rg_ [(27, .bool true)] ?_)
  rintro a A ⟨t27, -⟩
  refine wp_cond_true t27 ?_
  clear t27
  refine wp_seq ?_
  refine wi_ A h0_ (rg_ [(4, .int .i64 ((210 : Nat) : Int))] ?_)
  rintro a A ⟨t4, -⟩
  refine wp_ret ?_
  repeat (first | with_reducible refine ret_in ?_ | with_reducible refine ret_then ?_)
  refine bodyPost_ret (results_tmp rfl _ _ _) A.2 ⟨?_, BB⟩
  show Ending.returned (a.eval (.tmp 4)) = _
  rw [t4]
  rw [show ckE m q nx (nw, esL n nu ln t) = 210 from if_neg fun z => h3 z.2.2.2]
  first | done | rfl
end Go.Proofs.YtepdejnholphcaaGreat.Rnd
