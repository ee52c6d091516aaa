import Derived.Test.YtfhldpdnoaoohaaDoorS3
import Derived.Test.YtfhldpdnoaoohaaDoorK5
namespace Go.Proofs.YtfhldpdnoaoohaaDoor.Gf8
open Go.RowKit

theorem results_tmp4 {fn : Func} {t u v x : Tmp} (h : fn.results = #[.tmp t, .tmp u, .tmp v, .tmp x]) (tmps : Array Value) (P : Program) (w : World) :
    (results fn tmps).run P w = .ok (.tuple #[tmps.getD t undef, tmps.getD u undef, tmps.getD v undef, tmps.getD x undef]) w := by
  simp [results, h]
set_option maxRecDepth 20000 in
set_option maxHeartbeats 400000 in
theorem from_any (c : Nat → Nat) (i : Nat) (w : World) (hi : i < 4) :
    Calls Tryd.prog 85 #[.agg (col c), .int .i64 i] w fun e w' => e = .returned (.tuple #[.int .u8 (c i), .int .u8 (c ((i + 1) % 4)), .int .u8 (c ((i + 2) % 4)), .int .u8 (c ((i + 3) % 4))]) ∧ Below w.heap.size w w' := by
  have B : Hid (Below w.heap.size w (w.alloc (.cells (col c) 110))) := (Below.refl _ _).alloc (Nat.le_refl _) _
  obtain ⟨j1, h1⟩ : ∃ j, (i + 1) % 4 = j := ⟨_, rfl⟩
  obtain ⟨j2, h2⟩ : ∃ j, (i + 2) % 4 = j := ⟨_, rfl⟩
  obtain ⟨j3, h3⟩ : ∃ j, (i + 3) % 4 = j := ⟨_, rfl⟩
  have k1 : j1 < 4 := by omega
  have k2 : j2 < 4 := by omega
  have k3 : j3 < 4 := by omega
  have t1 : ((i : Int) + 1).tmod 4 = (j1 : Int) := by rw [Int.tmod_eq_emod_of_nonneg (by omega)]; omega
  have t2 : ((i : Int) + 2).tmod 4 = (j2 : Int) := by rw [Int.tmod_eq_emod_of_nonneg (by omega)]; omega
  have t3 : ((i : Int) + 3).tmod 4 = (j3 : Int) := by rw [Int.tmod_eq_emod_of_nonneg (by omega)]; omega
  rw [h1, h2, h3]
  clear h1 h2 h3
  have i0 : (i : Int) < 4 := by omega
  have i1 : (j1 : Int) < 4 := by omega
  have i2 : (j2 : Int) < 4 := by omega
  have i3 : (j3 : Int) < 4 := by omega
  have c0 : (w.alloc (.cells (col c) 110)).cell? ⟨w.heap.size, i, none⟩ = some (.int .u8 (c i)) := alloc_cell w (col_at c hi)
  have c1 : (w.alloc (.cells (col c) 110)).cell? ⟨w.heap.size, j1, none⟩ = some (.int .u8 (c j1)) := alloc_cell w (col_at c k1)
  have c2 : (w.alloc (.cells (col c) 110)).cell? ⟨w.heap.size, j2, none⟩ = some (.int .u8 (c j2)) := alloc_cell w (col_at c k2)
  have c3 : (w.alloc (.cells (col c) 110)).cell? ⟨w.heap.size, j3, none⟩ = some (.int .u8 (c j3)) := alloc_cell w (col_at c k3)
  go_enter Tryd.func85, Tryd.ntmps85
  go_wp2
  go_quiet (skip)
  go_wp2
  refine bodyPost_ret (results_tmp4 rfl _ _ _) rfl ⟨rfl, ?_⟩
  exact belowD B.out _

theorem small_all : ∀ x : Fin 256, gm 2 x.val = xt x.val ∧ gm 3 x.val = xt x.val ^^^ x.val ∧ gm 1 x.val = x.val := by decide +kernel
/-- The code's row of the mixing. -/
def fcol (c : Nat → Nat) (i : Nat) : Nat := xt (c i) ^^^ xt (c ((i + 1) % 4)) ^^^ c ((i + 1) % 4) ^^^ c ((i + 2) % 4) ^^^ c ((i + 3) % 4)
theorem fcol_mix {c : Nat → Nat} (hc : ∀ i, i < 4 → c i < 256) {i : Nat} (hi : i < 4) : fcol c i = mixk fwd c i := by
  have s (j : Nat) (h : j < 4) := small_all ⟨c j, hc j h⟩
  obtain ⟨a0, b0, e0⟩ := s 0 (by omega)
  obtain ⟨a1, b1, e1⟩ := s 1 (by omega)
  obtain ⟨a2, b2, e2⟩ := s 2 (by omega)
  obtain ⟨a3, b3, e3⟩ := s 3 (by omega)
  simp only at a0 b0 e0 a1 b1 e1 a2 b2 e2 a3 b3 e3
  have : i = 0 ∨ i = 1 ∨ i = 2 ∨ i = 3 := by omega
  rcases this with rfl | rfl | rfl | rfl
  · show xt (c 0) ^^^ xt (c 1) ^^^ c 1 ^^^ c 2 ^^^ c 3 = gm 2 (c 0) ^^^ gm 3 (c 1) ^^^ gm 1 (c 2) ^^^ gm 1 (c 3)
    rw [a0, b1, e2, e3]; ac_rfl
  · show xt (c 1) ^^^ xt (c 2) ^^^ c 2 ^^^ c 3 ^^^ c 0 = gm 1 (c 0) ^^^ gm 2 (c 1) ^^^ gm 3 (c 2) ^^^ gm 1 (c 3)
    rw [e0, a1, b2, e3]; ac_rfl
  · show xt (c 2) ^^^ xt (c 3) ^^^ c 3 ^^^ c 0 ^^^ c 1 = gm 1 (c 0) ^^^ gm 1 (c 1) ^^^ gm 2 (c 2) ^^^ gm 3 (c 3)
    rw [e0, e1, a2, b3]; ac_rfl
  · show xt (c 3) ^^^ xt (c 0) ^^^ c 0 ^^^ c 1 ^^^ c 2 = gm 3 (c 0) ^^^ gm 1 (c 1) ^^^ gm 1 (c 2) ^^^ gm 2 (c 3)
    rw [b0, e1, e2, a3]; ac_rfl
def bcol (c : Nat → Nat) (i : Nat) : Nat := gm 14 (c i) ^^^ gm 11 (c ((i + 1) % 4)) ^^^ gm 13 (c ((i + 2) % 4)) ^^^ gm 9 (c ((i + 3) % 4))
theorem bcol_mix (c : Nat → Nat) {i : Nat} (hi : i < 4) : bcol c i = mixk bwd c i := by
  have : i = 0 ∨ i = 1 ∨ i = 2 ∨ i = 3 := by omega
  rcases this with rfl | rfl | rfl | rfl
  · rfl
  · show gm 14 (c 1) ^^^ gm 11 (c 2) ^^^ gm 13 (c 3) ^^^ gm 9 (c 0) = gm 9 (c 0) ^^^ gm 14 (c 1) ^^^ gm 11 (c 2) ^^^ gm 13 (c 3)
    ac_rfl
  · show gm 14 (c 2) ^^^ gm 11 (c 3) ^^^ gm 13 (c 0) ^^^ gm 9 (c 1) = gm 13 (c 0) ^^^ gm 9 (c 1) ^^^ gm 14 (c 2) ^^^ gm 11 (c 3)
    ac_rfl
  · show gm 14 (c 3) ^^^ gm 11 (c 0) ^^^ gm 13 (c 1) ^^^ gm 9 (c 2) = gm 11 (c 0) ^^^ gm 13 (c 1) ^^^ gm 9 (c 2) ^^^ gm 14 (c 3)
    ac_rfl
end Go.Proofs.YtfhldpdnoaoohaaDoor.Gf8

namespace Go.Proofs.YtfhldpdnoaoohaaDoor.Gf8
open Go.RowKit

theorem mul_lit {f : Int} {b : Nat} {w : World} (hf : 0 ≤ f ∧ f < 256) (hb : b < 256) :
    Calls Tryd.prog 70 #[.int .u8 f, .int .u8 b] w fun e w' => e = .returned (.int .u8 (gm f.toNat b : Nat)) ∧ w' = w := by
  obtain ⟨n, rfl⟩ := Int.eq_ofNat_of_zero_le hf.1
  exact mul_any n b w (by omega) hb

end Go.Proofs.YtfhldpdnoaoohaaDoor.Gf8

namespace Go.Proofs.YtfhldpdnoaoohaaDoor.Gf8
open Go.RowKit

set_option maxRecDepth 20000 in
set_option maxHeartbeats 400000 in
theorem column_any (c : Nat → Nat) (w : World) (hc : ∀ i, i < 4 → c i < 256) :
    Calls Tryd.prog 75 #[.agg (col c)] w fun e w' => e = .returned (.agg (col (mixk fwd c))) ∧ Below w.heap.size w w' := by
  have HC : Hid (_) := hc
  clear hc
  have h3 := heap3c w (.cells (col c) 110) (.cells (col fun _ => 0) 110) (.cells (col fun _ => 0) 110)
  have H3 : Hid (_) := h3
  clear h3
  go_enter Tryd.func75, Tryd.ntmps75
  go_wp2
  rw [show w.heap.size + 1 + 1 = w.heap.size + 2 from rfl]
  go_loopw [9] (fun i W => ∃ k : Nat, k ≤ 4 ∧ i = .int .i64 k ∧ W.heap[w.heap.size]? = some (.cells (col c) 110) ∧ W.heap[w.heap.size + 1]? = some (.cells (col fun _ => 0) 110) ∧ W.heap[w.heap.size + 2]? = some (.cells (col (uptoC (mixk fwd c) k)) 110) ∧ Below w.heap.size w W) (fun i _ => 4 - (intOf i).toNat)
  case atStart => exact ⟨0, by omega, rfl, H3.out.1, H3.out.2.1, H3.out.2.2, below3c _ _ _ _⟩
  case round =>
    obtain ⟨k, hk, rfl, g1, g2, g3, bel⟩ := hrel
    have B : Hid (Below w.heap.size w wr) := bel
    have G1 : Hid (_) := g1
    have G2 : Hid (_) := g2
    have G3 : Hid (_) := g3
    clear bel g1 g2 g3 H3
    by_cases hlt : k < 4
    · have i1 : (k : Int) < 4 := by omega
      have i0 : (0 : Int) ≤ (k : Int) := by omega
      have HL : Hid (k < 4) := hlt
      obtain ⟨p, hp⟩ : ∃ p, c k = p := ⟨_, rfl⟩
      obtain ⟨q, hq⟩ : ∃ q, c ((k + 1) % 4) = q := ⟨_, rfl⟩
      obtain ⟨r, hr⟩ : ∃ r, c ((k + 2) % 4) = r := ⟨_, rfl⟩
      obtain ⟨s, hs⟩ : ∃ s, c ((k + 3) % 4) = s := ⟨_, rfl⟩
      have p1 : p < 256 := by rw [← hp]; exact HC.out _ hlt
      have q1 : q < 256 := by rw [← hq]; exact HC.out _ (Nat.mod_lt _ (by omega))
      have r1 : r < 256 := by rw [← hr]; exact HC.out _ (Nat.mod_lt _ (by omega))
      have s1 : s < 256 := by rw [← hs]; exact HC.out _ (Nat.mod_lt _ (by omega))
      have FR := from_any c k wr hlt
      rw [hp, hq, hr, hs] at FR
      have x1 := xor_u8 (xt_lt p1) (xt_lt q1)
      have x2 := xor_u8 (xor_lt (xt_lt p1) (xt_lt q1)) q1
      have x3 := xor_u8 (xor_lt (xor_lt (xt_lt p1) (xt_lt q1)) q1) r1
      have x4 := xor_u8 (xor_lt (xor_lt (xor_lt (xt_lt p1) (xt_lt q1)) q1) r1) s1
      have E : Hid (xt p ^^^ xt q ^^^ q ^^^ r ^^^ s = mixk fwd c k) := by
        show xt p ^^^ xt q ^^^ q ^^^ r ^^^ s = mixk fwd c k
        rw [← fcol_mix HC.out hlt, ← hp, ← hq, ← hr, ← hs]
        rfl
      clear hlt hp hq hr hs
      go_wp2_with (first
        | (refine atLoad 110 (.tmp 1) rfl ?_; go_must (refine wpList_load_row rfl 110 (.tmp 1) rfl w.heap.size rfl 110 _ (0, 0) _ G1.out Tryd.underlying110 rfl (size4' _) ?_; simp only [Act.put, List.setIfInBounds_toArray, List.set_cons_succ, List.set_cons_zero])))
      refine FR.mono ?_
      rintro e w1 ⟨rfl, hb1⟩
      have hsz : w.heap.size + 2 < wr.heap.size := (Array.getElem?_eq_some_iff.1 G3.out).1
      have D1 : Hid (w1.heap[w.heap.size]? = some (.cells (col c) 110)) := by show w1.heap[w.heap.size]? = _; rw [hb1.block _ (by omega)]; exact G1.out
      have D2 : Hid (w1.heap[w.heap.size + 1]? = some (.cells (col fun _ => 0) 110)) := by show w1.heap[w.heap.size + 1]? = _; rw [hb1.block _ (by omega)]; exact G2.out
      have D3 : Hid (w1.heap[w.heap.size + 2]? = some (.cells (col (uptoC (mixk fwd c) k)) 110)) := by show w1.heap[w.heap.size + 2]? = _; rw [hb1.block _ (by omega)]; exact G3.out
      have D4 : Hid (Below w.heap.size w w1) := B.out.trans (hb1.mono (by omega))
      have n1 : w1.cell? ⟨w.heap.size + 2, k, none⟩ = some (.int .u8 (uptoC (mixk fwd c) k k)) := by rw [cell_of_row _ _ _ _ _ _ D3.out]; exact col_at _ HL.out
      have n2 : w1.frozen? ⟨w.heap.size + 2, k, none⟩ = false := frozen4 D3.out
      clear hb1 hsz FR
      go_wp2_with (go_at_call 84; refine (double_any _ _ (by assumption)).mono ?_; rintro e w2 ⟨rfl, rfl⟩)
      go_roundw
      case rel =>
        refine ⟨k + 1, by have := HL.out; omega, by go_num, ?_, ?_, ?_, D4.out.setCell (by simp) _⟩
        · rw [heap4o _ D3.out (by omega)]; exact D1.out
        · rw [heap4o _ D3.out (by omega)]; exact D2.out
        · rw [heap4 _ D3.out, E.out, col_set _ HL.out]
      case measure => have := HL.out; simp [intOf]; omega
    · have i1 : ¬ (k : Int) < 4 := by omega
      have ek : k = 4 := by omega
      subst ek
      go_wp2_with (first
        | (refine atLoad 110 (.tmp 3) rfl ?_; go_must (refine wpList_load_row rfl 110 (.tmp 3) rfl (w.heap.size + 2) rfl 110 _ (0, 0) _ G3.out Tryd.underlying110 rfl (size4' _) ?_; simp only [Act.put, List.setIfInBounds_toArray, List.set_cons_succ, List.set_cons_zero]))
        | (refine atStore 110 (.tmp 2) (.tmp 34) rfl ?_; go_must (refine wpList_store_row rfl 110 (.tmp 2) (.tmp 34) rfl (w.heap.size + 1) _ rfl rfl 110 _ G2.out (size4' _) rfl (col_one _) ?_)))
      refine bodyPost_ret (v := .agg (col (mixk fwd c))) (results_cell_row Tryd.results75 _ _ (w.heap.size + 1) 110 _ (0, 0) _ rfl (setRow_heap _ _ _ _ _ _ G2.out) Tryd.underlying110 rfl (size4' _)) rfl ⟨rfl, ?_⟩
      exact below4 B.out (by omega) _
end Go.Proofs.YtfhldpdnoaoohaaDoor.Gf8

namespace Go.Proofs.YtfhldpdnoaoohaaDoor.Gf8
open Go.RowKit

def eq4 (f g : Nat → Nat) : Bool := (List.range 4).all fun i => (f i : Int) == (g i : Int)
theorem equalU8 (d : Nat) (x y : Int) (W : World) : (Op.equalIn (d + 1) 5 (.int .u8 x) (.int .u8 y)).run Tryd.prog W = .ok (x == y) W := by
  simp only [Op.equalIn, Sem.run_bind, run_underlying Tryd.underlying5, Result.andThen_ok]
  rfl
theorem part4 (f : Nat → Nat) (i : Nat) (h : i < 4) (W : World) : (part 5 (col f) i).run Tryd.prog W = .ok (.int .u8 (f i)) W := by
  have h1 := col_at f h
  simp [go_sem, h1]
theorem loop4 (d : Nat) (f g : Nat → Nat) : ∀ (l : List Nat), (∀ i ∈ l, i < 4) → ∀ W : World,
    Sem.run Tryd.prog (forIn l ((none, ()) : Option Bool × Unit) fun i _ => do
              let x ← part 5 (col f) (i * 1)
              let y ← part 5 (col g) (i * 1)
              let z ← Op.equalIn (d + 1) 5 x y
              if (!z) = true then pure (ForInStep.done (some false, ())) else pure (ForInStep.yield (none, ()))) W
      = .ok (if l.all (fun i => (f i : Int) == (g i : Int)) then (none, ()) else (some false, ())) W := by
  intro l
  induction l with
  | nil => intro _ W; simp
  | cons i l ih =>
    intro h W
    have hi : i < 4 := h i (by simp)
    simp only [List.forIn_cons, Sem.run_bind, Nat.mul_one, part4 f i hi, part4 g i hi, equalU8, Result.andThen_ok]
    by_cases e : (f i : Int) = (g i : Int)
    · have hb : ((f i : Int) == (g i : Int)) = true := by simp [e]
      simp only [hb, Bool.not_true, Bool.false_eq_true, if_false, Sem.run_pure, Result.andThen_ok, List.all_cons, Bool.true_and]
      have := ih (fun j hj => h j (by simp [hj])) W
      simp only [Nat.mul_one] at this
      exact this
    · have hb : ((f i : Int) == (g i : Int)) = false := by simpa using e
      simp only [hb, Bool.not_false, if_true, Sem.run_pure, Result.andThen_ok, List.all_cons, Bool.false_and, Bool.false_eq_true, if_false]
theorem equalIn4 (d : Nat) (f g : Nat → Nat) (W : World) : (Op.equalIn (d + 2) 110 (.agg (col f)) (.agg (col g))).run Tryd.prog W = .ok (eq4 f g) W := by
  have hs : ∀ W, (sizeOf 5).run Tryd.prog W = .ok 1 W := by intro W; simp [go_sem]
  rw [Op.equalIn]
  simp only [Sem.run_bind, run_underlying Tryd.underlying110, Result.andThen_ok, Std.Legacy.Range.forIn_eq_forIn_range', hs]
  have e := loop4 d f g (List.range' 0 [:4].size) (by intro i hi; simp at hi; simpa using hi) W
  rw [e]
  have hr : List.range' 0 [:4].size = List.range 4 := by decide
  rw [hr]
  unfold eq4
  cases (List.range 4).all fun i => (f i : Int) == (g i : Int)
  · simp only [Result.andThen_ok]; rfl
  · simp only [Result.andThen_ok]; rfl
theorem equal4 (f g : Nat → Nat) (W : World) : (Op.equal 110 (.agg (col f)) (.agg (col g))).run Tryd.prog W = .ok (eq4 f g) W := equalIn4 9998 f g W
theorem eq4_true {f g : Nat → Nat} (h : ∀ i, i < 4 → f i = g i) : eq4 f g = true := by
  unfold eq4
  rw [List.all_eq_true]
  intro i hi
  simp [h i (List.mem_range.1 hi)]
theorem noGuard4 : Tryd.prog.eqGuardType Tryd.prog.depth 110 = false := by kernel_rfl
theorem exec_eql4 {o : Oper} {a : Act} {w : World} {x y : Operand} {f g : Nat → Nat} (ho : o.op = .binOp .eql 110 x y 110) (hx : a.eval x = .agg (col f)) (hy : a.eval y = .agg (col g)) :
    (execOp a.eval o).run Tryd.prog w = .ok (.value (.bool (eq4 f g))) w := by
  have hb : (binOp .eql 110 (.agg (col f)) (.agg (col g))).run Tryd.prog w = .ok (.bool (eq4 f g)) w := by
    unfold binOp
    simp only [Sem.run_bind, equal4, Result.andThen_ok, Sem.run_pure]
  unfold execOp
  simp only [ho, hx, hy, eqGuard, Sem.run_bind]
  rw [if_neg (by decide)]
  simp only [Sem.run_bind, run_program, Result.andThen_ok, noGuard4, Bool.not_false, if_true, Sem.run_pure, hb]
/-- Columns that agree are one. -/
theorem col_congr {f g : Nat → Nat} (h : ∀ i, i < 4 → f i = g i) : col f = col g := by
  unfold col
  rw [h 0 (by omega), h 1 (by omega), h 2 (by omega), h 3 (by omega)]
theorem exec_same4 {o : Oper} {a : Act} {w : World} {x y : Operand} {f : Nat → Nat} (ho : o.op = .binOp .eql 110 x y 110) (hx : a.eval x = .agg (col f)) (hy : a.eval y = .agg (col f)) :
    (execOp a.eval o).run Tryd.prog w = .ok (.value (.bool true)) w := by
  have h := exec_eql4 (w := w) ho hx hy
  rw [eq4_true (fun _ _ => rfl)] at h
  exact h
theorem exec_build4 {o : Oper} {a : Act} {w : World} {v0 v1 v2 v3 : Int} (ho : o.op = .build 110 #[(0, .const (.int .u8 v0)), (1, .const (.int .u8 v1)), (2, .const (.int .u8 v2)), (3, .const (.int .u8 v3))]) :
    (execOp a.eval o).run Tryd.prog w = .ok (.value (.agg #[.int .u8 v0, .int .u8 v1, .int .u8 v2, .int .u8 v3])) w := by
  unfold execOp
  simp only [ho]
  simp [go_sem]
end Go.Proofs.YtfhldpdnoaoohaaDoor.Gf8

namespace Go.Proofs.YtfhldpdnoaoohaaDoor.Gf8
open Go.RowKit

theorem zero4 : ∀ w, (zeroValue 110).run Tryd.prog w = .ok (.agg (col fun _ => 0)) w :=
  (zero_of_info (n := 4) (by kernel_rfl)).1
section
variable {o : Oper} {a : Act} {w : World}
theorem execIdx4 {x i : Operand} {g k : Nat} (ho : o.op = .indexAddr 110 x i) (hx : a.eval x = .pointer (some ⟨g, 0, none⟩)) (hi : a.eval i = .int .i64 (k : Int)) (hk : k < 4) : (execOp a.eval o).run Tryd.prog w = .ok (.value (.pointer (some ⟨g, k, none⟩))) w := by
  have h1 : (k : Int) < 4 := by omega
  unfold execOp
  simp only [ho, hx, hi]
  simp [go_sem, h1]
theorem execLd5 {x : Operand} {b f : Nat} {v : Value} (ho : o.op = .load 5 x) (hx : a.eval x = .pointer (some ⟨b, f, none⟩)) (hc : w.cell? ⟨b, f, none⟩ = some v) : (execOp a.eval o).run Tryd.prog w = .ok (.value v) w := by
  unfold execOp
  simp only [ho, hx]
  simp [go_sem, hc]
theorem execSt5 {x y : Operand} {b f : Nat} {v : Int} {u : Value} (ho : o.op = .store 5 x y) (hx : a.eval x = .pointer (some ⟨b, f, none⟩)) (hy : a.eval y = .int .u8 v) (hc : w.cell? ⟨b, f, none⟩ = some u) (hz : w.frozen? ⟨b, f, none⟩ = false) : (execOp a.eval o).run Tryd.prog w = .ok .skip (w.setCell ⟨b, f, none⟩ (.int .u8 v)) := by
  unfold execOp
  simp only [ho, hx, hy]
  simp [go_sem, hc, hz]
theorem execAlloc4 (ho : o.op = .alloc 110) : (execOp a.eval o).run Tryd.prog w = .ok (.value (.pointer (some ⟨w.heap.size, 0, none⟩))) (w.alloc (.cells (col fun _ => 0) 110)) := by
  have h := zero4
  unfold execOp
  simp only [ho]
  simp [go_sem, h]
end
end Go.Proofs.YtfhldpdnoaoohaaDoor.Gf8
