import Derived.Test.YtedjoakpbknflaaDoorB3
import Derived.Lib.SlBytesConst
namespace Go.Proofs.YtedjoakpbknflaaDoor
open Go.RowKit

def eq32 (f g : Nat → Int) : Bool := (List.range 32).all fun i => f i == g i
theorem equalU8 (d : Nat) (x y : Int) (W : World) : (Op.equalIn (d + 1) 5 (.int .u8 x) (.int .u8 y)).run Tryd.prog W = .ok (x == y) W := by
  simp only [Op.equalIn, Sem.run_bind, run_underlying Tryd.underlying5, Result.andThen_ok]
  rfl
theorem part5 (f : Nat → Int) (i : Nat) (h : i < 32) (W : World) : (part 5 (tab8 32 f) i).run Tryd.prog W = .ok (.int .u8 (f i)) W := by
  have h1 := tab8_get 32 f i h
  simp [go_sem, h1]
theorem loop28 (d : Nat) (f g : Nat → Int) : ∀ (l : List Nat), (∀ i ∈ l, i < 32) → ∀ W : World,
    Sem.run Tryd.prog (forIn l ((none, ()) : Option Bool × Unit) fun i _ => do
              let x ← part 5 (tab8 32 f) (i * 1)
              let y ← part 5 (tab8 32 g) (i * 1)
              let z ← Op.equalIn (d + 1) 5 x y
              if (!z) = true then pure (ForInStep.done (some false, ())) else pure (ForInStep.yield (none, ()))) W
      = .ok (if l.all (fun i => f i == g i) then (none, ()) else (some false, ())) W := by
  intro l
  induction l with
  | nil => intro _ W; simp
  | cons i l ih =>
    intro h W
    have hi : i < 32 := h i (by simp)
    simp only [List.forIn_cons, Sem.run_bind, Nat.mul_one, part5 f i hi, part5 g i hi, equalU8, Result.andThen_ok]
    by_cases e : f i = g i
    · have hb : (f i == g i) = true := by simp [e]
      simp only [hb, Bool.not_true, Bool.false_eq_true, if_false, Sem.run_pure, Result.andThen_ok, List.all_cons, Bool.true_and]
      have := ih (fun j hj => h j (by simp [hj])) W
      simp only [Nat.mul_one] at this
      exact this
    · have hb : (f i == g i) = false := by simp [e]
      simp only [hb, Bool.not_false, if_true, Sem.run_pure, Result.andThen_ok, List.all_cons, Bool.false_and, Bool.false_eq_true, if_false]
theorem equalIn28 (d : Nat) (f g : Nat → Int) (W : World) : (Op.equalIn (d + 2) 28 (.agg (tab8 32 f)) (.agg (tab8 32 g))).run Tryd.prog W = .ok (eq32 f g) W := by
  have hs : ∀ W, (sizeOf 5).run Tryd.prog W = .ok 1 W := by intro W; simp [go_sem]
  rw [Op.equalIn]
  simp only [Sem.run_bind, run_underlying Tryd.underlying28, Result.andThen_ok, Std.Legacy.Range.forIn_eq_forIn_range', hs]
  have e := loop28 d f g (List.range' 0 [:32].size) (by intro i hi; simp at hi; simpa using hi) W
  rw [e]
  have hr : List.range' 0 [:32].size = List.range 32 := by decide
  rw [hr]
  unfold eq32
  cases (List.range 32).all fun i => f i == g i
  · simp only [Result.andThen_ok]; rfl
  · simp only [Result.andThen_ok]; rfl
theorem equal28 (f g : Nat → Int) (W : World) : (Op.equal 28 (.agg (tab8 32 f)) (.agg (tab8 32 g))).run Tryd.prog W = .ok (eq32 f g) W := equalIn28 9998 f g W
theorem eq32_true {f g : Nat → Int} (h : ∀ i, i < 32 → f i = g i) : eq32 f g = true := by
  unfold eq32
  rw [List.all_eq_true]
  intro i hi
  simp [h i (List.mem_range.1 hi)]
theorem eq32_self (f : Nat → Int) : eq32 f f = true := eq32_true fun _ _ => rfl
theorem noGuard28 : Tryd.prog.eqGuardType Tryd.prog.depth 28 = false := by kernel_rfl
theorem exec_eql28 {o : Oper} {a : Act} {w : World} {x y : Operand} {f g : Nat → Int} (ho : o.op = .binOp .eql 28 x y 28) (hx : a.eval x = .agg (tab8 32 f)) (hy : a.eval y = .agg (tab8 32 g)) :
    (execOp a.eval o).run Tryd.prog w = .ok (.value (.bool (eq32 f g))) w := by
  have hb : (binOp .eql 28 (.agg (tab8 32 f)) (.agg (tab8 32 g))).run Tryd.prog w = .ok (.bool (eq32 f g)) w := by
    unfold binOp
    simp only [Sem.run_bind, equal28, Result.andThen_ok, Sem.run_pure]
  unfold execOp
  simp only [ho, hx, hy, eqGuard, Sem.run_bind]
  rw [if_neg (by decide)]
  simp only [Sem.run_bind, run_program, Result.andThen_ok, noGuard28, Bool.not_false, if_true, Sem.run_pure, hb]
theorem exec_neq28 {o : Oper} {a : Act} {w : World} {x y : Operand} {f g : Nat → Int} (ho : o.op = .binOp .neq 28 x y 28) (hx : a.eval x = .agg (tab8 32 f)) (hy : a.eval y = .agg (tab8 32 g)) :
    (execOp a.eval o).run Tryd.prog w = .ok (.value (.bool (!eq32 f g))) w := by
  have hb : (binOp .neq 28 (.agg (tab8 32 f)) (.agg (tab8 32 g))).run Tryd.prog w = .ok (.bool (!eq32 f g)) w := by
    unfold binOp
    simp only [Sem.run_bind, equal28, Result.andThen_ok, Sem.run_pure]
  unfold execOp
  simp only [ho, hx, hy, eqGuard, Sem.run_bind]
  rw [if_neg (by decide)]
  simp only [Sem.run_bind, run_program, Result.andThen_ok, noGuard28, Bool.not_false, if_true, Sem.run_pure, hb]
section
variable {ops : Array Oper} {rest : List Oper} {o : Oper} {a : Act} {w : World} {Q : Exit → Act → World → Prop}
theorem wpList_load_row_w {P : Program} (hw : Region.wanted o (yielded ops a.tmps) = true) (ty : TypeId) (x : Operand) (ho : o.op = .load ty x)
    (g : Nat) (hx : a.eval x = .pointer (some ⟨g, 0, none⟩)) (t : TypeId) (cs : Array Value) (fr : Nat × Nat) (d : TypeDesc) (hg : w.heap[g]? = some (.cells cs t fr))
    (hu : P.underlying ty = some d) (hd : (match d with | .struct _ | .array _ _ => true | _ => false) = true) (hi : (P.info? ty).map (·.size) = some cs.size)
    (h : wpList P ops Q rest (a.put o.dst (.agg cs)) w) : wpList P ops Q (o :: rest) a w :=
  BigFrame.wpList_want hw fun _ hK => wp_load_row ty x ho g hx t cs fr d hg hu hd hi (hK _ _ h)
theorem wpList_eql28_w {f g : Nat → Int} (hw : Region.wanted o (yielded ops a.tmps) = true) (x y : Operand) (ho : o.op = .binOp .eql 28 x y 28) (hx : a.eval x = .agg (tab8 32 f)) (hy : a.eval y = .agg (tab8 32 g))
    (h : wpList Tryd.prog ops Q rest (a.put o.dst (.bool (eq32 f g))) w) : wpList Tryd.prog ops Q (o :: rest) a w :=
  BigFrame.wpList_want hw fun K hK => by unfold Oper.wp; rw [exec_eql28 ho hx hy]; exact hK _ _ h
theorem wpList_neq28_w {f g : Nat → Int} (hw : Region.wanted o (yielded ops a.tmps) = true) (x y : Operand) (ho : o.op = .binOp .neq 28 x y 28) (hx : a.eval x = .agg (tab8 32 f)) (hy : a.eval y = .agg (tab8 32 g))
    (h : wpList Tryd.prog ops Q rest (a.put o.dst (.bool (!eq32 f g))) w) : wpList Tryd.prog ops Q (o :: rest) a w :=
  BigFrame.wpList_want hw fun K hK => by unfold Oper.wp; rw [exec_neq28 ho hx hy]; exact hK _ _ h
theorem isEql {P : Program} (x y : Operand) (_ : o.op = .binOp .eql 28 x y 28) (h : wpList P ops Q (o :: rest) a w) : wpList P ops Q (o :: rest) a w := h
theorem isNeq {P : Program} (x y : Operand) (_ : o.op = .binOp .neq 28 x y 28) (h : wpList P ops Q (o :: rest) a w) : wpList P ops Q (o :: rest) a w := h
end
end Go.Proofs.YtedjoakpbknflaaDoor
