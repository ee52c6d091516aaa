import Derived.Test.YtealknodagdjaaaK2
import Derived.Test.YtealknodagdjaaaS6
import Derived.Test.YtealknodagdjaaaS5
namespace Go.Proofs.Ytealknodagdjaaa.Gf8
open Go.RowKit

def eq4 (f g : Nat → Nat) : Bool := (List.range 4).all fun i => (f i : Int) == (g i : Int)
theorem equalU8 (d : Nat) (x y : Int) (W : World) : (Op.equalIn (d + 1) 5 (.int .u8 x) (.int .u8 y)).run Try.prog W = .ok (x == y) W := by
  simp only [Op.equalIn, Sem.run_bind, run_underlying Try.underlying5, Result.andThen_ok]
  rfl
theorem part4 (f : Nat → Nat) (i : Nat) (h : i < 4) (W : World) : (part 5 (col f) i).run Try.prog W = .ok (.int .u8 (f i)) W := by
  have h1 := col_at f h
  simp [go_sem, h1]
theorem loop4 (d : Nat) (f g : Nat → Nat) : ∀ (l : List Nat), (∀ i ∈ l, i < 4) → ∀ W : World,
    Sem.run Try.prog (forIn l ((none, ()) : Option Bool × Unit) fun i _ => do
              let x ← part 5 (col f) (i * 1)
              let y ← part 5 (col g) (i * 1)
              let z ← Op.equalIn (d + 1) 5 x y
              if (!z) = true then pure (ForInStep.done (some false, ())) else pure (ForInStep.yield (none, ()))) W
      = .ok (if l.all (fun i => (f i : Int) == (g i : Int)) then (none, ()) else (some false, ())) W := by
  intro l
  induction l with
  | nil => intro _ W; simp
  | cons i l ih =>
    intro h W
    have hi : i < 4 := h i (by simp)
    simp only [List.forIn_cons, Sem.run_bind, Nat.mul_one, part4 f i hi, part4 g i hi, equalU8, Result.andThen_ok]
    by_cases e : (f i : Int) = (g i : Int)
    · have hb : ((f i : Int) == (g i : Int)) = true := by simp [e]
      simp only [hb, Bool.not_true, Bool.false_eq_true, if_false, Sem.run_pure, Result.andThen_ok, List.all_cons, Bool.true_and]
      have := ih (fun j hj => h j (by simp [hj])) W
      simp only [Nat.mul_one] at this
      exact this
    · have hb : ((f i : Int) == (g i : Int)) = false := by simpa using e
      simp only [hb, Bool.not_false, if_true, Sem.run_pure, Result.andThen_ok, List.all_cons, Bool.false_and, Bool.false_eq_true, if_false]
theorem equalIn4 (d : Nat) (f g : Nat → Nat) (W : World) : (Op.equalIn (d + 2) 62 (.agg (col f)) (.agg (col g))).run Try.prog W = .ok (eq4 f g) W := by
  have hs : ∀ W, (sizeOf 5).run Try.prog W = .ok 1 W := by intro W; simp [go_sem]
  rw [Op.equalIn]
  simp only [Sem.run_bind, run_underlying Try.underlying62, Result.andThen_ok, Std.Legacy.Range.forIn_eq_forIn_range', hs]
  have e := loop4 d f g (List.range' 0 [:4].size) (by intro i hi; simp at hi; simpa using hi) W
  rw [e]
  have hr : List.range' 0 [:4].size = List.range 4 := by decide
  rw [hr]
  unfold eq4
  cases (List.range 4).all fun i => (f i : Int) == (g i : Int)
  · simp only [Result.andThen_ok]; rfl
  · simp only [Result.andThen_ok]; rfl
theorem equal4 (f g : Nat → Nat) (W : World) : (Op.equal 62 (.agg (col f)) (.agg (col g))).run Try.prog W = .ok (eq4 f g) W := equalIn4 9998 f g W
theorem eq4_true {f g : Nat → Nat} (h : ∀ i, i < 4 → f i = g i) : eq4 f g = true := by
  unfold eq4
  rw [List.all_eq_true]
  intro i hi
  simp [h i (List.mem_range.1 hi)]
theorem noGuard4 : Try.prog.eqGuardType Try.prog.depth 62 = false := by kernel_rfl
theorem exec_eql4 {o : Oper} {a : Act} {w : World} {x y : Operand} {f g : Nat → Nat} (ho : o.op = .binOp .eql 62 x y 62) (hx : a.eval x = .agg (col f)) (hy : a.eval y = .agg (col g)) :
    (execOp a.eval o).run Try.prog w = .ok (.value (.bool (eq4 f g))) w := by
  have hb : (binOp .eql 62 (.agg (col f)) (.agg (col g))).run Try.prog w = .ok (.bool (eq4 f g)) w := by
    unfold binOp
    simp only [Sem.run_bind, equal4, Result.andThen_ok, Sem.run_pure]
  unfold execOp
  simp only [ho, hx, hy, eqGuard, Sem.run_bind]
  rw [if_neg (by decide)]
  simp only [Sem.run_bind, run_program, Result.andThen_ok, noGuard4, Bool.not_false, if_true, Sem.run_pure, hb]
/-- Columns that agree are one. -/
theorem col_congr {f g : Nat → Nat} (h : ∀ i, i < 4 → f i = g i) : col f = col g := by
  unfold col
  rw [h 0 (by omega), h 1 (by omega), h 2 (by omega), h 3 (by omega)]
theorem exec_same4 {o : Oper} {a : Act} {w : World} {x y : Operand} {f : Nat → Nat} (ho : o.op = .binOp .eql 62 x y 62) (hx : a.eval x = .agg (col f)) (hy : a.eval y = .agg (col f)) :
    (execOp a.eval o).run Try.prog w = .ok (.value (.bool true)) w := by
  have h := exec_eql4 (w := w) ho hx hy
  rw [eq4_true (fun _ _ => rfl)] at h
  exact h
theorem exec_build4 {o : Oper} {a : Act} {w : World} {v0 v1 v2 v3 : Int} (ho : o.op = .build 62 #[(0, .const (.int .u8 v0)), (1, .const (.int .u8 v1)), (2, .const (.int .u8 v2)), (3, .const (.int .u8 v3))]) :
    (execOp a.eval o).run Try.prog w = .ok (.value (.agg #[.int .u8 v0, .int .u8 v1, .int .u8 v2, .int .u8 v3])) w := by
  unfold execOp
  simp only [ho]
  simp [go_sem]
end Go.Proofs.Ytealknodagdjaaa.Gf8
