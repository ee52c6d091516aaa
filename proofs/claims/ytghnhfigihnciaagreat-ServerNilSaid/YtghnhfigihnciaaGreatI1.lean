import Derived.Test.YtghnhfigihnciaaGreatI0
namespace Go.Proofs.YtghnhfigihnciaaGreat.Aes
open Go.RowKit Gf8

/- == of arrays of bytes. -/
def eqB (n : Nat) (f g : Nat → Nat) : Bool := (List.range n).all fun i => (f i : Int) == (g i : Int)
theorem equalB8 (d : Nat) (x y : Int) (W : World) : (Op.equalIn (d + 1) 5 (.int .u8 x) (.int .u8 y)).run Tryz.prog W = .ok (x == y) W := by
  simp only [Op.equalIn, Sem.run_bind, run_underlying Tryz.underlying5, Result.andThen_ok]
  rfl
theorem partB {n : Nat} (f : Nat → Nat) (i : Nat) (h : i < n) (W : World) : (part 5 (bA n f) i).run Tryz.prog W = .ok (.int .u8 (f i)) W := by
  have h1 := bA_at n f h
  simp [go_sem, h1]
theorem loopB (n d : Nat) (f g : Nat → Nat) : ∀ (l : List Nat), (∀ i ∈ l, i < n) → ∀ W : World,
    Sem.run Tryz.prog (forIn l ((none, ()) : Option Bool × Unit) fun i _ => do
              let x ← part 5 (bA n f) (i * 1)
              let y ← part 5 (bA n g) (i * 1)
              let z ← Op.equalIn (d + 1) 5 x y
              if (!z) = true then pure (ForInStep.done (some false, ())) else pure (ForInStep.yield (none, ()))) W
      = .ok (if l.all (fun i => (f i : Int) == (g i : Int)) then (none, ()) else (some false, ())) W := by
  intro l
  induction l with
  | nil => intro _ W; simp
  | cons i l ih =>
    intro h W
    have hi : i < n := h i (by simp)
    simp only [List.forIn_cons, Sem.run_bind, Nat.mul_one, partB f i hi, partB g i hi, equalB8, Result.andThen_ok]
    by_cases e : (f i : Int) = (g i : Int)
    · have hb : ((f i : Int) == (g i : Int)) = true := by simp [e]
      simp only [hb, Bool.not_true, Bool.false_eq_true, if_false, Sem.run_pure, Result.andThen_ok, List.all_cons, Bool.true_and]
      have := ih (fun j hj => h j (by simp [hj])) W
      simp only [Nat.mul_one] at this
      exact this
    · have hb : ((f i : Int) == (g i : Int)) = false := by simpa using e
      simp only [hb, Bool.not_false, if_true, Sem.run_pure, Result.andThen_ok, List.all_cons, Bool.false_and, Bool.false_eq_true, if_false]
theorem equalIn16 (d : Nat) (f g : Nat → Nat) (W : World) : (Op.equalIn (d + 2) 74 (.agg (bA 16 f)) (.agg (bA 16 g))).run Tryz.prog W = .ok (eqB 16 f g) W := by
  have hs : ∀ W, (sizeOf 5).run Tryz.prog W = .ok 1 W := by intro W; simp [go_sem]
  rw [Op.equalIn]
  simp only [Sem.run_bind, run_underlying Tryz.underlying74, Result.andThen_ok, Std.Legacy.Range.forIn_eq_forIn_range', hs]
  have e := loopB 16 d f g (List.range' 0 [:16].size) (by intro i hi; simp at hi; simpa using hi) W
  rw [e]
  have hr : List.range' 0 [:16].size = List.range 16 := by decide
  rw [hr]
  unfold eqB
  cases (List.range 16).all fun i => (f i : Int) == (g i : Int)
  · simp only [Result.andThen_ok]; rfl
  · simp only [Result.andThen_ok]; rfl
theorem equal16 (f g : Nat → Nat) (W : World) : (Op.equal 74 (.agg (bA 16 f)) (.agg (bA 16 g))).run Tryz.prog W = .ok (eqB 16 f g) W := equalIn16 9998 f g W
theorem eqB_true {n : Nat} {f g : Nat → Nat} (h : ∀ i, i < n → f i = g i) : eqB n f g = true := by
  unfold eqB
  rw [List.all_eq_true]
  intro i hi
  simp [h i (List.mem_range.1 hi)]
theorem noGuard16 : Tryz.prog.eqGuardType Tryz.prog.depth 74 = false := by kernel_rfl
theorem exec_neq16 {o : Oper} {a : Act} {w : World} {x y : Operand} {f g : Nat → Nat} (ho : o.op = .binOp .neq 74 x y 74) (hx : a.eval x = .agg (bA 16 f)) (hy : a.eval y = .agg (bA 16 g)) :
    (execOp a.eval o).run Tryz.prog w = .ok (.value (.bool (!eqB 16 f g))) w := by
  have hb : (binOp .neq 74 (.agg (bA 16 f)) (.agg (bA 16 g))).run Tryz.prog w = .ok (.bool (!eqB 16 f g)) w := by
    unfold binOp
    simp only [Sem.run_bind, equal16, Result.andThen_ok, Sem.run_pure]
  unfold execOp
  simp only [ho, hx, hy, eqGuard, Sem.run_bind]
  rw [if_neg (by decide)]
  simp only [Sem.run_bind, run_program, Result.andThen_ok, noGuard16, Bool.not_false, if_true, Sem.run_pure, hb]
end Go.Proofs.YtghnhfigihnciaaGreat.Aes
