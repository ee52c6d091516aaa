import Derived.Test.YtcibogmghagpoaaV9k
namespace Go.Proofs.Ytcibogmghagpoaa.Tap
open Go.RowKit Gf8 Aes By8 Cel Cf
/- The program's Byte and Take. Written by tools/mkV9l.py. -/

theorem on9 {W X : World} {g : Nat} {c : Obj} (h : W.heap[g]? = some c) (b : Below W.heap.size W X) : X.heap[g]? = some c := by rw [b.block _ (Array.getElem?_eq_some_iff.1 h).1]; exact h
section
variable {o : Oper} {a : Act} {w : World}
theorem execEqN {x y : Operand} {p q : Nat} (ho : o.op = .binOp .eql 3 x y 3) (hx : a.eval x = .int .i64 (p : Int)) (hy : a.eval y = .int .i64 (q : Int)) : (execOp a.eval o).run Try.prog w = .ok (.value (.bool (decide (p = q)))) w := by
  unfold execOp
  simp only [ho, hx, hy]
  by_cases h : p = q
  · subst h
    simp [go_sem]
  · have h2 : ¬ (p : Int) = q := by omega
    simp [go_sem, h, h2]
theorem execEqE {x y : Operand} {p q : Nat} (ho : o.op = .binOp .eql 31 x y 31) (hx : a.eval x = .int .i64 (p : Int)) (hy : a.eval y = .int .i64 (q : Int)) : (execOp a.eval o).run Try.prog w = .ok (.value (.bool (decide (p = q)))) w := by
  unfold execOp
  simp only [ho, hx, hy]
  by_cases h : p = q
  · subst h
    simp [go_sem]
  · have h2 : ¬ (p : Int) = q := by omega
    simp [go_sem, h, h2]
theorem execNeN {x y : Operand} {p q : Nat} (ho : o.op = .binOp .neq 3 x y 3) (hx : a.eval x = .int .i64 (p : Int)) (hy : a.eval y = .int .i64 (q : Int)) : (execOp a.eval o).run Try.prog w = .ok (.value (.bool (decide (p ≠ q)))) w := by
  unfold execOp
  simp only [ho, hx, hy]
  by_cases h : p = q
  · subst h
    simp [go_sem]
  · have h2 : ¬ (p : Int) = q := by omega
    simp [go_sem, h, h2]
theorem execNeE {x y : Operand} {p q : Nat} (ho : o.op = .binOp .neq 31 x y 31) (hx : a.eval x = .int .i64 (p : Int)) (hy : a.eval y = .int .i64 (q : Int)) : (execOp a.eval o).run Try.prog w = .ok (.value (.bool (decide (p ≠ q)))) w := by
  unfold execOp
  simp only [ho, hx, hy]
  by_cases h : p = q
  · subst h
    simp [go_sem]
  · have h2 : ¬ (p : Int) = q := by omega
    simp [go_sem, h, h2]
theorem execGtN {x y : Operand} {p q : Nat} (ho : o.op = .binOp .gtr 3 x y 3) (hx : a.eval x = .int .i64 (p : Int)) (hy : a.eval y = .int .i64 (q : Int)) : (execOp a.eval o).run Try.prog w = .ok (.value (.bool (decide (q < p)))) w := by
  unfold execOp
  simp only [ho, hx, hy]
  by_cases h : q < p
  · simp [go_sem, h]
  · simp [go_sem, h]
end
theorem OwnM.set {X : World} {B n g : Nat} {v : Value} {q : Nat → Nat} {cur c : Array Value} {t : TypeId} (h : OwnM X B v n q) (hg : X.heap[g]? = some (.cells cur t)) (ht : t ≠ 5) : OwnM (X.setRow g c) B v n q := by
  obtain ⟨g1, cap, cu, fz, e, hB, h1, hr⟩ := h
  refine ⟨g1, cap, cu, fz, e, hB, ?_, hr⟩
  rw [setRow_other _ _ _ _ (fun q => ?_)]
  · exact h1
  · subst q
    rw [h1] at hg
    injection hg with hg
    injection hg with _ hg _
    exact ht hg.symm
/-- What Take answers: nothing, or a row of its own. -/
def TkA (W : World) (B : Nat) (v : Value) (k : Nat) (q : Nat → Nat) : Prop := (v = .slice none 0 0 ∧ k = 0) ∨ OwnM W B v k q
theorem TkA.slice {W : World} {B n : Nat} {v : Value} {p : Nat → Nat} (h : TkA W B v n p) : SliceN W v n p := by
  rcases h with ⟨rfl, rfl⟩ | h
  · exact ⟨⟨_, _, rfl, Nat.le_refl _, by omega, fun h => by omega⟩, fun j hj => by omega⟩
  · exact h.slice
theorem TkA.on {W W' : World} {B n : Nat} {v : Value} {p : Nat → Nat} (h : TkA W B v n p) (hb : Below W.heap.size W W') : TkA W' B v n p := h.imp id (·.on hb)
theorem TkA.base {W : World} {B C n : Nat} {v : Value} {p : Nat → Nat} (h : TkA W C v n p) (hB : B ≤ C) : TkA W B v n p := h.imp id (·.base hB)
theorem TkA.set {X : World} {B n g : Nat} {v : Value} {q : Nat → Nat} {cur c : Array Value} {t : TypeId} (h : TkA X B v n q) (hg : X.heap[g]? = some (.cells cur t)) (ht : t ≠ 5) : TkA (X.setRow g c) B v n q := h.imp id (·.set hg ht)
end Go.Proofs.Ytcibogmghagpoaa.Tap
