import Derived.Test.YtcibogmghagpoaaK1
namespace Go.Proofs.Ytcibogmghagpoaa
open Go.RowKit

theorem put_size (a : Act) (d : Option Nat) (v : Value) : (a.put d v).tmps.size = a.tmps.size := by cases d <;> simp [Act.put]
theorem put_other (a : Act) {d e : Nat} (v : Value) (h : d ≠ e) : (a.put (some d) v).eval (.tmp e) = a.eval (.tmp e) := by
  simp only [Act.put, Act.eval, Array.getD_eq_getD_getElem?, Array.getElem?_setIfInBounds]
  rw [if_neg h]
theorem put_same (a : Act) {d : Nat} (v : Value) (h : d < a.tmps.size) : (a.put (some d) v).eval (.tmp d) = v := by
  simp [Act.put, Act.eval, h]
/-- What a guard's operation yielded. -/
theorem yieldedAt {ops : Array Oper} {a : Act} {k d : Nat} {o : Oper} {b : Bool} (ho : ops[k]? = some o) (hd : o.dst = some d) (hv : a.eval (.tmp d) = .bool b) : yielded ops a.tmps k = some b := by
  have h : a.tmps[d]? = some (.bool b) := by
    simp only [Act.eval, Array.getD_eq_getD_getElem?] at hv
    cases hq : a.tmps[d]? with
    | none => rw [hq] at hv; cases hv
    | some v => rw [hq] at hv; simp at hv; rw [hv]
  simp [yielded, ho, hd, h]
end Go.Proofs.Ytcibogmghagpoaa
