import Derived.Test.YtppaponnlmjglaaC9a
namespace Go.Proofs.Ytppaponnlmjglaa.Win
/- Windows as plain data: what Check, Open and Add answer; right stays right, in pieces. Names nothing of a program. -/

abbrev Ep := Int × List Nat
abbrev Wn := Int × List Ep
def wAll (es : List Ep) : List Nat := es.flatMap (·.2)
def wLen (es : List Ep) : Nat := (wAll es).length
theorem all_cons (x : Ep) (es : List Ep) : wAll (x :: es) = x.2 ++ wAll es := rfl
theorem len_cons (x : Ep) (es : List Ep) : wLen (x :: es) = x.2.length + wLen es := by
  unfold wLen
  rw [all_cons, List.length_append]
/-- An epoch of a right window. -/
abbrev OkE (n s : Int) (x : Ep) : Prop := 0 ≤ x.1 ∧ x.1 ≤ n ∧ n - s < x.1 ∧ x.2 ≠ [] ∧ x.2.Pairwise (· < ·)
abbrev Rise (es : List Ep) : Prop := es.Pairwise (fun a b => a.1 < b.1)
/-- A right window. -/
abbrev Rgt (w : Wn) (s r : Int) : Prop := 1 ≤ s ∧ s ≤ 8 ∧ 0 ≤ r ∧ r ≤ 4096 ∧ 0 ≤ w.1 ∧ w.1 ≤ 4611686018427387904 ∧ ((wLen w.2 : Nat) : Int) ≤ r ∧ (∀ x ∈ w.2, OkE w.1 s x) ∧ Rise w.2 ∧ (wAll w.2).Nodup
def wChk (w : Wn) (s r : Int) : Nat := if Rgt w s r then 0 else 2
abbrev opA (ep s : Int) : Prop := 1 ≤ s ∧ s ≤ 8 ∧ 0 ≤ ep ∧ ep ≤ 4611686018427387904
def putE : List Ep → Int → List Nat → List Ep
  | [], e, f => [(e, f)]
  | x :: r, e, f => if e < x.1 then (e, f) :: x :: r else if x.1 = e then (x.1, srt (x.2 ++ f)) :: r else x :: putE r e f
def putW (es : List Ep) (e : Int) (f : List Nat) : List Ep := if f = [] then es else putE es e f
end Go.Proofs.Ytppaponnlmjglaa.Win
