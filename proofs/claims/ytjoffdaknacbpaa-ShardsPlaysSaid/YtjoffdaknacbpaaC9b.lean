import Derived.Test.YtjoffdaknacbpaaC9a
namespace Go.Proofs.Ytjoffdaknacbpaa.Win
/- Windows as plain data: what Check, Open and Add answer; right stays right, in pieces. Names nothing of a program. -/

abbrev Ep := Int × List Nat
def wAll (es : List Ep) : List Nat := es.flatMap (·.2)
theorem all_cons (x : Ep) (es : List Ep) : wAll (x :: es) = x.2 ++ wAll es := rfl
abbrev opA (ep s : Int) : Prop := 1 ≤ s ∧ s ≤ 8 ∧ 0 ≤ ep ∧ ep ≤ 4611686018427387904
def putE : List Ep → Int → List Nat → List Ep
  | [], e, f => [(e, f)]
  | x :: r, e, f => if e < x.1 then (e, f) :: x :: r else if x.1 = e then (x.1, srt (x.2 ++ f)) :: r else x :: putE r e f
def putW (es : List Ep) (e : Int) (f : List Nat) : List Ep := if f = [] then es else putE es e f
end Go.Proofs.Ytjoffdaknacbpaa.Win
