import Derived.Test.YtghnhfigihnciaaGreatC9a
namespace Go.Proofs.YtghnhfigihnciaaGreat.Win
/- Windows as plain data: what Check, Open and Add answer; right stays right, in pieces. Names nothing of a program. -/

abbrev Ep := Int × List Nat
abbrev Wn := Int × List Ep
def wAll (es : List Ep) : List Nat := es.flatMap (·.2)
def wLen (es : List Ep) : Nat := (wAll es).length
theorem all_cons (x : Ep) (es : List Ep) : wAll (x :: es) = x.2 ++ wAll es := rfl
/-- An epoch of a right window. -/
abbrev OkE (n s : Int) (x : Ep) : Prop := 0 ≤ x.1 ∧ x.1 ≤ n ∧ n - s < x.1 ∧ x.2 ≠ [] ∧ x.2.Pairwise (· < ·)
abbrev Rise (es : List Ep) : Prop := es.Pairwise (fun a b => a.1 < b.1)
/-- A right window. -/
abbrev Rgt (w : Wn) (s r : Int) : Prop := 1 ≤ s ∧ s ≤ 8 ∧ 0 ≤ r ∧ r ≤ 4096 ∧ 0 ≤ w.1 ∧ w.1 ≤ 4611686018427387904 ∧ ((wLen w.2 : Nat) : Int) ≤ r ∧ (∀ x ∈ w.2, OkE w.1 s x) ∧ Rise w.2 ∧ (wAll w.2).Nodup
def wChk (w : Wn) (s r : Int) : Nat := if Rgt w s r then 0 else 2
abbrev opA (ep s : Int) : Prop := 1 ≤ s ∧ s ≤ 8 ∧ 0 ≤ ep ∧ ep ≤ 4611686018427387904
abbrev opB (w : Wn) (ep s : Int) : Prop := ep + s ≤ w.1 ∨ w.1 < ep - 1024
def opW (w : Wn) (ep s : Int) : Wn := (max w.1 ep, w.2.filter fun x => decide (max w.1 ep - s < x.1))
def wOpen (w : Wn) (ep s : Int) : Wn × Nat := if opA ep s then (if opB w ep s then ((0, []), 161) else (opW w ep s, 0)) else ((0, []), 2)
/-- The new tags. -/
def frs (es : List Ep) (tags : List Nat) : List Nat := srt (tags.filter fun x => decide (x ∉ wAll es))
def putE : List Ep → Int → List Nat → List Ep
  | [], e, f => [(e, f)]
  | x :: r, e, f => if e < x.1 then (e, f) :: x :: r else if x.1 = e then (x.1, srt (x.2 ++ f)) :: r else x :: putE r e f
def putW (es : List Ep) (e : Int) (f : List Nat) : List Ep := if f = [] then es else putE es e f
abbrev adA (w : Wn) (r : Int) : Prop := 0 ≤ r ∧ r ≤ 4096 ∧ Rgt w 8 4096
abbrev adB (w : Wn) (ep : Int) : Prop := 0 ≤ ep ∧ ep ≤ w.1 ∧ w.1 - 8 < ep
abbrev adC (w : Wn) (tags : List Nat) (r : Int) : Prop := ((wLen w.2 + (frs w.2 tags).length : Nat) : Int) ≤ r
def wAdd (w : Wn) (ep : Int) (tags : List Nat) (r : Int) : Wn × Nat :=
  if adA w r then (if adB w ep then (if adC w tags r then ((w.1, putW w.2 ep (frs w.2 tags)), 0) else ((0, []), 160)) else ((0, []), 161)) else ((0, []), 2)
end Go.Proofs.YtghnhfigihnciaaGreat.Win
