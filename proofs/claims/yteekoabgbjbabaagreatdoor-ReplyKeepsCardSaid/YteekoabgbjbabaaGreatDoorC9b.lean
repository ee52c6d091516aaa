import Derived.Test.YteekoabgbjbabaaGreatDoorRows
namespace Go.Proofs.YteekoabgbjbabaaGreatDoor.Win
/- Lists in order, each number once; tags as numbers. Names nothing of a program. -/

def Inc (l : List Nat) : Prop := l.Pairwise (· < ·)
theorem Inc.nil : Inc [] := List.Pairwise.nil
/-- A tag as a number. -/
def tv (b : Nat → Nat) : Nat → Nat
  | 0 => 0
  | k + 1 => tv b k * 256 + b k
end Go.Proofs.YteekoabgbjbabaaGreatDoor.Win

namespace Go.Proofs.YteekoabgbjbabaaGreatDoor.Win
/- Windows as plain data: what Check, Open and Add answer; right stays right, in pieces. Names nothing of a program. -/

abbrev Ep := Int × List Nat
def wAll (es : List Ep) : List Nat := es.flatMap (·.2)
theorem all_cons (x : Ep) (es : List Ep) : wAll (x :: es) = x.2 ++ wAll es := rfl
end Go.Proofs.YteekoabgbjbabaaGreatDoor.Win
