import Derived.Test.YtjoffdaknacbpaaC9a
namespace Go.Proofs.Ytjoffdaknacbpaa.Win
/- Windows as plain data: what Check, Open and Add answer; right stays right, in pieces. Names nothing of a program. -/

abbrev opA (ep s : Int) : Prop := 1 ≤ s ∧ s ≤ 8 ∧ 0 ≤ ep ∧ ep ≤ 4611686018427387904
end Go.Proofs.Ytjoffdaknacbpaa.Win
