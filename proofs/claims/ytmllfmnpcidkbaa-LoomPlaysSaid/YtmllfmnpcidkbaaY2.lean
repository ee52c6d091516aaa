import Derived.Test.YtmllfmnpcidkbaaX7b
import Derived.ProofKit
import Derived.OpenShut
import Derived.ChangeOld
import Derived.SizedLaws
import Derived.Deep.DeepHandedRow
namespace Go.Proofs.Ytmllfmnpcidkbaa.By8
open Go.ChangeShapes Go.WideShapes Go.ChangeAt Go.RowKit
/- A []byte as an argument. -/

theorem laidOut : laidOutB Try.prog = true := by kernel_rfl
end Go.Proofs.Ytmllfmnpcidkbaa.By8
