import Derived.Test.YtnfokemikcigbaaY0
import Derived.ProofKit
import Derived.OpenShut
import Derived.ChangeOld
import Derived.SizedLaws
import Derived.Deep.DeepHandedRow
namespace Go.Proofs.Ytnfokemikcigbaa.By8
open Go.ChangeShapes Go.WideShapes Go.ChangeAt Go.RowKit
/- A []byte as an argument. -/

theorem laidOut : laidOutB Try.prog = true := by kernel_rfl
end Go.Proofs.Ytnfokemikcigbaa.By8
