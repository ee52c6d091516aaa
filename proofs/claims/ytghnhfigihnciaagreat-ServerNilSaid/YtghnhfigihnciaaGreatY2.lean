import Derived.Test.YtghnhfigihnciaaGreatY0
import Derived.ProofKit
import Derived.OpenShut
import Derived.ChangeOld
import Derived.SizedLaws
import Derived.Deep.DeepHandedRow
namespace Go.Proofs.YtghnhfigihnciaaGreat.By8
open Go.ChangeShapes Go.WideShapes Go.ChangeAt Go.RowKit
/- A []byte as an argument. -/

theorem laidOut : laidOutB Tryz.prog = true := by kernel_rfl
end Go.Proofs.YtghnhfigihnciaaGreat.By8
