import Derived.Test.YtjjegmflllpknaaX7b
import Derived.ProofKit
import Derived.OpenShut
import Derived.ChangeOld
import Derived.SizedLaws
import Derived.Deep.DeepHandedRow
namespace Go.Proofs.Ytjjegmflllpknaa.By8
open Go.ChangeShapes Go.WideShapes Go.ChangeAt Go.RowKit
/- A []byte as an argument. -/
theorem laidOut:laidOutB Try.prog=true:=by kernel_rfl
end Go.Proofs.Ytjjegmflllpknaa.By8
