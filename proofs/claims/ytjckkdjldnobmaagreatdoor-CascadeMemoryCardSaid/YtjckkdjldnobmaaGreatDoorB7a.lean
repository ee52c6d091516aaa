import Derived.Test.YtjckkdjldnobmaaGreatDoorP3
namespace Go.Proofs.YtjckkdjldnobmaaGreatDoor.Rou
open Go.RowKit
/- The key of awake: by tables. -/
def hopF:Nat->Nat:=fun j=>[99,104,117,114,110,32,104,111,112].getD j 0
end Go.Proofs.YtjckkdjldnobmaaGreatDoor.Rou
