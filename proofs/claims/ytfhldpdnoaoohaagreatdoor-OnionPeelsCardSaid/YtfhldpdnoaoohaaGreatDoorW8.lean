import Derived.Test.YtfhldpdnoaoohaaGreatDoorZ1
namespace Go.Proofs.YtfhldpdnoaoohaaGreatDoor.Aes
open Go.RowKit Gf8
/- The program's block: Decrypt. -/

end Go.Proofs.YtfhldpdnoaoohaaGreatDoor.Aes
