import Derived.Test.YtnjmcknanlbpdaaGreatDoorB7f
namespace Go.Proofs.YtnjmcknanlbpdaaGreatDoor.Rou
open Go.ChangeShapes Go.WideShapes Go.ChangeAt Go.RowKit Gf8 Aes By8 Cel Oni
/- A Chain as an argument. -/

def hC (kv nv pv : Value) : Array Value := #[kv, nv, pv]
end Go.Proofs.YtnjmcknanlbpdaaGreatDoor.Rou
