import Derived.Test.YthmlfglllhmimaaGreatDoorX5c
import Derived.Test.YthmlfglllhmimaaGreatDoorC6
import Derived.Test.YthmlfglllhmimaaGreatDoorZ1
import Derived.Test.YthmlfglllhmimaaGreatDoorI3
import Derived.Test.YthmlfglllhmimaaGreatDoorI2
import Derived.Test.YthmlfglllhmimaaGreatDoorY3
import Derived.Test.YthmlfglllhmimaaGreatDoorX7f
import Derived.Lib.Bytes
import Derived.Deep.RegionWith
namespace Go.Proofs.YthmlfglllhmimaaGreatDoor.Rou
open Go.RowKit Gf8 Aes By8 Cel Oni
/- Layer 8 (route) over Nat: chains. -/

/-- The length of what stands behind m layers. -/
def loN (n : Nat) : Nat → Nat
  | 0 => n
  | m + 1 => 48 + 34 * (m + 1)
/-- What stands behind m layers of a chain of h hops. -/
def loF (h : Nat) (key nonce : Nat → Nat → Nat) (n : Nat) (p : Nat → Nat) : Nat → Nat → Nat
  | 0 => p
  | m + 1 => wrF (key (h - (m + 1))) (nonce (h - (m + 1))) (m + 1) (loN n m) (loF h key nonce n p m)
def ksOk (h : Nat) (lk : Nat → Nat) : Bool := (List.range h).all fun i => lk i == 32
/-- What Wrap answers. -/
def rwE (h hn : Nat) (lk : Nat → Nat) (n : Nat) : Nat := if h < 1 ∨ 8 < h ∨ hn ≠ h then 80 else if ksOk h lk then (if 48 < n then 1 else 0) else 2
def rwN (h hn : Nat) (lk : Nat → Nat) (n : Nat) : Nat := if rwE h hn lk n = 0 then 320 else 0
def rwF (h : Nat) (key nonce : Nat → Nat → Nat) (n : Nat) (p : Nat → Nat) : Nat → Nat := cellF 0 headO (loN n h) (loF h key nonce n p h)
end Go.Proofs.YthmlfglllhmimaaGreatDoor.Rou
