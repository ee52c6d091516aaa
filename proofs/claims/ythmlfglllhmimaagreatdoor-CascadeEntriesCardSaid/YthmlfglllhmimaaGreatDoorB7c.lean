import Derived.Test.YthmlfglllhmimaaGreatDoorB7a
import Derived.Test.YthmlfglllhmimaaGreatDoorX5c
import Derived.Test.YthmlfglllhmimaaGreatDoorC6
import Derived.Test.YthmlfglllhmimaaGreatDoorZ1
import Derived.Test.YthmlfglllhmimaaGreatDoorI3
import Derived.Test.YthmlfglllhmimaaGreatDoorI2
import Derived.Test.YthmlfglllhmimaaGreatDoorY3
import Derived.Test.YthmlfglllhmimaaGreatDoorX7f
import Derived.Lib.Bytes
import Derived.Deep.RegionWith
namespace Go.Proofs.YthmlfglllhmimaaGreatDoor.Rou
open Go.RowKit Gf8 Aes By8 Cel Oni
/- Key: the epoch's bytes, the program's Key. -/

def epF (n : Nat) : Nat → Nat := fun i => n / 2 ^ (8 * (7 - i)) % 256
/-- A hop's key. -/
def rk (m : Nat → Nat) (n : Nat) : Nat → Nat := fun j => (ebK (exK (ci m) 32 (ci (epF n)) 8) 32 (ci hopF) 9 j).toNat
theorem rk_lt (m : Nat → Nat) (n j : Nat) : rk m n j < 256 := by
  have := eb_bd (inS (exK (ci m) 32 (ci (epF n)) 8) 32) (outS (exK (ci m) 32 (ci (epF n)) 8) 32) (ci hopF) 9 j
  unfold rk ebK
  omega
def rkE (l : Nat) (e : Int) : Nat := if l ≠ 32 ∨ e < 0 ∨ 4611686018427387904 < e then 2 else 0
def rkN (l : Nat) (e : Int) : Nat := if rkE l e = 0 then 32 else 0
section
variable {o : Oper} {a : Act} {w : World}
end
end Go.Proofs.YthmlfglllhmimaaGreatDoor.Rou
