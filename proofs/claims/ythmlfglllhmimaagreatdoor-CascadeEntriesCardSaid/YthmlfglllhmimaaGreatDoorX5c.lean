import Derived.Test.YthmlfglllhmimaaGreatDoorP3
import Derived.Test.YthmlfglllhmimaaGreatDoorO0
import Derived.Test.YthmlfglllhmimaaGreatDoorI3
import Derived.Test.YthmlfglllhmimaaGreatDoorJ0
namespace Go.Proofs.YthmlfglllhmimaaGreatDoor.Oni
open Go.RowKit Gf8 Aes By8 Cel
/- Layer 7 (onion) over Nat. -/

def ci (p : Nat → Nat) : Nat → Int := fun i => (p i : Int)
def chF : Nat → Nat := fun j => [99, 104, 117, 114, 110].getD j 0
/-- The derived bytes: the box's key (16), the tag's (32), the replay's (32). -/
def dk (key nonce : Nat → Nat) : Nat → Nat := fun j => (ebK (exK (ci key) 32 (ci nonce) 16) 32 (ci chF) 5 j).toNat
/-- An onion's size. -/
def sz (left : Int) : Nat := if 1 ≤ left ∧ left ≤ 8 then 48 + 34 * left.toNat else 0
def mcK (d : Nat → Nat) : Nat → Nat := fun j => d (16 + j)
/-- A keyed digest's bytes (the first 16 are taken). -/
def hfF (key m : Nat → Nat) (l : Nat) : Nat → Nat := fun j => (tagV (ci key) 32 (ci m) l j).toNat
/-- What the tag is of. -/
def tmF (left : Nat) (nonce box : Nat → Nat) : Nat → Nat := fun j => if j = 0 then left else if j < 17 then nonce (j - 1) else box (j - 17)
def tgF (d : Nat → Nat) (left : Nat) (nonce box : Nat → Nat) (bl : Nat) : Nat → Nat := hfF (mcK d) (tmF left nonce box) (17 + bl)
def hd2 (n : Nat) : Nat → Nat := fun j => if j = 0 then n / 256 else n % 256
/-- The plain box. -/
def pbF (n : Nat) (inner : Nat → Nat) : Nat → Nat := cellF 2 (hd2 n) n inner
def bxF (d p : Nat → Nat) : Nat → Nat := maskF (kw d) 0 p
def onB (nonce tg box : Nat → Nat) : Nat → Nat := fun j => if j < 16 then nonce j else if j < 32 then tg (j - 16) else box (j - 32)
/-- The onion. -/
def wrF (key nonce : Nat → Nat) (left n : Nat) (inner : Nat → Nat) : Nat → Nat :=
  onB nonce (tgF (dk key nonce) left nonce (bxF (dk key nonce) (pbF n inner)) (sz left - 32)) (bxF (dk key nonce) (pbF n inner))
end Go.Proofs.YthmlfglllhmimaaGreatDoor.Oni
