import Derived.Test.YtldhhfkplongiaaX7b
import Derived.Test.YtldhhfkplongiaaX7f
namespace Go.Proofs.Ytldhhfkplongiaa.Tap
open Go.RowKit Gf8 Aes By8 Cel
/- Layer 9 (tape): the law's place and same, the reference's Byte, Take, copied. -/

def plcN (i : Int) (n : Nat) : Nat := (if i < 0 then -(i + 1) else i).toNat % n
/-- Take's error and its number of bytes. -/
def tkE (l at' : Nat) (n : Int) : Nat := if n < 0 then 2 else if (l : Int) - at' < n then 3 else 0
def tkN (l at' : Nat) (n : Int) : Nat := if tkE l at' n = 0 then n.toNat else 0
def tkA (l at' : Nat) (n : Int) : Nat := if tkE l at' n = 0 then at' + n.toNat else 0
theorem nil_sub {a : Option Addr} {l h cap : Nat} (hz : a = none → cap = 0) : ∀ k c, sliced a l h cap 1 = .slice none k c → c = 0 := by
  intro k c e
  unfold sliced at e
  injection e with e1 _ e3
  cases a with
  | none => rw [hz rfl] at e3; omega
  | some x =>
    by_cases q : cap = l
    · rw [q] at e1; simp at e1
    · simp [q] at e1
end Go.Proofs.Ytldhhfkplongiaa.Tap
