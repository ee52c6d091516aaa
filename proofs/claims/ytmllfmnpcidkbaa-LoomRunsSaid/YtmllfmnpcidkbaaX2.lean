import Derived.Test.YtmllfmnpcidkbaaRows
import Derived.ProofKit
import Derived.OpenShut
import Derived.WideKeyPair
namespace Go.Proofs.Ytmllfmnpcidkbaa
open Go.ChangeShapes Go.WideShapes Go.ChangeAt Go.RowKit
/- An array of n bytes as an argument: opened, and shut again. -/

theorem wf_i64 {z : Int} (h : (Lit.int .i64 z).wf = true) : -9223372036854775808 ≤ z ∧ z < 9223372036854775808 := by
  have a : IntKind.i64.min = -9223372036854775808 := rfl
  have b : IntKind.i64.max = 9223372036854775807 := rfl
  simp [Lit.wf] at h
  omega
def bytesL (n : Nat) (f : Nat → Nat) : List Value := (List.range n).map fun i => .int .u8 (f i)
theorem bytesL_len (n : Nat) (f : Nat → Nat) : (bytesL n f).length = n := by simp [bytesL]
section
variable {H : Type} {enc : TypeId × Value → H} {P : Program} {k e : TypeId} {n : Nat} {W : World} {base : Nat} {sp : Nat → Bool} {held : Bool}
theorem one_at (cs : List Value) {i : Nat} {v : Value} (h : (cs.drop (i * 1)).take 1 = [v]) : cs[i]? = some v := by
  rw [Nat.mul_one] at h
  have h2 : ((cs.drop i).take 1)[0]? = some v := by rw [h]; rfl
  simpa using h2
end
end Go.Proofs.Ytmllfmnpcidkbaa
