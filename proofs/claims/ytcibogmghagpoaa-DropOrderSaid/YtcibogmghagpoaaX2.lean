import Derived.Test.YtcibogmghagpoaaRows
import Derived.ProofKit
import Derived.OpenShut
import Derived.WideKeyPair
namespace Go.Proofs.Ytcibogmghagpoaa
open Go.ChangeShapes Go.WideShapes Go.ChangeAt Go.RowKit
/- An array of n bytes as an argument: opened, and shut again. -/

theorem wfB {z : Int} : (Lit.int .u8 z).wf = true ↔ 0 ≤ z ∧ z < 256 := by
  have a : IntKind.u8.min = 0 := rfl
  have b : IntKind.u8.max = 255 := rfl
  simp [Lit.wf]
  omega
theorem wf_i64 {z : Int} (h : (Lit.int .i64 z).wf = true) : -9223372036854775808 ≤ z ∧ z < 9223372036854775808 := by
  have a : IntKind.i64.min = -9223372036854775808 := rfl
  have b : IntKind.i64.max = 9223372036854775807 := rfl
  simp [Lit.wf] at h
  omega
def bytesL (n : Nat) (f : Nat → Nat) : List Value := (List.range n).map fun i => .int .u8 (f i)
theorem bytesL_len (n : Nat) (f : Nat → Nat) : (bytesL n f).length = n := by simp [bytesL]
theorem bytesL_at (n : Nat) (f : Nat → Nat) {i : Nat} (h : i < n) : (bytesL n f)[i]? = some (.int .u8 (f i)) := by
  simp [bytesL, h]
section
variable {H : Type} {enc : TypeId × Value → H} {P : Program} {k e : TypeId} {n : Nat} {W : World} {base : Nat} {sp : Nat → Bool} {held : Bool}
theorem one_of (cs : List Value) {i : Nat} {v : Value} (h : cs[i]? = some v) : (cs.drop (i * 1)).take 1 = [v] := by
  rw [Nat.mul_one]
  obtain ⟨hl, hv⟩ := List.getElem?_eq_some_iff.1 h
  rw [List.drop_eq_getElem_cons hl, hv]
  rfl
end
end Go.Proofs.Ytcibogmghagpoaa
