import Derived.Test.YtcibogmghagpoaaRows
import Derived.ProofKit
import Derived.OpenShut
import Derived.WideKeyPair
namespace Go.Proofs.Ytcibogmghagpoaa
open Go.ChangeShapes Go.WideShapes Go.ChangeAt Go.RowKit
/- An array of n bytes as an argument: opened, and shut again. -/

theorem wfB {z : Int} : (Lit.int .u8 z).wf = true ↔ 0 ≤ z ∧ z < 256 := by
  have a : IntKind.u8.min = 0 := rfl
  have b : IntKind.u8.max = 255 := rfl
  simp [Lit.wf]
  omega
def bytesL (n : Nat) (f : Nat → Nat) : List Value := (List.range n).map fun i => .int .u8 (f i)
theorem bytesL_len (n : Nat) (f : Nat → Nat) : (bytesL n f).length = n := by simp [bytesL]
theorem bytesL_at (n : Nat) (f : Nat → Nat) {i : Nat} (h : i < n) : (bytesL n f)[i]? = some (.int .u8 (f i)) := by
  simp [bytesL, h]
theorem mapM_back {α β : Type} {g : α → Option β} {h : α → β} : ∀ (L : List α) (ys : List β), L.mapM g = some ys → (∀ i, i ∈ L → ∀ y, g i = some y → y = h i) → ys = L.map h ∧ ∀ i, i ∈ L → g i = some (h i)
  | [], ys, e, _ => by
    simp at e
    subst e
    exact ⟨rfl, fun i hi => by simp at hi⟩
  | x :: L, ys, e, H => by
    rw [List.mapM_cons] at e
    simp only [bind, Option.bind_eq_some_iff, pure, Option.some.injEq] at e
    obtain ⟨y, hy, zs, hz, rfl⟩ := e
    obtain ⟨r1, r2⟩ := mapM_back L zs hz fun i hi => H i (List.mem_cons_of_mem _ hi)
    have hx := H x List.mem_cons_self y hy
    subst hx
    refine ⟨by rw [r1]; rfl, fun i hi => ?_⟩
    rcases List.mem_cons.1 hi with rfl | hi
    · exact hy
    · exact r2 i hi
section
variable {H : Type} {enc : TypeId × Value → H} {P : Program} {k e : TypeId} {n : Nat} {W : World} {base : Nat} {sp : Nat → Bool} {held : Bool}
theorem one_at (cs : List Value) {i : Nat} {v : Value} (h : (cs.drop (i * 1)).take 1 = [v]) : cs[i]? = some v := by
  rw [Nat.mul_one] at h
  have h2 : ((cs.drop i).take 1)[0]? = some v := by rw [h]; rfl
  simpa using h2
theorem one_of (cs : List Value) {i : Nat} {v : Value} (h : cs[i]? = some v) : (cs.drop (i * 1)).take 1 = [v] := by
  rw [Nat.mul_one]
  obtain ⟨hl, hv⟩ := List.getElem?_eq_some_iff.1 h
  rw [List.drop_eq_getElem_cons hl, hv]
  rfl
end
end Go.Proofs.Ytcibogmghagpoaa
