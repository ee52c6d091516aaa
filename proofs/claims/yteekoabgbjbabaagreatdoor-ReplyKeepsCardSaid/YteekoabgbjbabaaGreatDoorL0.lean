import Derived.Test.YteekoabgbjbabaaGreatDoorY3
import Derived.Test.YteekoabgbjbabaaGreatDoorR0
namespace Go.Proofs.YteekoabgbjbabaaGreatDoor.Gf8
open Go.RowKit

/-- A column's cells. -/
def col (c : Nat → Nat) : Array Value := #[.int .u8 (c 0), .int .u8 (c 1), .int .u8 (c 2), .int .u8 (c 3)]
theorem col_at (c : Nat → Nat) {i : Nat} (h : i < 4) : (col c)[i]? = some (.int .u8 (c i)) := by
  have : i = 0 ∨ i = 1 ∨ i = 2 ∨ i = 3 := by omega
  rcases this with rfl | rfl | rfl | rfl <;> rfl
theorem col_set (g : Nat → Nat) {k : Nat} (h : k < 4) : (col (uptoC g k)).setIfInBounds k (.int .u8 (g k)) = col (uptoC g (k + 1)) := by
  have : k = 0 ∨ k = 1 ∨ k = 2 ∨ k = 3 := by omega
  rcases this with rfl | rfl | rfl | rfl <;> rfl
theorem size4 : (Tryz.prog.info? 125).map (·.size) = some 4 := by kernel_rfl
theorem size4' (c : Nat → Nat) : (Tryz.prog.info? 125).map (·.size) = some (col c).size := size4
theorem col_one (c : Nat → Nat) : (col c).all Value.oneCell' = true := by simp [col, Value.oneCell']
end Go.Proofs.YteekoabgbjbabaaGreatDoor.Gf8
