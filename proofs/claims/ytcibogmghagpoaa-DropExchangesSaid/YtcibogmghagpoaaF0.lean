import Derived.WalkKit
import Derived.Laws.AppendOwn
namespace Go.Proofs.Ytcibogmghagpoaa
open Go.RowKit

theorem nextcap_le {need old : Nat} (h : old < need) : Builtin.nextslicecap need old ≤ need + need / 4 + 1000 := by
  unfold Builtin.nextslicecap
  split
  · omega
  · split
    · omega
    · rw [growBy_four]
      repeat' split
      all_goals omega
theorem grow_fits {need old : Nat} (h : old < need) (hb : need ≤ 200000000000000) : Builtin.nextslicecap need old * 1 ≤ 281474976710656 := by
  have h1 := nextcap_le h
  omega

section
variable {P : Program} (w : World)
end
end Go.Proofs.Ytcibogmghagpoaa
