import Derived.Test.YtdecmmcphcomhaaQ9f
namespace Go.Proofs.Ytdecmmcphcomhaa.Brd
open Go.RowKit Gf8 Aes By8 Cel Cf Tap Drw Prm
/- Stage 12's reference: Sizes, total. Written by tools/mkQ9g.py. -/

def szE (k c : Int) : Nat := if 0 ≤ k ∧ k ≤ 256 ∧ 1 ≤ c ∧ c ≤ 64 then 0 else 2
def szF (N D j : Nat) : Nat := N / D + if j < N % D then 1 else 0
/-- The first k are sizes. -/
def okS (s : Nat → Int) : Nat → Bool
  | 0 => true
  | k + 1 => okS s k && decide (0 ≤ s k ∧ s k ≤ 256 - (sumN (gN s) k : Int))
theorem okS_iff {s : Nat → Int} : ∀ {k}, okS s k = true ↔ ∀ j, j < k → 0 ≤ s j ∧ s j ≤ 256 - (sumN (gN s) j : Int)
  | 0 => ⟨fun _ j hj => absurd hj (Nat.not_lt_zero _), fun _ => rfl⟩
  | k + 1 => by
    unfold okS
    rw [Bool.and_eq_true, decide_eq_true_eq, okS_iff]
    refine ⟨fun h j hj => ?_, fun h => ⟨fun j hj => h j (by omega), h k (by omega)⟩⟩
    by_cases e : j = k
    · subst e; exact h.2
    · exact h.1 j (by omega)
theorem okS_succ {s : Nat → Int} {i : Nat} (h : okS s i = true) (e : 0 ≤ s i ∧ s i ≤ 256 - (sumN (gN s) i : Int)) : okS s (i + 1) = true := by
  show (okS s i && decide (0 ≤ s i ∧ s i ≤ 256 - (sumN (gN s) i : Int))) = true
  rw [h, decide_eq_true e]
  rfl
theorem okS_bad {s : Nat → Int} {i n : Nat} (hi : i < n) (e : ¬ (0 ≤ s i ∧ s i ≤ 256 - (sumN (gN s) i : Int))) : ¬ okS s n = true := fun q => e (okS_iff.1 q i hi)
end Go.Proofs.Ytdecmmcphcomhaa.Brd

namespace Go.Proofs.Ytdecmmcphcomhaa.Brd
open Go.RowKit Gf8 Aes By8 Cel Cf Tap Drw Prm
/- Stage 12's reference: Bounds. Written by tools/mkQ9h.py. -/

def bdN (k : Int) : Nat := if k ≤ 256 then k.toNat else 0
end Go.Proofs.Ytdecmmcphcomhaa.Brd
