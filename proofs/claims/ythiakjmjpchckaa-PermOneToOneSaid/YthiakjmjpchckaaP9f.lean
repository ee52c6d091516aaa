import Derived.Test.YthiakjmjpchckaaP9e
namespace Go.Proofs.Ythiakjmjpchckaa.Prm
open Go.RowKit Gf8 Aes By8 Cel Cf Tap Drw
/- Stage 11's reference: Unrank; From of any number. Written by tools/mkP9f.py. -/

def unE (d : Nat → Int) (n : Nat) : Nat := if fitQ d n n = true then 0 else 110
theorem ul_lt {d : Nat → Nat} {n i j : Nat} (hi : i ≤ n) (hd : ∀ k, k < i → d k < n - k) (hj : j < n - i) : ul d i j < n := by
  obtain ⟨k, hk, e⟩ := ul_sub (n := n) (d := d) (i := 0) (j := i) (Nat.zero_le _) hi hd ⟨j, hj, rfl⟩
  rw [← e]
  exact hk
end Go.Proofs.Ythiakjmjpchckaa.Prm
