import Derived.Test.YtldhhfkplongiaaP9e
namespace Go.Proofs.Ytldhhfkplongiaa.Prm
open Go.RowKit Gf8 Aes By8 Cel Cf Tap Drw
/- Stage 11's reference: Unrank; From of any number. Written by tools/mkP9f.py. -/

def unE (d : Nat → Int) (n : Nat) : Nat := if fitQ d n n = true then 0 else 110
theorem ul_lt {d : Nat → Nat} {n i j : Nat} (hi : i ≤ n) (hd : ∀ k, k < i → d k < n - k) (hj : j < n - i) : ul d i j < n := by
  obtain ⟨k, hk, e⟩ := ul_sub (n := n) (d := d) (i := 0) (j := i) (Nat.zero_le _) hi hd ⟨j, hj, rfl⟩
  rw [← e]
  exact hk
theorem ul_next (d : Nat → Nat) (w i j : Nat) (hg : d i = w) : catI w (fun j => (ul d i j : Int)) (fun j_1 => (fun j => (ul d i j : Int)) (w + 1 + j_1)) j = (ul d (i + 1) j : Int) := by
  show _ = ((rem (ul d i) (d i) j : Nat) : Int)
  rw [hg]
  by_cases q : j < w
  · rw [catI_lo q, rem_lo q]
  · unfold catI
    rw [if_neg q, rem_hi (by omega)]
    show ((ul d i (w + 1 + (j - w)) : Nat) : Int) = _
    rw [show w + 1 + (j - w) = j + 1 by omega]
end Go.Proofs.Ytldhhfkplongiaa.Prm
