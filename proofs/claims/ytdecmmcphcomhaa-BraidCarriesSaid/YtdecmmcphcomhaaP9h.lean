import Derived.Test.YtdecmmcphcomhaaP9g
namespace Go.Proofs.Ytdecmmcphcomhaa.Prm
open Go.RowKit Gf8 Aes By8 Cel Cf Tap Drw
/- What the program's package keeps (Impl); the laws' same, awake; PermChecks, PermMakes, PermPairs over any Impl. Written by tools/mkP9h.py. -/

theorem zl_le (E L : Nat) : zl E L ≤ L := by
  unfold zl
  by_cases h : E = 0
  · rw [if_pos h]; exact Nat.le_refl _
  · rw [if_neg h]; exact Nat.zero_le _
end Go.Proofs.Ytdecmmcphcomhaa.Prm
