import Derived.Test.YthiakjmjpchckaaP9h
namespace Go.Proofs.Ythiakjmjpchckaa.Prm
open Go.RowKit Gf8 Aes By8 Cel Cf Tap Drw
/- PermOneToOne over any Impl. Written by tools/mkP9j.py. -/

theorem gN_at {f : Nat → Int} {n j : Nat} (h : pE f n = 0) (hj : j < n) : ((gN f j : Nat) : Int) = f j := by
  have := (okQ_iff.1 (pE_0 h)).1 j hj
  show ((f j).toNat : Int) = f j
  omega
end Go.Proofs.Ythiakjmjpchckaa.Prm
