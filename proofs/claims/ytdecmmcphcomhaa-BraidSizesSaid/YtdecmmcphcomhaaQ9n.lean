import Derived.Test.YtdecmmcphcomhaaQ9m
namespace Go.Proofs.Ytdecmmcphcomhaa.Brd
open Go.RowKit Gf8 Aes By8 Cel Cf Tap Drw Prm
/- Package braid as it landed: Draws. Written by tools/mkQ9n.py. -/

/-- Three rows: draws, what is left, the next visits. -/
def x3 (a l x : Value) (t : Nat) : Value := if t = 0 then a else if t = 1 then l else x
def n3 (n J t : Nat) : Nat := if t = 0 then n else J
end Go.Proofs.Ytdecmmcphcomhaa.Brd
