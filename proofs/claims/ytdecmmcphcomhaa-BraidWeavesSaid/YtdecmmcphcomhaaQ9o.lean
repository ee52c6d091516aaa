import Derived.Test.YtdecmmcphcomhaaQ9k
namespace Go.Proofs.Ytdecmmcphcomhaa.Brd
open Go.RowKit Gf8 Aes By8 Cel Cf Tap Drw Prm
/- Package braid as it landed: begin, told, visit. Written by tools/mkQ9l.py. -/

def x2 (l x : Value) (t : Nat) : Value := if t = 0 then l else x
section
variable {o : Oper} {a : Act} {w : World}
end
end Go.Proofs.Ytdecmmcphcomhaa.Brd

namespace Go.Proofs.Ytdecmmcphcomhaa.Brd
open Go.RowKit Gf8 Aes By8 Cel Cf Tap Drw Prm
/- Package braid as it landed: Sizes, Bounds, Pattern. Written by tools/mkQ9m.py. -/

def f2 (f g : Nat → Int) (t : Nat) : Nat → Int := if t = 0 then f else g
end Go.Proofs.Ytdecmmcphcomhaa.Brd
namespace Go.Proofs.Ytdecmmcphcomhaa.Prm
open Go.RowKit Gf8 Aes By8 Cel Cf Tap Drw Brd
section
variable {B k : Nat} {x : Nat → Value} {nn : Nat → Nat} {ff : Nat → Nat → Int} {W : World}
theorem FmI.setT {g : Nat} {cur c : Array Value} {u : TypeId} (h : FmI B k x nn ff W) (hg : W.heap[g]? = some (.cells cur u)) (hu : u ≠ 3) : FmI B k x nn ff (W.setRow g c) := ⟨fun t ht => own_setT (h.rows t ht) hg hu, h.dis⟩
end
end Go.Proofs.Ytdecmmcphcomhaa.Prm
namespace Go.Proofs.Ytdecmmcphcomhaa.Brd
open Go.RowKit Gf8 Aes By8 Cel Cf Tap Drw Prm
end Go.Proofs.Ytdecmmcphcomhaa.Brd

namespace Go.Proofs.Ytdecmmcphcomhaa.Brd
open Go.RowKit Gf8 Aes By8 Cel Cf Tap Drw Prm
/- Package braid as it landed: Draws. Written by tools/mkQ9n.py. -/

def n3 (n J t : Nat) : Nat := if t = 0 then n else J
end Go.Proofs.Ytdecmmcphcomhaa.Brd

namespace Go.Proofs.Ytdecmmcphcomhaa.Brd
open Go.RowKit Gf8 Aes By8 Cel Cf Tap Drw Prm
/- Stage 12: Pattern and Draws take back one another; offsets are carried over (over Nat and Int). -/

section
variable {sf f g : Nat → Int} {J m : Nat}
end
section
variable {sf df : Nat → Int} {J m : Nat}
theorem zl_le (E n : Nat) : zl E n ≤ n := by
  unfold zl
  split <;> omega
end
end Go.Proofs.Ytdecmmcphcomhaa.Brd
