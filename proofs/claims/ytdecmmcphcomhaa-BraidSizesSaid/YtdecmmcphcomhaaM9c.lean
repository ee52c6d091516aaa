import Derived.Test.YtdecmmcphcomhaaM9a
namespace Go.Proofs.Ytdecmmcphcomhaa.Prm
open Go.RowKit Gf8 Aes By8 Cel Cf Tap Drw
/- Package perm as it landed: swap, From, Draws. Written by tools/mkM9c.py. -/

theorem wp_open {P : Program} {c : Code} {Q : Exit → Act → World → Prop} {a : Act} {V : World} (R : Act → Prop) (h : R a) (k : ∀ a, R a → c.wp P Q a V) : c.wp P Q a V := k a h
/-- Where the program says that a number stands, by then. -/
def atA (n : Nat) (g : Nat → Nat) : Nat → Nat → Nat
  | 0, x => x
  | k + 1, x => if x = drA n g k (n - 1 - k) then drD n g k else atA n g k x
section
variable {V W W' : World} {va vt u : Value} {n nu g c : Nat} {fa ft fu : Nat → Int}
end
end Go.Proofs.Ytdecmmcphcomhaa.Prm
