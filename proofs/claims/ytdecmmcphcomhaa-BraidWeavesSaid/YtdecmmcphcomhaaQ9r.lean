import Derived.Test.YtdecmmcphcomhaaQ9q
import Derived.Test.YtdecmmcphcomhaaY2
import Derived.Test.YtdecmmcphcomhaaX2
import Derived.Test.YtdecmmcphcomhaaI9e
import Derived.Lib.SmallJoins
import Derived.Deep.SlicePairs
namespace Go.Proofs.Ytdecmmcphcomhaa.Brd
open Go.ChangeShapes Go.WideShapes Go.ChangeAt Go.RowKit Gf8 Aes By8 Cel Cf Tap Drw Prm
/- An Ask, and a []Ask, as an argument. -/

/-- A list of Asks. -/
structure AskL (W : World) (v : Value) (n : Nat) (q : Nat → Nat → Value) (ln : Nat → Nat → Nat) (ff : Nat → Nat → Nat → Int) : Prop where
  shape : ∃ a cap, v = .slice a n cap ∧ (0 < n → ∃ b off, a = some ⟨b, off, none⟩ ∧ b < W.heap.size ∧ ∀ i, i < n → ∀ t, t < 4 → W.cell? ⟨b, off + i * 4 + t, none⟩ = some (q i t))
  lists : ∀ i, i < n → ∀ t, t < 4 → SliceI W (q i t) (ln i t) (ff i t) ∧ ln i t ≤ 17592186043904 ∧ ∀ l c, q i t = .slice none l c → c = 0
  size : n ≤ 17592186043904
end Go.Proofs.Ytdecmmcphcomhaa.Brd
