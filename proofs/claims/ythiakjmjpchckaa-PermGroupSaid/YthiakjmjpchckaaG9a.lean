import Derived.Test.YthiakjmjpchckaaV9n
namespace Go.Proofs.Ythiakjmjpchckaa.Drw
/- Draws over Nat. -/

/-- A bound that is none. -/
abbrev bad (b : Int) : Prop := b < 1 ∨ 256 < b
end Go.Proofs.Ythiakjmjpchckaa.Drw
