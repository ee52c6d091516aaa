import Derived.Test.YthiakjmjpchckaaV9n
namespace Go.Proofs.Ythiakjmjpchckaa.Drw
/- Draws over Nat. -/

/-- A bound that is none. -/
def bad (b : Int) : Prop := b < 1 ∨ 256 < b
instance (b : Int) : Decidable (bad b) := inferInstanceAs (Decidable (_ ∨ _))
end Go.Proofs.Ythiakjmjpchckaa.Drw
