import Derived.Test.YtjoffdaknacbpaaR0
namespace Go.Proofs.Ytjoffdaknacbpaa.Gf8
/- The bit operations of bytes and ints, over Nat; the product's definition by the document's words (first the polynomials' product, then the rest). -/

/-- A byte's own bits, put together from below. -/
def upB (f : Nat → Bool) : Nat → Nat
  | 0 => 0
  | k + 1 => upB f k ||| pick (f k) (2 ^ k)
end Go.Proofs.Ytjoffdaknacbpaa.Gf8
