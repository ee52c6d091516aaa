import Derived.Test.YtijibdapooalcaaC9j
namespace Go.Proofs.Ytijibdapooalcaa.Win
open Go.RowKit Gf8 Aes By8 Cel Cf
/- The law's same, of like windows. Written by tools/mkC9l.py. -/

theorem ne16 {X : World} {g : Nat} {c : Obj} (h : X.heap[g]? = some c) : g ≠ X.heap.size := fun e => by
  have := (Array.getElem?_eq_some_iff.1 h).1
  omega
end Go.Proofs.Ytijibdapooalcaa.Win
