import Derived.Test.YtcibogmghagpoaaY6
import Derived.Test.YtcibogmghagpoaaL3
import Derived.Lib.SlBytesConst
namespace Go.Proofs.Ytcibogmghagpoaa.Cel
open Go.RowKit Gf8 Aes By8
/- Layer 5 (cell) over Nat, and what its laws ask of the program. -/

/-- How many bytes are answered, and which error, where at most m are taken. -/
def okN (m len : Nat) : Nat := if len ≤ m then 320 else 0
/-- A list of which nil has no room. -/
structure SliceZ (W : World) (v : Value) (len : Nat) (p : Nat → Nat) : Prop where
  sl : SliceN W v len p
  nil : ∀ l c, v = .slice none l c → c = 0
theorem SliceZ.on {W W' : World} {v : Value} {len : Nat} {p : Nat → Nat} (h : SliceZ W v len p) (hb : Below W.heap.size W W') : SliceZ W' v len p := ⟨h.sl.on hb, h.nil⟩
theorem SliceZ.shape {W : World} {v : Value} {len : Nat} {p : Nat → Nat} (h : SliceZ W v len p) : ∃ ao c, v = .slice ao len c := by
  obtain ⟨a, c, e, _⟩ := h.sl.shape
  exact ⟨a, c, e⟩
/-- What "hi" is. -/
def hi : Nat → Nat := fun j => if j = 0 then 104 else 105
end Go.Proofs.Ytcibogmghagpoaa.Cel
