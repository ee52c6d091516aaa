import Derived.Test.YthmlfglllhmimaaGreatDoorY6a
import Derived.Test.YthmlfglllhmimaaGreatDoorY3
import Derived.Lib.SlBytesConst
namespace Go.Proofs.YthmlfglllhmimaaGreatDoor.Cel
open Go.RowKit Gf8 Aes By8
/- Layer 5 (cell) over Nat, and what its laws ask of the program. -/

/-- A head of hl bytes, then the list, then noughts. -/
def cellF (hl : Nat) (h : Nat → Nat) (len : Nat) (p : Nat → Nat) : Nat → Nat := fun j => if j < hl then h j else if j < hl + len then p (j - hl) else 0
def headO : Nat → Nat := fun _ => 0
/-- How many bytes are answered, and which error, where at most m are taken. -/
def okN (m len : Nat) : Nat := if len ≤ m then 320 else 0
/-- Are the bytes from i on all 0, n in all? -/
def zeroF (n : Nat) (c : Nat → Nat) (i : Nat) : Bool := (List.range n).all fun j => decide (j < i) || c j == 0
/-- Are the bytes of a cell from i on all 0? -/
def zeroFrom (c : Nat → Nat) (i : Nat) : Bool := zeroF 320 c i
theorem zeroF_iff (n : Nat) (c : Nat → Nat) (i : Nat) : zeroF n c i = true ↔ ∀ j, i ≤ j → j < n → c j = 0 := by
  unfold zeroF
  rw [List.all_eq_true]
  constructor
  · intro h j h1 h2
    have := h j (List.mem_range.2 h2)
    simp at this
    omega
  · intro h j hj
    have hj := List.mem_range.1 hj
    by_cases h1 : j < i
    · simp [h1]
    · have := h j (by omega) hj
      simp [this]
def openY (c : Nat → Nat) (len : Nat) : Bool := decide (len = 320) && decide (c 0 = 1) && decide (c 1 ≤ 48) && zeroFrom c (2 + c 1)
def openE (c : Nat → Nat) (len : Nat) : Nat := if len ≠ 320 then 50 else if 1 < c 0 then 52 else if c 0 = 0 then 0 else if 48 < c 1 then 53 else if zeroFrom c (2 + c 1) then 0 else 51
def openN (c : Nat → Nat) (len : Nat) : Nat := if openY c len then c 1 else 0
/-- A list of which nil has no room. -/
structure SliceZ (W : World) (v : Value) (len : Nat) (p : Nat → Nat) : Prop where
  sl : SliceN W v len p
  nil : ∀ l c, v = .slice none l c → c = 0
theorem SliceZ.on {W W' : World} {v : Value} {len : Nat} {p : Nat → Nat} (h : SliceZ W v len p) (hb : Below W.heap.size W W') : SliceZ W' v len p := ⟨h.sl.on hb, h.nil⟩
theorem SliceZ.shape {W : World} {v : Value} {len : Nat} {p : Nat → Nat} (h : SliceZ W v len p) : ∃ ao c, v = .slice ao len c := by
  obtain ⟨a, c, e, _⟩ := h.sl.shape
  exact ⟨a, c, e⟩
/-- What "hi" is. -/
def hi : Nat → Nat := fun j => if j = 0 then 104 else 105
end Go.Proofs.YthmlfglllhmimaaGreatDoor.Cel
