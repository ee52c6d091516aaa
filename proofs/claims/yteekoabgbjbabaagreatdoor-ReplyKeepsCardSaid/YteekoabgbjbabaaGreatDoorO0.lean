import Derived.Test.YteekoabgbjbabaaGreatDoorX7b
import Derived.Test.YteekoabgbjbabaaGreatDoorY3
import Derived.Lib.SlBytesConst
namespace Go.Proofs.YteekoabgbjbabaaGreatDoor.Cel
open Go.RowKit Gf8 Aes By8
/- Layer 5 (cell) over Nat, and what its laws ask of the program. -/

/-- A head of hl bytes, then the list, then noughts. -/
def cellF (hl : Nat) (h : Nat → Nat) (len : Nat) (p : Nat → Nat) : Nat → Nat := fun j => if j < hl then h j else if j < hl + len then p (j - hl) else 0
def headO : Nat → Nat := fun _ => 0
/-- A payload's head. -/
def headP (len : Nat) : Nat → Nat := fun j => if j = 0 then 1 else len
/-- How many bytes are answered, and which error, where at most m are taken. -/
def okN (m len : Nat) : Nat := if len ≤ m then 320 else 0
def okE (m len : Nat) : Nat := if len ≤ m then 0 else 1
theorem cellF_lt {hl : Nat} {h : Nat → Nat} {len : Nat} {p : Nat → Nat} (hh : ∀ j, j < hl → h j < 256) (hp : ∀ j, j < len → p j < 256) (j : Nat) : cellF hl h len p j < 256 := by
  unfold cellF
  by_cases h1 : j < hl
  · rw [if_pos h1]; exact hh j h1
  · rw [if_neg h1]
    by_cases h2 : j < hl + len
    · rw [if_pos h2]; exact hp _ (by omega)
    · rw [if_neg h2]; omega
/-- Are the bytes from i on all 0, n in all? -/
def zeroF (n : Nat) (c : Nat → Nat) (i : Nat) : Bool := (List.range n).all fun j => decide (j < i) || c j == 0
/-- Are the bytes of a cell from i on all 0? -/
def zeroFrom (c : Nat → Nat) (i : Nat) : Bool := zeroF 320 c i
theorem zeroF_iff (n : Nat) (c : Nat → Nat) (i : Nat) : zeroF n c i = true ↔ ∀ j, i ≤ j → j < n → c j = 0 := by
  unfold zeroF
  rw [List.all_eq_true]
  constructor
  · intro h j h1 h2
    have := h j (List.mem_range.2 h2)
    simp at this
    omega
  · intro h j hj
    have hj := List.mem_range.1 hj
    by_cases h1 : j < i
    · simp [h1]
    · have := h j (by omega) hj
      simp [this]
theorem zeroFrom_iff (c : Nat → Nat) (i : Nat) : zeroFrom c i = true ↔ ∀ j, i ≤ j → j < 320 → c j = 0 := zeroF_iff 320 c i
def cutE (c : Nat → Nat) (len : Nat) (n : Int) : Nat := if len ≠ 320 then 50 else if n < 0 ∨ 320 < n then 2 else if zeroFrom c n.toNat then 0 else 51
def cutN (c : Nat → Nat) (len : Nat) (n : Int) : Nat := if cutE c len n = 0 then n.toNat else 0
def openY (c : Nat → Nat) (len : Nat) : Bool := decide (len = 320) && decide (c 0 = 1) && decide (c 1 ≤ 48) && zeroFrom c (2 + c 1)
def openE (c : Nat → Nat) (len : Nat) : Nat := if len ≠ 320 then 50 else if 1 < c 0 then 52 else if c 0 = 0 then 0 else if 48 < c 1 then 53 else if zeroFrom c (2 + c 1) then 0 else 51
def openN (c : Nat → Nat) (len : Nat) : Nat := if openY c len then c 1 else 0
/-- A list of which nil has no room. -/
structure SliceZ (W : World) (v : Value) (len : Nat) (p : Nat → Nat) : Prop where
  sl : SliceN W v len p
  nil : ∀ l c, v = .slice none l c → c = 0
theorem SliceZ.on {W W' : World} {v : Value} {len : Nat} {p : Nat → Nat} (h : SliceZ W v len p) (hb : Below W.heap.size W W') : SliceZ W' v len p := ⟨h.sl.on hb, h.nil⟩
theorem SliceZ.shape {W : World} {v : Value} {len : Nat} {p : Nat → Nat} (h : SliceZ W v len p) : ∃ ao c, v = .slice ao len c := by
  obtain ⟨a, c, e, _⟩ := h.sl.shape
  exact ⟨a, c, e⟩
/-- A row of one's own of n bytes, n above 0: its cells. -/
theorem own_cells {W : World} {B n : Nat} {v : Value} {p : Nat → Nat} (h : W.ownsRow B 5 1 v n (bytesL n p)) (hn : 0 < n) : ∃ g cap, v = .slice (some ⟨g, 0, none⟩) n cap ∧ B ≤ g ∧ n ≤ cap ∧ ∀ j, j < n → W.cell? ⟨g, j, none⟩ = some (.int .u8 (p j)) := by
  rcases h.2 with ⟨_, e⟩ | ⟨g, cap, cur, rfl, hB, hg, h1, h2, h3, ht⟩
  · omega
  · refine ⟨g, cap, rfl, hB, h1, fun j hj => ?_⟩
    rw [cell_of_row _ _ _ _ _ _ hg]
    have h2 : (cur.toList.take (n * 1))[j]? = some (.int .u8 (p j)) := by rw [ht]; exact bytesL_at n p hj
    rw [Nat.mul_one, List.getElem?_take, if_pos hj, Array.getElem?_toList] at h2
    exact h2
/-- What "hi" is. -/
def hi : Nat → Nat := fun j => if j = 0 then 104 else 105
theorem hi_slice {W : World} {g : Nat} {fr : Nat × Nat} (h : W.heap[g]? = some (.cells #[.int .u8 104, .int .u8 105] 5 fr)) : SliceZ W (.slice (some ⟨g, 0, none⟩) 2 2) 2 hi := by
  refine ⟨⟨⟨_, _, rfl, Nat.le_refl _, by omega, fun _ => ⟨g, 0, rfl, (Array.getElem?_eq_some_iff.1 h).1, fun j hj => ?_⟩⟩, fun j hj => ?_⟩, fun l c e => by cases e⟩
  · rw [cell_of_row _ _ _ _ _ _ h, Nat.zero_add]
    match j, hj with
    | 0, _ => rfl
    | 1, _ => rfl
  · unfold hi; split <;> omega
end Go.Proofs.YteekoabgbjbabaaGreatDoor.Cel
