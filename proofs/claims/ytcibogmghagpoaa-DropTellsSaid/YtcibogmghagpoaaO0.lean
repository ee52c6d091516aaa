import Derived.Test.YtcibogmghagpoaaY6
import Derived.Test.YtcibogmghagpoaaL3
import Derived.Lib.SlBytesConst
namespace Go.Proofs.Ytcibogmghagpoaa.Cel
open Go.RowKit Gf8 Aes By8
/- Layer 5 (cell) over Nat, and what its laws ask of the program. -/

/-- How many bytes are answered, and which error, where at most m are taken. -/
def okN (m len : Nat) : Nat := if len ≤ m then 320 else 0
/-- A list of which nil has no room. -/
structure SliceZ (W : World) (v : Value) (len : Nat) (p : Nat → Nat) : Prop where
  sl : SliceN W v len p
  nil : ∀ l c, v = .slice none l c → c = 0
theorem SliceZ.on {W W' : World} {v : Value} {len : Nat} {p : Nat → Nat} (h : SliceZ W v len p) (hb : Below W.heap.size W W') : SliceZ W' v len p := ⟨h.sl.on hb, h.nil⟩
theorem SliceZ.shape {W : World} {v : Value} {len : Nat} {p : Nat → Nat} (h : SliceZ W v len p) : ∃ ao c, v = .slice ao len c := by
  obtain ⟨a, c, e, _⟩ := h.sl.shape
  exact ⟨a, c, e⟩
/-- A row of one's own of n bytes, n above 0: its cells. -/
theorem own_cells {W : World} {B n : Nat} {v : Value} {p : Nat → Nat} (h : W.ownsRow B 5 1 v n (bytesL n p)) (hn : 0 < n) : ∃ g cap, v = .slice (some ⟨g, 0, none⟩) n cap ∧ B ≤ g ∧ n ≤ cap ∧ ∀ j, j < n → W.cell? ⟨g, j, none⟩ = some (.int .u8 (p j)) := by
  rcases h.2 with ⟨_, e⟩ | ⟨g, cap, cur, rfl, hB, hg, h1, h2, h3, ht⟩
  · omega
  · refine ⟨g, cap, rfl, hB, h1, fun j hj => ?_⟩
    rw [cell_of_row _ _ _ _ _ _ hg]
    have h2 : (cur.toList.take (n * 1))[j]? = some (.int .u8 (p j)) := by rw [ht]; exact bytesL_at n p hj
    rw [Nat.mul_one, List.getElem?_take, if_pos hj, Array.getElem?_toList] at h2
    exact h2
/-- What "hi" is. -/
def hi : Nat → Nat := fun j => if j = 0 then 104 else 105
end Go.Proofs.Ytcibogmghagpoaa.Cel
