import Derived.Test.YtmfaapbhehhlpaaB9d
namespace Go.Proofs.Ytmfaapbhehhlpaa.Noi
open Go.RowKit Gf8 Aes By8 Cel Cf Tap Drw Prm Brd
/- NoiseEven. Written by tools/mkB9f.py. -/

section
variable {a d m k u : Nat}
end
theorem own_cell15 {W : World} {B n g cap j : Nat} {p : Nat → Nat} (h : W.ownsRow B 5 1 (.slice (some ⟨g, 0, none⟩) n cap) n (bytesL n p)) (hj : j < n) : W.cell? ⟨g, 0 + j, none⟩ = some (.int .u8 (p j : Nat)) ∧ W.frozen? ⟨g, 0 + j, none⟩ = false := by
  rw [Nat.zero_add]
  refine ⟨own_at8 h hj, ?_⟩
  obtain ⟨cur, hg, _⟩ := own_cur h
  exact frozen4 hg
section
variable {o : Oper} {a : Act} {w : World}
end
end Go.Proofs.Ytmfaapbhehhlpaa.Noi
