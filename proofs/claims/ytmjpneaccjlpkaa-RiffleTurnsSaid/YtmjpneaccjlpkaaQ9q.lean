import Derived.Test.YtmjpneaccjlpkaaS9a
namespace Go.Proofs.Ytmjpneaccjlpkaa.Brd
open Go.RowKit Gf8 Aes By8 Cel Cf Tap Drw Prm
/- Stage 12's BraidBack. Written by tools/mkQ9q.py. -/
def akC (a b c d : Value) : Array Value := #[a, b, c, d]
section
variable {W : World} {g : Nat} {a b c d : Value} {t : TypeId}
theorem ak_at0 (h : W.heap[g]? = some (.cells (akC a b c d) t)) : W.cell? ⟨g, 0, none⟩ = some a := by rw [cell_of_row _ _ _ _ _ _ h]; rfl
theorem ak_at1 (h : W.heap[g]? = some (.cells (akC a b c d) t)) : W.cell? ⟨g, 1, none⟩ = some b := by rw [cell_of_row _ _ _ _ _ _ h]; rfl
theorem ak_at2 (h : W.heap[g]? = some (.cells (akC a b c d) t)) : W.cell? ⟨g, 2, none⟩ = some c := by rw [cell_of_row _ _ _ _ _ _ h]; rfl
theorem ak_at3 (h : W.heap[g]? = some (.cells (akC a b c d) t)) : W.cell? ⟨g, 3, none⟩ = some d := by rw [cell_of_row _ _ _ _ _ _ h]; rfl
end
section
variable {o : Oper} {a : Act} {w : World}
end
theorem open_sl {W : World} {v : Value} {n : Nat} {f : Nat → Int} (h : SliceI W v n f) (hn : 0 < n) : ∃ b o c, v = .slice (some ⟨b, o, none⟩) n c ∧ b < W.heap.size ∧ ∀ j, j < n → W.cell? ⟨b, o + j, none⟩ = some (.int .i64 (f j)) := by
 obtain ⟨a, c, rfl, _, _, hs⟩ := h.shape
 obtain ⟨b, o, rfl, h1, h2⟩ := hs hn
 exact ⟨b, o, c, rfl, h1, h2⟩
end Go.Proofs.Ytmjpneaccjlpkaa.Brd
