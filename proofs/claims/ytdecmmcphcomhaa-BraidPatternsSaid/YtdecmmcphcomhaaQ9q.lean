import Derived.Test.YtdecmmcphcomhaaQ9p
namespace Go.Proofs.Ytdecmmcphcomhaa.Brd
open Go.RowKit Gf8 Aes By8 Cel Cf Tap Drw Prm
/- Stage 12's BraidBack. Written by tools/mkQ9q.py. -/

/-- The cells of an Ask. -/
def akC (a b c d : Value) : Array Value := #[a, b, c, d]
section
variable {W : World} {g : Nat} {a b c d : Value} {t : TypeId}
theorem ak_at0 (h : W.heap[g]? = some (.cells (akC a b c d) t)) : W.cell? ⟨g, 0, none⟩ = some a := by rw [cell_of_row _ _ _ _ _ _ h]; rfl
theorem ak_at1 (h : W.heap[g]? = some (.cells (akC a b c d) t)) : W.cell? ⟨g, 1, none⟩ = some b := by rw [cell_of_row _ _ _ _ _ _ h]; rfl
theorem ak_at2 (h : W.heap[g]? = some (.cells (akC a b c d) t)) : W.cell? ⟨g, 2, none⟩ = some c := by rw [cell_of_row _ _ _ _ _ _ h]; rfl
theorem ak_at3 (h : W.heap[g]? = some (.cells (akC a b c d) t)) : W.cell? ⟨g, 3, none⟩ = some d := by rw [cell_of_row _ _ _ _ _ _ h]; rfl
end
section
variable {o : Oper} {a : Act} {w : World}
theorem execFldAk0 {x : Operand} {b : Nat} (ho : o.op = .fieldAddr 35 x 0) (hx : a.eval x = .pointer (some ⟨b, 0, none⟩)) : (execOp a.eval o).run Try.prog w = .ok (.value (.pointer (some ⟨b, 0, none⟩))) w := by
  unfold execOp
  simp only [ho, hx]
  simp [go_sem]
theorem execFldAk1 {x : Operand} {b : Nat} (ho : o.op = .fieldAddr 35 x 1) (hx : a.eval x = .pointer (some ⟨b, 0, none⟩)) : (execOp a.eval o).run Try.prog w = .ok (.value (.pointer (some ⟨b, 1, none⟩))) w := by
  unfold execOp
  simp only [ho, hx]
  simp [go_sem]
theorem execFldAk2 {x : Operand} {b : Nat} (ho : o.op = .fieldAddr 35 x 2) (hx : a.eval x = .pointer (some ⟨b, 0, none⟩)) : (execOp a.eval o).run Try.prog w = .ok (.value (.pointer (some ⟨b, 2, none⟩))) w := by
  unfold execOp
  simp only [ho, hx]
  simp [go_sem]
theorem execFldAk3 {x : Operand} {b : Nat} (ho : o.op = .fieldAddr 35 x 3) (hx : a.eval x = .pointer (some ⟨b, 0, none⟩)) : (execOp a.eval o).run Try.prog w = .ok (.value (.pointer (some ⟨b, 3, none⟩))) w := by
  unfold execOp
  simp only [ho, hx]
  simp [go_sem]
end
theorem open_sl {W : World} {v : Value} {n : Nat} {f : Nat → Int} (h : SliceI W v n f) (hn : 0 < n) : ∃ b o c, v = .slice (some ⟨b, o, none⟩) n c ∧ b < W.heap.size ∧ ∀ j, j < n → W.cell? ⟨b, o + j, none⟩ = some (.int .i64 (f j)) := by
  obtain ⟨a, c, rfl, _, _, hs⟩ := h.shape
  obtain ⟨b, o, rfl, h1, h2⟩ := hs hn
  exact ⟨b, o, c, rfl, h1, h2⟩
end Go.Proofs.Ytdecmmcphcomhaa.Brd
