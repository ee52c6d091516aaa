import Derived.Test.YtcibogmghagpoaaV9n
namespace Go.Proofs.Ytcibogmghagpoaa.Drw
open Go.RowKit Gf8 Aes By8 Cel Cf Tap
/- Lists of ints. -/

/-- A []int. -/
structure SliceI (w : World) (v : Value) (len : Nat) (f : Nat → Int) : Prop where
  shape : ∃ a cap, v = .slice a len cap ∧ len ≤ cap ∧ cap ≤ maxLen ∧ (0 < len → ∃ b off, a = some ⟨b, off, none⟩ ∧ b < w.heap.size ∧ ∀ j, j < len → w.cell? ⟨b, off + j, none⟩ = some (.int .i64 (f j)))
  fits : ∀ j, j < len → -9223372036854775808 ≤ f j ∧ f j < 9223372036854775808
theorem SliceI.on {w w' : World} {v : Value} {len : Nat} {f : Nat → Int} (h : SliceI w v len f) (hb : Below w.heap.size w w') : SliceI w' v len f := by
  obtain ⟨⟨a, cap, e, h1, h2, h3⟩, hp⟩ := h
  refine ⟨⟨a, cap, e, h1, h2, fun h0 => ?_⟩, hp⟩
  obtain ⟨b, off, e1, e2, e3⟩ := h3 h0
  exact ⟨b, off, e1, Nat.lt_of_lt_of_le e2 hb.size, fun j hj => by rw [cell_below hb e2]; exact e3 j hj⟩
theorem SliceI.cg {w : World} {v : Value} {len : Nat} {f g : Nat → Int} (h : SliceI w v len f) (e : ∀ j, j < len → f j = g j) : SliceI w v len g := by
  obtain ⟨⟨a, cap, q, h1, h2, h3⟩, hp⟩ := h
  refine ⟨⟨a, cap, q, h1, h2, fun h0 => ?_⟩, fun j hj => by rw [← e j hj]; exact hp j hj⟩
  obtain ⟨b, off, e1, e2, e3⟩ := h3 h0
  exact ⟨b, off, e1, e2, fun j hj => by rw [e3 j hj, e j hj]⟩
theorem SliceI.shp {w : World} {v : Value} {len : Nat} {f : Nat → Int} (h : SliceI w v len f) : ∃ a c, v = .slice a len c := by
  obtain ⟨a, c, e, _⟩ := h.shape
  exact ⟨a, c, e⟩
section
variable {o : Oper} {a : Act} {w : World}
theorem execCv53 {x : Operand} {p : Nat} (ho : o.op = .convert 5 3 x) (hx : a.eval x = .int .u8 (p : Int)) (h : p < 256) : (execOp a.eval o).run Try.prog w = .ok (.value (.int .i64 (p : Int))) w := by
  have e : IntKind.i64.wrap (p : Int) = (p : Int) := by simp [IntKind.wrap, IntKind.bits, IntKind.signed]; omega
  unfold execOp
  simp only [ho, hx]
  simp [go_sem, e]
end
end Go.Proofs.Ytcibogmghagpoaa.Drw
