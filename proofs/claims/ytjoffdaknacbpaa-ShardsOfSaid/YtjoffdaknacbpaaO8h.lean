import Derived.Test.YtjoffdaknacbpaaO8e
namespace Go.Proofs.Ytjoffdaknacbpaa.Sha
open Go.RowKit Gf8 Aes By8 Cel Cf Win Drw
/- Offers in memory; the reference's Lowest, Len. Written by tools/mkO8h.py. -/

/-- A list of offers. -/
structure Ofs (W : World) (v : Value) (n : Nat) (o : Nat → Off) : Prop where
  shape : ∃ a c, v = .slice a n c ∧ n ≤ c ∧ (0 < n → ∃ b q, a = some ⟨b, q, none⟩ ∧ b < W.heap.size ∧ ∀ j, j < n → (∀ i, i < 16 → W.cell? ⟨b, q + j * 17 + i, none⟩ = some (.int .u8 (((o j).1 i : Nat) : Int))) ∧ W.cell? ⟨b, q + j * 17 + 16, none⟩ = some (.int .i64 (o j).2))
  byt : ∀ j, j < n → ∀ i, i < 16 → (o j).1 i < 256
section
variable {W W' : World} {v : Value} {n : Nat} {o : Nat → Off}
theorem Ofs.on (h : Ofs W v n o) (hb : Below W.heap.size W W') : Ofs W' v n o := by
  obtain ⟨⟨a, c, e, h1, h3⟩, hp⟩ := h
  refine ⟨⟨a, c, e, h1, fun h0 => ?_⟩, hp⟩
  obtain ⟨b, q, e1, e2, e3⟩ := h3 h0
  exact ⟨b, q, e1, Nat.lt_of_lt_of_le e2 hb.size, fun j hj => ⟨fun i hi => by rw [cell_below hb e2]; exact (e3 j hj).1 i hi, by rw [cell_below hb e2]; exact (e3 j hj).2⟩⟩
theorem Ofs.shp (h : Ofs W v n o) : ∃ a c, v = .slice a n c := by
  obtain ⟨a, c, e, _⟩ := h.shape
  exact ⟨a, c, e⟩
theorem Ofs.at (h : Ofs W v n o) (h0 : 0 < n) : ∃ b q c, v = .slice (some ⟨b, q, none⟩) n c ∧ n ≤ c ∧ b < W.heap.size ∧ ∀ j, j < n → (∀ i, i < 16 → W.cell? ⟨b, q + j * 17 + i, none⟩ = some (.int .u8 (((o j).1 i : Nat) : Int))) ∧ W.cell? ⟨b, q + j * 17 + 16, none⟩ = some (.int .i64 (o j).2) := by
  obtain ⟨a, c, e, hc, h3⟩ := h.shape
  obtain ⟨b, q, e1, e2, e3⟩ := h3 h0
  exact ⟨b, q, c, by rw [e, e1], hc, e2, e3⟩
theorem Ofs.sub {b q c k : Nat} (h : Ofs W (.slice (some ⟨b, q, none⟩) n c) n o) (hk : k ≤ n) : Ofs W (.slice (some ⟨b, q, none⟩) k c) k o := by
  obtain ⟨⟨a, c', e, hc, h3⟩, hp⟩ := h
  injection e with e1 e2 e4
  subst e4
  refine ⟨⟨_, c, rfl, by omega, fun h0 => ?_⟩, fun j hj => hp j (by omega)⟩
  obtain ⟨b', q', f1, f2, f3⟩ := h3 (by omega)
  rw [f1] at e1
  injection e1 with e1
  injection e1 with e1 e5
  subst e1
  subst e5
  exact ⟨b, q, rfl, f2, fun j hj => f3 j (by omega)⟩
end
section
variable {o : Oper} {a : Act} {w : World}
end
end Go.Proofs.Ytjoffdaknacbpaa.Sha
