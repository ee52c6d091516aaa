import Derived.Test.YtghnhfigihnciaaGreatC9s
namespace Go.Proofs.YtghnhfigihnciaaGreat.Win
open Go.RowKit Gf8 Aes By8 Cel Cf
/- Right stays right behind Open and Add; scripts of steps. Written by tools/mkC9t.py. -/

structure Stps (W : World) (v : Value) (n : Nat) (pb : Nat → Bool) (ep : Nat → Int) (tw : Nat → Value) (m : Nat → Nat) (tg : Nat → Nat → Nat → Nat) : Prop where
  shape : ∃ a c, v = .slice a n c ∧ n ≤ c ∧ c < 9223372036854775808 ∧ (0 < n → ∃ b o, a = some ⟨b, o, none⟩ ∧ b < W.heap.size ∧ ∀ j, j < n → W.cell? ⟨b, o + j * 3 + 0, none⟩ = some (.bool (pb j)) ∧ W.cell? ⟨b, o + j * 3 + 1, none⟩ = some (.int .i64 (ep j)) ∧ W.cell? ⟨b, o + j * 3 + 2, none⟩ = some (tw j))
  lists : ∀ j, j < n → Tgs W (tw j) (m j) (tg j)
  nums : ∀ j, j < n → I64 (ep j)
  m16 : ∀ j, j < n → m j * 16 ≤ 140737488351232
section
variable {W W' : World} {v : Value} {n : Nat} {pb : Nat → Bool} {ep : Nat → Int} {tw : Nat → Value} {m : Nat → Nat} {tg : Nat → Nat → Nat → Nat}
theorem Stps.on (h : Stps W v n pb ep tw m tg) (hb : Below W.heap.size W W') : Stps W' v n pb ep tw m tg := by
  obtain ⟨⟨a, c, e, h1, h2, h3⟩, hl, hn, hm⟩ := h
  refine ⟨⟨a, c, e, h1, h2, fun h0 => ?_⟩, fun j hj => (hl j hj).on hb, hn, hm⟩
  obtain ⟨b, o, e1, e2, e3⟩ := h3 h0
  exact ⟨b, o, e1, Nat.lt_of_lt_of_le e2 hb.size, fun j hj => ⟨by rw [cell_below hb e2]; exact (e3 j hj).1, by rw [cell_below hb e2]; exact (e3 j hj).2.1, by rw [cell_below hb e2]; exact (e3 j hj).2.2⟩⟩
theorem Stps.shp (h : Stps W v n pb ep tw m tg) : ∃ a c, v = .slice a n c := by
  obtain ⟨a, c, e, _⟩ := h.shape
  exact ⟨a, c, e⟩
theorem Stps.at (h : Stps W v n pb ep tw m tg) (h0 : 0 < n) : ∃ b o c, v = .slice (some ⟨b, o, none⟩) n c ∧ b < W.heap.size ∧ ∀ j, j < n → W.cell? ⟨b, o + j * 3 + 0, none⟩ = some (.bool (pb j)) ∧ W.cell? ⟨b, o + j * 3 + 1, none⟩ = some (.int .i64 (ep j)) ∧ W.cell? ⟨b, o + j * 3 + 2, none⟩ = some (tw j) := by
  obtain ⟨a, c, e, _, _, h3⟩ := h.shape
  obtain ⟨b, o, e1, e2, e3⟩ := h3 h0
  exact ⟨b, o, c, by rw [e, e1], e2, e3⟩
end
section
variable {o : Oper} {a : Act} {w : World}
theorem execLdBo {x : Operand} {b k : Nat} {v : Value} (ho : o.op = .load 4 x) (hx : a.eval x = .pointer (some ⟨b, k, none⟩)) (hc : w.cell? ⟨b, k, none⟩ = some v) : (execOp a.eval o).run Tryz.prog w = .ok (.value v) w := by
  unfold execOp
  simp only [ho, hx]
  simp [go_sem, hc]
end
end Go.Proofs.YtghnhfigihnciaaGreat.Win
