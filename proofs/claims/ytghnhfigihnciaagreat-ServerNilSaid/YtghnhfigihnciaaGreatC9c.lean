import Derived.Test.YtghnhfigihnciaaGreatC9b
import Derived.Test.YtghnhfigihnciaaGreatF9c
namespace Go.Proofs.YtghnhfigihnciaaGreat.Win
open Go.RowKit Gf8 Aes By8 Cel Cf
/- Windows, epochs and tags in memory; the reference's less, Len, Has. Written by tools/mkC9c.py. -/

abbrev I64 (z : Int) : Prop := -9223372036854775808 ≤ z ∧ z < 9223372036854775808
/-- A window's cells. -/
def wC (nw : Int) (v : Value) : Array Value := #[.int .i64 nw, v]
/-- A list of tags. -/
structure Tgs (W : World) (v : Value) (n : Nat) (t : Nat → Nat → Nat) : Prop where
  shape : ∃ a c, v = .slice a n c ∧ n ≤ c ∧ c < 9223372036854775808 ∧ (0 < n → ∃ b o, a = some ⟨b, o, none⟩ ∧ b < W.heap.size ∧ ∀ j, j < n → ∀ i, i < 16 → W.cell? ⟨b, o + j * 16 + i, none⟩ = some (.int .u8 ((t j i : Nat) : Int)))
  byt : ∀ j, j < n → ∀ i, i < 16 → t j i < 256
  nil : ∀ l c, v = .slice none l c → c = 0
/-- A list of epochs. -/
structure Eps (W : World) (v : Value) (n : Nat) (nu : Nat → Int) (tv : Nat → Value) (ln : Nat → Nat) (t : Nat → Nat → Nat → Nat) : Prop where
  shape : ∃ a c, v = .slice a n c ∧ n ≤ c ∧ c < 9223372036854775808 ∧ (0 < n → ∃ b o, a = some ⟨b, o, none⟩ ∧ b < W.heap.size ∧ ∀ j, j < n → W.cell? ⟨b, o + j * 2 + 0, none⟩ = some (.int .i64 (nu j)) ∧ W.cell? ⟨b, o + j * 2 + 1, none⟩ = some (tv j))
  lists : ∀ j, j < n → Tgs W (tv j) (ln j) (t j)
  nums : ∀ j, j < n → I64 (nu j)
section
variable {W W' : World} {v : Value} {n : Nat} {t : Nat → Nat → Nat}
theorem Tgs.on (h : Tgs W v n t) (hb : Below W.heap.size W W') : Tgs W' v n t := by
  obtain ⟨⟨a, c, e, h1, h2, h3⟩, hp, hz⟩ := h
  refine ⟨⟨a, c, e, h1, h2, fun h0 => ?_⟩, hp, hz⟩
  obtain ⟨b, o, e1, e2, e3⟩ := h3 h0
  exact ⟨b, o, e1, Nat.lt_of_lt_of_le e2 hb.size, fun j hj i hi => by rw [cell_below hb e2]; exact e3 j hj i hi⟩
theorem Tgs.shp (h : Tgs W v n t) : ∃ a c, v = .slice a n c := by
  obtain ⟨a, c, e, _⟩ := h.shape
  exact ⟨a, c, e⟩
theorem Tgs.at (h : Tgs W v n t) (h0 : 0 < n) : ∃ b o c, v = .slice (some ⟨b, o, none⟩) n c ∧ b < W.heap.size ∧ ∀ j, j < n → ∀ i, i < 16 → W.cell? ⟨b, o + j * 16 + i, none⟩ = some (.int .u8 ((t j i : Nat) : Int)) := by
  obtain ⟨a, c, e, _, _, h3⟩ := h.shape
  obtain ⟨b, o, e1, e2, e3⟩ := h3 h0
  exact ⟨b, o, c, by rw [e, e1], e2, e3⟩
end
section
variable {W W' : World} {v : Value} {n : Nat} {nu : Nat → Int} {tv : Nat → Value} {ln : Nat → Nat} {t : Nat → Nat → Nat → Nat}
theorem Eps.on (h : Eps W v n nu tv ln t) (hb : Below W.heap.size W W') : Eps W' v n nu tv ln t := by
  obtain ⟨⟨a, c, e, h1, h2, h3⟩, hl, hn⟩ := h
  refine ⟨⟨a, c, e, h1, h2, fun h0 => ?_⟩, fun j hj => (hl j hj).on hb, hn⟩
  obtain ⟨b, o, e1, e2, e3⟩ := h3 h0
  exact ⟨b, o, e1, Nat.lt_of_lt_of_le e2 hb.size, fun j hj => ⟨by rw [cell_below hb e2]; exact (e3 j hj).1, by rw [cell_below hb e2]; exact (e3 j hj).2⟩⟩
theorem Eps.shp (h : Eps W v n nu tv ln t) : ∃ a c, v = .slice a n c := by
  obtain ⟨a, c, e, _⟩ := h.shape
  exact ⟨a, c, e⟩
theorem Eps.at (h : Eps W v n nu tv ln t) (h0 : 0 < n) : ∃ b o c, v = .slice (some ⟨b, o, none⟩) n c ∧ b < W.heap.size ∧ ∀ j, j < n → W.cell? ⟨b, o + j * 2 + 0, none⟩ = some (.int .i64 (nu j)) ∧ W.cell? ⟨b, o + j * 2 + 1, none⟩ = some (tv j) := by
  obtain ⟨a, c, e, _, _, h3⟩ := h.shape
  obtain ⟨b, o, e1, e2, e3⟩ := h3 h0
  exact ⟨b, o, c, by rw [e, e1], e2, e3⟩
end
theorem on9 {W X : World} {g : Nat} {c : Obj} (h : W.heap[g]? = some c) (b : Below W.heap.size W X) : X.heap[g]? = some c := by rw [b.block _ (Array.getElem?_eq_some_iff.1 h).1]; exact h
theorem execDec {o : Oper} {a : Act} {P : Program} {w w' : World} {b c : Bool} (h : (execOp a.eval o).run P w = .ok (.value (.bool b)) w') (e : b = c) : (execOp a.eval o).run P w = .ok (.value (.bool c)) w' := by rw [h, e]
section
variable {o : Oper} {a : Act} {w : World} {x y : Operand} {p q : Nat}
theorem execNeN (ho : o.op = .binOp .neq 3 x y 3) (hx : a.eval x = .int .i64 (p : Int)) (hy : a.eval y = .int .i64 (q : Int)) : (execOp a.eval o).run Tryz.prog w = .ok (.value (.bool (decide (p ≠ q)))) w := by
  unfold execOp
  simp only [ho, hx, hy]
  by_cases h : p = q
  · subst h
    simp [go_sem]
  · have h2 : ¬ (p : Int) = q := by omega
    simp [go_sem, h, h2]
end
section
variable {o : Oper} {a : Act} {w : World}
theorem execFldE0 {x : Operand} {b k : Nat} (ho : o.op = .fieldAddr 65 x 0) (hx : a.eval x = .pointer (some ⟨b, k, none⟩)) : (execOp a.eval o).run Tryz.prog w = .ok (.value (.pointer (some ⟨b, k + 0, none⟩))) w := by
  unfold execOp
  simp only [ho, hx]
  simp [go_sem]
theorem execFldE1 {x : Operand} {b k : Nat} (ho : o.op = .fieldAddr 65 x 1) (hx : a.eval x = .pointer (some ⟨b, k, none⟩)) : (execOp a.eval o).run Tryz.prog w = .ok (.value (.pointer (some ⟨b, k + 1, none⟩))) w := by
  unfold execOp
  simp only [ho, hx]
  simp [go_sem]
theorem execIdxEs {x i : Operand} {b off n cap k : Nat} (ho : o.op = .indexAddr 29 x i) (hx : a.eval x = .slice (some ⟨b, off, none⟩) n cap) (hi : a.eval i = .int .i64 ((k : Nat) : Int)) (hk : k < n) : (execOp a.eval o).run Tryz.prog w = .ok (.value (.pointer (some ⟨b, off + k * 2, none⟩))) w := by
  unfold execOp
  simp only [ho, hx, hi]
  simp [go_sem, hk]
theorem execIdxTs {x i : Operand} {b off n cap k : Nat} (ho : o.op = .indexAddr 63 x i) (hx : a.eval x = .slice (some ⟨b, off, none⟩) n cap) (hi : a.eval i = .int .i64 ((k : Nat) : Int)) (hk : k < n) : (execOp a.eval o).run Tryz.prog w = .ok (.value (.pointer (some ⟨b, off + k * 16, none⟩))) w := by
  unfold execOp
  simp only [ho, hx, hi]
  simp [go_sem, hk]
theorem execLenEs {x : Operand} {v : Value} {len : Nat} (ho : o.op = .call { callee := .builtin .len, args := #[x], argTypes := #[29] }) (hx : a.eval x = v) (hv : ∃ ao c, v = .slice ao len c) : (execOp a.eval o).run Tryz.prog w = .ok (.value (.int .i64 (len : Int))) w := by
  obtain ⟨g, c, rfl⟩ := hv
  unfold execOp
  simp only [ho, resolve, invoke, builtin, List.map_toArray, List.map_cons, List.map_nil, hx]
  simp [go_sem]
theorem execLenTs {x : Operand} {v : Value} {len : Nat} (ho : o.op = .call { callee := .builtin .len, args := #[x], argTypes := #[63] }) (hx : a.eval x = v) (hv : ∃ ao c, v = .slice ao len c) : (execOp a.eval o).run Tryz.prog w = .ok (.value (.int .i64 (len : Int))) w := by
  obtain ⟨g, c, rfl⟩ := hv
  unfold execOp
  simp only [ho, resolve, invoke, builtin, List.map_toArray, List.map_cons, List.map_nil, hx]
  simp [go_sem]
theorem execLdEs {x : Operand} {b k : Nat} {v : Value} (ho : o.op = .load 29 x) (hx : a.eval x = .pointer (some ⟨b, k, none⟩)) (hc : w.cell? ⟨b, k, none⟩ = some v) : (execOp a.eval o).run Tryz.prog w = .ok (.value v) w := by
  unfold execOp
  simp only [ho, hx]
  simp [go_sem, hc]
theorem execLdTs {x : Operand} {b k : Nat} {v : Value} (ho : o.op = .load 63 x) (hx : a.eval x = .pointer (some ⟨b, k, none⟩)) (hc : w.cell? ⟨b, k, none⟩ = some v) : (execOp a.eval o).run Tryz.prog w = .ok (.value v) w := by
  unfold execOp
  simp only [ho, hx]
  simp [go_sem, hc]
theorem execLd2 {x : Operand} {b k : Nat} {v : Value} (ho : o.op = .load 2 x) (hx : a.eval x = .pointer (some ⟨b, k, none⟩)) (hc : w.cell? ⟨b, k, none⟩ = some v) : (execOp a.eval o).run Tryz.prog w = .ok (.value v) w := by
  unfold execOp
  simp only [ho, hx]
  simp [go_sem, hc]
end
end Go.Proofs.YtghnhfigihnciaaGreat.Win
