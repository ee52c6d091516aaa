import Derived.Test.YtdkkbgokemimfaaDoorD3a
namespace Go.Proofs.YtdkkbgokemimfaaDoor.Frm
open Go.RowKit Gf8 Aes By8 Cel
/- General things for the laws. -/

theorem eqlH (a b c a' b' c' : Int) : ∀ w, (binOp .eql 23 (.agg (hC a b c)) (.agg (hC a' b' c'))).run Tryd.prog w = .ok (.bool (a == a' && b == b' && c == c')) w := by
  intro w
  simp [go_sem, hC]
  by_cases h1 : a = a' <;> by_cases h2 : b = b' <;> by_cases h3 : c = c' <;> simp [h1, h2, h3]
/-- What lies behind an own list of bytes. -/
theorem own_byte {W : World} {B n : Nat} {v : Value} {p : Nat → Nat} (h : W.ownsRow B 5 1 v n (bytesL n p)) (hn : 0 < n) : ∃ g cap, v = .slice (some ⟨g, 0, none⟩) n cap ∧ B ≤ g ∧ g < W.heap.size ∧ (∃ cur, W.heap[g]? = some (.cells cur 5)) ∧ ∀ j, j < n → W.cell? ⟨g, j, none⟩ = some (.int .u8 (p j)) := by
  rcases h.2 with ⟨_, e⟩ | ⟨g, cap, cur, rfl, hB, hg, h1, h2, h3, ht⟩
  · omega
  · refine ⟨g, cap, rfl, hB, (Array.getElem?_eq_some_iff.1 hg).1, ⟨cur, hg⟩, fun j hj => ?_⟩
    rw [cell_of_row _ _ _ _ _ _ hg]
    have : (List.take (n * 1) cur.toList)[j]? = some (.int .u8 (p j)) := by rw [ht]; exact bytesL_at n p hj
    rw [List.getElem?_take, if_pos (by omega), Array.getElem?_toList] at this
    exact this
theorem packE_le (rd ep lf : Int) (n : Nat) (ln : Nat → Nat) : packE rd ep lf n ln ≤ 64 := by
  unfold packE
  split
  · split
    · split <;> omega
    · omega
  · omega
/-- What is packed without an error. -/
theorem packE_ok {rd ep lf : Int} {n : Nat} {ln : Nat → Nat} (h : packE rd ep lf n ln = 0) : ∃ r e l : Nat, rd = r ∧ ep = e ∧ lf = l ∧ Good r e l n ∧ (∀ i, i < n → ln i = 320) ∧ packN rd ep lf n ln = cellAt n + 4 := by
  have h' := h
  unfold packE at h
  by_cases h1 : hdOk rd ep lf = true
  · rw [if_pos h1] at h
    by_cases h2 : n ≤ 256
    · rw [if_pos h2] at h
      by_cases h3 : allC n ln = true
      · obtain ⟨r, e, l, a, b, c, d⟩ := good_of h1 h2
        exact ⟨r, e, l, a, b, c, d, (allC_iff n ln).1 h3, by unfold packN; rw [if_pos h']⟩
      · rw [if_neg h3] at h; cases h
    · rw [if_neg h2] at h; cases h
  · rw [if_neg h1] at h; cases h
theorem xor_ne {a b : Nat} (h : b ≠ 0) : a ^^^ b ≠ a := by
  intro e
  apply h
  have : a ^^^ (a ^^^ b) = a ^^^ a := by rw [e]
  rw [← Nat.xor_assoc, Nat.xor_self, Nat.zero_xor] at this
  exact this
/-- Read of what is no batch. -/
theorem bad_read {p : Nat → Nat} {len : Nat} (h : (jE p len).2 ≠ 0) : okR p len = false ∧ rRound p len = 0 ∧ rEpoch p len = 0 ∧ rLeft p len = 0 ∧ rK p len = 0 := by
  have o1 : okR p len = false := by unfold okR; simpa using h
  refine ⟨o1, ?_, ?_, ?_, ?_⟩
  · unfold rRound; rw [o1]; rfl
  · unfold rEpoch; rw [o1]; rfl
  · unfold rLeft; rw [o1]; rfl
  · unfold rK; rw [o1]; rfl
theorem range_b3 {W : World} {A : Nat} {rd ep lf : Int} {cv : Value} {t : TypeId} (h : W.heap[A]? = some (.cells (bC rd ep lf cv) t)) : W.rangeAt A 0 (hC rd ep lf).toList := range_bh h
theorem range_h3 {W : World} {A : Nat} {rd ep lf : Int} {t : TypeId} (h : W.heap[A]? = some (.cells (hC rd ep lf) t)) : W.rangeAt A 0 (hC rd ep lf).toList := by
  intro j u hu
  rw [cell_of_row _ _ _ _ _ _ h, Nat.zero_add, ← Array.getElem?_toList]
  exact hu
theorem range_b4 {W : World} {A : Nat} {rd ep lf : Int} {cv : Value} {t : TypeId} (h : W.heap[A]? = some (.cells (bC rd ep lf cv) t)) : W.rangeAt A 0 (bC rd ep lf cv).toList := by
  intro j u hu
  rw [cell_of_row _ _ _ _ _ _ h, Nat.zero_add, ← Array.getElem?_toList]
  exact hu
theorem execLdBt {o : Oper} {a : Act} {w : World} {x : Operand} {A : Nat} {rd ep lf : Int} {cv : Value} {t : TypeId} (ho : o.op = .load 26 x) (hx : a.eval x = .pointer (some ⟨A, 0, none⟩)) (h : w.heap[A]? = some (.cells (bC rd ep lf cv) t)) : (execOp a.eval o).run Tryd.prog w = .ok (.value (.agg (bC rd ep lf cv))) w :=
  execLoadMid ho hx (range_b4 h) Tryd.underlying26 rfl (by kernel_rfl)
end Go.Proofs.YtdkkbgokemimfaaDoor.Frm
