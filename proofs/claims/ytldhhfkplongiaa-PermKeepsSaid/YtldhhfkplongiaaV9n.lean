import Derived.Test.YtldhhfkplongiaaV9m
namespace Go.Proofs.Ytldhhfkplongiaa.Tap
open Go.RowKit Gf8 Aes By8 Cel Cf
/- append to a row that may bear a mark behind its cells. -/

theorem storeCells_mark (P : Program) (g o : Nat) (t : TypeId) (fr : Nat × Nat) : ∀ (vs : List Value) (i : Nat) (cur : Array Value) (w : World), w.heap[g]? = some (.cells cur t fr) → (cur.size ≤ fr.1 ∨ fr.2 = 0) → o + i + vs.length ≤ cur.size → (∀ v ∈ vs, v.oneCell' = true) →
    (storeCells ⟨g, o, none⟩ vs i).run P w = .ok () (w.setRow g (cur.toList.take (o + i) ++ vs ++ cur.toList.drop (o + i + vs.length)).toArray)
  | [], i, cur, w, hg, _, _, _ => by
    simp only [storeCells, List.append_nil, List.length_nil, Nat.add_zero, List.take_append_drop, Array.toArray_toList]
    rw [setRow_self w g cur t fr hg]
    rfl
  | v :: rest, i, cur, w, hg, hfz, hl, h1 => by
    have hi : o + i < cur.size := by simp at hl; omega
    have hadd : (⟨g, o, none⟩ : Addr).add i = ⟨g, o + i, none⟩ := by unfold Addr.add; split <;> simp_all
    have hcell : w.cell? ⟨g, o + i, none⟩ = some cur[o + i] := by simp [World.cell?, hg, hi]
    have hfro : w.frozen? ⟨g, o + i, none⟩ = false := by
      simp [World.frozen?, hg]
      omega
    have hst : (store ((⟨g, o, none⟩ : Addr).add i) v).run P w = .ok () (w.setRow g (cur.setIfInBounds (o + i) v)) := by
      rw [hadd, run_store P w _ v _ (h1 v (by simp)), hcell]
      simp [hfro, setCell_eq_setRow w g (o + i) cur t fr v hg]
    have ih := storeCells_mark P g o t fr rest (i + 1) (cur.setIfInBounds (o + i) v) (w.setRow g (cur.setIfInBounds (o + i) v)) (setRow_heap w g cur _ t _ hg) (by rw [Array.size_setIfInBounds]; exact hfz) (by simp at hl ⊢; omega) (fun x hx => h1 x (by simp [hx]))
    simp only [storeCells, Sem.run_bind, hst, Result.andThen_ok, ih, setRow_setRow]
    congr 3
    have e := list_seg_step cur.toList (o + i) v rest (by simp at hl ⊢; omega)
    simpa [Array.toList_setIfInBounds, Nat.add_assoc] using e
/-- Two lists, one behind the other. -/
def cat2 (n : Nat) (p q : Nat → Nat) : Nat → Nat := fun j => if j < n then p j else q (j - n)
theorem cells_listN {W : World} {b off n : Nat} {p : Nat → Nat} (h : ∀ j, j < n → W.cell? ⟨b, off + j, none⟩ = some (.int .u8 (p j : Nat))) : ∀ j u, (bytesL n p)[j]? = some u → W.cell? ((⟨b, off, none⟩ : Addr).add j) = some u := by
  intro j u hu
  have hj : j < n := by have := (List.getElem?_eq_some_iff.1 hu).1; simpa [bytesL] using this
  rw [Go.WideShapes.add_plain, h j hj]
  simpa [bytesL, hj] using hu
theorem bytesL_len (n : Nat) (p : Nat → Nat) : (bytesL n p).length = n := by simp [bytesL]
theorem bytesL_one (n : Nat) (p : Nat → Nat) : ∀ u ∈ bytesL n p, u.oneCell' = true := by
  intro z hz
  unfold bytesL at hz
  obtain ⟨k, _, rfl⟩ := List.mem_map.1 hz
  rfl
theorem bytesL_get (n j : Nat) (p : Nat → Nat) (h : j < n) : (bytesL n p)[j]? = some (.int .u8 (p j : Nat)) := by simp [bytesL, h]
theorem OwnM.some {W : World} {B n : Nat} {v : Value} {p : Nat → Nat} (h : OwnM W B v n p) : ∀ l c, v ≠ .slice none l c := by
  obtain ⟨g, cap, cur, fz, rfl, _⟩ := h
  intro l c e
  cases e
/-- A row of bytes that lies higher than what was written into. -/
theorem OwnM.over {W W' : World} {B b n : Nat} {v : Value} {p : Nat → Nat} {row : Option Nat} (h : OwnM W B v n p) (hg : W.grownBy W' row) (hr : ∀ k, row = Option.some k → k < b) (hb : b ≤ B) : OwnM W' B v n p := by
  obtain ⟨g, cap, cur, fz, e, hB, h1, hrest⟩ := h
  refine ⟨g, cap, cur, fz, e, hB, ?_, hrest⟩
  rw [hg.block g (Array.getElem?_eq_some_iff.1 h1).1 (fun q => ?_)]
  · exact h1
  · have := hr g q.symm
    omega
/-- A block of another type. -/
theorem heap_over {W W' : World} {B n : Nat} {v : Value} {p : Nat → Nat} {g : Nat} {c : Array Value} {t : TypeId} {fr : Nat × Nat} (h : OwnM W B v n p) (hg : W.grownBy W' v.ownBlock) (hh : W.heap[g]? = some (.cells c t fr)) (ht : t ≠ 5) : W'.heap[g]? = some (.cells c t fr) := by
  obtain ⟨k, cap, cur, fz, rfl, hB, h1, _⟩ := h
  rw [hg.block g (Array.getElem?_eq_some_iff.1 hh).1 (fun q => ?_)]
  · exact hh
  · obtain rfl : g = k := by simpa [Value.ownBlock] using q
    rw [h1] at hh
    injection hh with hh
    injection hh with _ hh _
    exact ht hh.symm
theorem OwnM.row {W : World} {B n : Nat} {v : Value} {p : Nat → Nat} (h : OwnM W B v n p) : ∀ k, v.ownBlock = Option.some k → B ≤ k ∧ k < W.heap.size := by
  obtain ⟨g, cap, cur, fz, rfl, hB, h1, _⟩ := h
  intro k hk
  obtain rfl : g = k := by simpa [Value.ownBlock] using hk
  exact ⟨hB, (Array.getElem?_eq_some_iff.1 h1).1⟩
theorem shp9 {W : World} {v : Value} {n : Nat} {p : Nat → Nat} (h : SliceN W v n p) : ∃ a c, v = .slice a n c := by
  obtain ⟨a, c, e, _⟩ := h.shape
  exact ⟨a, c, e⟩
section
variable {o : Oper} {a : Act} {w : World}
theorem execLeN {x y : Operand} {p q : Nat} (ho : o.op = .binOp .leq 3 x y 3) (hx : a.eval x = .int .i64 (p : Int)) (hy : a.eval y = .int .i64 (q : Int)) : (execOp a.eval o).run Try.prog w = .ok (.value (.bool (decide (p ≤ q)))) w := by
  unfold execOp
  simp only [ho, hx, hy]
  by_cases h : p ≤ q
  · simp [go_sem, h]
  · simp [go_sem, h]
theorem execNeB {x y : Operand} {p q : Bool} (ho : o.op = .binOp .neq 4 x y 4) (hx : a.eval x = .bool p) (hy : a.eval y = .bool q) : (execOp a.eval o).run Try.prog w = .ok (.value (.bool (p != q))) w := by
  unfold execOp
  simp only [ho, hx, hy]
  cases p <;> cases q <;> simp [go_sem]
end
end Go.Proofs.Ytldhhfkplongiaa.Tap
