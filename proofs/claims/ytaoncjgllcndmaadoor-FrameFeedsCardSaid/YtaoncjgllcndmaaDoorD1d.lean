import Derived.Test.YtaoncjgllcndmaaDoorD1a
namespace Go.Proofs.YtaoncjgllcndmaaDoor.Frm
open Go.RowKit Gf8 Aes By8 Cel
/- The reference's Pack. -/

/-- A [][]byte: n lists, the i-th of ln i bytes c i. -/
structure Cells (W : World) (cv : Value) (n : Nat) (xv : Nat → Value) (ln : Nat → Nat) (c : Nat → Nat → Nat) : Prop where
  shape : ∃ a cap, cv = .slice a n cap ∧ n ≤ cap ∧ cap < 9223372036854775808 ∧ (0 < n → ∃ b off, a = some ⟨b, off, none⟩ ∧ b < W.heap.size ∧ ∀ i, i < n → W.cell? ⟨b, off + i, none⟩ = some (xv i))
  cell : ∀ i, i < n → SliceN W (xv i) (ln i) (c i)
  nil : ∀ i, i < n → ∀ l cc, xv i = .slice none l cc → cc = 0
  lens : ∀ i, i < n → ln i ≤ 140737488351232
theorem Cells.on {W W' : World} {cv : Value} {n : Nat} {xv : Nat → Value} {ln : Nat → Nat} {c : Nat → Nat → Nat} (h : Cells W cv n xv ln c) (hb : Below W.heap.size W W') : Cells W' cv n xv ln c := by
  obtain ⟨a, cap, e, h1, h2, h3⟩ := h.shape
  refine ⟨⟨a, cap, e, h1, h2, fun h0 => ?_⟩, fun i hi => (h.cell i hi).on hb, h.nil, h.lens⟩
  obtain ⟨b, off, e2, hl, hc⟩ := h3 h0
  exact ⟨b, off, e2, Nat.lt_of_lt_of_le hl hb.size, fun i hi => by rw [cell_below hb hl]; exact hc i hi⟩
theorem Cells.one {W : World} {cv : Value} {n : Nat} {xv : Nat → Value} {ln : Nat → Nat} {c : Nat → Nat → Nat} (h : Cells W cv n xv ln c) : cv.oneCell' = true := by
  obtain ⟨a, cap, rfl, _⟩ := h.shape
  rfl
/-- Are the header's numbers in their ranges? -/
def hdOk (rd ep lf : Int) : Bool := decide (0 ≤ lf) && decide (lf ≤ 8) && decide (0 ≤ rd) && decide (rd < 4611686018427387904) && decide (0 ≤ ep) && decide (ep ≤ 4611686018427387904)
/-- Is each cell of 320 bytes? -/
def allC (n : Nat) (ln : Nat → Nat) : Bool := (List.range n).all fun i => ln i == 320
theorem allC_iff (n : Nat) (ln : Nat → Nat) : allC n ln = true ↔ ∀ i, i < n → ln i = 320 := by
  unfold allC
  simp [List.all_eq_true]
def packE (rd ep lf : Int) (n : Nat) (ln : Nat → Nat) : Nat := if hdOk rd ep lf then (if n ≤ 256 then (if allC n ln then 0 else 64) else 63) else 62
def packN (rd ep lf : Int) (n : Nat) (ln : Nat → Nat) : Nat := if packE rd ep lf n ln = 0 then cellAt n + 4 else 0
def packI (rd ep lf : Int) (n : Nat) (c : Nat → Nat → Nat) : Nat → Nat := packF rd.toNat ep.toNat lf.toNat n c
def hC (rd ep lf : Int) : Array Value := #[.int .i64 rd, .int .i64 ep, .int .i64 lf]
theorem zeroH : ∀ w, (zeroValue 23).run Tryd.prog w = .ok (.agg (hC 0 0 0)) w := by
  intro w
  simp [go_sem, hC]
/-- Pack's rows. -/
structure PS (A : Nat) (rd ep lf : Int) (cv : Value) (V W : World) : Prop where
  b : W.heap[A]? = some (.cells (bC rd ep lf cv) 26)
  h : W.heap[A + 1]? = some (.cells (hC rd ep lf) 23)
  bel : Below A V W
theorem PS.on {A : Nat} {rd ep lf : Int} {cv : Value} {V W W' : World} (h : PS A rd ep lf cv V W) (hb : Below W.heap.size W W') : PS A rd ep lf cv V W' := by
  have l1 := (Array.getElem?_eq_some_iff.1 h.b).1
  have l2 := (Array.getElem?_eq_some_iff.1 h.h).1
  exact ⟨by rw [hb.block _ l1]; exact h.b, by rw [hb.block _ l2]; exact h.h, h.bel.trans (hb.mono (by omega))⟩
theorem PS.grown {A : Nat} {rd ep lf : Int} {cv : Value} {V W W' : World} (h : PS A rd ep lf cv V W) {n : Nat} {v : Value} {xs : List Value} (own : W.ownsRow A 5 1 v n xs) (hg : W.grownBy W' v.ownBlock) : PS A rd ep lf cv V W' := by
  have l1 := (Array.getElem?_eq_some_iff.1 h.b).1
  have l2 := (Array.getElem?_eq_some_iff.1 h.h).1
  exact ⟨by rw [hg.block _ l1 (own_ne own h.b (by decide))]; exact h.b, by rw [hg.block _ l2 (own_ne own h.h (by decide))]; exact h.h, h.bel.grown hg (by omega) (fun k hk => (own.lt k hk).1)⟩
theorem PS.cells {A : Nat} {rd ep lf : Int} {cv : Value} {V W : World} (h : PS A rd ep lf cv V W) : W.cell? ⟨A, 3, none⟩ = some cv ∧ W.cell? ⟨A + 1, 0, none⟩ = some (.int .i64 rd) ∧ W.cell? ⟨A + 1, 1, none⟩ = some (.int .i64 ep) ∧ W.cell? ⟨A + 1, 2, none⟩ = some (.int .i64 lf) := by
  refine ⟨?_, ?_, ?_, ?_⟩
  · rw [cell_of_row _ _ _ _ _ _ h.b]; rfl
  · rw [cell_of_row _ _ _ _ _ _ h.h]; rfl
  · rw [cell_of_row _ _ _ _ _ _ h.h]; rfl
  · rw [cell_of_row _ _ _ _ _ _ h.h]; rfl
theorem range_bh {W : World} {A : Nat} {rd ep lf : Int} {cv : Value} {t : TypeId} (h : W.heap[A]? = some (.cells (bC rd ep lf cv) t)) : W.rangeAt A 0 [.int .i64 rd, .int .i64 ep, .int .i64 lf] := by
  intro j u hu
  rw [cell_of_row _ _ _ _ _ _ h]
  match j, hu with
  | 0, hu => exact hu
  | 1, hu => exact hu
  | 2, hu => exact hu
theorem execStHd {o : Oper} {a : Act} {w : World} {x y : Operand} {g : Nat} {r0 e0 l0 rd ep lf : Int} {t : TypeId} (ho : o.op = .store 23 x y) (hx : a.eval x = .pointer (some ⟨g, 0, none⟩)) (hy : a.eval y = .agg (hC rd ep lf)) (hg : w.heap[g]? = some (.cells (hC r0 e0 l0) t)) :
    (execOp a.eval o).run Tryd.prog w = .ok .skip (w.setRow g (hC rd ep lf)) :=
  execStMid ho hx hy hg (by show 0 + 3 ≤ 3; decide) (by kernel_rfl) (by simp [hC, Value.oneCell'])

/-- Pack's first rows. -/
theorem ps_new (V : World) (rd ep lf : Int) (cv : Value) : PS V.heap.size rd ep lf cv V (((V.alloc (.cells (bC rd ep lf cv) 26)).alloc (.cells (hC 0 0 0) 23)).setRow (V.heap.size + 1) (hC rd ep lf)) := by
  have h := heap2c V (.cells (bC rd ep lf cv) 26) (.cells (hC 0 0 0) 23)
  exact ⟨by rw [setRow_other _ _ _ _ (by omega)]; exact h.1, setRow_heap _ _ _ _ _ _ h.2, below4 (below2c V _ _) (by omega) _⟩
end Go.Proofs.YtaoncjgllcndmaaDoor.Frm
