import Derived.Test.YtmfaapbhehhlpaaV9o
import Derived.Test.YtmfaapbhehhlpaaV9i
namespace Go.Proofs.Ytmfaapbhehhlpaa.Tap
open Go.RowKit Gf8 Aes By8 Cel Cf
/- What Split answers. -/

/-- The lists of parts: which, how long, and what they hold. -/
def ptX (nv bv : Value) (x : Nat → Value) : Nat → Value := fun t => if t = 0 then nv else if t = 1 then bv else x (t - 2)
def ptN (ln lb lq : Nat) : Nat → Nat := fun t => if t = 0 then ln else if t = 1 then lb else lq
def ptF (f : Nat → Nat) (ln lb lq : Nat) : Nat → Nat → Nat := fun t j => if t = 0 then f j else if t = 1 then f (ln + j) else f (ln + lb + (t - 2) * lq + j)
structure PtS (W : World) (B n : Nat) (nv bv cv : Value) (x : Nat → Value) (ln lb lq : Nat) (f : Nat → Nat) : Prop where
  own : W.ownsRow B 31 1 cv n (lL x n)
  fam : Fam B (2 + n) (ptX nv bv x) (ptN ln lb lq) (ptF f ln lb lq) W
theorem ownsLL_below {W W' : World} {B n : Nat} {v : Value} {xs : List Value} {t : TypeId} {s : Nat} (h : W.ownsRow B t s v n xs) (hb : Below W.heap.size W W') : W'.ownsRow B t s v n xs := by
  refine ⟨h.1, ?_⟩
  rcases h.2 with h | ⟨g, cap, cur, e, hB, hg, hr⟩
  · exact Or.inl h
  · exact Or.inr ⟨g, cap, cur, e, hB, on9 hg hb, hr⟩
theorem PtS.on {W W' : World} {B n : Nat} {nv bv cv : Value} {x : Nat → Value} {ln lb lq : Nat} {f : Nat → Nat} (h : PtS W B n nv bv cv x ln lb lq f) (hb : Below W.heap.size W W') : PtS W' B n nv bv cv x ln lb lq f := ⟨ownsLL_below h.own hb, h.fam.on hb⟩
theorem PtS.base {W : World} {B C n : Nat} {nv bv cv : Value} {x : Nat → Value} {ln lb lq : Nat} {f : Nat → Nat} (h : PtS W C n nv bv cv x ln lb lq f) (hB : B ≤ C) : PtS W B n nv bv cv x ln lb lq f := ⟨ownW_base9 h.own hB, fam_base h.fam hB⟩
/-- A list of lists being filled. -/
def LiR (R n i : Nat) (x : Nat → Value) (W : World) : Prop := ∃ c, W.heap[R]? = some (.cells c 31) ∧ c.size = n ∧ ∀ t, t < i → c[t]? = some (x t)
theorem LiR.on {R n i : Nat} {x : Nat → Value} {W W' : World} (h : LiR R n i x W) (hb : Below W.heap.size W W') : LiR R n i x W' := by
  obtain ⟨c, h1, h2, h3⟩ := h
  exact ⟨c, on9 h1 hb, h2, h3⟩
theorem LiR.begin (W : World) (n : Nat) (x : Nat → Value) : LiR W.heap.size n 0 x (W.alloc (.cells (madeCells #[.slice none 0 0] n) 31)) := ⟨_, heapNew W _, by simp [madeCells], fun t ht => by omega⟩
theorem LiR.put {R n i : Nat} {x : Nat → Value} {W : World} (h : LiR R n i x W) (hi : i < n) (r : Value) : LiR R n (i + 1) (updX x i r) (W.setCell ⟨R, 0 + i, none⟩ r) := by
  obtain ⟨c, h1, h2, h3⟩ := h
  refine ⟨c.setIfInBounds (0 + i) r, heap4 _ h1, by rw [Array.size_setIfInBounds]; exact h2, fun t ht => ?_⟩
  rw [Array.getElem?_setIfInBounds, Nat.zero_add]
  unfold updX
  by_cases e : i = t
  · subst e
    rw [if_pos rfl, if_pos rfl, if_pos (by omega)]
  · rw [if_neg e, if_neg (fun q => e q.symm)]
    exact h3 t (by omega)
theorem LiR.cell {R n i : Nat} {x : Nat → Value} {W : World} (h : LiR R n i x W) {k : Nat} (hk : k < n) : (∃ v, W.cell? ⟨R, k, none⟩ = some v) ∧ W.frozen? ⟨R, k, none⟩ = false := by
  obtain ⟨c, h1, h2, _⟩ := h
  exact ⟨⟨_, by rw [cell_of_row _ _ _ _ _ _ h1]; exact Array.getElem?_eq_getElem (by omega)⟩, frozen4 h1⟩
theorem LiR.own {R n B : Nat} {x : Nat → Value} {W : World} (h : LiR R n n x W) (hB : B ≤ R) (hn : n ≤ 1000) : W.ownsRow B 31 1 (.slice (some ⟨R, 0, none⟩) n n) n (lL x n) := by
  obtain ⟨c, h1, h2, h3⟩ := h
  refine ⟨by rw [lL_len, Nat.mul_one], Or.inr ⟨R, n, c, rfl, hB, h1, Nat.le_refl _, by unfold maxLen; omega, by rw [h2, Nat.mul_one], ?_⟩⟩
  apply List.ext_getElem?
  intro k
  by_cases e : k < n
  · rw [List.getElem?_take, if_pos (by omega), Array.getElem?_toList, h3 k e, lL_get x n k e]
  · rw [List.getElem?_eq_none (by simp; omega), List.getElem?_eq_none (by rw [lL_len]; omega)]
/-- Rows of bytes stay where a list of lists is written into. -/
theorem fam_setL {B m R k : Nat} {x : Nat → Value} {nn : Nat → Nat} {ff : Nat → Nat → Nat} {W : World} {v : Value} {c : Array Value} (h : Fam B m x nn ff W) (hR : W.heap[R]? = some (.cells c 31)) : Fam B m x nn ff (W.setCell ⟨R, k, none⟩ v) :=
  ⟨fun t ht => by
    have ht2 := h.rows t ht
    refine ⟨ht2.1, ?_⟩
    rcases ht2.2 with e | ⟨g, cap, cur, e, hB, hg, hr⟩
    · exact Or.inl e
    · refine Or.inr ⟨g, cap, cur, e, hB, ?_, hr⟩
      rw [heap4o _ hR (fun q => ?_)]
      · exact hg
      · subst q
        rw [hR] at hg
        injection hg with hg
        injection hg with _ hg _
        exact absurd hg (by decide), h.dis⟩
section
variable {o : Oper} {a : Act} {w : World}
theorem execQuoN {x y : Operand} {p q : Nat} (ho : o.op = .binOp .quo 3 x y 3) (hx : a.eval x = .int .i64 (p : Int)) (hy : a.eval y = .int .i64 (q : Int)) (hq : 0 < q) (hp : p < 9223372036854775808) : (execOp a.eval o).run Try.prog w = .ok (.value (.int .i64 ((p / q : Nat) : Int))) w := by
  have hl : p / q ≤ p := Nat.div_le_self _ _
  have ew : ∀ k : Nat, k < 9223372036854775808 → IntKind.i64.wrap (k : Int) = (k : Int) := fun k hk => by simp [IntKind.wrap, IntKind.bits, IntKind.signed]; omega
  have ec : (p : Int) / (q : Int) = ((p / q : Nat) : Int) := by simp
  have e2 := ew (p / q) (by omega)
  unfold execOp
  simp only [ho, hx, hy]
  simp [go_sem]
  rw [if_neg (by omega), ec, e2]
theorem execMulN {x y : Operand} {p q : Nat} (ho : o.op = .binOp .mul 3 x y 3) (hx : a.eval x = .int .i64 (p : Int)) (hy : a.eval y = .int .i64 (q : Int)) (h : p * q < 9223372036854775808) : (execOp a.eval o).run Try.prog w = .ok (.value (.int .i64 ((p * q : Nat) : Int))) w := by
  have ew : IntKind.i64.wrap ((p : Int) * q) = ((p * q : Nat) : Int) := by
    rw [← Int.natCast_mul]
    simp [IntKind.wrap, IntKind.bits, IntKind.signed]
    omega
  unfold execOp
  simp only [ho, hx, hy]
  simp [go_sem, ew]
end
end Go.Proofs.Ytmfaapbhehhlpaa.Tap
