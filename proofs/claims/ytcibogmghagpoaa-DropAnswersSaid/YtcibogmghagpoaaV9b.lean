import Derived.Test.YtcibogmghagpoaaE9a
namespace Go.Proofs.Ytcibogmghagpoaa.Tap
open Go.RowKit Gf8 Aes By8 Cel Cf
/- What goes through the law's apart: lists of any lengths. -/

/-- The blocks of m lists. -/
def Gx (m : Nat) (x : Nat → Value) (k : Nat) : Prop := ∃ t, t < m ∧ (x t).ownBlock = some k
theorem run_mkL (n : Nat) (hn : n ≤ 1000000) (W : World) : (Instr.makeSlice 29 (.int .i64 (n : Int)) (.int .i64 (n : Int))).run Try.prog W = .ok (.slice (some ⟨W.heap.size, 0, none⟩) n n) (W.alloc (.cells (madeCells #[.slice none 0 0] n) 23)) := by
  obtain ⟨i, h1, h2, h3, h4⟩ := infoB
  have h := run_make (P := Try.prog) W 29 23 i (.slice none 0 0) Try.underlying29 h1 h2 .i64 .i64 (n : Int) (n : Int) (by omega) (by omega) (by rw [h4]; omega) (by omega)
  rw [h3, Int.toNat_natCast, Nat.mul_one] at h
  exact h
theorem apn_cg {B m : Nat} {nn : Nat → Nat} {x : Nat → Value} {ff : Nat → Nat → Nat} {zz : Nat → Nat} {gv : Nat → Value} {gl gl' : Nat → Nat} {W : World} (h : ApN B m nn x ff zz gv gl W) (e : ∀ t, t < m → gl t = gl' t) : ApN B m nn x ff zz gv gl' W :=
  ⟨h.fam, fun t ht => by rw [← e t ht]; exact h.grown t ht, fun t ht => by rw [← e t ht]; exact h.le t ht, h.at', h.dis⟩
structure MoN (B m : Nat) (nn : Nat → Nat) (x gv : Nat → Value) (gl : Nat → Nat) (mo : Nat → Value) (R : Nat) (V W : World) : Prop where
  ap : ApN B m nn x (fun t _ => t % 256) (fun t => (t + 140) % 256) gv gl W
  sv : Saved (Gx m x) V W
  row : ∃ c, W.heap[R]? = some (.cells c 23) ∧ c.size = m ∧ ∀ t, t < m → c[t]? = some (mo t)
  new : V.heap.size ≤ R
  pl : ∀ t, t < m → ∀ k, (gv t).ownBlock = some k → V.heap.size ≤ k ∨ Gx m x k
section
variable {B m : Nat} {nn : Nat → Nat} {x gv : Nat → Value} {gl : Nat → Nat} {mo : Nat → Value} {R : Nat} {V W W' : World}
theorem MoN.cg {gl' : Nat → Nat} {mo' : Nat → Value} (h : MoN B m nn x gv gl mo R V W) (e : ∀ t, t < m → gl t = gl' t) (e' : ∀ t, t < m → mo t = mo' t) : MoN B m nn x gv gl' mo' R V W :=
  ⟨apn_cg h.ap e, h.sv, by obtain ⟨c, h1, h2, h3⟩ := h.row; exact ⟨c, h1, h2, fun t ht => by rw [← e' t ht]; exact h3 t ht⟩, h.new, h.pl⟩
theorem MoN.on (h : MoN B m nn x gv gl mo R V W) (hb : Below W.heap.size W W') : MoN B m nn x gv gl mo R V W' :=
  ⟨h.ap.on hb, h.sv.below hb h.sv.size, by obtain ⟨c, h1, h2, h3⟩ := h.row; exact ⟨c, by rw [hb.block _ (Array.getElem?_eq_some_iff.1 h1).1]; exact h1, h2, h3⟩, h.new, h.pl⟩
/-- A list that has been grown is laid into the list of lists. -/
theorem MoN.put (h : MoN B m nn x gv gl mo R V W) (i : Nat) (u : Value) : MoN B m nn x gv gl (updX mo i u) R V (W.setCell ⟨R, i, none⟩ u) := by
  obtain ⟨c, h1, h2, h3⟩ := h.row
  refine ⟨h.ap.cell h1, h.sv.cell _ (Or.inl h.new), ⟨c.setIfInBounds i u, heap4 _ h1, by rw [Array.size_setIfInBounds]; exact h2, fun t ht => ?_⟩, h.new, h.pl⟩
  rw [Array.getElem?_setIfInBounds]
  unfold updX
  by_cases e : i = t
  · subst e
    rw [if_pos rfl, if_pos rfl, if_pos (by omega)]
  · rw [if_neg e, if_neg (fun q => e q.symm)]
    exact h3 t ht
theorem MoN.at (h : MoN B m nn x gv gl mo R V W) {i : Nat} (hi : i < m) : W.cell? ⟨R, i, none⟩ = some (mo i) ∧ W.frozen? ⟨R, i, none⟩ = false := by
  obtain ⟨c, h1, h2, h3⟩ := h.row
  exact ⟨by rw [cell_of_row _ _ _ _ _ _ h1]; exact h3 i hi, frozen4 h1⟩
end
end Go.Proofs.Ytcibogmghagpoaa.Tap
