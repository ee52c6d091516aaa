import Derived.Test.YtmlealepeoefpaaG9g
namespace Go.Proofs.Ytmlealepeoefpaa.Drw
open Go.RowKit Gf8 Aes By8 Cel Cf Tap
/- The reference's Turn. Written by tools/mkG9h.py. -/

def trN (p : Nat → Nat) (l : Nat) (bs : Nat → Int) (n : Nat) (ws : Nat → Int) (m : Nat) : Nat := if trE p l bs n ws m = 0 then l else 0
theorem anyW_yes {bs ws : Nat → Int} : ∀ {n i}, i < n → (ws i < 0 ∨ bs i ≤ ws i) → anyW bs ws n = true
  | 0, i, h, _ => by omega
  | n + 1, i, h, hb => by
    simp only [anyW, Bool.or_eq_true, decide_eq_true_eq]
    by_cases q : i = n
    · subst q; exact Or.inr hb
    · exact Or.inl (anyW_yes (by omega) hb)
theorem results_tmp2 {fn : Func} {t u : Tmp} (h : fn.results = #[.tmp t, .tmp u]) (tmps : Array Value) (P : Program) (w : World) : (results fn tmps).run P w = .ok (.tuple #[tmps.getD t undef, tmps.getD u undef]) w := by
  simp [results, h]
section
variable {o : Oper} {a : Act} {w : World}
theorem execMkB9 {x : Operand} {n : Nat} (ho : o.op = .makeSlice 30 (.const (.int .i64 0)) x) (hx : a.eval x = .int .i64 (n : Int)) (hn : n ≤ 281474976710656) : (execOp a.eval o).run Try.prog w = .ok (.value (.slice (some ⟨w.heap.size, 0, none⟩) 0 n)) (w.alloc (.cells (madeCells #[.int .u8 0] n) 5)) := by
  obtain ⟨i, h1, h2, h3, h4⟩ := info5
  have h := run_make (P := Try.prog) w 30 5 i (.int .u8 0) Try.underlying30 h1 h2 .i64 .i64 0 (n : Int) (by omega) (by omega) (by rw [h4]; omega) (by omega)
  rw [h3, Int.toNat_natCast, Nat.mul_one] at h
  have ec : a.eval (.const (.int .i64 0)) = .int .i64 0 := rfl
  unfold execOp
  simp only [ho, hx, ec, Sem.run_bind, h, Result.andThen_ok, Sem.run_pure]
  rfl
theorem execU8S {x : Operand} {n : Nat} (ho : o.op = .convert 3 5 x) (hx : a.eval x = .int .i64 (n : Int)) (h : n < 256) : (execOp a.eval o).run Try.prog w = .ok (.value (.int .u8 (n : Int))) w := by
  have e := execU8 (w := w) (n := n) ho hx
  rw [Nat.mod_eq_of_lt h] at e
  exact e
theorem execStB9d {x y : Operand} {b k : Nat} {z : Int} {old : Value} (ho : o.op = .store 5 x y) (hx : a.eval x = .pointer (some ⟨b, k, none⟩)) (hy : a.eval y = .int .u8 z) (hc : w.cell? ⟨b, k, none⟩ = some old) (hf : w.frozen? ⟨b, k, none⟩ = false) : (execOp a.eval o).run Try.prog w = .ok .skip (w.setCell ⟨b, k, none⟩ (.int .u8 z)) := by
  unfold execOp
  simp only [ho, hx, hy]
  simp [go_sem, hc, hf]
end
theorem own_mkB (W : World) (n : Nat) (p : Nat → Nat) (hn : n ≤ 281474976710656) : (W.alloc (.cells (madeCells #[.int .u8 0] n) 5)).ownsRow W.heap.size 5 1 (.slice (some ⟨W.heap.size, 0, none⟩) 0 n) 0 (bytesL 0 p) :=
  ⟨rfl, Or.inr ⟨W.heap.size, n, _, rfl, Nat.le_refl _, heapNew W _, Nat.zero_le _, by unfold maxLen; omega, by simp [madeCells], rfl⟩⟩
theorem ownL_some9 {W : World} {B m : Nat} {v : Value} {xs : List Value} {t : TypeId} {s : Nat} (h : W.ownsRow B t s v m xs) (hm : 0 < m) : ∃ g c, v = .slice (some ⟨g, 0, none⟩) m c ∧ B ≤ g ∧ g < W.heap.size := by
  rcases h.2 with ⟨_, e⟩ | ⟨g, cap, cur, e, hB, hg, _⟩
  · omega
  · exact ⟨g, cap, e, hB, (Array.getElem?_eq_some_iff.1 hg).1⟩
theorem own_cell9 {W : World} {B n g cap j : Nat} {p : Nat → Nat} (h : W.ownsRow B 5 1 (.slice (some ⟨g, 0, none⟩) n cap) n (bytesL n p)) (hj : j < n) : W.cell? ⟨g, 0 + j, none⟩ = some (.int .u8 (p j : Nat)) ∧ W.frozen? ⟨g, 0 + j, none⟩ = false := by
  rw [Nat.zero_add]
  refine ⟨own_at8 h hj, ?_⟩
  rcases h.2 with ⟨e, _⟩ | ⟨g', cap', cur, e, _, hg, _⟩
  · cases e
  · injection e with e1 _ _
    injection e1 with e1
    injection e1 with e1 _ _
    subst e1
    exact frozen4 hg
theorem trS {W : World} {B l g cap i S D w0 : Nat} {p : Nat → Nat} {bs ws : Nat → Int} (h : W.ownsRow B 5 1 (.slice (some ⟨g, 0, none⟩) l cap) l (bytesL l (trF p l bs ws i))) (hb : bs i ≠ 1) (hS : plA p l bs (i + 1) = S + 1) (hD : dV p l (plA p l bs i) (bs i) = D) (hw : ws i = (w0 : Int)) : (W.setCell ⟨g, 0 + S, none⟩ (.int .u8 ((p S - D + w0 : Nat) : Int))).ownsRow B 5 1 (.slice (some ⟨g, 0, none⟩) l cap) l (bytesL l (trF p l bs ws (i + 1))) := by
  have h2 := own_set8 (m := S) (p S - D + w0) h
  rw [Nat.zero_add]
  have e : trF p l bs ws (i + 1) = fun j => if j = S then p S - D + w0 else trF p l bs ws i j := by
    funext j
    show (if bs i ≠ 1 ∧ j = plA p l bs (i + 1) - 1 then p j - dA p l bs i + (ws i).toNat else trF p l bs ws i j) = _
    rw [hS, hw, Int.toNat_natCast]
    by_cases q : j = S
    · subst q
      rw [if_pos ⟨hb, rfl⟩, if_pos rfl]
      show p j - dV p l (plA p l bs i) (bs i) + w0 = _
      rw [hD]
    · rw [if_neg (fun x => q x.2), if_neg q]
  rw [e]
  exact h2
end Go.Proofs.Ytmlealepeoefpaa.Drw
