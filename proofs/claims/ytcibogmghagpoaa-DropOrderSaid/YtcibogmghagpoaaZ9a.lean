import Derived.Test.YtcibogmghagpoaaG9d
import Derived.Test.YtcibogmghagpoaaV9n
namespace Go.Proofs.Ytcibogmghagpoaa.Drw
open Go.RowKit Gf8 Aes By8 Cel Cf Tap
/- Lists of ints: rows of one's own, what stays, append, make; pieces of code. General: it lies at any seat with []int and []uint8. -/

theorem ownD_below {W W' : World} {B n : Nat} {v : Value} {xs : List Value} {t : TypeId} {s : Nat} (h : W.ownsRow B t s v n xs) (hb : Below W.heap.size W W') : W'.ownsRow B t s v n xs := by
  refine ⟨h.1, ?_⟩
  rcases h.2 with h | ⟨g, cap, cur, e, hB, hg, hr⟩
  · exact Or.inl h
  · exact Or.inr ⟨g, cap, cur, e, hB, on9 hg hb, hr⟩
theorem ownD_base {W : World} {B C t s n : Nat} {v : Value} {xs : List Value} (h : W.ownsRow C t s v n xs) (hB : B ≤ C) : W.ownsRow B t s v n xs := by
  refine ⟨h.1, ?_⟩
  rcases h.2 with h | ⟨g, cap, cur, e, hC, h1⟩
  · exact Or.inl h
  · exact Or.inr ⟨g, cap, cur, e, Nat.le_trans hB hC, h1⟩
theorem results_tmp2 {fn : Func} {t u : Tmp} (h : fn.results = #[.tmp t, .tmp u]) (tmps : Array Value) (P : Program) (w : World) : (results fn tmps).run P w = .ok (.tuple #[tmps.getD t undef, tmps.getD u undef]) w := by
  simp [results, h]
theorem execMkN {o : Oper} {a : Act} {w : World} {x y : Operand} {n : Nat} (ho : o.op = .makeSlice 43 x y) (hx : a.eval x = .int .i64 (n : Int)) (hy : a.eval y = .int .i64 (n : Int)) (hn : n ≤ 17592186044416) : (execOp a.eval o).run Try.prog w = .ok (.value (.slice (some ⟨w.heap.size, 0, none⟩) n n)) (w.alloc (.cells (madeCells #[.int .i64 0] n) 3)) := by
  obtain ⟨i, h1, h2, h3, h4⟩ := infoI
  have h := run_make (P := Try.prog) w 43 3 i (.int .i64 0) Try.underlying43 h1 h2 .i64 .i64 (n : Int) (n : Int) (by omega) (by omega) (by rw [h4]; omega) (by omega)
  rw [h3, Int.toNat_natCast, Nat.mul_one] at h
  unfold execOp
  simp only [ho, hx, hy, Sem.run_bind, h, Result.andThen_ok, Sem.run_pure]
  rfl
theorem intsL_app (n m : Nat) (f g : Nat → Int) : intsL n f ++ intsL m g = intsL (n + m) (catI n f g) := by
  unfold intsL
  rw [List.range_add, List.map_append, List.map_map]
  congr 1
  · exact List.map_congr_left fun j hj => by rw [catI_lo (List.mem_range.1 hj)]
  · exact List.map_congr_left fun j _ => by simp only [Function.comp]; rw [catI_hi]
theorem intsL_one (n : Nat) (f : Nat → Int) : ∀ u ∈ intsL n f, u.oneCell' = true := fun u hu => by
  obtain ⟨j, _, rfl⟩ := List.mem_map.1 hu
  rfl
theorem own_nilI {W : World} {B n : Nat} {t : TypeId} {v : Value} {xs : List Value} (h : W.ownsRow B t 1 v n xs) : ∀ l c, v = .slice none l c → c = 0 := by
  intro l c e
  rcases h.2 with ⟨rfl, _⟩ | ⟨g, cap, cur, rfl, _⟩
  · injection e with _ _ e3; exact e3.symm
  · injection e with e1; cases e1
theorem own_mkZ (W : World) (n : Nat) (f : Nat → Int) (hn : n ≤ 17592186044416) (hf : ∀ j, j < n → f j = 0) : (W.alloc (.cells (madeCells #[.int .i64 0] n) 3)).ownsRow W.heap.size 3 1 (.slice (some ⟨W.heap.size, 0, none⟩) n n) n (intsL n f) := by
  refine ⟨by rw [intsL_len, Nat.mul_one], Or.inr ⟨W.heap.size, n, _, rfl, Nat.le_refl _, heapNew W _, Nat.le_refl _, by unfold maxLen; omega, by simp [madeCells], ?_⟩⟩
  apply List.ext_getElem?
  intro j
  by_cases h : j < n
  · simp [madeCells, intsL, h, hf j h, Nat.mod_one]
  · simp [madeCells, intsL, h]
theorem own_cellI {W : World} {B n g cap j : Nat} {f : Nat → Int} (h : W.ownsRow B 3 1 (.slice (some ⟨g, 0, none⟩) n cap) n (intsL n f)) (hj : j < n) : W.cell? ⟨g, 0 + j, none⟩ = some (.int .i64 (f j)) ∧ W.frozen? ⟨g, 0 + j, none⟩ = false := by
  rw [Nat.zero_add]
  rcases h.2 with ⟨e, _⟩ | ⟨g', cap', cur, e, _, hg, h1, h2, h3, h4⟩
  · cases e
  · injection e with e1 _ _
    injection e1 with e1
    injection e1 with e1 _ _
    subst e1
    refine ⟨?_, frozen4 hg⟩
    rw [cell_of_row _ _ _ _ _ _ hg, ← Array.getElem?_toList]
    have h5 : (cur.toList.take (n * 1))[j]? = some (.int .i64 (f j)) := by rw [h4]; exact intsL_get hj
    rw [List.getElem?_take_of_lt (by omega)] at h5
    exact h5
theorem own_setF {W : World} {B n g cap k : Nat} {f : Nat → Int} (z : Int) (h : W.ownsRow B 3 1 (.slice (some ⟨g, 0, none⟩) n cap) n (intsL n f)) : (W.setCell ⟨g, 0 + k, none⟩ (.int .i64 z)).ownsRow B 3 1 (.slice (some ⟨g, 0, none⟩) n cap) n (intsL n (fun j => if j = k then z else f j)) := by
  rw [Nat.zero_add]
  refine ⟨by rw [intsL_len, Nat.mul_one], ?_⟩
  rcases h.2 with ⟨e, _⟩ | ⟨g', cap', cur, e, hB, hg, h1, h2, h3, h4⟩
  · cases e
  · injection e with e1 e2 e3
    injection e1 with e1
    injection e1 with e1 _ _
    subst e1
    subst e3
    refine Or.inr ⟨g, cap, cur.setIfInBounds k (.int .i64 z), rfl, hB, heap4 _ hg, h1, h2, by simpa using h3, ?_⟩
    apply List.ext_getElem?
    intro j
    have h5 : (cur.toList.take (n * 1))[j]? = (intsL n f)[j]? := by rw [h4]
    by_cases hj : j < n
    · rw [List.getElem?_take_of_lt (by omega), intsL_get hj] at h5
      rw [List.getElem?_take_of_lt (by omega), intsL_get hj, Array.getElem?_toList, Array.getElem?_setIfInBounds]
      by_cases hk : k = j
      · subst hk
        rw [if_pos rfl, if_pos rfl, if_pos (by simp at h3; omega)]
      · rw [if_neg hk, if_neg (fun q => hk q.symm), ← Array.getElem?_toList]
        exact h5
    · rw [List.getElem?_eq_none (by simp; omega), List.getElem?_eq_none (by rw [intsL_len]; omega)]
theorem execStI9 {o : Oper} {a : Act} {w : World} {x y : Operand} {b k : Nat} {z : Int} {old : Value} (ho : o.op = .store 3 x y) (hx : a.eval x = .pointer (some ⟨b, k, none⟩)) (hy : a.eval y = .int .i64 z) (hc : w.cell? ⟨b, k, none⟩ = some old) (hf : w.frozen? ⟨b, k, none⟩ = false) : (execOp a.eval o).run Try.prog w = .ok .skip (w.setCell ⟨b, k, none⟩ (.int .i64 z)) := by
  unfold execOp
  simp only [ho, hx, hy]
  simp [go_sem, hc, hf]
theorem sl_hI (g len cap h : Nat) (hh : h ≤ cap) (W : World) : (Instr.sliceAt 43 (.slice (some ⟨g, 0, none⟩) len cap) none (some (.int .i64 (h : Int))) none).run Try.prog W = .ok (.slice (some ⟨g, 0, none⟩) h cap) W := by
  have e2 : (h : Int) ≤ cap := by omega
  have e : (Instr.sliceAt 43 (.slice (some ⟨g, 0, none⟩) len cap) none (some (.int .i64 (h : Int))) none).run Try.prog W = .ok (sliced (some ⟨g, 0, none⟩) 0 h cap 1) W := by
    obtain ⟨i, i1, _, _, _⟩ := infoI
    simp [Instr.sliceAt, Instr.slice, run_underlying Try.underlying43, Instr.sliceBounds, run_sliceBound, sliced, hh, sizeOf, typeInfo, i1]
  rw [sliced_0] at e
  exact e
end Go.Proofs.Ytcibogmghagpoaa.Drw
