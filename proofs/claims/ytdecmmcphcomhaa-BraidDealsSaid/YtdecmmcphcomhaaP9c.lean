import Derived.Test.YtdecmmcphcomhaaZ9a
import Derived.Test.YtdecmmcphcomhaaP9b
import Derived.Test.YtdecmmcphcomhaaV9o
namespace Go.Proofs.Ytdecmmcphcomhaa.Prm
open Go.RowKit Gf8 Aes By8 Cel Cf Tap Drw
/- Stage 11's reference: Check, Identity, Bounds, Put. Written by tools/mkP9c.py. -/

def gN (f : Nat → Int) : Nat → Nat := fun i => (f i).toNat
def boolsL (n : Nat) (s : Nat → Bool) : List Value := (List.range n).map fun j => .bool (s j)
theorem boolsL_len (n : Nat) (s : Nat → Bool) : (boolsL n s).length = n := by simp [boolsL]
theorem boolsL_get {n j : Nat} {s : Nat → Bool} (h : j < n) : (boolsL n s)[j]? = some (.bool (s j)) := by simp [boolsL, h]
theorem boolsL_congr {n : Nat} {f g : Nat → Bool} (h : ∀ j, j < n → f j = g j) : boolsL n f = boolsL n g := by
  unfold boolsL
  apply List.map_congr_left
  intro i hi
  rw [h i (List.mem_range.1 hi)]
theorem infoBl : ∃ i, Try.prog.info? 4 = some i ∧ i.zero = some (.bool false) ∧ i.size = 1 ∧ i.bytes = 1 := by
  have h : (Try.prog.info? 4).map (fun i => (i.zero, i.size, i.bytes)) = some (some (.bool false), 1, 1) := by kernel_rfl
  cases hq : Try.prog.info? 4 with
  | none => rw [hq] at h; cases h
  | some i =>
    rw [hq] at h
    simp only [Option.map_some, Option.some.injEq, Prod.mk.injEq] at h
    exact ⟨i, rfl, h.1, h.2.1, h.2.2⟩
section
variable {o : Oper} {a : Act} {w : World}
theorem execMkBl {x y : Operand} {n : Nat} (ho : o.op = .makeSlice 65 x y) (hx : a.eval x = .int .i64 (n : Int)) (hy : a.eval y = .int .i64 (n : Int)) (hn : n ≤ 140737488355328) : (execOp a.eval o).run Try.prog w = .ok (.value (.slice (some ⟨w.heap.size, 0, none⟩) n n)) (w.alloc (.cells (madeCells #[.bool false] n) 4)) := by
  obtain ⟨i, h1, h2, h3, h4⟩ := infoBl
  have h := run_make (P := Try.prog) w 65 4 i (.bool false) Try.underlying65 h1 h2 .i64 .i64 (n : Int) (n : Int) (by omega) (by omega) (by rw [h4]; omega) (by omega)
  rw [h3, Int.toNat_natCast, Nat.mul_one] at h
  unfold execOp
  simp only [ho, hx, hy, Sem.run_bind, h, Result.andThen_ok, Sem.run_pure]
  rfl
theorem execIdxBl {x i : Operand} {b off n cap k : Nat} (ho : o.op = .indexAddr 65 x i) (hx : a.eval x = .slice (some ⟨b, off, none⟩) n cap) (hi : a.eval i = .int .i64 (k : Int)) (hk : k < n) : (execOp a.eval o).run Try.prog w = .ok (.value (.pointer (some ⟨b, off + k, none⟩))) w := by
  have h1 : (k : Int) < n := by omega
  unfold execOp
  simp only [ho, hx, hi]
  simp [go_sem, h1, Addr.add_mid]
theorem execLdBl {x : Operand} {b f : Nat} {v : Bool} (ho : o.op = .load 4 x) (hx : a.eval x = .pointer (some ⟨b, f, none⟩)) (hc : w.cell? ⟨b, f, none⟩ = some (.bool v)) : (execOp a.eval o).run Try.prog w = .ok (.value (.bool v)) w := by
  unfold execOp
  simp only [ho, hx]
  simp [go_sem, hc]
theorem execStBl {x y : Operand} {b k : Nat} {z : Bool} {old : Value} (ho : o.op = .store 4 x y) (hx : a.eval x = .pointer (some ⟨b, k, none⟩)) (hy : a.eval y = .bool z) (hc : w.cell? ⟨b, k, none⟩ = some old) (hf : w.frozen? ⟨b, k, none⟩ = false) : (execOp a.eval o).run Try.prog w = .ok .skip (w.setCell ⟨b, k, none⟩ (.bool z)) := by
  unfold execOp
  simp only [ho, hx, hy]
  simp [go_sem, hc, hf]
theorem execSubIg {x y : Operand} {p q z : Int} (ho : o.op = .binOp .sub 3 x y 3) (hx : a.eval x = .int .i64 p) (hy : a.eval y = .int .i64 q) (h : z = p - q) (h1 : -9223372036854775808 ≤ z) (h2 : z < 9223372036854775808) : (execOp a.eval o).run Try.prog w = .ok (.value (.int .i64 z)) w := by
  subst h
  unfold execOp
  simp only [ho, hx, hy]
  simp [go_sem, IntKind.wrap, show IntKind.i64.signed = true from rfl]
  omega
end
theorem own_mkBl (W : World) (n : Nat) (s : Nat → Bool) (hn : n ≤ 140737488355328) (hs : ∀ j, j < n → s j = false) : (W.alloc (.cells (madeCells #[.bool false] n) 4)).ownsRow W.heap.size 4 1 (.slice (some ⟨W.heap.size, 0, none⟩) n n) n (boolsL n s) := by
  refine ⟨by rw [boolsL_len, Nat.mul_one], Or.inr ⟨W.heap.size, n, _, rfl, Nat.le_refl _, heapNew W _, Nat.le_refl _, by unfold maxLen; omega, by simp [madeCells], ?_⟩⟩
  apply List.ext_getElem?
  intro j
  by_cases h : j < n
  · simp [madeCells, boolsL, h, hs j h, Nat.mod_one]
  · simp [madeCells, boolsL, h]
theorem own_cellBl {W : World} {B n g cap j : Nat} {s : Nat → Bool} (h : W.ownsRow B 4 1 (.slice (some ⟨g, 0, none⟩) n cap) n (boolsL n s)) (hj : j < n) : W.cell? ⟨g, 0 + j, none⟩ = some (.bool (s j)) ∧ W.frozen? ⟨g, 0 + j, none⟩ = false := by
  rw [Nat.zero_add]
  rcases h.2 with ⟨e, _⟩ | ⟨g', cap', cur, e, _, hg, h1, h2, h3, h4⟩
  · cases e
  · injection e with e1 _ _
    injection e1 with e1
    injection e1 with e1 _ _
    subst e1
    refine ⟨?_, frozen4 hg⟩
    rw [cell_of_row _ _ _ _ _ _ hg, ← Array.getElem?_toList]
    have h5 : (cur.toList.take (n * 1))[j]? = some (.bool (s j)) := by rw [h4]; exact boolsL_get hj
    rw [List.getElem?_take_of_lt (by omega)] at h5
    exact h5
theorem own_setBl {W : World} {B n g cap k : Nat} {s : Nat → Bool} (z : Bool) (h : W.ownsRow B 4 1 (.slice (some ⟨g, 0, none⟩) n cap) n (boolsL n s)) : (W.setCell ⟨g, 0 + k, none⟩ (.bool z)).ownsRow B 4 1 (.slice (some ⟨g, 0, none⟩) n cap) n (boolsL n (fun j => if j = k then z else s j)) := by
  rw [Nat.zero_add]
  refine ⟨by rw [boolsL_len, Nat.mul_one], ?_⟩
  rcases h.2 with ⟨e, _⟩ | ⟨g', cap', cur, e, hB, hg, h1, h2, h3, h4⟩
  · cases e
  · injection e with e1 e2 e3
    injection e1 with e1
    injection e1 with e1 _ _
    subst e1
    subst e3
    refine Or.inr ⟨g, cap, cur.setIfInBounds k (.bool z), rfl, hB, heap4 _ hg, h1, h2, by simpa using h3, ?_⟩
    apply List.ext_getElem?
    intro j
    have h5 : (cur.toList.take (n * 1))[j]? = (boolsL n s)[j]? := by rw [h4]
    by_cases hj : j < n
    · rw [List.getElem?_take_of_lt (by omega), boolsL_get hj] at h5
      rw [List.getElem?_take_of_lt (by omega), boolsL_get hj, Array.getElem?_toList, Array.getElem?_setIfInBounds]
      by_cases hk : k = j
      · subst hk
        rw [if_pos rfl, if_pos rfl, if_pos (by simp at h3; omega)]
      · rw [if_neg hk, if_neg (fun q => hk q.symm), ← Array.getElem?_toList]
        exact h5
    · rw [List.getElem?_eq_none (by simp; omega), List.getElem?_eq_none (by rw [boolsL_len]; omega)]
end Go.Proofs.Ytdecmmcphcomhaa.Prm
