import Derived.Test.YtdecmmcphcomhaaM9d
import Derived.Test.YtdecmmcphcomhaaP9k
namespace Go.Proofs.Ytdecmmcphcomhaa.Prm
open Go.RowKit Gf8 Aes By8 Cel Cf Tap Drw
/- Package perm as it landed: taken and Apply of strings; what the package keeps. Written by tools/mkM9e.py. -/

theorem strsL_len (n : Nat) (s : Nat → ByteArray) : (strsL n s).length = n := by simp [strsL]
theorem strsL_get {n j : Nat} {s : Nat → ByteArray} (h : j < n) : (strsL n s)[j]? = some (.string (s j)) := by simp [strsL, h]
theorem strsL_congr {n : Nat} {f g : Nat → ByteArray} (h : ∀ j, j < n → f j = g j) : strsL n f = strsL n g := by
  apply List.ext_getElem?
  intro j
  by_cases hj : j < n
  · rw [strsL_get hj, strsL_get hj, h j hj]
  · rw [List.getElem?_eq_none (by rw [strsL_len]; omega), List.getElem?_eq_none (by rw [strsL_len]; omega)]
theorem infoS : ∃ i, Try.prog.info? 9 = some i ∧ i.zero = some (.string ByteArray.empty) ∧ i.size = 1 ∧ i.bytes = 16 := ⟨_, rfl, by kernel_rfl, by kernel_rfl, by kernel_rfl⟩
section
variable {o : Oper} {a : Act} {w : World}
theorem execMkS {x y : Operand} {n : Nat} (ho : o.op = .makeSlice 45 x y) (hx : a.eval x = .int .i64 (n : Int)) (hy : a.eval y = .int .i64 (n : Int)) (hn : n ≤ 17592186044416) : (execOp a.eval o).run Try.prog w = .ok (.value (.slice (some ⟨w.heap.size, 0, none⟩) n n)) (w.alloc (.cells (madeCells #[.string ByteArray.empty] n) 9)) := by
  obtain ⟨i, h1, h2, h3, h4⟩ := infoS
  have h := run_make (P := Try.prog) w 45 9 i (.string ByteArray.empty) Try.underlying45 h1 h2 .i64 .i64 (n : Int) (n : Int) (by omega) (by omega) (by rw [h4]; omega) (by omega)
  rw [h3, Int.toNat_natCast, Nat.mul_one] at h
  unfold execOp
  simp only [ho, hx, hy, Sem.run_bind, h, Result.andThen_ok, Sem.run_pure]
  rfl
theorem execLdS {x : Operand} {b f : Nat} {s : ByteArray} (ho : o.op = .load 9 x) (hx : a.eval x = .pointer (some ⟨b, f, none⟩)) (hc : w.cell? ⟨b, f, none⟩ = some (.string s)) : (execOp a.eval o).run Try.prog w = .ok (.value (.string s)) w := by
  unfold execOp
  simp only [ho, hx]
  simp [go_sem, hc]
theorem execStS {x y : Operand} {b k : Nat} {s : ByteArray} {old : Value} (ho : o.op = .store 9 x y) (hx : a.eval x = .pointer (some ⟨b, k, none⟩)) (hy : a.eval y = .string s) (hc : w.cell? ⟨b, k, none⟩ = some old) (hf : w.frozen? ⟨b, k, none⟩ = false) : (execOp a.eval o).run Try.prog w = .ok .skip (w.setCell ⟨b, k, none⟩ (.string s)) := by
  unfold execOp
  simp only [ho, hx, hy]
  simp [go_sem, hc, hf]
end
theorem own_mkS (W : World) (n : Nat) (s : Nat → ByteArray) (hn : n ≤ 17592186044416) (hs : ∀ j, j < n → s j = ByteArray.empty) : (W.alloc (.cells (madeCells #[.string ByteArray.empty] n) 9)).ownsRow W.heap.size 9 1 (.slice (some ⟨W.heap.size, 0, none⟩) n n) n (strsL n s) := by
  refine ⟨by rw [strsL_len, Nat.mul_one], Or.inr ⟨_, _, _, rfl, Nat.le_refl _, heapNew W _, Nat.le_refl _, by unfold maxLen; omega, by simp [madeCells], ?_⟩⟩
  apply List.ext_getElem?
  intro j
  by_cases h : j < n
  · simp [madeCells, strsL, h, hs j h, Nat.mod_one]
  · simp [madeCells, strsL, h]
theorem own_cellS {W : World} {B n g cap j : Nat} {s : Nat → ByteArray} (h : W.ownsRow B 9 1 (.slice (some ⟨g, 0, none⟩) n cap) n (strsL n s)) (hj : j < n) : W.cell? ⟨g, 0 + j, none⟩ = some (.string (s j)) ∧ W.frozen? ⟨g, 0 + j, none⟩ = false := by
  rw [Nat.zero_add]
  rcases h.2 with ⟨e, _⟩ | ⟨g', cap', cur, e, _, hg, h1, h2, h3, h4⟩
  · cases e
  · injection e with e1 _ _
    injection e1 with e1
    injection e1 with e1 _ _
    subst e1
    refine ⟨?_, frozen4 hg⟩
    rw [cell_of_row _ _ _ _ _ _ hg, ← Array.getElem?_toList]
    have h5 : (cur.toList.take (n * 1))[j]? = some (.string (s j)) := by rw [h4]; exact strsL_get hj
    rw [List.getElem?_take_of_lt (by omega)] at h5
    exact h5
theorem own_fillS {W : World} {B n g cap i : Nat} {F : Nat → ByteArray} {z : ByteArray} (h : W.ownsRow B 9 1 (.slice (some ⟨g, 0, none⟩) n cap) n (strsL n (fun j => if j < i then F j else ByteArray.empty))) (ez : z = F i) : (W.setCell ⟨g, 0 + i, none⟩ (.string z)).ownsRow B 9 1 (.slice (some ⟨g, 0, none⟩) n cap) n (strsL n (fun j => if j < (i + 1) then F j else ByteArray.empty)) := by
  rw [Nat.zero_add]
  refine ⟨by rw [strsL_len, Nat.mul_one], ?_⟩
  rcases h.2 with ⟨e, _⟩ | ⟨g', cap', cur, e, hB, hg, h1, h2, h3, h4⟩
  · cases e
  · injection e with e1 e2 e3
    injection e1 with e1
    injection e1 with e1 _ _
    subst e1
    subst e3
    refine Or.inr ⟨g, cap, cur.setIfInBounds i (.string z), rfl, hB, heap4 _ hg, h1, h2, by simpa using h3, ?_⟩
    apply List.ext_getElem?
    intro j
    by_cases hj : j < n
    · have h5 : (cur.toList.take (n * 1))[j]? = (strsL n (fun j => if j < i then F j else ByteArray.empty))[j]? := by rw [h4]
      rw [List.getElem?_take_of_lt (by omega), strsL_get hj] at h5
      rw [List.getElem?_take_of_lt (by omega), strsL_get hj, Array.getElem?_toList, Array.getElem?_setIfInBounds]
      by_cases hk : i = j
      · subst hk
        rw [if_pos rfl, if_pos (by simp at h3; omega), if_pos (by omega), ez]
      · rw [if_neg hk, ← Array.getElem?_toList, h5]
        by_cases q2 : j < i
        · rw [if_pos q2, if_pos (by omega)]
        · rw [if_neg q2, if_neg (by omega)]
    · rw [List.getElem?_eq_none (by simp; omega), List.getElem?_eq_none (by rw [strsL_len]; omega)]
end Go.Proofs.Ytdecmmcphcomhaa.Prm
