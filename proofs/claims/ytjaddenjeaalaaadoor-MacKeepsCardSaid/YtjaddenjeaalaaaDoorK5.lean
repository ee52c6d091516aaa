import Derived.Test.YtjaddenjeaalaaaDoorM7
import Derived.Test.YtjaddenjeaalaaaDoorK4
import Derived.Deep.DeepCutAuto
import Derived.Deep.CutBlock
namespace Go.Proofs.YtjaddenjeaalaaaDoor
open Go.RowKit

theorem made8 (n : Nat) : madeCells (Value.int .u8 0).cells n = tab8 n (fun _ => 0) := by
  apply Array.ext_getElem?
  intro i
  by_cases h : i < n
  · rw [tab8_get n _ i h]; simp [madeCells, Value.cells, h, Nat.mod_one]
  · rw [Array.getElem?_eq_none (by simp [madeCells]; omega), Array.getElem?_eq_none (by rw [tab8_size]; omega)]
/-- make([]byte, n). -/
theorem run_mkB (n : Nat) (hn : n ≤ 281474976710656) (W : World) : (Instr.makeSlice 22 (.int .i64 (n : Int)) (.int .i64 (n : Int))).run Tryd.prog W = .ok (.slice (some ⟨W.heap.size, 0, none⟩) n n) (W.alloc (.cells (tab8 n (fun _ => 0)) 5)) := by
  obtain ⟨i, h1, h2, h3, h4⟩ := info5
  have h := run_make (P := Tryd.prog) W 22 5 i (.int .u8 0) Tryd.underlying22 h1 h2 .i64 .i64 (n : Int) (n : Int) (by omega) (by omega) (by rw [h4]; omega) (by omega)
  rw [h3, Int.toNat_natCast, Nat.mul_one, made8] at h
  exact h
theorem execMake {o : Oper} {a : Act} {w : World} {n : Nat} {l c : Operand} (ho : o.op = .makeSlice 22 l c) (hl : a.eval l = .int .i64 (n : Int)) (hc : a.eval c = .int .i64 (n : Int)) (hn : n ≤ 281474976710656) : (execOp a.eval o).run Tryd.prog w = .ok (.value (.slice (some ⟨w.heap.size, 0, none⟩) n n)) (w.alloc (.cells (tab8 n (fun _ => 0)) 5)) := by
  unfold execOp
  simp only [ho, hl, hc, Sem.run_bind, run_mkB n hn, Result.andThen_ok, Sem.run_pure]
/-- A row that is known whole, as a row of one's own. -/
theorem own_row {W : World} {B g n : Nat} {f : Nat → Int} (h : W.heap[g]? = some (.cells (tab8 n f) 5)) (hB : B ≤ g) (hn : n ≤ 140737488355328) : W.ownsRow B 5 1 (.slice (some ⟨g, 0, none⟩) n n) n (vals (firstL f n)) := by
  refine ⟨by rw [vals_len, firstL_len, Nat.mul_one], Or.inr ⟨g, n, tab8 n f, rfl, hB, h, Nat.le_refl _, by unfold maxLen; omega, by rw [tab8_size, Nat.mul_one], ?_⟩⟩
  rw [Nat.mul_one, List.take_of_length_le (by simp [tab8_size])]
  simp [tab8, vals, firstL]
/-- append, and all that it leaves. -/
theorem wpList_appG {ops : Array Oper} {rest : List Oper} {o : Oper} {a : Act} {W : World} {Q : Exit → Act → World → Prop} {B n m c : Nat} {v : Value} {l r : List Int} {ao : Option Addr} (hgd : o.guard = none) (s x : Operand)
    (ho : o.op = .call { callee := .builtin .append, args := #[s, x], argTypes := #[22, 22] })
    (hs : a.eval s = v) (hx : a.eval x = .slice ao m c) (hown : W.ownsRow B 5 1 v n (vals l)) (hr : r.length = m)
    (hsrc : (ao = none ∧ m = 0 ∧ c = 0) ∨ ∃ ad, ao = some ad ∧ ∀ j u, (vals r)[j]? = some u → W.cell? (ad.add j) = some u)
    (hbig : n + m ≤ 140737488355328) (hB : B ≤ W.heap.size)
    (h : ∀ v' W', W'.ownsRow B 5 1 v' (n + m) (vals (l ++ r)) → W.grownBy W' v.ownBlock → wpList Tryd.prog ops Q rest (a.put o.dst v') W') : wpList Tryd.prog ops Q (o :: rest) a W := by
  obtain ⟨i, h1, h2, h3, h4⟩ := info5
  rcases hsrc with ⟨rfl, rfl, rfl⟩ | ⟨ad, rfl, hsrc⟩
  · obtain rfl : r = [] := List.eq_nil_of_length_eq_zero hr
    refine wpList_append_own_none hgd s x 22 ho B 5 i 1 Tryd.underlying22 h1 v n (vals l) hs hown hx ?_
    exact h v W (by simpa using hown) ⟨rfl, rfl, rfl, Nat.le_refl _, fun _ _ _ => rfl⟩
  · refine wpList_append_own W hgd s x 22 ho B 5 i (.int .u8 0) 1 1 Tryd.underlying22 h1 h2 h3 h4 rfl (by decide) v n (vals l) hs hown ad m c (vals r) hx (by rw [vals_len]; omega) hsrc (vals_one r) (by unfold maxLen; omega) (by omega) hB ?_
    intro v' W' hown' hg _
    rw [vals_append] at hown'
    exact h v' W' hown' hg
end Go.Proofs.YtjaddenjeaalaaaDoor
