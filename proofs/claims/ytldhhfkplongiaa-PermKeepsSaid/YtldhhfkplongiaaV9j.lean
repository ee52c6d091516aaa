import Derived.Test.YtldhhfkplongiaaV9a
import Derived.Test.YtldhhfkplongiaaE9a
import Derived.Test.YtldhhfkplongiaaY6
import Derived.Laws.IdiomStrings
import Derived.Laws.Strings2
namespace Go.Proofs.Ytldhhfkplongiaa.Tap
open Go.RowKit Gf8 Aes By8 Cel Cf
/- Strings of bytes: one of them, a piece, and back to a list; rows that bear a conversion's mark. -/

theorem strN_size (p : Nat → Nat) (n : Nat) : (strN p n).size = n := by
  unfold strN
  rw [strOfNums_size]
  unfold numL
  simp
theorem strN_list (p : Nat → Nat) (n : Nat) : (strN p n).data.toList = (List.range n).map fun i => UInt8.ofNat (p i) := by
  unfold strN
  rw [strOfNums_data]
  unfold numL
  rw [List.map_map]
  apply List.map_congr_left
  intro i _
  simp
theorem strN_at (p : Nat → Nat) (n i : Nat) (hi : i < n) (hp : p i < 256) (h : i < (strN p n).data.size) : ((strN p n).data[i]'h).toNat = p i := by
  have e : (strN p n).data[i]? = some (UInt8.ofNat (p i)) := by
    rw [← Array.getElem?_toList, strN_list]
    simp [hi]
  rw [Array.getElem?_eq_getElem h] at e
  rw [Option.some.inj e]
  simp [hp]
theorem strN_cut (p : Nat → Nat) (l at' n : Nat) (h : at' + n ≤ l) : (strN p l).extract at' (at' + n) = strN (fun j => p (at' + j)) n := by
  have e1 : strN p l = ByteArray.mk ((List.range l).map fun i => UInt8.ofNat (p i)).toArray := by
    apply ByteArray.ext
    apply Array.ext'
    rw [strN_list]
  have e2 : strN (fun j => p (at' + j)) n = ByteArray.mk ((List.range n).map fun i => UInt8.ofNat (p (at' + i))).toArray := by
    apply ByteArray.ext
    apply Array.ext'
    rw [strN_list]
  rw [e1, e2, ByteArray.extract_mk, Nat.add_sub_cancel_left]
  congr 2
  apply List.ext_getElem?
  intro i
  by_cases hi : i < n
  · rw [List.getElem?_take, if_pos hi, List.getElem?_drop]
    simp [hi, show at' + i < l by omega]
  · rw [List.getElem?_take, if_neg hi]
    simp [hi]
section
variable {o : Oper} {a : Act} {w : World}
theorem execLenSt {x : Operand} {p : Nat → Nat} {n : Nat} (ho : o.op = .call { callee := .builtin .len, args := #[x], argTypes := #[9] }) (hx : a.eval x = .string (strN p n)) : (execOp a.eval o).run Try.prog w = .ok (.value (.int .i64 (n : Int))) w := by
  unfold execOp
  simp only [ho, resolve, invoke, builtin, Sem.run_bind, Sem.run_pure, Result.andThen_ok, List.map_toArray, List.map_cons, List.map_nil, hx]
  simp [go_sem, strN_size]
theorem execIdxSt {x y : Operand} {p : Nat → Nat} {n i : Nat} (ho : o.op = .index 9 x y) (hx : a.eval x = .string (strN p n)) (hy : a.eval y = .int .i64 (i : Int)) (hi : i < n) (hp : p i < 256) : (execOp a.eval o).run Try.prog w = .ok (.value (.int .u8 (p i : Nat))) w := by
  unfold execOp
  simp only [ho, hx, hy]
  have h := run_index_string (P := Try.prog) w 9 (strN p n) .i64 (i : Int) Try.underlying9
  rw [dif_pos ⟨by omega, by rw [strN_size]; omega⟩] at h
  simp only [Sem.run_bind, h, Result.andThen_ok, Sem.run_pure]
  congr 3
  have hs : i < (strN p n).data.size := by have := strN_size p n; simp only [ByteArray.size] at this; omega
  have := strN_at p n i hi hp hs
  rw [← this]
  rfl
theorem execCutSt {x y z : Operand} {p : Nat → Nat} {l at' n : Nat} (ho : o.op = .slice 9 x (some y) (some z) none) (hx : a.eval x = .string (strN p l)) (hy : a.eval y = .int .i64 (at' : Int)) (hz : a.eval z = .int .i64 ((at' + n : Nat) : Int)) (h : at' + n ≤ l) : (execOp a.eval o).run Try.prog w = .ok (.value (.string (strN (fun j => p (at' + j)) n))) w := by
  unfold execOp
  simp only [ho]
  have h1 := run_slice_string (P := Try.prog) w 9 (strN p l) .i64 .i64 (at' : Int) ((at' + n : Nat) : Int) Try.underlying9 (by omega) (by omega) (by rw [strN_size]; omega)
  rw [Int.toNat_natCast, Int.toNat_natCast, strN_cut p l at' n h] at h1
  simp only [hx, hy, hz, Option.map_some, Option.map_none, Sem.run_bind, run_sliceAt_string _ _ _ _ _ _ Try.underlying9, h1, Result.andThen_ok, Sem.run_pure]
end
/-- A row of bytes of one's own; it may bear a mark behind its cells. -/
def OwnM (W : World) (B : Nat) (v : Value) (n : Nat) (p : Nat → Nat) : Prop :=
  ∃ g cap cur fz, v = .slice (some ⟨g, 0, none⟩) n cap ∧ B ≤ g ∧ W.heap[g]? = some (.cells cur 5 fz) ∧ n ≤ cap ∧ cap ≤ maxLen ∧ cur.size = cap ∧ (∀ j, j < n → cur[j]? = some (.int .u8 (p j : Nat))) ∧ (∀ j, j < n → p j < 256) ∧ (cap ≤ fz.1 ∨ fz.2 = 0)
theorem OwnM.slice {W : World} {B n : Nat} {v : Value} {p : Nat → Nat} (h : OwnM W B v n p) : SliceN W v n p := by
  obtain ⟨g, cap, cur, fz, rfl, hB, hg, h1, h2, h3, h4, h5, h6⟩ := h
  refine ⟨⟨_, _, rfl, h1, by unfold maxLen at h2; omega, fun _ => ⟨g, 0, rfl, (Array.getElem?_eq_some_iff.1 hg).1, fun j hj => ?_⟩⟩, h5⟩
  rw [cell_of_row _ _ _ _ _ _ hg, Nat.zero_add]
  exact h4 j hj
theorem OwnM.on {W W' : World} {B n : Nat} {v : Value} {p : Nat → Nat} (h : OwnM W B v n p) (hb : Below W.heap.size W W') : OwnM W' B v n p := by
  obtain ⟨g, cap, cur, fz, rfl, hB, hg, hr⟩ := h
  exact ⟨g, cap, cur, fz, rfl, hB, by rw [hb.block _ (Array.getElem?_eq_some_iff.1 hg).1]; exact hg, hr⟩
theorem OwnM.base {W : World} {B C n : Nat} {v : Value} {p : Nat → Nat} (h : OwnM W C v n p) (hB : B ≤ C) : OwnM W B v n p := by
  obtain ⟨g, cap, cur, fz, e, h1, hr⟩ := h
  exact ⟨g, cap, cur, fz, e, Nat.le_trans hB h1, hr⟩
end Go.Proofs.Ytldhhfkplongiaa.Tap
