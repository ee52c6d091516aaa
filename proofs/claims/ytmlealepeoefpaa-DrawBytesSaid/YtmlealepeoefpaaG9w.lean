import Derived.Test.YtmlealepeoefpaaG9j
import Derived.Test.YtmlealepeoefpaaG9k
import Derived.Test.YtmlealepeoefpaaG9v
namespace Go.Proofs.Ytmlealepeoefpaa.Drw
open Go.RowKit Gf8 Aes By8 Cel Cf Tap
/- A row of 256 counts. -/

def ctC (f : Nat → Nat) : Array Value := ((List.range 256).map fun i => Value.int .i64 ((f i : Nat) : Int)).toArray
theorem ctC_at {f : Nat → Nat} {i : Nat} (h : i < 256) : (ctC f)[i]? = some (.int .i64 ((f i : Nat) : Int)) := by
  simp [ctC, h]
theorem ctC_size (f : Nat → Nat) : (ctC f).size = 256 := by simp [ctC]
theorem ctC_congr {f g : Nat → Nat} (h : ∀ i, i < 256 → f i = g i) : ctC f = ctC g := by
  unfold ctC
  congr 1
  exact List.map_congr_left fun i hi => by rw [h i (List.mem_range.1 hi)]
theorem ctC_made : madeCells #[.int .i64 0] 256 = ctC (fun _ => 0) := by
  apply Array.ext_getElem?
  intro i
  by_cases h : i < 256
  · rw [ctC_at h]; simp [madeCells, h, Nat.mod_one]
  · rw [Array.getElem?_eq_none (by simp [madeCells]; omega), Array.getElem?_eq_none (by rw [ctC_size]; omega)]
theorem ctC_set {f : Nat → Nat} {k v : Nat} (hk : k < 256) : (ctC f).setIfInBounds k (.int .i64 ((v : Nat) : Int)) = ctC (fun i => if i = k then v else f i) := by
  apply Array.ext_getElem?
  intro i
  rw [Array.getElem?_setIfInBounds]
  by_cases h : i < 256
  · rw [ctC_at h, ctC_at h]
    by_cases e : k = i
    · subst e
      rw [if_pos rfl, if_pos (by rw [ctC_size]; exact hk), if_pos rfl]
    · rw [if_neg e, if_neg (show ¬ i = k from fun q => e q.symm)]
  · rw [if_neg (by omega), Array.getElem?_eq_none (by rw [ctC_size]; omega), Array.getElem?_eq_none (by rw [ctC_size]; omega)]
theorem ctC_cell {W : World} {g k z : Nat} {f : Nat → Nat} {t : TypeId} (h : W.heap[g]? = some (.cells (ctC f) t)) (hk : k < 256) (hz : f k = z) : W.cell? ⟨g, 0 + k, none⟩ = some (.int .i64 ((z : Nat) : Int)) := by
  rw [cell_of_row _ _ _ _ _ _ h, Nat.zero_add, ctC_at hk, hz]
section
variable {o : Oper} {a : Act} {w : World}
theorem execBsV1 {x : Operand} {z : Int} (ho : o.op = .buildSlice 30 1 #[(0, x)]) (hx : a.eval x = .int .u8 z) : (execOp a.eval o).run Try.prog w = .ok (.value (.slice (some ⟨w.heap.size, 0, none⟩) 1 1)) (w.alloc (.cells #[.int .u8 z] 5)) := by
  unfold execOp
  simp only [ho, List.map_toArray, List.map_cons, List.map_nil, hx]
  simp [go_sem]
theorem execU8W {x : Operand} {n : Nat} (ho : o.op = .convert 3 5 x) (hx : a.eval x = .int .i64 (n : Int)) (h : n < 256) : (execOp a.eval o).run Try.prog w = .ok (.value (.int .u8 (n : Int))) w := by
  have e := execU8 (w := w) (n := n) ho hx
  rw [Nat.mod_eq_of_lt h] at e
  exact e
theorem execMulD {x y : Operand} {p q : Nat} (ho : o.op = .binOp .mul 3 x y 3) (hx : a.eval x = .int .i64 (p : Int)) (hy : a.eval y = .int .i64 (q : Int)) (h : p * q < 9223372036854775808) : (execOp a.eval o).run Try.prog w = .ok (.value (.int .i64 ((p * q : Nat) : Int))) w := by
  have ew : IntKind.i64.wrap ((p : Int) * q) = ((p * q : Nat) : Int) := by
    rw [← Int.natCast_mul]
    simp [IntKind.wrap, IntKind.bits, IntKind.signed]
    omega
  unfold execOp
  simp only [ho, hx, hy]
  simp [go_sem, ew]
theorem execStI3 {x y : Operand} {b k : Nat} {z : Int} {old : Value} (ho : o.op = .store 3 x y) (hx : a.eval x = .pointer (some ⟨b, k, none⟩)) (hy : a.eval y = .int .i64 z) (hc : w.cell? ⟨b, k, none⟩ = some old) (hf : w.frozen? ⟨b, k, none⟩ = false) : (execOp a.eval o).run Try.prog w = .ok .skip (w.setCell ⟨b, k, none⟩ (.int .i64 z)) := by
  unfold execOp
  simp only [ho, hx, hy]
  simp [go_sem, hc, hf]
theorem execStC {x y : Operand} {g k z : Nat} {f : Nat → Nat} {t : TypeId} (ho : o.op = .store 3 x y) (hx : a.eval x = .pointer (some ⟨g, 0 + k, none⟩)) (hy : a.eval y = .int .i64 ((z : Nat) : Int)) (hg : w.heap[g]? = some (.cells (ctC f) t)) (hk : k < 256) :
    (execOp a.eval o).run Try.prog w = .ok .skip (w.setRow g (ctC (fun i => if i = k then z else f i))) := by
  have h := execStI3 (w := w) ho hx hy (ctC_cell hg hk rfl) (frozen4 hg)
  rw [Nat.zero_add, setCell_eq_setRow w g k (ctC f) t _ _ hg, ctC_set hk] at h
  exact h
end
theorem cnt_take {b v : Nat} (h : v / b < 256 / b) : ctC (fun i => if i = v % b then cnt b v (v % b) + 1 else cnt b v i) = ctC (cnt b (v + 1)) := ctC_congr fun i _ => by
  show _ = cnt b v i + _
  by_cases e : i = v % b
  · subst e; rw [if_pos rfl, if_pos ⟨h, rfl⟩]
  · rw [if_neg e, if_neg (fun q => e q.2.symm), Nat.add_zero]
theorem cnt_pass {b v : Nat} (h : ¬ v / b < 256 / b) : ctC (cnt b v) = ctC (cnt b (v + 1)) := ctC_congr fun i _ => by
  show _ = cnt b v i + _
  rw [if_neg (fun q => h q.1), Nat.add_zero]
theorem outs_take {b v : Nat} (h : v / b < 256 / b) : outs b v = outs b (v + 1) := by
  show outs b v = outs b v + (if v / b < 256 / b then 0 else 1)
  rw [if_pos h, Nat.add_zero]
theorem outs_pass {b v : Nat} (h : ¬ v / b < 256 / b) : outs b v + 1 = outs b (v + 1) := by
  show outs b v + 1 = outs b v + (if v / b < 256 / b then 0 else 1)
  rw [if_neg h]
end Go.Proofs.Ytmlealepeoefpaa.Drw
