import Derived.Test.YtmfaapbhehhlpaaRows
import Derived.WalkKit
import Derived.WalkSpells
import Derived.Deep.QuietTactic
import Derived.Deep.WholeRow
import Derived.BigQuiet
import Derived.Test.YtmfaapbhehhlpaaL2
import Derived.Test.YtmfaapbhehhlpaaX2
import Derived.Test.YtmfaapbhehhlpaaK7
namespace Go.Proofs.Ytmfaapbhehhlpaa.Gf8
open Go.RowKit
/- Rows of bytes, ints and bytes in the walk: of types it names bytes and ints alone. -/

theorem belowD {B : Nat} {a w : World} (h : Below B a w) (n : Nat) : Below B a (w.drewN n) := ⟨h.os, h.tape, h.output, h.size, h.block⟩
/-- A column of which the first k bytes are laid. -/
def uptoC (g : Nat → Nat) (k : Nat) : Nat → Nat := fun i => if i < k then g i else 0
theorem atLoad {P : Program} {ops : Array Oper} {rest : List Oper} {o : Oper} {a : Act} {w : World} {Q : Exit → Act → World → Prop} (ty : TypeId) (x : Operand) (_ : o.op = .load ty x) (h : wpList P ops Q (o :: rest) a w) : wpList P ops Q (o :: rest) a w := h
theorem atStore {P : Program} {ops : Array Oper} {rest : List Oper} {o : Oper} {a : Act} {w : World} {Q : Exit → Act → World → Prop} (ty : TypeId) (x y : Operand) (_ : o.op = .store ty x y) (h : wpList P ops Q (o :: rest) a w) : wpList P ops Q (o :: rest) a w := h
theorem frozen4 {W : World} {b o : Nat} {c : Array Value} {t : TypeId} (h : W.heap[b]? = some (.cells c t)) : W.frozen? ⟨b, o, none⟩ = false := by simp [World.frozen?, h]
theorem below4 {B : Nat} {a w : World} (h : Below B a w) {g : Nat} (hg : B ≤ g) (c : Array Value) : Below B a (w.setRow g c) :=
  h.trans ⟨rfl, rfl, rfl, by simp, fun k hk => setRow_other w g k c (by omega)⟩
theorem heap4 {W : World} {b k : Nat} {c : Array Value} {t : TypeId} (v : Value) (h : W.heap[b]? = some (.cells c t)) : (W.setCell ⟨b, k, none⟩ v).heap[b]? = some (.cells (c.setIfInBounds k v) t) := by
  rw [setCell_eq_setRow W b k c t _ v h]; exact setRow_heap _ _ _ _ _ _ h
theorem heap4o {W : World} {b k i : Nat} {c : Array Value} {t : TypeId} (v : Value) (h : W.heap[b]? = some (.cells c t)) (hi : i ≠ b) : (W.setCell ⟨b, k, none⟩ v).heap[i]? = W.heap[i]? := by
  rw [setCell_eq_setRow W b k c t _ v h]; exact setRow_other _ _ _ _ (by omega)
theorem heap3c (w : World) (A B C : Obj) : (((w.alloc A).alloc B).alloc C).heap[w.heap.size]? = some A ∧ (((w.alloc A).alloc B).alloc C).heap[w.heap.size + 1]? = some B ∧ (((w.alloc A).alloc B).alloc C).heap[w.heap.size + 2]? = some C := by
  have hs : ∀ (v : World) (o : Obj), (v.alloc o).heap = v.heap.push o := fun _ _ => rfl
  simp only [hs, Array.getElem?_push, Array.size_push]
  refine ⟨?_, ?_, ?_⟩
  · rw [if_neg (by omega), if_neg (by omega), if_pos trivial]
  · rw [if_neg (by omega), if_pos trivial]
  · rw [if_pos trivial]
theorem below3c (w : World) (A B C : Obj) : Below w.heap.size w (((w.alloc A).alloc B).alloc C) :=
  (((Below.refl _ _).alloc (Nat.le_refl _) _).alloc (by simp) _).alloc (by simp; omega) _
end Go.Proofs.Ytmfaapbhehhlpaa.Gf8
namespace Go.Proofs.Ytmfaapbhehhlpaa.Aes
open Go.RowKit Gf8

def bA (n : Nat) (f : Nat → Nat) : Array Value := (bytesL n f).toArray
theorem bA_size (n : Nat) (f : Nat → Nat) : (bA n f).size = n := by simp [bA, bytesL_len]
theorem bA_at (n : Nat) (f : Nat → Nat) {i : Nat} (h : i < n) : (bA n f)[i]? = some (.int .u8 (f i)) := by
  rw [bA, List.getElem?_toArray]; exact bytesL_at n f h
theorem bA_one (n : Nat) (f : Nat → Nat) : (bA n f).all Value.oneCell' = true := by simp [bA, bytesL, Value.oneCell']
theorem bA_congr {n : Nat} {f g : Nat → Nat} (h : ∀ i, i < n → f i = g i) : bA n f = bA n g := by
  unfold bA bytesL
  congr 1
  apply List.map_congr_left
  intro i hi
  rw [h i (List.mem_range.1 hi)]
def updN (f : Nat → Nat) (k v : Nat) : Nat → Nat := fun i => if i = k then v else f i
theorem bA_set (n : Nat) (f : Nat → Nat) (k v : Nat) : (bA n f).setIfInBounds k (.int .u8 v) = bA n (updN f k v) := by
  apply Array.ext_getElem?
  intro i
  rw [Array.getElem?_setIfInBounds]
  by_cases hi : i < n
  · rw [bA_at n _ hi, bA_at n _ hi, bA_size]
    unfold updN
    by_cases h : k = i
    · subst h; rw [if_pos rfl, if_pos hi, if_pos rfl]
    · rw [if_neg h, if_neg (fun e => h e.symm)]
  · rw [Array.getElem?_eq_none (by rw [bA_size]; omega), Array.getElem?_eq_none (by rw [bA_size]; omega)]
    by_cases h : k = i
    · rw [if_pos h, if_neg (by rw [bA_size]; omega)]
    · rw [if_neg h]
theorem updN_upto (g : Nat → Nat) (k : Nat) : updN (uptoC g k) k (g k) = uptoC g (k + 1) := by
  funext i
  simp only [updN, uptoC]
  by_cases h : i = k
  · subst h; simp
  · by_cases h2 : i < k
    · simp [h, h2, show i < k + 1 by omega]
    · simp [h, h2, show ¬ i < k + 1 by omega]
/-- A block of which the first k places are new. -/
def mixU (g f : Nat → Nat) (k : Nat) : Nat → Nat := fun i => if i < k then g i else f i
theorem updN_mixU (g f : Nat → Nat) (k : Nat) : updN (mixU g f k) k (g k) = mixU g f (k + 1) := by
  funext i
  simp only [updN, mixU]
  by_cases h : i = k
  · subst h; simp
  · by_cases h2 : i < k
    · simp [h, h2, show i < k + 1 by omega]
    · simp [h, h2, show ¬ i < k + 1 by omega]
theorem cellN {W : World} {b k n : Nat} {f : Nat → Nat} {t : TypeId} (h : W.heap[b]? = some (.cells (bA n f) t)) (hk : k < n) : W.cell? ⟨b, k, none⟩ = some (.int .u8 (f k)) := by
  rw [cell_of_row _ _ _ _ _ _ h]; exact bA_at n f hk
theorem heapNew (W : World) (o : Obj) : (W.alloc o).heap[W.heap.size]? = some o := by show (W.heap.push _)[W.heap.size]? = _; rw [Array.getElem?_push_size]
theorem belNew (W : World) (o : Obj) : Below W.heap.size W (W.alloc o) := (Below.refl _ _).alloc (Nat.le_refl _) _
theorem heap2c (w : World) (A B : Obj) : ((w.alloc A).alloc B).heap[w.heap.size]? = some A ∧ ((w.alloc A).alloc B).heap[w.heap.size + 1]? = some B := by
  have hs : ∀ (v : World) (o : Obj), (v.alloc o).heap = v.heap.push o := fun _ _ => rfl
  simp only [hs, Array.getElem?_push, Array.size_push]
  exact ⟨by rw [if_neg (by omega), if_pos trivial], by rw [if_pos trivial]⟩
theorem below2c (w : World) (A B : Obj) : Below w.heap.size w ((w.alloc A).alloc B) := ((Below.refl _ _).alloc (Nat.le_refl _) _).alloc (by simp) _
section
variable {o : Oper} {a : Act} {w : World}
theorem execLdB {x : Operand} {b f : Nat} {v : Value} (ho : o.op = .load 5 x) (hx : a.eval x = .pointer (some ⟨b, f, none⟩)) (hc : w.cell? ⟨b, f, none⟩ = some v) : (execOp a.eval o).run Try.prog w = .ok (.value v) w := by
  unfold execOp
  simp only [ho, hx]
  simp [go_sem, hc]
theorem execStB {x y : Operand} {b f : Nat} {v : Int} {u : Value} (ho : o.op = .store 5 x y) (hx : a.eval x = .pointer (some ⟨b, f, none⟩)) (hy : a.eval y = .int .u8 v) (hc : w.cell? ⟨b, f, none⟩ = some u) (hz : w.frozen? ⟨b, f, none⟩ = false) : (execOp a.eval o).run Try.prog w = .ok .skip (w.setCell ⟨b, f, none⟩ (.int .u8 v)) := by
  unfold execOp
  simp only [ho, hx, hy]
  simp [go_sem, hc, hz]
theorem execMvB {P : Program} {x : Operand} {v : Value} (ho : o.op = .move x) (hx : a.eval x = v) : (execOp a.eval o).run P w = .ok (.value v) w := by
  rw [← hx]; exact execMove ho
theorem execXor5 {x y : Operand} {p q : Nat} (ho : o.op = .binOp .xor 5 x y 5) (hx : a.eval x = .int .u8 p) (hy : a.eval y = .int .u8 q) (hp : p < 256) (hq : q < 256) : (execOp a.eval o).run Try.prog w = .ok (.value (.int .u8 (p ^^^ q : Nat))) w := by
  have e := xor_u8 hp hq
  unfold execOp
  simp only [ho, hx, hy]
  simp [go_sem, e]
theorem execAddI {x y : Operand} {p q : Nat} (ho : o.op = .binOp .add 3 x y 3) (hx : a.eval x = .int .i64 p) (hy : a.eval y = .int .i64 q) (h : p + q < 9223372036854775808) : (execOp a.eval o).run Try.prog w = .ok (.value (.int .i64 (p + q : Nat))) w := by
  have e : IntKind.i64.wrap ((p : Int) + q) = (p : Int) + q := by have := wrap_i64_nat h; simpa using this
  unfold execOp
  simp only [ho, hx, hy]
  simp [go_sem, e]
theorem execMulI {x y : Operand} {p q : Nat} (ho : o.op = .binOp .mul 3 x y 3) (hx : a.eval x = .int .i64 p) (hy : a.eval y = .int .i64 q) (h : p * q < 9223372036854775808) : (execOp a.eval o).run Try.prog w = .ok (.value (.int .i64 (p * q : Nat))) w := by
  have e : IntKind.i64.wrap ((p : Int) * q) = (p : Int) * q := by have := wrap_i64_nat h; simpa using this
  unfold execOp
  simp only [ho, hx, hy]
  simp [go_sem, e]
end
end Go.Proofs.Ytmfaapbhehhlpaa.Aes
