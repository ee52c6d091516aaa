import Derived.Test.YtealknodagdjaaaL0
import Derived.Test.YtealknodagdjaaaX2
import Derived.Test.YtealknodagdjaaaK7
import Derived.Test.YtealknodagdjaaaJ0
namespace Go.Proofs.Ytealknodagdjaaa.Aes
open Go.RowKit Gf8
/- Arrays of n bytes as rows of memory. -/

def bA (n : Nat) (f : Nat → Nat) : Array Value := (bytesL n f).toArray
theorem bA_size (n : Nat) (f : Nat → Nat) : (bA n f).size = n := by simp [bA, bytesL_len]
theorem bA_at (n : Nat) (f : Nat → Nat) {i : Nat} (h : i < n) : (bA n f)[i]? = some (.int .u8 (f i)) := by
  rw [bA, List.getElem?_toArray]; exact bytesL_at n f h
theorem bA_one (n : Nat) (f : Nat → Nat) : (bA n f).all Value.oneCell' = true := by simp [bA, bytesL, Value.oneCell']
theorem bA_congr {n : Nat} {f g : Nat → Nat} (h : ∀ i, i < n → f i = g i) : bA n f = bA n g := by
  unfold bA bytesL
  congr 1
  apply List.map_congr_left
  intro i hi
  rw [h i (List.mem_range.1 hi)]
def updN (f : Nat → Nat) (k v : Nat) : Nat → Nat := fun i => if i = k then v else f i
theorem bA_set (n : Nat) (f : Nat → Nat) (k v : Nat) : (bA n f).setIfInBounds k (.int .u8 v) = bA n (updN f k v) := by
  apply Array.ext_getElem?
  intro i
  rw [Array.getElem?_setIfInBounds]
  by_cases hi : i < n
  · rw [bA_at n _ hi, bA_at n _ hi, bA_size]
    unfold updN
    by_cases h : k = i
    · subst h; rw [if_pos rfl, if_pos hi, if_pos rfl]
    · rw [if_neg h, if_neg (fun e => h e.symm)]
  · rw [Array.getElem?_eq_none (by rw [bA_size]; omega), Array.getElem?_eq_none (by rw [bA_size]; omega)]
    by_cases h : k = i
    · rw [if_pos h, if_neg (by rw [bA_size]; omega)]
    · rw [if_neg h]
theorem updN_upto (g : Nat → Nat) (k : Nat) : updN (uptoC g k) k (g k) = uptoC g (k + 1) := by
  funext i
  simp only [updN, uptoC]
  by_cases h : i = k
  · subst h; simp
  · by_cases h2 : i < k
    · simp [h, h2, show i < k + 1 by omega]
    · simp [h, h2, show ¬ i < k + 1 by omega]
/-- A block of which the first k places are new. -/
def mixU (g f : Nat → Nat) (k : Nat) : Nat → Nat := fun i => if i < k then g i else f i
theorem updN_mixU (g f : Nat → Nat) (k : Nat) : updN (mixU g f k) k (g k) = mixU g f (k + 1) := by
  funext i
  simp only [updN, mixU]
  by_cases h : i = k
  · subst h; simp
  · by_cases h2 : i < k
    · simp [h, h2, show i < k + 1 by omega]
    · simp [h, h2, show ¬ i < k + 1 by omega]
theorem size16 (f : Nat → Nat) : (Try.prog.info? 23).map (·.size) = some (bA 16 f).size := by rw [bA_size]; kernel_rfl
theorem size176 (f : Nat → Nat) : (Try.prog.info? 38).map (·.size) = some (bA 176 f).size := by rw [bA_size]; kernel_rfl
theorem zero16 : ∀ w, (zeroValue 23).run Try.prog w = .ok (.agg (bA 16 fun _ => 0)) w :=
  (zero_of_info (n := 16) (by kernel_rfl)).1
theorem zero176 : ∀ w, (zeroValue 38).run Try.prog w = .ok (.agg (bA 176 fun _ => 0)) w :=
  (zero_of_info (n := 176) (by kernel_rfl)).1
theorem cellN {W : World} {b k n : Nat} {f : Nat → Nat} {t : TypeId} (h : W.heap[b]? = some (.cells (bA n f) t)) (hk : k < n) : W.cell? ⟨b, k, none⟩ = some (.int .u8 (f k)) := by
  rw [cell_of_row _ _ _ _ _ _ h]; exact bA_at n f hk
section
variable {o : Oper} {a : Act} {w : World}
theorem execIdx16 {x i : Operand} {g k : Nat} (ho : o.op = .indexAddr 23 x i) (hx : a.eval x = .pointer (some ⟨g, 0, none⟩)) (hi : a.eval i = .int .i64 (k : Int)) (hk : k < 16) : (execOp a.eval o).run Try.prog w = .ok (.value (.pointer (some ⟨g, k, none⟩))) w := by
  have h1 : (k : Int) < 16 := by omega
  unfold execOp
  simp only [ho, hx, hi]
  simp [go_sem, h1]
theorem execIdx176 {x i : Operand} {g k : Nat} (ho : o.op = .indexAddr 38 x i) (hx : a.eval x = .pointer (some ⟨g, 0, none⟩)) (hi : a.eval i = .int .i64 (k : Int)) (hk : k < 176) : (execOp a.eval o).run Try.prog w = .ok (.value (.pointer (some ⟨g, k, none⟩))) w := by
  have h1 : (k : Int) < 176 := by omega
  unfold execOp
  simp only [ho, hx, hi]
  simp [go_sem, h1]
theorem execLdB {x : Operand} {b f : Nat} {v : Value} (ho : o.op = .load 5 x) (hx : a.eval x = .pointer (some ⟨b, f, none⟩)) (hc : w.cell? ⟨b, f, none⟩ = some v) : (execOp a.eval o).run Try.prog w = .ok (.value v) w := by
  unfold execOp
  simp only [ho, hx]
  simp [go_sem, hc]
theorem execStB {x y : Operand} {b f : Nat} {v : Int} {u : Value} (ho : o.op = .store 5 x y) (hx : a.eval x = .pointer (some ⟨b, f, none⟩)) (hy : a.eval y = .int .u8 v) (hc : w.cell? ⟨b, f, none⟩ = some u) (hz : w.frozen? ⟨b, f, none⟩ = false) : (execOp a.eval o).run Try.prog w = .ok .skip (w.setCell ⟨b, f, none⟩ (.int .u8 v)) := by
  unfold execOp
  simp only [ho, hx, hy]
  simp [go_sem, hc, hz]
theorem execMvB {P : Program} {x : Operand} {v : Value} (ho : o.op = .move x) (hx : a.eval x = v) : (execOp a.eval o).run P w = .ok (.value v) w := by
  rw [← hx]; exact execMove ho
theorem execXor5 {x y : Operand} {p q : Nat} (ho : o.op = .binOp .xor 5 x y 5) (hx : a.eval x = .int .u8 p) (hy : a.eval y = .int .u8 q) (hp : p < 256) (hq : q < 256) : (execOp a.eval o).run Try.prog w = .ok (.value (.int .u8 (p ^^^ q : Nat))) w := by
  have e := xor_u8 hp hq
  unfold execOp
  simp only [ho, hx, hy]
  simp [go_sem, e]
theorem execAddI {x y : Operand} {p q : Nat} (ho : o.op = .binOp .add 3 x y 3) (hx : a.eval x = .int .i64 p) (hy : a.eval y = .int .i64 q) (h : p + q < 9223372036854775808) : (execOp a.eval o).run Try.prog w = .ok (.value (.int .i64 (p + q : Nat))) w := by
  have e : IntKind.i64.wrap ((p : Int) + q) = (p : Int) + q := by have := wrap_i64_nat h; simpa using this
  unfold execOp
  simp only [ho, hx, hy]
  simp [go_sem, e]
theorem execMulI {x y : Operand} {p q : Nat} (ho : o.op = .binOp .mul 3 x y 3) (hx : a.eval x = .int .i64 p) (hy : a.eval y = .int .i64 q) (h : p * q < 9223372036854775808) : (execOp a.eval o).run Try.prog w = .ok (.value (.int .i64 (p * q : Nat))) w := by
  have e : IntKind.i64.wrap ((p : Int) * q) = (p : Int) * q := by have := wrap_i64_nat h; simpa using this
  unfold execOp
  simp only [ho, hx, hy]
  simp [go_sem, e]
theorem execRemI {x y : Operand} {p q : Nat} (ho : o.op = .binOp .rem 3 x y 3) (hx : a.eval x = .int .i64 p) (hy : a.eval y = .int .i64 q) (h : q ≠ 0) : (execOp a.eval o).run Try.prog w = .ok (.value (.int .i64 (p % q : Nat))) w := by
  have e : (p : Int).tmod q = ((p % q : Nat) : Int) := by rw [Int.tmod_eq_emod_of_nonneg (by omega)]; omega
  unfold execOp
  simp only [ho, hx, hy]
  simp [go_sem, h, e]
end
end Go.Proofs.Ytealknodagdjaaa.Aes
