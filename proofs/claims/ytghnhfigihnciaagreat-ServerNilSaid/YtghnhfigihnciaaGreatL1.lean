import Derived.Test.YtghnhfigihnciaaGreatRows
import Derived.WalkKit
import Derived.WalkSpells
import Derived.Deep.QuietTactic
import Derived.Deep.WholeRow
import Derived.BigQuiet
import Derived.Test.YtghnhfigihnciaaGreatL2
import Derived.Test.YtghnhfigihnciaaGreatX2
import Derived.Test.YtghnhfigihnciaaGreatK7
namespace Go.Proofs.YtghnhfigihnciaaGreat.Gf8
open Go.RowKit
/- Rows of bytes, ints and bytes in the walk: of types it names bytes and ints alone. -/

/-- A column of which the first k bytes are laid. -/
def uptoC (g : Nat → Nat) (k : Nat) : Nat → Nat := fun i => if i < k then g i else 0
theorem frozen4 {W : World} {b o : Nat} {c : Array Value} {t : TypeId} (h : W.heap[b]? = some (.cells c t)) : W.frozen? ⟨b, o, none⟩ = false := by simp [World.frozen?, h]
theorem below4 {B : Nat} {a w : World} (h : Below B a w) {g : Nat} (hg : B ≤ g) (c : Array Value) : Below B a (w.setRow g c) :=
  h.trans ⟨rfl, rfl, rfl, by simp, fun k hk => setRow_other w g k c (by omega)⟩
theorem heap4 {W : World} {b k : Nat} {c : Array Value} {t : TypeId} (v : Value) (h : W.heap[b]? = some (.cells c t)) : (W.setCell ⟨b, k, none⟩ v).heap[b]? = some (.cells (c.setIfInBounds k v) t) := by
  rw [setCell_eq_setRow W b k c t _ v h]; exact setRow_heap _ _ _ _ _ _ h
theorem heap4o {W : World} {b k i : Nat} {c : Array Value} {t : TypeId} (v : Value) (h : W.heap[b]? = some (.cells c t)) (hi : i ≠ b) : (W.setCell ⟨b, k, none⟩ v).heap[i]? = W.heap[i]? := by
  rw [setCell_eq_setRow W b k c t _ v h]; exact setRow_other _ _ _ _ (by omega)
end Go.Proofs.YtghnhfigihnciaaGreat.Gf8
namespace Go.Proofs.YtghnhfigihnciaaGreat.Aes
open Go.RowKit Gf8

def bA (n : Nat) (f : Nat → Nat) : Array Value := (bytesL n f).toArray
theorem bA_size (n : Nat) (f : Nat → Nat) : (bA n f).size = n := by simp [bA, bytesL_len]
theorem bA_at (n : Nat) (f : Nat → Nat) {i : Nat} (h : i < n) : (bA n f)[i]? = some (.int .u8 (f i)) := by
  rw [bA, List.getElem?_toArray]; exact bytesL_at n f h
theorem bA_congr {n : Nat} {f g : Nat → Nat} (h : ∀ i, i < n → f i = g i) : bA n f = bA n g := by
  unfold bA bytesL
  congr 1
  apply List.map_congr_left
  intro i hi
  rw [h i (List.mem_range.1 hi)]
def updN (f : Nat → Nat) (k v : Nat) : Nat → Nat := fun i => if i = k then v else f i
theorem bA_set (n : Nat) (f : Nat → Nat) (k v : Nat) : (bA n f).setIfInBounds k (.int .u8 v) = bA n (updN f k v) := by
  apply Array.ext_getElem?
  intro i
  rw [Array.getElem?_setIfInBounds]
  by_cases hi : i < n
  · rw [bA_at n _ hi, bA_at n _ hi, bA_size]
    unfold updN
    by_cases h : k = i
    · subst h; rw [if_pos rfl, if_pos hi, if_pos rfl]
    · rw [if_neg h, if_neg (fun e => h e.symm)]
  · rw [Array.getElem?_eq_none (by rw [bA_size]; omega), Array.getElem?_eq_none (by rw [bA_size]; omega)]
    by_cases h : k = i
    · rw [if_pos h, if_neg (by rw [bA_size]; omega)]
    · rw [if_neg h]
theorem updN_upto (g : Nat → Nat) (k : Nat) : updN (uptoC g k) k (g k) = uptoC g (k + 1) := by
  funext i
  simp only [updN, uptoC]
  by_cases h : i = k
  · subst h; simp
  · by_cases h2 : i < k
    · simp [h, h2, show i < k + 1 by omega]
    · simp [h, h2, show ¬ i < k + 1 by omega]
theorem cellN {W : World} {b k n : Nat} {f : Nat → Nat} {t : TypeId} (h : W.heap[b]? = some (.cells (bA n f) t)) (hk : k < n) : W.cell? ⟨b, k, none⟩ = some (.int .u8 (f k)) := by
  rw [cell_of_row _ _ _ _ _ _ h]; exact bA_at n f hk
theorem heapNew (W : World) (o : Obj) : (W.alloc o).heap[W.heap.size]? = some o := by show (W.heap.push _)[W.heap.size]? = _; rw [Array.getElem?_push_size]
theorem belNew (W : World) (o : Obj) : Below W.heap.size W (W.alloc o) := (Below.refl _ _).alloc (Nat.le_refl _) _
section
variable {o : Oper} {a : Act} {w : World}
theorem execMvB {P : Program} {x : Operand} {v : Value} (ho : o.op = .move x) (hx : a.eval x = v) : (execOp a.eval o).run P w = .ok (.value v) w := by
  rw [← hx]; exact execMove ho
end
end Go.Proofs.YtghnhfigihnciaaGreat.Aes
