import Derived.Test.YtldhhfkplongiaaY0
import Derived.Laws.BytesArg
namespace Go.Proofs.Ytldhhfkplongiaa.By8
open Go.RowKit Gf8 Aes

/-- The bytes as numbers. -/
def numL (p : Nat → Nat) (n : Nat) : List Int := (List.range n).map fun i => (p i : Int)
theorem numL_congr {p q : Nat → Nat} {n : Nat} (h : ∀ i, i < n → p i = q i) : numL p n = numL q n := by
  unfold numL
  apply List.map_congr_left
  intro i hi
  rw [h i (List.mem_range.1 hi)]
/-- The string of a list's bytes. -/
def strN (p : Nat → Nat) (n : Nat) : ByteArray := strOfNums (numL p n)
theorem strN_congr {p q : Nat → Nat} {n : Nat} (h : ∀ i, i < n → p i = q i) : strN p n = strN q n := by unfold strN; rw [numL_congr h]
section
variable {o : Oper} {a : Act} {w : World}
theorem execNeqS {x y : Operand} {s : ByteArray} (ho : o.op = .binOp .neq 9 x y 9) (hx : a.eval x = .string s) (hy : a.eval y = .string s) : (execOp a.eval o).run Try.prog w = .ok (.value (.bool false)) w := by
  unfold execOp
  simp only [ho, hx, hy]
  simp [go_sem]
theorem execEqlS {x y : Operand} {s : ByteArray} (ho : o.op = .binOp .eql 9 x y 9) (hx : a.eval x = .string s) (hy : a.eval y = .string s) : (execOp a.eval o).run Try.prog w = .ok (.value (.bool true)) w := by
  unfold execOp
  simp only [ho, hx, hy]
  simp [go_sem]
end
end Go.Proofs.Ytldhhfkplongiaa.By8
