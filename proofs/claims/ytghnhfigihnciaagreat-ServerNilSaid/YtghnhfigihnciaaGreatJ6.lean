import Derived.Test.YtghnhfigihnciaaGreatL1
import Derived.Test.YtghnhfigihnciaaGreatR0
import Derived.Test.YtghnhfigihnciaaGreatJ0
namespace Go.Proofs.YtghnhfigihnciaaGreat.Aes
open Go.RowKit Gf8

/-- The rows of Keys: the key, the answer's place, the bytes so far. -/
structure KyT (A n : Nat) (key : Nat → Nat) (V : World) (W : World) : Prop where
  kk : W.heap[A]? = some (.cells (bA 16 key) 74)
  rr : W.heap[A + 1]? = some (.cells (bA 176 fun _ => 0) 155)
  ww : W.heap[A + 2]? = some (.cells (bA 176 (uptoC (kw key) n)) 155)
  bel : Below A V W
theorem KyT.set {A n : Nat} {key : Nat → Nat} {V W : World} (h : KyT A n key V W) {z : Nat} (hz : kw key n = z) : KyT A (n + 1) key V (W.setCell ⟨A + 2, n, none⟩ (.int .u8 z)) := by
  refine ⟨?_, ?_, ?_, h.bel.setCell (by simp) _⟩
  · rw [heap4o _ h.ww (by omega)]; exact h.kk
  · rw [heap4o _ h.ww (by omega)]; exact h.rr
  · rw [heap4 _ h.ww, bA_set, ← hz, updN_upto]
theorem KyT.at {A n : Nat} {key : Nat → Nat} {V W : World} (h : KyT A n key V W) {j y : Nat} (hj : j < n) (h2 : j < 176) (hy : kw key j = y) : W.cell? ⟨A + 2, j, none⟩ = some (.int .u8 y) := by
  rw [cellN h.ww h2]
  unfold uptoC
  rw [if_pos hj, hy]
theorem KyT.new {A n : Nat} {key : Nat → Nat} {V W : World} (h : KyT A n key V W) {j : Nat} (hj : n ≤ j) (h2 : j < 176) : W.cell? ⟨A + 2, j, none⟩ = some (.int .u8 0) := by
  rw [cellN h.ww h2]
  unfold uptoC
  rw [if_neg (by omega)]
  rfl
theorem execAsgB {P : Program} {o : Oper} {a : Act} {w : World} {x : Operand} {v : Value} (ho : o.op = .assign x) (hx : a.eval x = v) : (execOp a.eval o).run P w = .ok (.value v) w := by
  unfold execOp
  simp only [ho, hx]
  rfl

end Go.Proofs.YtghnhfigihnciaaGreat.Aes
