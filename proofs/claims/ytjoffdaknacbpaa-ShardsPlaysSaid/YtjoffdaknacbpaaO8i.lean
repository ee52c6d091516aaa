import Derived.Test.YtjoffdaknacbpaaO8g
import Derived.Test.YtjoffdaknacbpaaO8h
namespace Go.Proofs.Ytjoffdaknacbpaa.Sha
open Go.RowKit Gf8 Aes By8 Cel Cf Win Drw
/- ShardsOf; the laws' awake. Written by tools/mkO8i.py. -/

def f7 (i : Nat) : Nat := if i = 0 then 7 else 0
theorem f7_lt (i : Nat) (_ : i < 16) : f7 i < 256 := by unfold f7; split <;> omega
section
variable {o : Oper} {a : Act} {w : World}
theorem execB7 (ho : o.op = .build 31 #[(0, .const (.int .u8 7))]) : (execOp a.eval o).run Try.prog w = .ok (.value (.agg (bA 16 f7))) w := by
  unfold execOp
  simp only [ho]
  rw [show bA 16 f7 = #[.int .u8 7, .int .u8 0, .int .u8 0, .int .u8 0, .int .u8 0, .int .u8 0, .int .u8 0, .int .u8 0, .int .u8 0, .int .u8 0, .int .u8 0, .int .u8 0, .int .u8 0, .int .u8 0, .int .u8 0, .int .u8 0] from by kernel_rfl]
  simp [go_sem]
theorem execAl16b (ho : o.op = .alloc 31) : (execOp a.eval o).run Try.prog w = .ok (.value (.pointer (some ⟨w.heap.size, 0, none⟩))) (w.alloc (.cells (bA 16 fun _ => 0) 31)) := by
  have h := zero16 w
  unfold execOp
  simp only [ho]
  simp [go_sem, h]
theorem execSt16b {x y : Operand} {g : Nat} {f0 f : Nat → Nat} (ho : o.op = .store 31 x y) (hx : a.eval x = .pointer (some ⟨g, 0, none⟩)) (hy : a.eval y = .agg (bA 16 f)) (hg : w.heap[g]? = some (.cells (bA 16 f0) 31)) : (execOp a.eval o).run Try.prog w = .ok .skip (w.setRow g (bA 16 f)) := by
  have h := execStMid (P := Try.prog) ho hx hy hg (by rw [bA_size, bA_size]; omega) (show (Try.prog.info? 31).map (·.size) = some (bA 16 f).size from by rw [bA_size]; kernel_rfl) (bA_one 16 f)
  have e : ((bA 16 f0).toList.take 0 ++ (bA 16 f).toList ++ (bA 16 f0).toList.drop (0 + (bA 16 f).size)).toArray = bA 16 f := by
    rw [List.drop_eq_nil_of_le (by rw [Array.length_toList, bA_size, bA_size]; omega)]
    simp
  rw [e] at h
  exact h
end
end Go.Proofs.Ytjoffdaknacbpaa.Sha
