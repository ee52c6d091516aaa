import Derived.Test.YtnfokemikcigbaaV9j
namespace Go.Proofs.Ytnfokemikcigbaa.Tap
open Go.RowKit Gf8 Aes By8 Cel Cf
/- The program's Tape: New, Left, Used, behind. -/

section
variable {o : Oper} {a : Act} {w : World}
theorem execLd3 {x : Operand} {b f : Nat} {v : Int} (ho : o.op = .load 3 x) (hx : a.eval x = .pointer (some ⟨b, f, none⟩)) (hc : w.cell? ⟨b, f, none⟩ = some (.int .i64 v)) : (execOp a.eval o).run Try.prog w = .ok (.value (.int .i64 v)) w := by
  unfold execOp
  simp only [ho, hx]
  simp [go_sem, hc]
end
end Go.Proofs.Ytnfokemikcigbaa.Tap
