import Derived.Test.YtcibogmghagpoaaV9n
namespace Go.Proofs.Ytcibogmghagpoaa.Tap
open Go.RowKit Gf8 Aes By8 Cel Cf
/- The law's awake, TapeJoins. Written by tools/mkV9o.py. -/

theorem execDec {o : Oper} {a : Act} {P : Program} {w w' : World} {b c : Bool} (h : (execOp a.eval o).run P w = .ok (.value (.bool b)) w') (e : b = c) : (execOp a.eval o).run P w = .ok (.value (.bool c)) w' := by rw [h, e]
end Go.Proofs.Ytcibogmghagpoaa.Tap
