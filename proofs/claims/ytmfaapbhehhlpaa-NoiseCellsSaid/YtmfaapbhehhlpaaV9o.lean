import Derived.Test.YtmfaapbhehhlpaaG9c
namespace Go.Proofs.Ytmfaapbhehhlpaa.Tap
open Go.RowKit Gf8 Aes By8 Cel Cf
/- The law's awake, TapeJoins. Written by tools/mkV9o.py. -/

theorem ne9 {X : World} {g : Nat} {c : Obj} (h : X.heap[g]? = some c) : g ≠ X.heap.size := by have := (Array.getElem?_eq_some_iff.1 h).1; omega
theorem execDec {o : Oper} {a : Act} {P : Program} {w w' : World} {b c : Bool} (h : (execOp a.eval o).run P w = .ok (.value (.bool b)) w') (e : b = c) : (execOp a.eval o).run P w = .ok (.value (.bool c)) w' := by rw [h, e]
end Go.Proofs.Ytmfaapbhehhlpaa.Tap
