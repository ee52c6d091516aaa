import Derived.Test.YtdecmmcphcomhaaV9n
import Derived.Test.YtdecmmcphcomhaaZ9a
import Derived.Test.YtdecmmcphcomhaaP9b
namespace Go.Proofs.Ytdecmmcphcomhaa.Tap
open Go.RowKit Gf8 Aes By8 Cel Cf
/- The law's awake, TapeJoins. Written by tools/mkV9o.py. -/

theorem execDec {o : Oper} {a : Act} {P : Program} {w w' : World} {b c : Bool} (h : (execOp a.eval o).run P w = .ok (.value (.bool b)) w') (e : b = c) : (execOp a.eval o).run P w = .ok (.value (.bool c)) w' := by rw [h, e]
end Go.Proofs.Ytdecmmcphcomhaa.Tap

namespace Go.Proofs.Ytdecmmcphcomhaa.Prm
open Go.RowKit Gf8 Aes By8 Cel Cf Tap Drw
/- Stage 11's reference: Check, Identity, Bounds, Put. Written by tools/mkP9c.py. -/

def gN (f : Nat → Int) : Nat → Nat := fun i => (f i).toNat
section
variable {o : Oper} {a : Act} {w : World}
theorem execSubIg {x y : Operand} {p q z : Int} (ho : o.op = .binOp .sub 3 x y 3) (hx : a.eval x = .int .i64 p) (hy : a.eval y = .int .i64 q) (h : z = p - q) (h1 : -9223372036854775808 ≤ z) (h2 : z < 9223372036854775808) : (execOp a.eval o).run Try.prog w = .ok (.value (.int .i64 z)) w := by
  subst h
  unfold execOp
  simp only [ho, hx, hy]
  simp [go_sem, IntKind.wrap, show IntKind.i64.signed = true from rfl]
  omega
end
end Go.Proofs.Ytdecmmcphcomhaa.Prm

namespace Go.Proofs.Ytdecmmcphcomhaa.Prm
open Go.RowKit Gf8 Aes By8 Cel Cf Tap Drw
/- Stage 11's reference: Inverse, Compose, Apply, Fit, From. Written by tools/mkP9d.py. -/

/-- A length beside an error: none. -/
def zl (E L : Nat) : Nat := if E = 0 then L else 0
theorem zl_ok {L : Nat} : zl 0 L = L := rfl
theorem zl_no {E L : Nat} (h : E ≠ 0) : zl E L = 0 := if_neg h
theorem shpO {W : World} {B n : Nat} {t : TypeId} {v : Value} {xs : List Value} (h : W.ownsRow B t 1 v n xs) : ∃ g c, v = .slice g n c := by
  rcases h.2 with ⟨rfl, rfl⟩ | ⟨g, cap, cur, rfl, _⟩
  · exact ⟨_, _, rfl⟩
  · exact ⟨_, _, rfl⟩
end Go.Proofs.Ytdecmmcphcomhaa.Prm
