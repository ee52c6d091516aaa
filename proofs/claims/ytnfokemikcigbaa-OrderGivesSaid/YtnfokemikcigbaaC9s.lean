import Derived.Test.YtnfokemikcigbaaC9o
namespace Go.Proofs.Ytnfokemikcigbaa.Win
open Go.RowKit Gf8 Aes By8 Cel Cf
/- The laws' tag and some; what the program's package keeps. Written by tools/mkC9q.py. -/

/-- A window that is handed in. -/
structure Wd (V : World) (nw : Int) (ev : Value) (n : Nat) (nu : Nat → Int) (tw : Nat → Value) (ln : Nat → Nat) (t : Nat → Nat → Nat → Nat) : Prop where
  eps : Eps V ev n nu tw ln t
  n32 : n * 32 ≤ 140737488351232
  ln16 : ∀ j, j < n → ln j * 16 ≤ 140737488351232
  num : I64 nw
theorem Wd.on {V W : World} {nw : Int} {ev : Value} {n : Nat} {nu : Nat → Int} {tw : Nat → Value} {ln : Nat → Nat} {t : Nat → Nat → Nat → Nat} (h : Wd V nw ev n nu tw ln t) (hb : Below V.heap.size V W) : Wd W nw ev n nu tw ln t := ⟨h.eps.on hb, h.n32, h.ln16, h.num⟩
section
variable {o : Oper} {a : Act} {w : World}
theorem execEqE {x y : Operand} {p q : Nat} (ho : o.op = .binOp .eql 38 x y 38) (hx : a.eval x = .int .i64 (p : Int)) (hy : a.eval y = .int .i64 (q : Int)) : (execOp a.eval o).run Try.prog w = .ok (.value (.bool (decide (p = q)))) w := by
  unfold execOp
  simp only [ho, hx, hy]
  by_cases h : p = q
  · subst h
    simp [go_sem]
  · have h2 : ¬ (p : Int) = q := by omega
    simp [go_sem, h, h2]
theorem execNeE {x y : Operand} {p q : Nat} (ho : o.op = .binOp .neq 38 x y 38) (hx : a.eval x = .int .i64 (p : Int)) (hy : a.eval y = .int .i64 (q : Int)) : (execOp a.eval o).run Try.prog w = .ok (.value (.bool (decide (p ≠ q)))) w := by
  unfold execOp
  simp only [ho, hx, hy]
  by_cases h : p = q
  · subst h
    simp [go_sem]
  · have h2 : ¬ (p : Int) = q := by omega
    simp [go_sem, h, h2]
end
end Go.Proofs.Ytnfokemikcigbaa.Win

namespace Go.Proofs.Ytnfokemikcigbaa.Win
open Go.RowKit Gf8 Aes By8 Cel Cf
/- WindowNames, WindowOpens, WindowAdds, WindowChecks over what the package keeps. Written by tools/mkC9s.py. -/

theorem Eps.cg {W : World} {v : Value} {n : Nat} {nu mu : Nat → Int} {tw : Nat → Value} {ln lm : Nat → Nat} {t : Nat → Nat → Nat → Nat} (h : Eps W v n nu tw ln t) (h1 : ∀ j, j < n → nu j = mu j) (h2 : ∀ j, j < n → ln j = lm j) : Eps W v n mu tw lm t := by
  obtain ⟨⟨a, c, e, q1, q2, q3⟩, hl, hn⟩ := h
  refine ⟨⟨a, c, e, q1, q2, fun h0 => ?_⟩, fun j hj => by rw [← h2 j hj]; exact hl j hj, fun j hj => by rw [← h1 j hj]; exact hn j hj⟩
  obtain ⟨b, o, e1, e2, e3⟩ := q3 h0
  exact ⟨b, o, e1, e2, fun j hj => by rw [← h1 j hj]; exact e3 j hj⟩
section
variable {o : Oper} {a : Act} {w : World}
theorem execLd3 {x : Operand} {b k : Nat} {v : Value} (ho : o.op = .load 3 x) (hx : a.eval x = .pointer (some ⟨b, k, none⟩)) (hc : w.cell? ⟨b, k, none⟩ = some v) : (execOp a.eval o).run Try.prog w = .ok (.value v) w := by
  unfold execOp
  simp only [ho, hx]
  simp [go_sem, hc]
end
end Go.Proofs.Ytnfokemikcigbaa.Win
