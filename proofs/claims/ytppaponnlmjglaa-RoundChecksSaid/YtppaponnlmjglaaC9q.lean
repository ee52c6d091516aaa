import Derived.Test.YtppaponnlmjglaaC9o
namespace Go.Proofs.Ytppaponnlmjglaa.Win
open Go.RowKit Gf8 Aes By8 Cel Cf
/- The laws' tag and some; what the program's package keeps. Written by tools/mkC9q.py. -/

/-- A window that is handed in. -/
structure Wd (V : World) (nw : Int) (ev : Value) (n : Nat) (nu : Nat → Int) (tw : Nat → Value) (ln : Nat → Nat) (t : Nat → Nat → Nat → Nat) : Prop where
  eps : Eps V ev n nu tw ln t
  n32 : n * 32 ≤ 140737488351232
  ln16 : ∀ j, j < n → ln j * 16 ≤ 140737488351232
  num : I64 nw
theorem Wd.on {V W : World} {nw : Int} {ev : Value} {n : Nat} {nu : Nat → Int} {tw : Nat → Value} {ln : Nat → Nat} {t : Nat → Nat → Nat → Nat} (h : Wd V nw ev n nu tw ln t) (hb : Below V.heap.size V W) : Wd W nw ev n nu tw ln t := ⟨h.eps.on hb, h.n32, h.ln16, h.num⟩
theorem Wd.n63 {V : World} {nw : Int} {ev : Value} {n : Nat} {nu : Nat → Int} {tw : Nat → Value} {ln : Nat → Nat} {t : Nat → Nat → Nat → Nat} (h : Wd V nw ev n nu tw ln t) : n < 9223372036854775808 := by have := h.n32; omega
theorem Wd.ln43 {V : World} {nw : Int} {ev : Value} {n : Nat} {nu : Nat → Int} {tw : Nat → Value} {ln : Nat → Nat} {t : Nat → Nat → Nat → Nat} (h : Wd V nw ev n nu tw ln t) : ∀ j, j < n → ln j ≤ 8796093022208 := fun j hj => by have := h.ln16 j hj; omega
section
variable {o : Oper} {a : Act} {w : World}
theorem execEqE {x y : Operand} {p q : Nat} (ho : o.op = .binOp .eql 30 x y 30) (hx : a.eval x = .int .i64 (p : Int)) (hy : a.eval y = .int .i64 (q : Int)) : (execOp a.eval o).run Try.prog w = .ok (.value (.bool (decide (p = q)))) w := by
  unfold execOp
  simp only [ho, hx, hy]
  by_cases h : p = q
  · subst h
    simp [go_sem]
  · have h2 : ¬ (p : Int) = q := by omega
    simp [go_sem, h, h2]
theorem execNeE {x y : Operand} {p q : Nat} (ho : o.op = .binOp .neq 30 x y 30) (hx : a.eval x = .int .i64 (p : Int)) (hy : a.eval y = .int .i64 (q : Int)) : (execOp a.eval o).run Try.prog w = .ok (.value (.bool (decide (p ≠ q)))) w := by
  unfold execOp
  simp only [ho, hx, hy]
  by_cases h : p = q
  · subst h
    simp [go_sem]
  · have h2 : ¬ (p : Int) = q := by omega
    simp [go_sem, h, h2]
theorem execAl16 (ho : o.op = .alloc 45) : (execOp a.eval o).run Try.prog w = .ok (.value (.pointer (some ⟨w.heap.size, 0, none⟩))) (w.alloc (.cells (bA 16 fun _ => 0) 45)) := by
  have h := zero16
  unfold execOp
  simp only [ho]
  simp [go_sem, h]
theorem execSt16 {x y : Operand} {g : Nat} {f h : Nat → Nat} (ho : o.op = .store 45 x y) (hx : a.eval x = .pointer (some ⟨g, 0, none⟩)) (hy : a.eval y = .agg (bA 16 f)) (hg : w.heap[g]? = some (.cells (bA 16 h) 45)) : (execOp a.eval o).run Try.prog w = .ok .skip (w.setRow g (bA 16 f)) := by
  have q := execStMid (P := Try.prog) ho hx hy hg (by rw [bA_size, bA_size]; omega) (size16 f) (bA_one 16 f)
  rw [q]
  congr 2
end
end Go.Proofs.Ytppaponnlmjglaa.Win
