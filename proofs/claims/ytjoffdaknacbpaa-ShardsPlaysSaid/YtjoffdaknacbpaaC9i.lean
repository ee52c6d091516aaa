import Derived.Test.YtjoffdaknacbpaaC9d
namespace Go.Proofs.Ytjoffdaknacbpaa.Win
open Go.RowKit Gf8 Aes By8 Cel Cf
/- Rows of tags; the reference's all. Written by tools/mkC9f.py. -/

/-- The cells of a row of tags. -/
def tgV (t : Nat → Nat → Nat) : Nat → List Value
  | 0 => []
  | n + 1 => tgV t n ++ bytesL 16 (t n)
/-- One behind the other. -/
def catT (n : Nat) (t s : Nat → Nat → Nat) (k : Nat) : Nat → Nat := if k < n then t k else s (k - n)
theorem cat_hi {n k : Nat} {t s : Nat → Nat → Nat} : catT n t s (n + k) = s k := by
  unfold catT
  rw [if_neg (by omega), Nat.add_sub_cancel_left]
section
variable {W W' : World} {B n : Nat} {v : Value} {t : Nat → Nat → Nat}
end
end Go.Proofs.Ytjoffdaknacbpaa.Win

namespace Go.Proofs.Ytjoffdaknacbpaa.Win
open Go.RowKit Gf8 Aes By8 Cel Cf
/- Two lists in order made one; halves; what the reference's sorted needs. Written by tools/mkC9g.py. -/

section
variable {A B : Nat → Nat} {ma mb i j : Nat} {o : List Nat}
end
section
variable {W : World} {b off n c h : Nat} {t : Nat → Nat → Nat}
theorem Tgs.take {v : Value} (q : Tgs W v n t) (e : v = .slice (some ⟨b, off, none⟩) n c) (hh : h ≤ n) : Tgs W (.slice (some ⟨b, off, none⟩) h c) h t := by
  subst e
  obtain ⟨⟨a, c', e', h1, h2, h3⟩, hb, _⟩ := q
  injection e' with e1 _ e3
  subst e1 e3
  refine ⟨⟨_, _, rfl, by omega, h2, fun h0 => ?_⟩, fun j hj => hb j (by omega), fun l c e => by cases e⟩
  obtain ⟨b', o', e4, e5, e6⟩ := h3 (by omega)
  exact ⟨b', o', e4, e5, fun j hj => e6 j (by omega)⟩
theorem Tgs.drop {v : Value} (q : Tgs W v n t) (e : v = .slice (some ⟨b, off, none⟩) n c) (hh : h ≤ n) : Tgs W (.slice (some ⟨b, off + h * 16, none⟩) (n - h) (c - h)) (n - h) fun k => t (h + k) := by
  subst e
  obtain ⟨⟨a, c', e', h1, h2, h3⟩, hb, _⟩ := q
  injection e' with e1 _ e3
  subst e1 e3
  refine ⟨⟨_, _, rfl, by omega, by omega, fun h0 => ?_⟩, fun j hj => hb _ (by omega), fun l c e => by cases e⟩
  obtain ⟨b', o', e4, e5, e6⟩ := h3 (by omega)
  injection e4 with e4
  injection e4 with e7 e8 _
  subst e7 e8
  exact ⟨b, off + h * 16, rfl, e5, fun j hj i hi => by
    have := e6 (h + j) (by omega) i hi
    rw [show off + h * 16 + j * 16 + i = off + (h + j) * 16 + i by omega]
    exact this⟩
end
section
variable {o : Oper} {a : Act} {w : World}
end
end Go.Proofs.Ytjoffdaknacbpaa.Win

namespace Go.Proofs.Ytjoffdaknacbpaa.Win
open Go.RowKit Gf8 Aes By8 Cel Cf
/- What the reference's Check needs. Written by tools/mkC9i.py. -/

section
variable {o : Oper} {a : Act} {w : World}
theorem exIlss3 {x y : Operand} {p q : Int} (ho : o.op = .binOp .lss 3 x y 3) (hx : a.eval x = .int .i64 p) (hy : a.eval y = .int .i64 q) : (execOp a.eval o).run Try.prog w = .ok (.value (.bool (decide (p < q)))) w := by
  unfold execOp
  simp only [ho, hx, hy]
  simp [go_sem]
theorem exIeql3 {x y : Operand} {p q : Int} (ho : o.op = .binOp .eql 3 x y 3) (hx : a.eval x = .int .i64 p) (hy : a.eval y = .int .i64 q) : (execOp a.eval o).run Try.prog w = .ok (.value (.bool (decide (p = q)))) w := by
  unfold execOp
  simp only [ho, hx, hy]
  by_cases h : p = q
  · subst h; simp [go_sem]
  · simp [go_sem, h]
theorem exIneq3 {x y : Operand} {p q : Int} (ho : o.op = .binOp .neq 3 x y 3) (hx : a.eval x = .int .i64 p) (hy : a.eval y = .int .i64 q) : (execOp a.eval o).run Try.prog w = .ok (.value (.bool (decide (p ≠ q)))) w := by
  unfold execOp
  simp only [ho, hx, hy]
  by_cases h : p = q
  · subst h; simp [go_sem]
  · simp [go_sem, h]
theorem execGtN {x y : Operand} {p q : Nat} (ho : o.op = .binOp .gtr 3 x y 3) (hx : a.eval x = .int .i64 (p : Int)) (hy : a.eval y = .int .i64 (q : Int)) : (execOp a.eval o).run Try.prog w = .ok (.value (.bool (decide (q < p)))) w := by
  unfold execOp
  simp only [ho, hx, hy]
  simp [go_sem]
end
end Go.Proofs.Ytjoffdaknacbpaa.Win
