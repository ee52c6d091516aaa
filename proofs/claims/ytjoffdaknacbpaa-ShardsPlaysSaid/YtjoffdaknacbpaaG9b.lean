import Derived.Test.YtjoffdaknacbpaaV9l
import Derived.Lib.Bytes
namespace Go.Proofs.Ytjoffdaknacbpaa.Tap
open Go.RowKit Gf8 Aes By8 Cel Cf
/- append to a row that may bear a mark behind its cells. -/

theorem bytesL_len (n : Nat) (p : Nat → Nat) : (bytesL n p).length = n := by simp [bytesL]
theorem bytesL_one (n : Nat) (p : Nat → Nat) : ∀ u ∈ bytesL n p, u.oneCell' = true := by
  intro z hz
  unfold bytesL at hz
  obtain ⟨k, _, rfl⟩ := List.mem_map.1 hz
  rfl
theorem OwnM.some {W : World} {B n : Nat} {v : Value} {p : Nat → Nat} (h : OwnM W B v n p) : ∀ l c, v ≠ .slice none l c := by
  obtain ⟨g, cap, cur, fz, rfl, _⟩ := h
  intro l c e
  cases e
/-- A row of bytes that lies higher than what was written into. -/
theorem OwnM.over {W W' : World} {B b n : Nat} {v : Value} {p : Nat → Nat} {row : Option Nat} (h : OwnM W B v n p) (hg : W.grownBy W' row) (hr : ∀ k, row = Option.some k → k < b) (hb : b ≤ B) : OwnM W' B v n p := by
  obtain ⟨g, cap, cur, fz, e, hB, h1, hrest⟩ := h
  refine ⟨g, cap, cur, fz, e, hB, ?_, hrest⟩
  rw [hg.block g (Array.getElem?_eq_some_iff.1 h1).1 (fun q => ?_)]
  · exact h1
  · have := hr g q.symm
    omega
theorem OwnM.row {W : World} {B n : Nat} {v : Value} {p : Nat → Nat} (h : OwnM W B v n p) : ∀ k, v.ownBlock = Option.some k → B ≤ k ∧ k < W.heap.size := by
  obtain ⟨g, cap, cur, fz, rfl, hB, h1, _⟩ := h
  intro k hk
  obtain rfl : g = k := by simpa [Value.ownBlock] using hk
  exact ⟨hB, (Array.getElem?_eq_some_iff.1 h1).1⟩
section
variable {o : Oper} {a : Act} {w : World}
theorem execLeN {x y : Operand} {p q : Nat} (ho : o.op = .binOp .leq 3 x y 3) (hx : a.eval x = .int .i64 (p : Int)) (hy : a.eval y = .int .i64 (q : Int)) : (execOp a.eval o).run Try.prog w = .ok (.value (.bool (decide (p ≤ q)))) w := by
  unfold execOp
  simp only [ho, hx, hy]
  by_cases h : p ≤ q
  · simp [go_sem, h]
  · simp [go_sem, h]
end
end Go.Proofs.Ytjoffdaknacbpaa.Tap

namespace Go.Proofs.Ytjoffdaknacbpaa.Drw
/- Draws over Nat. -/

/-- The place of the byte that is taken, or where the bytes end. -/
def scan (p : Nat → Nat) (b : Nat) : Nat → Nat → Nat
  | 0, at' => at'
  | k + 1, at' => if p at' / b < 256 / b then at' else scan p b k (at' + 1)
/-- Below: the error, the draw, the place behind. -/
def dS (p : Nat → Nat) (l at' : Nat) (b : Int) : Nat := scan p b.toNat (l - at') at'
def dE (p : Nat → Nat) (l at' : Nat) (b : Int) : Nat := if b < 1 ∨ 256 < b then 2 else if b = 1 then 0 else if dS p l at' b < l then 0 else 3
def dN (p : Nat → Nat) (l at' : Nat) (b : Int) : Nat := if dE p l at' b = 0 then (if b = 1 then at' else dS p l at' b + 1) else 0
/-- All: the places behind the draws, and the draws. -/
def plA (p : Nat → Nat) (l : Nat) (bs : Nat → Int) : Nat → Nat
  | 0 => 0
  | i + 1 => dN p l (plA p l bs i) (bs i)
/-- The draws up to n come off. -/
def okA (p : Nat → Nat) (l : Nat) (bs : Nat → Int) (n : Nat) : Prop := ∀ i, i < n → dE p l (plA p l bs i) (bs i) = 0
end Go.Proofs.Ytjoffdaknacbpaa.Drw

namespace Go.Proofs.Ytjoffdaknacbpaa.Drw
/- A tape that is turned. -/

section
variable {p : Nat → Nat} {l : Nat} {bs ws : Nat → Int} {n : Nat}
theorem turned (v b w : Nat) (hw : w < b) : (v - v % b + w) / b = v / b ∧ (v - v % b + w) % b = w := by
  have hb : 0 < b := by omega
  have e : v - v % b = b * (v / b) := by have := Nat.div_add_mod v b; omega
  rw [e]
  refine ⟨?_, ?_⟩
  · rw [Nat.mul_add_div hb, Nat.div_eq_of_lt hw, Nat.add_zero]
  · rw [Nat.mul_add_mod, Nat.mod_eq_of_lt hw]
end
end Go.Proofs.Ytjoffdaknacbpaa.Drw
