import Derived.Test.YtdecmmcphcomhaaV9l
import Derived.Lib.Bytes
namespace Go.Proofs.Ytdecmmcphcomhaa.Tap
open Go.RowKit Gf8 Aes By8 Cel Cf
/- append to a row that may bear a mark behind its cells. -/

theorem bytesL_len (n : Nat) (p : Nat → Nat) : (bytesL n p).length = n := by simp [bytesL]
theorem bytesL_one (n : Nat) (p : Nat → Nat) : ∀ u ∈ bytesL n p, u.oneCell' = true := by
  intro z hz
  unfold bytesL at hz
  obtain ⟨k, _, rfl⟩ := List.mem_map.1 hz
  rfl
theorem OwnM.some {W : World} {B n : Nat} {v : Value} {p : Nat → Nat} (h : OwnM W B v n p) : ∀ l c, v ≠ .slice none l c := by
  obtain ⟨g, cap, cur, fz, rfl, _⟩ := h
  intro l c e
  cases e
/-- A row of bytes that lies higher than what was written into. -/
theorem OwnM.over {W W' : World} {B b n : Nat} {v : Value} {p : Nat → Nat} {row : Option Nat} (h : OwnM W B v n p) (hg : W.grownBy W' row) (hr : ∀ k, row = Option.some k → k < b) (hb : b ≤ B) : OwnM W' B v n p := by
  obtain ⟨g, cap, cur, fz, e, hB, h1, hrest⟩ := h
  refine ⟨g, cap, cur, fz, e, hB, ?_, hrest⟩
  rw [hg.block g (Array.getElem?_eq_some_iff.1 h1).1 (fun q => ?_)]
  · exact h1
  · have := hr g q.symm
    omega
theorem OwnM.row {W : World} {B n : Nat} {v : Value} {p : Nat → Nat} (h : OwnM W B v n p) : ∀ k, v.ownBlock = Option.some k → B ≤ k ∧ k < W.heap.size := by
  obtain ⟨g, cap, cur, fz, rfl, hB, h1, _⟩ := h
  intro k hk
  obtain rfl : g = k := by simpa [Value.ownBlock] using hk
  exact ⟨hB, (Array.getElem?_eq_some_iff.1 h1).1⟩
section
variable {o : Oper} {a : Act} {w : World}
end
end Go.Proofs.Ytdecmmcphcomhaa.Tap

namespace Go.Proofs.Ytdecmmcphcomhaa.Drw
/- Draws over Nat. -/

/-- A bound that is none. -/
abbrev bad (b : Int) : Prop := b < 1 ∨ 256 < b
end Go.Proofs.Ytdecmmcphcomhaa.Drw

namespace Go.Proofs.Ytdecmmcphcomhaa.Drw
/- A tape that is turned. -/

section
variable {p : Nat → Nat} {l : Nat} {bs ws : Nat → Int} {n : Nat}
theorem turned (v b w : Nat) (hw : w < b) : (v - v % b + w) / b = v / b ∧ (v - v % b + w) % b = w := by
  have hb : 0 < b := by omega
  have e : v - v % b = b * (v / b) := by have := Nat.div_add_mod v b; omega
  rw [e]
  refine ⟨?_, ?_⟩
  · rw [Nat.mul_add_div hb, Nat.div_eq_of_lt hw, Nat.add_zero]
  · rw [Nat.mul_add_mod, Nat.mod_eq_of_lt hw]
end
end Go.Proofs.Ytdecmmcphcomhaa.Drw

namespace Go.Proofs.Ytdecmmcphcomhaa.Drw
/- Draws in pieces, and of other tapes that begin alike. -/

/-- Two lists of bounds, one behind the other. -/
def catI (m : Nat) (a b : Nat → Int) : Nat → Int := fun i => if i < m then a i else b (i - m)
theorem catI_lo {m i : Nat} {a b : Nat → Int} (h : i < m) : catI m a b i = a i := if_pos h
theorem catI_hi {m i : Nat} {a b : Nat → Int} : catI m a b (m + i) = b i := by unfold catI; rw [if_neg (by omega), Nat.add_sub_cancel_left]
section
variable {p : Nat → Nat} {l m : Nat} {a b : Nat → Int}
end
end Go.Proofs.Ytdecmmcphcomhaa.Drw
