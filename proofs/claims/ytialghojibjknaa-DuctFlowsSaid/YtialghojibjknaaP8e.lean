import Derived.Test.YtialghojibjknaaP8d
import Derived.WalkKit
namespace Go.Proofs.Ytialghojibjknaa.Duc
open Go.RowKit Gf8 Aes By8 Cel Cf Win Drw Prm
/- Steps in memory; place; what `played` leaves. Written by tools/mkP8e.py. -/

def xL (k d x : Int) : List Value := [.int .i64 k, .int .i64 d, .int .i64 x]
/-- A script. -/
structure Sp3 (W : World) (v : Value) (n : Nat) (kd wh ix : Nat → Int) : Prop where
  shape : ∃ a c, v = .slice a n c ∧ (0 < n → ∃ b q, a = some ⟨b, q, none⟩ ∧ b < W.heap.size ∧ ∀ j, j < n → W.rangeAt b (q + j * 3) (xL (kd j) (wh j) (ix j)))
  num : ∀ j, j < n → I64 (wh j) ∧ I64 (ix j)
section
variable {W W' : World} {v : Value} {n : Nat} {kd wh ix : Nat → Int}
theorem range18 {b q : Nat} {l : List Value} (h : W.rangeAt b q l) (hb : Below W.heap.size W W') (hl : b < W.heap.size) : W'.rangeAt b q l := fun j x hx => by
  rw [cell_below hb hl]
  exact h j x hx
theorem Sp3.on (h : Sp3 W v n kd wh ix) (hb : Below W.heap.size W W') : Sp3 W' v n kd wh ix := by
  obtain ⟨⟨a, c, e, h3⟩, h1⟩ := h
  refine ⟨⟨a, c, e, fun h0 => ?_⟩, h1⟩
  obtain ⟨b, q, e1, e2, e3⟩ := h3 h0
  exact ⟨b, q, e1, Nat.lt_of_lt_of_le e2 hb.size, fun j hj => range18 (e3 j hj) hb e2⟩
theorem Sp3.shp (h : Sp3 W v n kd wh ix) : ∃ a c, v = .slice a n c := by
  obtain ⟨a, c, e, _⟩ := h.shape
  exact ⟨a, c, e⟩
theorem Sp3.at (h : Sp3 W v n kd wh ix) (h0 : 0 < n) : ∃ b q c, v = .slice (some ⟨b, q, none⟩) n c ∧ b < W.heap.size ∧ ∀ j, j < n → W.rangeAt b (q + j * 3) (xL (kd j) (wh j) (ix j)) := by
  obtain ⟨a, c, e, h3⟩ := h.shape
  obtain ⟨b, q, e1, e2, e3⟩ := h3 h0
  exact ⟨b, q, c, by rw [e, e1], e2, e3⟩
end
section
variable {o : Oper} {a : Act} {w : World}
end
section
variable {I : ImplI} {U V X Y : World} {F F' : Nat → Prop} {v : Value} {x : Nat → Value} {n k : Nat} {c : Bool}
end
end Go.Proofs.Ytialghojibjknaa.Duc
