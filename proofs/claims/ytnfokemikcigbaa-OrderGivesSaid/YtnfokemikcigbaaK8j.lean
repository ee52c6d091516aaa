import Derived.Test.YtnfokemikcigbaaK8f
import Derived.Test.YtnfokemikcigbaaY2
import Derived.ProofKit
import Derived.OpenShut
import Derived.Deep.Slices
import Derived.Test.YtnfokemikcigbaaK8g
import Derived.Maps.AppendAt
namespace Go.Proofs.Ytnfokemikcigbaa.Ord
open Go.ChangeShapes Go.WideShapes Go.ChangeAt Go.RowKit Gf8 Aes By8 Cel Cf Win Drw Prm
/- A script of steps, a list of notes as arguments. Written by tools/mkK8i.py. -/

set_option maxRecDepth 100000

def xL (k b i x : Int) : List Value := [.int .i64 k, .int .i64 b, .int .i64 i, .int .i64 x]
/-- A script. -/
structure Sp4 (W : World) (v : Value) (n : Nat) (kd wh ix xx : Nat → Int) : Prop where
  shape : ∃ a c, v = .slice a n c ∧ (0 < n → ∃ b q, a = some ⟨b, q, none⟩ ∧ b < W.heap.size ∧ ∀ j, j < n → W.rangeAt b (q + j * 4) (xL (kd j) (wh j) (ix j) (xx j)))
  num : ∀ j, j < n → I64 (wh j) ∧ I64 (ix j) ∧ I64 (xx j)
section
variable {W W' : World} {v : Value} {n : Nat} {kd wh ix xx : Nat → Int}
theorem range20 {b q : Nat} {l : List Value} (h : W.rangeAt b q l) (hb : Below W.heap.size W W') (hl : b < W.heap.size) : W'.rangeAt b q l := fun j x hx => by
  rw [cell_below hb hl]
  exact h j x hx
theorem Sp4.on (h : Sp4 W v n kd wh ix xx) (hb : Below W.heap.size W W') : Sp4 W' v n kd wh ix xx := by
  obtain ⟨⟨a, c, e, h3⟩, h1⟩ := h
  refine ⟨⟨a, c, e, fun h0 => ?_⟩, h1⟩
  obtain ⟨b, q, e1, e2, e3⟩ := h3 h0
  exact ⟨b, q, e1, Nat.lt_of_lt_of_le e2 hb.size, fun j hj => range20 (e3 j hj) hb e2⟩
theorem Sp4.shp (h : Sp4 W v n kd wh ix xx) : ∃ a c, v = .slice a n c := by
  obtain ⟨a, c, e, _⟩ := h.shape
  exact ⟨a, c, e⟩
theorem Sp4.at (h : Sp4 W v n kd wh ix xx) (h0 : 0 < n) : ∃ b q c, v = .slice (some ⟨b, q, none⟩) n c ∧ b < W.heap.size ∧ ∀ j, j < n → W.rangeAt b (q + j * 4) (xL (kd j) (wh j) (ix j) (xx j)) := by
  obtain ⟨a, c, e, h3⟩ := h.shape
  obtain ⟨b, q, e1, e2, e3⟩ := h3 h0
  exact ⟨b, q, c, by rw [e, e1], e2, e3⟩
end
end Go.Proofs.Ytnfokemikcigbaa.Ord

namespace Go.Proofs.Ytnfokemikcigbaa.Ord
open Go.RowKit Gf8 Aes By8 Cel Cf Win Drw Prm
open Go.ChangeMaps Go.MapKept
/- One call of a buffer, beside the document's. Written by tools/mkK8j.py. -/

/-- The cells of three books. -/
def b3 (r : Nat → Value) (n : Nat → Nat) : Array Value := #[r 0, .int .i64 ((n 0 : Nat) : Int), r 1, .int .i64 ((n 1 : Nat) : Int), r 2, .int .i64 ((n 2 : Nat) : Int)]
section
variable {W : World} {g m : Nat} {r : Nat → Value} {n : Nat → Nat} {t : TypeId}
end
section
variable {F G : Nat → Prop} {U V X Y : World}
theorem own_sv {B t s n : Nat} {v : Value} {xs : List Value} (h : X.ownsRow B t s v n xs) (hs : Saved F X Y) (hn : ∀ g, v.ownBlock = some g → ¬ F g) : Y.ownsRow B t s v n xs := by
  refine ⟨h.1, ?_⟩
  rcases h.2 with h2 | ⟨g, cap, cur, e, h1, hg, h3⟩
  · exact Or.inl h2
  · exact Or.inr ⟨g, cap, cur, e, h1, bk_saved hg hs (hn g (by rw [e]; rfl)), h3⟩
theorem br_gr {T : TypeId} {v : Value} {S : Its} {n : Nat} {row : Option Nat} (h : BR T X F v S n) (gr : X.grownBy Y row) (hn : ∀ g, row = some g → ¬ F g) : BR T Y F v S n :=
  h.frame (fun b hb => gr.block b (h.lt b hb) (fun e => hn b e.symm hb)) gr.size
end
section
variable {o : Oper} {a : Act} {w : World}
end
end Go.Proofs.Ytnfokemikcigbaa.Ord
