import Derived.Test.YtialghojibjknaaP8e
import Derived.WalkKit
namespace Go.Proofs.Ytialghojibjknaa.Duc
open Go.RowKit Gf8 Aes By8 Cel Cf Win Drw Prm
/- Lists of strings; a duct of strings beside what went in and what came out. Written by tools/mkP8i.py. -/

def sV (s : Nat → ByteArray) (j : Nat) : Value := .string (s j)
def strs8 (n : Nat) (s : Nat → ByteArray) : List Value := (List.range n).map (sV s)
/-- A list of strings that is read. -/
structure Ss8 (w : World) (v : Value) (len : Nat) (s : Nat → ByteArray) : Prop where
  shape : ∃ a cap, v = .slice a len cap ∧ (0 < len → ∃ b off, a = some ⟨b, off, none⟩ ∧ b < w.heap.size ∧ ∀ j, j < len → w.cell? ⟨b, off + j, none⟩ = some (.string (s j)))
theorem Ss8.on {w w' : World} {v : Value} {len : Nat} {s : Nat → ByteArray} (h : Ss8 w v len s) (hb : Below w.heap.size w w') : Ss8 w' v len s := by
  obtain ⟨a, cap, e, h3⟩ := h.shape
  refine ⟨⟨a, cap, e, fun h0 => ?_⟩⟩
  obtain ⟨b, off, e1, e2, e3⟩ := h3 h0
  exact ⟨b, off, e1, Nat.lt_of_lt_of_le e2 hb.size, fun j hj => by rw [cell_below hb e2]; exact e3 j hj⟩
theorem Ss8.shp {w : World} {v : Value} {len : Nat} {s : Nat → ByteArray} (h : Ss8 w v len s) : ∃ g c, v = .slice g len c := by
  obtain ⟨a, c, e, _⟩ := h.shape
  exact ⟨a, c, e⟩
theorem Ss8.at {w : World} {v : Value} {len : Nat} {s : Nat → ByteArray} (h : Ss8 w v len s) (h0 : 0 < len) : ∃ b q c, v = .slice (some ⟨b, q, none⟩) len c ∧ b < w.heap.size ∧ ∀ j, j < len → w.cell? ⟨b, q + j, none⟩ = some (.string (s j)) := by
  obtain ⟨a, c, e, h3⟩ := h.shape
  obtain ⟨b, q, e1, e2, e3⟩ := h3 h0
  exact ⟨b, q, c, by rw [e, e1], e2, e3⟩
section
variable {o : Oper} {a : Act} {w : World}
end
/-- A duct of strings: u is what went in, p of it has gone in and q of it come out; the lists hold pi and qo of it. -/
structure Flw (I : ImplS) (W : World) (B : Nat) (F : Nat → Prop) (db : Nat) (iw ow : Value) (u : Nat → ByteArray) (p q pi qo K : Nat) (c : Bool) : Prop where
  dr : I.R W F (.pointer (some ⟨db, 0, none⟩)) (fun j => sV u (q + j)) (p - q) K c
  inn : W.ownsRow B 9 1 iw pi (strs8 pi u)
  out : W.ownsRow B 9 1 ow qo (strs8 qo u)
  fge : ∀ g, F g → B ≤ g
  iof : ∀ g, iw.ownBlock = some g → ¬ F g
  oof : ∀ g, ow.ownBlock = some g → ¬ F g
  dis : ∀ g, iw.ownBlock = some g → ow.ownBlock = some g → False
section
variable {I : ImplS} {W X : World} {B db p q pi qo K : Nat} {F : Nat → Prop} {iw ow : Value} {u : Nat → ByteArray} {c : Bool}
theorem Flw.on (h : Flw I W B F db iw ow u p q pi qo K c) (hb : Below W.heap.size W X) : Flw I X B F db iw ow u p q pi qo K c :=
  { h with dr := I.on h.dr hb, inn := ownD_below h.inn hb, out := ownD_below h.out hb }
theorem Flw.begin {x : Nat → Value} (hR : I.R W F (.pointer (some ⟨db, 0, none⟩)) x 0 K false) (hF : ∀ g, F g → B ≤ g) : Flw I W B F db (.slice none 0 0) (.slice none 0 0) u 0 0 0 0 K false :=
  ⟨I.cg hR (fun j hj => by omega), ⟨rfl, Or.inl ⟨rfl, rfl⟩⟩, ⟨rfl, Or.inl ⟨rfl, rfl⟩⟩, hF, (fun _ h => by cases h), (fun _ h => by cases h), (fun _ h => by cases h)⟩
end
end Go.Proofs.Ytialghojibjknaa.Duc
