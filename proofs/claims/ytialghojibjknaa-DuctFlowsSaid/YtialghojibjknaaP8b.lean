import Derived.Test.YtialghojibjknaaP8a
import Derived.Test.YtialghojibjknaaP9e
import Derived.WalkKit
namespace Go.Proofs.Ytialghojibjknaa.Duc
open Go.RowKit Gf8 Aes By8 Cel Cf Win Drw Prm
/- The reference's New, Put, Take, Close. Written by tools/mkP8b.py. -/

theorem grC18 {W : World} {g k : Nat} {u : Value} : W.grownBy (W.setCell ⟨g, k, none⟩ u) (some g) := by
  have hb : Below g W (W.setCell ⟨g, k, none⟩ u) := (Below.refl _ _).setCell (p := ⟨g, k, none⟩) (Nat.le_refl _) u
  refine ⟨hb.os, hb.tape, hb.output, hb.size, fun b hbs hne => ?_⟩
  have hn : b ≠ g := fun e => hne (by rw [e])
  simp [World.setCell, Array.getElem?_modify, hn.symm]
theorem own_shp {W : World} {B n : Nat} {v : Value} {xs : List Value} {t : TypeId} {s : Nat} (h : W.ownsRow B t s v n xs) : ∃ ao c, v = .slice ao n c := by
  rcases h.2 with ⟨rfl, rfl⟩ | ⟨g, cap, cur, rfl, _⟩
  · exact ⟨_, _, rfl⟩
  · exact ⟨_, _, rfl⟩
theorem cat0 {W : World} {B n : Nat} {v : Value} {z : Nat → Int} (h : W.ownsRow B 3 1 v (0 + n) (intsL (0 + n) (catI 0 z z))) : W.ownsRow B 3 1 v n (intsL n z) := by
  rw [Nat.zero_add] at h
  rw [intsL_congr (g := z) (fun j hj => by rw [show j = 0 + j by omega, catI_hi, Nat.zero_add])] at h
  exact h
end Go.Proofs.Ytialghojibjknaa.Duc
