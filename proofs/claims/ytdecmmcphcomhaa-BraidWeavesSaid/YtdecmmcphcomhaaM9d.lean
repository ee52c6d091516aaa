import Derived.Test.YtdecmmcphcomhaaM9c
import Derived.Lib.SliceRun
namespace Go.Proofs.Ytdecmmcphcomhaa.Prm
open Go.RowKit Gf8 Aes By8 Cel Cf Tap Drw
/- Package perm as it landed: slices.Delete of ints, Unrank. Written by tools/mkM9d.py. -/

section
variable {o : Oper} {a : Act} {w : World}
end
theorem own_takeI {W : World} {B n i g c : Nat} {f : Nat → Int} (h : W.ownsRow B 3 1 (.slice (some ⟨g, 0, none⟩) n c) n (intsL n f)) (hi : i ≤ n) : W.ownsRow B 3 1 (.slice (some ⟨g, 0, none⟩) i c) i (intsL i f) := by
  refine ⟨by rw [intsL_len, Nat.mul_one], ?_⟩
  rcases h.2 with ⟨e, _⟩ | ⟨g', cap', cur, e, hB, hg, h1, h2, h3, h4⟩
  · cases e
  · injection e with e1 e2 e3
    injection e1 with e1
    injection e1 with e1 _ _
    subst e1
    subst e3
    refine Or.inr ⟨g, c, cur, rfl, hB, hg, by omega, h2, h3, ?_⟩
    apply List.ext_getElem?
    intro j
    by_cases hj : j < i
    · have h5 : (cur.toList.take (n * 1))[j]? = (intsL n f)[j]? := by rw [h4]
      rw [List.getElem?_take_of_lt (by omega), intsL_get (by omega)] at h5
      rw [List.getElem?_take_of_lt (by omega), intsL_get hj]
      exact h5
    · rw [List.getElem?_eq_none (by simp; omega), List.getElem?_eq_none (by rw [intsL_len]; omega)]
section
variable {V W W' : World} {lv lw : Value} {nu nl nl' g gu cu : Nat} {fu fu' fl fl' : Nat → Int} {k : Nat} {z : Value}
theorem Two.put (h : Two V W (.slice (some ⟨gu, 0, none⟩) nu cu) nu fu lv nl fl) (own : (W.setCell ⟨gu, k, none⟩ z).ownsRow V.heap.size 3 1 (.slice (some ⟨gu, 0, none⟩) nu cu) nu (intsL nu fu')) : Two V (W.setCell ⟨gu, k, none⟩ z) (.slice (some ⟨gu, 0, none⟩) nu cu) nu fu' lv nl fl :=
  ⟨own, own_offB h.rl (h.ap gu rfl), h.ap⟩
end
end Go.Proofs.Ytdecmmcphcomhaa.Prm
