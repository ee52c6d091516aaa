import Derived.Test.YtghnhfigihnciaaGreatC9n
namespace Go.Proofs.YtghnhfigihnciaaGreat.Win
open Go.RowKit Gf8 Aes By8 Cel Cf
/- What the reference's Add needs. Written by tools/mkC9o.py. -/

/-- Epochs gone through: what is put out so far, and whether the new tags are. -/
def PI (es : List Ep) (ep : Int) (f : List Nat) (i : Nat) (pb : Bool) (o : List Ep) : Prop := if pb then o ++ es.drop i = putW es ep f else f ≠ [] ∧ o ++ putE (es.drop i) ep f = putE es ep f
section
variable {es o : List Ep} {ep : Int} {f : List Nat} {i : Nat} {x : Ep}
theorem pi_f (h : PI es ep f i false o) : o ++ putE (es.drop i) ep f = putW es ep f := by
  have h2 := h.2
  rw [putW, if_neg h.1]
  exact h2
theorem PI.into (h : PI es ep f i false o) (hi : es.drop i = x :: es.drop (i + 1)) (hx : x.1 = ep) : PI es ep f (i + 1) true (o ++ [(x.1, srt (x.2 ++ f))]) := by
  have h2 := pi_f h
  rw [hi, putE, if_neg (by omega), if_pos hx] at h2
  show o ++ [_] ++ es.drop (i + 1) = _
  rw [List.append_assoc]
  exact h2
theorem PI.next (h : PI es ep f i true o) (hi : es.drop i = x :: es.drop (i + 1)) : PI es ep f (i + 1) true (o ++ [x]) := by
  have h2 : o ++ es.drop i = putW es ep f := h
  rw [hi] at h2
  show o ++ [x] ++ es.drop (i + 1) = _
  rw [List.append_assoc]
  exact h2
theorem PI.done (h : PI es ep f i true o) (hi : es.drop i = []) : o = putW es ep f := by
  have h2 : o ++ es.drop i = putW es ep f := h
  rw [hi, List.append_nil] at h2
  exact h2
end
end Go.Proofs.YtghnhfigihnciaaGreat.Win
