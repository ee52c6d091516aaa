import Derived.Test.YtnfokemikcigbaaF9b
import Derived.Test.YtnfokemikcigbaaF9a
import Derived.Test.YtnfokemikcigbaaP9g
import Derived.Test.YtnfokemikcigbaaF9c
namespace Go.Proofs.Ytnfokemikcigbaa.Prm
open Go.RowKit Gf8 Aes By8 Cel Cf Tap Drw
/- Package perm as it landed: Check, Identity, drawsFor, Bounds, places, taken of ints, areBelow, countBelow. Written by tools/mkM9a.py. -/

theorem own_fill {W : World} {B n g cap i : Nat} {F : Nat → Int} {z : Int} (h : W.ownsRow B 3 1 (.slice (some ⟨g, 0, none⟩) n cap) n (intsL n (fun j => if j < i then F j else 0))) (e : z = F i) : (W.setCell ⟨g, 0 + i, none⟩ (.int .i64 z)).ownsRow B 3 1 (.slice (some ⟨g, 0, none⟩) n cap) n (intsL n (fun j => if j < (i + 1) then F j else 0)) := by
  have h2 := own_setF (k := i) z h
  rw [intsL_congr (g := fun j => if j < (i + 1) then F j else 0) (fun j _ => ?_)] at h2
  · exact h2
  · by_cases q : j = i
    · subst q
      rw [if_pos rfl, if_pos (by omega), e]
    · rw [if_neg q]
      by_cases q2 : j < i
      · rw [if_pos q2, if_pos (by omega)]
      · rw [if_neg q2, if_neg (by omega)]
end Go.Proofs.Ytnfokemikcigbaa.Prm

namespace Go.Proofs.Ytnfokemikcigbaa.Prm
open Go.RowKit Gf8 Aes By8 Cel Cf Tap Drw
/- Package perm as it landed: swap, From, Draws. Written by tools/mkM9c.py. -/

/-- Where the program says that a number stands, by then. -/
def atA (n : Nat) (g : Nat → Nat) : Nat → Nat → Nat
  | 0, x => x
  | k + 1, x => if x = drA n g k (n - 1 - k) then drD n g k else atA n g k x
section
variable {V W W' : World} {va vt u : Value} {n nu g c : Nat} {fa ft fu : Nat → Int}
end
end Go.Proofs.Ytnfokemikcigbaa.Prm
