import Derived.Test.YtnfokemikcigbaaC9t
import Derived.Laws.Cover3
namespace Go.Proofs.Ytnfokemikcigbaa.Win
open Go.RowKit Gf8 Aes By8 Cel Cf
/- WindowKeeps: the law's whole. Written by tools/mkL9b.py. -/

theorem own_cap {W : World} {B n g c s : Nat} {ty : TypeId} {xs : List Value} (h : W.ownsRow B ty s (.slice (some ⟨g, 0, none⟩) n c) n xs) : n ≤ c ∧ c ≤ maxLen ∧ g < W.heap.size := by
  rcases h.2 with ⟨e, _⟩ | ⟨g', cap, cur, e, _, hg, q1, q2, q3, q4⟩
  · cases e
  · injection e with e1 _ e3
    injection e1 with e1
    injection e1 with e1 _ _
    subst e1
    subst e3
    exact ⟨q1, q2, (Array.getElem?_eq_some_iff.1 hg).1⟩
end Go.Proofs.Ytnfokemikcigbaa.Win
