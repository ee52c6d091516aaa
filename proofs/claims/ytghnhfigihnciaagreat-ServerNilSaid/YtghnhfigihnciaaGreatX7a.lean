import Derived.Test.YtghnhfigihnciaaGreatK9
namespace Go.Proofs.YtghnhfigihnciaaGreat
open Go.RowKit
/- A drawn region that goes through states: the values that have come up are told by the state. -/

theorem putP_congr {x y : Nat → Value} : ∀ (ds : List (Nat × Nat)) (a : Act), (∀ p ∈ ds, x p.1 = y p.1) → putP a x ds = putP a y ds
  | [], _, _ => rfl
  | p :: ds, a, h => by
    show putP (a.put (some p.2) (x p.1)) x ds = putP (a.put (some p.2) (y p.1)) y ds
    rw [h p (by simp)]
    exact putP_congr ds _ fun q hq => h q (by simp [hq])
end Go.Proofs.YtghnhfigihnciaaGreat
