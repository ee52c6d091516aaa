import Derived.Test.YtcffmmeafnapiaaDoorP3
namespace Go.Proofs.YtcffmmeafnapiaaDoor.Oni
open Go.RowKit
/- The keys of the onion of alive: by tables. -/

theorem kB_key (P : List Int) (l : Nat) (hl : l ≤ 64) (p : Nat → Int) (hp : ∀ i, i < l → p i = fl P i) (m : Int) (B : List Int) (h : ∀ i : Fin 64, xk (upto (fl P) l) m i.val = fl B i.val) : ∀ i, i < 64 → overlay HS.new.r 0 64 (xk (kB p l) m) i = fl B i := by
  intro i hi
  rw [← h ⟨i, hi⟩]
  have e : kB p l = upto (fl P) l := by
    unfold kB
    rw [if_pos hl]
    funext j
    unfold upto
    split
    · exact hp _ (by assumption)
    · rfl
  rw [e]
  simp [overlay, hi]
end Go.Proofs.YtcffmmeafnapiaaDoor.Oni
