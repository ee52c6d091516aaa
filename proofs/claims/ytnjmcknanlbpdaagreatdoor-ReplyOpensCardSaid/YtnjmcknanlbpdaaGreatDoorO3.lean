import Derived.Test.YtnjmcknanlbpdaaGreatDoorC5
namespace Go.Proofs.YtnjmcknanlbpdaaGreatDoor.Cel
open Go.RowKit Gf8 Aes By8
/- CellMakes, CellReads. -/

theorem openN_lt (c : Nat → Nat) (len : Nat) {j : Nat} (h : j < openN c len) : len = 320 ∧ 2 + j < len := by
  unfold openN at h
  cases hy : openY c len with
  | false => rw [hy] at h; simp at h
  | true =>
    rw [hy] at h
    unfold openY at hy
    simp only [Bool.and_eq_true, decide_eq_true_eq] at hy
    obtain ⟨⟨⟨e, _⟩, h48⟩, _⟩ := hy
    simp at h
    omega
end Go.Proofs.YtnjmcknanlbpdaaGreatDoor.Cel
