import Derived.Test.YtcibogmghagpoaaV8f
namespace Go.Proofs.Ytcibogmghagpoaa.Dro
open Go.RowKit Gf8 Aes By8 Cel Cf Tap Drw
/- Stage 28: DropAnswers. Written by tools/mkV8g.py. -/

theorem ans28 (I : Impl) (n i : Nat) (ln : Nat → Nat) (c : Nat → Nat → Nat) (v : Value) (V : World) (hv : SliceN V v (xL n ln c i) (xF n ln c i)) (hz : ∀ l c, v = .slice none l c → c = 0) :
    Calls Try.prog 13 #[v] V fun e w' => (∃ r, e = .returned (.tuple #[.int .i64 ((kdF n ln c i : Nat) : Int), r, .int .i64 ((0 : Nat) : Int)]) ∧ SliceN w' r (xL n ln c i - 1) (anF (xF n ln c i))) ∧ Below V.heap.size V w' := by
  have hl := xL_le (n := n) (ln := ln) (c := c) (i := i)
  refine (I.answer _ _ v V hv hz (by omega)).mono ?_
  rintro e w' ⟨⟨r, he, hk⟩, hb⟩
  rw [show anH (xL n ln c i) (xF n ln c i) = kdF n ln c i from (if_pos an_x).trans (if_pos rfl), show anE (xL n ln c i) (xF n ln c i) = 0 from if_pos an_x] at he
  rw [show anN (xL n ln c i) (xF n ln c i) = xL n ln c i - 1 from if_pos an_x] at hk
  exact ⟨⟨r, he, own_slice hk fun j hj => hv.bytes (1 + j) (by omega)⟩, hb⟩
end Go.Proofs.Ytcibogmghagpoaa.Dro
