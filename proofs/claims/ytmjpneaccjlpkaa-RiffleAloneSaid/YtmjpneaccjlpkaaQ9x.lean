import Derived.Test.YtmjpneaccjlpkaaQ9w
namespace Go.Proofs.Ytmjpneaccjlpkaa.Brd
open Go.RowKit Gf8 Aes By8 Cel Cf Tap Drw Prm
/- Stage 12's BraidDeals. Written by tools/mkQ9x.py. -/
section
variable {o : Oper} {a : Act} {w : World}
end
theorem lli_of {W : World} {B C D : Nat} {p : Value} {x : Nat → Value} {nn : Nat → Nat} {gg : Nat → Nat → Int} (hm : FmI B D x nn gg W) (hp : W.ownsRow C 24 1 p D (lL x D)) (hf : ∀ t, t < D → ∀ v, v < nn t → -9223372036854775808 ≤ gg t v ∧ gg t v < 9223372036854775808) : LLI W p D x nn gg := by
 refine ⟨?_, fun j hj => own_ints (hm.rows j hj) (hf j hj)⟩
 obtain ⟨a, c, e⟩ := shpO hp
 refine ⟨a, c, e, fun h0 => ?_⟩
 obtain ⟨g, c', e2, _, hg⟩ := ownL_some9 hp h0
 rw [e] at e2
 injection e2 with q1 _ q3
 refine ⟨g, 0, q1, hg, fun j hj => ?_⟩
 rw [e, q1] at hp
 exact ownL_cellI hp hj
end Go.Proofs.Ytmjpneaccjlpkaa.Brd
