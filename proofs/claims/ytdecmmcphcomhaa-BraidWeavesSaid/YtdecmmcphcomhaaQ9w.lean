import Derived.Test.YtdecmmcphcomhaaQ9q
namespace Go.Proofs.Ytdecmmcphcomhaa.Brd
open Go.RowKit Gf8 Aes By8 Cel Cf Tap Drw Prm
/- Package braid as it landed: lengths[int], Weave[int]. Written by tools/mkQ9w.py. -/

/-- A list of lists of ints. -/
structure LLI (W : World) (v : Value) (J : Nat) (x : Nat → Value) (ln : Nat → Nat) (gg : Nat → Nat → Int) : Prop where
  shape : ∃ a cap, v = .slice a J cap ∧ (0 < J → ∃ b off, a = some ⟨b, off, none⟩ ∧ b < W.heap.size ∧ ∀ j, j < J → W.cell? ⟨b, off + j, none⟩ = some (x j))
  lists : ∀ j, j < J → SliceI W (x j) (ln j) (gg j)
section
variable {W W' : World} {v : Value} {J : Nat} {x : Nat → Value} {ln : Nat → Nat} {gg : Nat → Nat → Int}
theorem LLI.on (h : LLI W v J x ln gg) (hb : Below W.heap.size W W') : LLI W' v J x ln gg := by
  obtain ⟨a, cap, e, hs⟩ := h.shape
  refine ⟨⟨a, cap, e, fun h0 => ?_⟩, fun j hj => (h.lists j hj).on hb⟩
  obtain ⟨b, off, e1, e2, e3⟩ := hs h0
  exact ⟨b, off, e1, Nat.lt_of_lt_of_le e2 hb.size, fun j hj => by rw [cell_below hb e2]; exact e3 j hj⟩
theorem LLI.at (h : LLI W v J x ln gg) (hJ : 0 < J) : ∃ b o c, v = .slice (some ⟨b, o, none⟩) J c ∧ b < W.heap.size ∧ ∀ j, j < J → W.cell? ⟨b, o + j, none⟩ = some (x j) := by
  obtain ⟨a, c, rfl, hs⟩ := h.shape
  obtain ⟨b, o, rfl, h1, h2⟩ := hs hJ
  exact ⟨b, o, c, rfl, h1, h2⟩
end
def weE (cf : Nat → Int) (n : Nat) (ln : Nat → Nat) (J : Nat) : Nat := if stQ cf n (fun j => (ln j : Int)) J = true then 0 else 2
theorem nx_set {W : World} {B J i c q g cap : Nat} {cf : Nat → Int} (h : W.ownsRow B 3 1 (.slice (some ⟨g, 0, none⟩) J cap) J (intsL J (fun j => (cntC (gN cf) j i : Int)))) (ec : gN cf i = c) (eq : cntC (gN cf) c i = q) :
    (W.setCell ⟨g, 0 + c, none⟩ (.int .i64 ((q + 1 : Nat) : Int))).ownsRow B 3 1 (.slice (some ⟨g, 0, none⟩) J cap) J (intsL J (fun j => (cntC (gN cf) j (i + 1) : Int))) := by
  have h1 := own_setF (k := c) ((q + 1 : Nat) : Int) h
  rw [← intsL_congr (fun j hj => ?_)]
  · exact h1
  · show (if j = c then ((q + 1 : Nat) : Int) else ((cntC (gN cf) j i : Nat) : Int)) = ((cntC (gN cf) j i + (if gN cf i = j then 1 else 0) : Nat) : Int)
    rw [ec]
    by_cases e : j = c
    · subst e
      rw [if_pos rfl, if_pos rfl, eq]
    · rw [if_neg e, if_neg (fun z => e z.symm), Nat.add_zero]
end Go.Proofs.Ytdecmmcphcomhaa.Brd
