import Derived.Test.YtmjpneaccjlpkaaV9x
namespace Go.Proofs.Ytmjpneaccjlpkaa.Tap
open Go.RowKit Gf8 Aes By8 Cel Cf
/- The reference's Split with its errors; rows of bytes that are written over. -/
set_option maxRecDepth 20000 in
theorem rsplit_any (f : Nat → Nat) (len : Nat) (ch : Int) (v : Value) (V : World) (hv : SliceN V v len f) (hl : len ≤ 140737488351232) :
  Calls Try.prog 29 #[v, .int .i64 ch] V fun e w' => ∃ nv bv cv x, e = .returned (.tuple #[.agg (ptC nv bv cv), .int .i64 (spE len ch : Nat)]) ∧ PtS w' V.heap.size (spC len ch) nv bv cv x (spA len ch) (spB len ch) (spQ len ch) f ∧ Below V.heap.size V w' := by
 have no : spE len ch ≠ 0 → spC len ch = 0 ∧ spA len ch = 0 ∧ spB len ch = 0 ∧ spQ len ch = 0 := fun h => by
  unfold spC spA spB spQ
  simp [h]
 obtain ⟨ao, cap, rfl, _⟩ := id hv.shape
 by_cases h1 : ch < 1
 ·have E : spE len ch = 2 := if_pos (Or.inl h1)
  obtain ⟨e1, e2, e3, e4⟩ := no (by rw [E]; decide)
  rw [E, e1, e2, e3, e4]
  clear no E e1 e2 e3 e4 hv hl
  go_enter Try.func29, Try.ntmps29
  go_wp2
  refine bodyPost_ret (results_ct9 (cs := ptC (.slice none 0 0) (.slice none 0 0) (.slice none 0 0)) rfl _ _ V.heap.size 55 (0, 0) _ rfl (heapNew V _) Try.underlying55 rfl (size_pt _ _ _)) rfl (by first | exact ⟨_, _, _, fun _ => undef, rfl, pts_none _ _ _ _, belNew V _⟩ | exact ⟨_, _, _, rfl, ⟨fun _ => undef, pts_none _ _ _ _⟩, belNew V _⟩)
 ·by_cases h2 : 64 < ch
  ·have E : spE len ch = 2 := if_pos (Or.inr h2)
   obtain ⟨e1, e2, e3, e4⟩ := no (by rw [E]; decide)
   rw [E, e1, e2, e3, e4]
   have i2 : ch > 64 := h2
   clear no E e1 e2 e3 e4 hv hl h2
   go_enter Try.func29, Try.ntmps29
   go_wp2
   refine bodyPost_ret (results_ct9 (cs := ptC (.slice none 0 0) (.slice none 0 0) (.slice none 0 0)) rfl _ _ V.heap.size 55 (0, 0) _ rfl (heapNew V _) Try.underlying55 rfl (size_pt _ _ _)) rfl (by first | exact ⟨_, _, _, fun _ => undef, rfl, pts_none _ _ _ _, belNew V _⟩ | exact ⟨_, _, _, rfl, ⟨fun _ => undef, pts_none _ _ _ _⟩, belNew V _⟩)
  ·by_cases h3 : len < 18
   ·have E : spE len ch = 3 := by unfold spE; rw [if_neg (by omega), if_pos h3]
    obtain ⟨e1, e2, e3, e4⟩ := no (by rw [E]; decide)
    rw [E, e1, e2, e3, e4]
    have i2 : ¬ ch > 64 := h2
    have i3 : (len : Int) < 18 := by omega
    clear no E e1 e2 e3 e4 hv hl h2 h3
    go_enter Try.func29, Try.ntmps29
    go_wp2
    refine bodyPost_ret (results_ct9 (cs := ptC (.slice none 0 0) (.slice none 0 0) (.slice none 0 0)) rfl _ _ V.heap.size 55 (0, 0) _ rfl (heapNew V _) Try.underlying55 rfl (size_pt _ _ _)) rfl (by first | exact ⟨_, _, _, fun _ => undef, rfl, pts_none _ _ _ _, belNew V _⟩ | exact ⟨_, _, _, rfl, ⟨fun _ => undef, pts_none _ _ _ _⟩, belNew V _⟩)
   ·have E : spE len ch = 0 := by unfold spE; rw [if_neg (by omega), if_neg h3]
    obtain ⟨n, rfl⟩ : ∃ n : Nat, ch = n := ⟨ch.toNat, by omega⟩
    unfold spC spA spB spQ
    simp only [E, if_true, Int.toNat_natCast]
    exact rsplit_ok f len n _ V hv hl (by omega) (by omega) (by omega) _ _ rfl rfl
def ByR (W : World) (g cap N : Nat) : Prop := ∃ cur fz, W.heap[g]? = some (.cells cur 5 fz) ∧ cur.size = cap ∧ N ≤ cap ∧ (∀ j, j < N → ∃ z : Nat, z < 256 ∧ cur[j]? = some (.int .u8 (z : Int))) ∧ (cap ≤ fz.1 ∨ fz.2 = 0)
theorem ByR.on {W W' : World} {g cap N : Nat} (h : ByR W g cap N) (hb : Below W.heap.size W W') : ByR W' g cap N := by
 obtain ⟨cur, fz, h1, h2⟩ := h
 exact ⟨cur, fz, on9 h1 hb, h2⟩
theorem ByR.cell {W : World} {g cap N : Nat} (h : ByR W g cap N) {k : Nat} (hk : k < N) : ∃ z : Nat, z < 256 ∧ W.cell? ⟨g, k, none⟩ = some (.int .u8 (z : Int)) ∧ W.frozen? ⟨g, k, none⟩ = false := by
 obtain ⟨cur, fz, h1, h2, h3, h4, h5⟩ := h
 obtain ⟨z, hz, hc⟩ := h4 k hk
 refine ⟨z, hz, by rw [cell_of_row _ _ _ _ _ _ h1]; exact hc, ?_⟩
 simp [World.frozen?, h1]
 omega
theorem ByR.set {W : World} {g cap N : Nat} (h : ByR W g cap N) (k : Nat) {z : Nat} (hz : z < 256) : ByR (W.setCell ⟨g, k, none⟩ (.int .u8 (z : Int))) g cap N := by
 obtain ⟨cur, fz, h1, h2, h3, h4, h5⟩ := h
 rw [setCell_eq_setRow W g k _ _ _ _ h1]
 refine ⟨_, fz, setRow_heap _ _ _ _ _ _ h1, by rw [Array.size_setIfInBounds]; exact h2, h3, fun j hj => ?_, h5⟩
 rw [Array.getElem?_setIfInBounds]
 by_cases e : k = j
 ·rw [if_pos e, if_pos (by omega)]
  exact ⟨z, hz, rfl⟩
 ·rw [if_neg e]
  exact h4 j hj
end Go.Proofs.Ytmjpneaccjlpkaa.Tap
