import Derived.Test.YtigkmgoidbamnaaV9s
namespace Go.Proofs.Ytigkmgoidbamnaa.Tap
open Go.RowKit Gf8 Aes By8 Cel Cf
/- The program's Split, with its errors. -/

theorem pt_nil : ptC (.slice none 0 0) (.slice none 0 0) (.slice none 0 0) = #[.slice none 0 0, .slice none 0 0, .slice none 0 0] := rfl
set_option maxRecDepth 20000 in
theorem split_any (f : Nat → Nat) (len : Nat) (ch : Int) (v : Value) (V : World) (hv : SliceN V v len f) (hl : len ≤ 140737488351232) :
    Calls Try.prog 18 #[v, .int .i64 ch] V fun e w' => ∃ nv bv cv x, e = .returned (.tuple #[.agg (ptC nv bv cv), .int .i64 (spE len ch : Nat)]) ∧ PtS w' V.heap.size (spC len ch) nv bv cv x (spA len ch) (spB len ch) (spQ len ch) f ∧ Below V.heap.size V w' := by
  have no : spE len ch ≠ 0 → spC len ch = 0 ∧ spA len ch = 0 ∧ spB len ch = 0 ∧ spQ len ch = 0 := fun h => by
    unfold spC spA spB spQ
    simp [h]
  obtain ⟨ao, cap, rfl, _⟩ := id hv.shape
  by_cases h1 : ch < 1
  · have E : spE len ch = 2 := if_pos (Or.inl h1)
    obtain ⟨e1, e2, e3, e4⟩ := no (by rw [E]; decide)
    rw [E, e1, e2, e3, e4]
    clear no E e1 e2 e3 e4 hv hl
    go_enter Try.func18, Try.ntmps18
    go_wp2
    refine bodyPost_ret (results_ct9 (cs := ptC (.slice none 0 0) (.slice none 0 0) (.slice none 0 0)) rfl _ _ V.heap.size 49 (0, 0) _ rfl (heapNew V _) Try.underlying49 rfl (size_pt _ _ _)) rfl (by first | exact ⟨_, _, _, fun _ => undef, rfl, pts_none _ _ _ _, belNew V _⟩ | exact ⟨_, _, _, rfl, ⟨fun _ => undef, pts_none _ _ _ _⟩, belNew V _⟩)
  · by_cases h2 : 64 < ch
    · have E : spE len ch = 2 := if_pos (Or.inr h2)
      obtain ⟨e1, e2, e3, e4⟩ := no (by rw [E]; decide)
      rw [E, e1, e2, e3, e4]
      have i2 : ch > 64 := h2
      clear no E e1 e2 e3 e4 hv hl h2
      go_enter Try.func18, Try.ntmps18
      go_wp2
      refine bodyPost_ret (results_ct9 (cs := ptC (.slice none 0 0) (.slice none 0 0) (.slice none 0 0)) rfl _ _ V.heap.size 49 (0, 0) _ rfl (heapNew V _) Try.underlying49 rfl (size_pt _ _ _)) rfl (by first | exact ⟨_, _, _, fun _ => undef, rfl, pts_none _ _ _ _, belNew V _⟩ | exact ⟨_, _, _, rfl, ⟨fun _ => undef, pts_none _ _ _ _⟩, belNew V _⟩)
    · by_cases h3 : len < 18
      · have E : spE len ch = 3 := by unfold spE; rw [if_neg (by omega), if_pos h3]
        obtain ⟨e1, e2, e3, e4⟩ := no (by rw [E]; decide)
        rw [E, e1, e2, e3, e4]
        have i2 : ¬ ch > 64 := h2
        have i3 : (len : Int) < 18 := by omega
        clear no E e1 e2 e3 e4 hv hl h2 h3
        go_enter Try.func18, Try.ntmps18
        go_wp2
        refine bodyPost_ret (results_ct9 (cs := ptC (.slice none 0 0) (.slice none 0 0) (.slice none 0 0)) rfl _ _ V.heap.size 49 (0, 0) _ rfl (heapNew V _) Try.underlying49 rfl (size_pt _ _ _)) rfl (by first | exact ⟨_, _, _, fun _ => undef, rfl, pts_none _ _ _ _, belNew V _⟩ | exact ⟨_, _, _, rfl, ⟨fun _ => undef, pts_none _ _ _ _⟩, belNew V _⟩)
      · have E : spE len ch = 0 := by unfold spE; rw [if_neg (by omega), if_neg h3]
        obtain ⟨n, rfl⟩ : ∃ n : Nat, ch = n := ⟨ch.toNat, by omega⟩
        unfold spC spA spB spQ
        simp only [E, if_true, Int.toNat_natCast]
        exact split_ok f len n _ V hv hl (by omega) (by omega) (by omega) _ _ rfl rfl
end Go.Proofs.Ytigkmgoidbamnaa.Tap
