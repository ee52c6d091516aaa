import Derived.Test.YtaoncjgllcndmaaDoorD1a
namespace Go.Proofs.YtaoncjgllcndmaaDoor.Frm
open Go.RowKit Gf8 Aes By8 Cel
/- The reference's Feed. -/
set_option maxRecDepth 20000 in
set_option maxHeartbeats 1000000 in
theorem feed_any (p : Nat → Nat) (len : Nat) (v : Value) (V : World) (hv : SliceN V v len p) (hl : len ≤ 140737488351232) :
    Calls Tryd.prog 21 #[v] V fun e w' => ∃ cv x, e = .returned (.tuple #[cv, .int .i64 (feedE p len : Nat)]) ∧ CL V.heap.size (jK p len) x p cv w' ∧ Below V.heap.size V w' := by
  have JA := judge_any p len v V hv hl
  have z := zeroJ
  obtain ⟨E, hE⟩ : ∃ E, (jE p len).2 = E := ⟨_, rfl⟩
  rw [hE] at JA
  have FE : Hid (feedE p len = if E = 67 then 0 else E) := by show feedE p len = _; unfold feedE; rw [hE]
  have lE := jE_le p len
  rw [hE] at lE
  obtain ⟨PL, hP⟩ : ∃ PL, (jE p len).1 = PL := ⟨_, rfl⟩
  rw [hP] at JA
  clear hE hP hv
  by_cases h : E = 67
  · subst h
    have FE : Hid (feedE p len = 0) := FE.out
    go_enter Tryd.func21, Tryd.ntmps21
    go_wp2_with (first
      | (go_at_call 31; refine JA.mono ?_; rintro e w1 ⟨cv, x, rfl, cl, hb1⟩)
      | (refine atStore 66 (.tmp 4) (.tmp 7) rfl ?_; go_must (refine wpList_store_row rfl 66 (.tmp 4) (.tmp 7) rfl w1.heap.size _ rfl rfl 66 _ (heapNew w1 _) (sizeJ _ _ _ _ _ _ _) rfl (jC_one _ _ _ _ _ _ cl.one) ?_; obtain ⟨q1, q4, q5, q6, qb⟩ := storeJ w1 (jC false 0 0 0 (.slice none 0 0) 0 0) (headOk p len) (jRound p len) (jEpoch p len) (jLeft p len) cv PL 67)))
    refine bodyPost_ret (results_tmp2 rfl _ _ _) rfl ?_
    rw [FE.out]
    exact ⟨_, x, rfl, cl.on qb, hb1.trans (qb.mono hb1.size)⟩
  · have i1 : ((E : Int) == 67) = false := by simp; omega
    have FE : Hid (feedE p len = E) := by show feedE p len = E; rw [FE.out, if_neg h]
    clear h
    go_enter Tryd.func21, Tryd.ntmps21
    go_wp2_with (first
      | (go_at_call 31; refine JA.mono ?_; rintro e w1 ⟨cv, x, rfl, cl, hb1⟩)
      | (refine atStore 66 (.tmp 4) (.tmp 7) rfl ?_; go_must (refine wpList_store_row rfl 66 (.tmp 4) (.tmp 7) rfl w1.heap.size _ rfl rfl 66 _ (heapNew w1 _) (sizeJ _ _ _ _ _ _ _) rfl (jC_one _ _ _ _ _ _ cl.one) ?_; obtain ⟨q1, q4, q5, q6, qb⟩ := storeJ w1 (jC false 0 0 0 (.slice none 0 0) 0 0) (headOk p len) (jRound p len) (jEpoch p len) (jLeft p len) cv PL E)))
    refine bodyPost_ret (results_tmp2 rfl _ _ _) rfl ?_
    rw [FE.out]
    exact ⟨_, x, rfl, cl.on qb, hb1.trans (qb.mono hb1.size)⟩

end Go.Proofs.YtaoncjgllcndmaaDoor.Frm
