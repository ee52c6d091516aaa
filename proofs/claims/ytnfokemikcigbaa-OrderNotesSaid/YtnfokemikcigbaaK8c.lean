import Derived.Test.YtnfokemikcigbaaK8b
namespace Go.Proofs.Ytnfokemikcigbaa.Ord
open Go.RowKit Gf8 Aes By8 Cel Cf Win Drw Prm
open Go.ChangeMaps Go.MapKept
/- The landed Fault. Written by tools/mkK8b.py. -/

set_option maxRecDepth 100000 in
set_option maxHeartbeats 4000000 in
/-- Note. -/
theorem pnote_n (i x : Int) (V : World) :
    Calls Try.prog 15 #[.pointer none, .int .i64 i, .int .i64 x] V fun e w' => e = .returned (.tuple #[]) ∧ Below V.heap.size V w' := by
  go_enter Try.func15, Try.ntmps15
  refine wo_ 37 [(0, .pointer none), (1, .int .i64 i), (2, .int .i64 x)] ?_
  rintro a A ⟨t0, t1, t2, -⟩
  have BW : Below V.heap.size V V := Below.refl _ _
  have BB : Below V.heap.size V V := Below.refl _ _
  refine wp_seq ?_
  refine wp_seq ?_
  refine wi_ A (h3_ t0 t1 t2) (rv_ 1 (.bool true) (fun a ee => execPFeqln rfl (ee _)) (rf_ [(15, .bool true)] (h3_ t0 t1 t2) ?_))
  rintro a A ⟨t15, -⟩ ⟨t0, t1, t2, -⟩
  refine wp_cond_true t15 ?_
  clear t15
  refine wp_ret ?_
  repeat (first | with_reducible refine ret_in ?_ | with_reducible refine ret_then ?_)
  exact bodyPost_ret (results_none rfl _ _ _) A.2 ⟨rfl, BB⟩
set_option maxRecDepth 100000 in
set_option maxHeartbeats 4000000 in
/-- Note. -/
theorem pnote_a (g : Nat) (i x : Int) (V : World) (h1 : i < 0) :
    Calls Try.prog 15 #[.pointer (some ⟨g, 0, none⟩), .int .i64 i, .int .i64 x] V fun e w' => e = .returned (.tuple #[]) ∧ Below V.heap.size V w' := by
  go_enter Try.func15, Try.ntmps15
  refine wo_ 37 [(0, .pointer (some ⟨g, 0, none⟩)), (1, .int .i64 i), (2, .int .i64 x)] ?_
  rintro a A ⟨t0, t1, t2, -⟩
  have BW : Below V.heap.size V V := Below.refl _ _
  have BB : Below V.heap.size V V := Below.refl _ _
  refine wp_seq ?_
  refine wp_seq ?_
  refine wi_ A (h3_ t0 t1 t2) (rv_ 1 (.bool false) (fun a ee => execPFeqls rfl (ee _)) (rv_ 4 (.bool true) (fun a ee => execDec (exIlss3 (p := i) (q := 0) rfl (ee _) rfl) (decide_eq_true h1)) (rf_ [(15, .bool true)] (h3_ t0 t1 t2) ?_)))
  rintro a A ⟨t15, -⟩ ⟨t0, t1, t2, -⟩
  refine wp_cond_true t15 ?_
  clear t15
  refine wp_ret ?_
  repeat (first | with_reducible refine ret_in ?_ | with_reducible refine ret_then ?_)
  exact bodyPost_ret (results_none rfl _ _ _) A.2 ⟨rfl, BB⟩
set_option maxRecDepth 100000 in
set_option maxHeartbeats 4000000 in
/-- Note. -/
theorem pnote_b (g : Nat) (i x : Int) (V : World) (h1 : ¬ i < 0) (h2 : x = 0) :
    Calls Try.prog 15 #[.pointer (some ⟨g, 0, none⟩), .int .i64 i, .int .i64 x] V fun e w' => e = .returned (.tuple #[]) ∧ Below V.heap.size V w' := by
  go_enter Try.func15, Try.ntmps15
  refine wo_ 37 [(0, .pointer (some ⟨g, 0, none⟩)), (1, .int .i64 i), (2, .int .i64 x)] ?_
  rintro a A ⟨t0, t1, t2, -⟩
  have BW : Below V.heap.size V V := Below.refl _ _
  have BB : Below V.heap.size V V := Below.refl _ _
  refine wp_seq ?_
  refine wp_seq ?_
  refine wi_ A (h3_ t0 t1 t2) (rv_ 1 (.bool false) (fun a ee => execPFeqls rfl (ee _)) (rv_ 4 (.bool false) (fun a ee => execDec (exIlss3 (p := i) (q := 0) rfl (ee _) rfl) (decide_eq_false h1)) (rv_ 8 (.bool true) (fun a ee => execDec (exIeqlE (p := x) (q := 0) rfl (ee _) rfl) (decide_eq_true h2)) (rf_ [(15, .bool true)] (h3_ t0 t1 t2) ?_))))
  rintro a A ⟨t15, -⟩ ⟨t0, t1, t2, -⟩
  refine wp_cond_true t15 ?_
  clear t15
  refine wp_ret ?_
  repeat (first | with_reducible refine ret_in ?_ | with_reducible refine ret_then ?_)
  exact bodyPost_ret (results_none rfl _ _ _) A.2 ⟨rfl, BB⟩
set_option maxRecDepth 100000 in
set_option maxHeartbeats 4000000 in
/-- Note. -/
theorem pnote_c (g : Nat) (lo er i x : Int) (V : World) (hg : V.heap[g]? = some (.cells (fC lo er) 46)) (h1 : ¬ i < 0) (h2 : ¬ x = 0) (h3 : er = 0) :
    Calls Try.prog 15 #[.pointer (some ⟨g, 0, none⟩), .int .i64 i, .int .i64 x] V fun e w' => e = .returned (.tuple #[]) ∧ w'.heap[g]? = some (.cells (fC i x) 46) ∧ Saved (fun q => q = g) V w' := by
  go_enter Try.func15, Try.ntmps15
  refine wo_ 37 [(0, .pointer (some ⟨g, 0, none⟩)), (1, .int .i64 i), (2, .int .i64 x)] ?_
  rintro a A ⟨t0, t1, t2, -⟩
  have BW : Below V.heap.size V V := Below.refl _ _
  have BB : Below V.heap.size V V := Below.refl _ _
  refine wp_seq ?_
  refine wp_seq ?_
  refine wi_ A (h3_ t0 t1 t2) (rv_ 1 (.bool false) (fun a ee => execPFeqls rfl (ee _)) (rv_ 4 (.bool false) (fun a ee => execDec (exIlss3 (p := i) (q := 0) rfl (ee _) rfl) (decide_eq_false h1)) (rv_ 8 (.bool false) (fun a ee => execDec (exIeqlE (p := x) (q := 0) rfl (ee _) rfl) (decide_eq_false h2)) (rf_ [(15, .bool false)] (h3_ t0 t1 t2) ?_))))
  rintro a A ⟨t15, -⟩ ⟨t0, t1, t2, -⟩
  refine wp_cond_false t15 ?_
  refine wp_skip ?_
  clear t15
  refine wp_seq ?_
  refine wi_ A (h3_ t0 t1 t2) (rv_ 1 (.pointer (some ⟨g, 0, none⟩)) (fun a ee => execNl20 rfl (ee _)) (rv_ 2 (.pointer (some ⟨g, 1, none⟩)) (fun a ee => execFzF1 rfl (ee _)) (rv_ 3 (.int .i64 er) (fun a ee => execL20 rfl (Or.inr (Or.inl rfl)) (ee _) (fC_at (on9 hg BB)).2) (rv_ 4 (.bool true) (fun a ee => execDec (exIeqlE (p := er) (q := 0) rfl (ee _) rfl) (decide_eq_true h3)) (rf_ [(28, .bool true)] (h3_ t0 t1 t2) ?_)))))
  rintro a A ⟨t28, -⟩ ⟨t0, t1, t2, -⟩
  refine wp_cond_true t28 ?_
  clear t28
  have hg2 := on9 hg BB
  refine wi_ A (h3_ t0 t1 t2) (rv_ 4 (.pointer (some ⟨g, 0, none⟩)) (fun a ee => execNl20 rfl (ee _)) (rv_ 5 (.pointer (some ⟨g, 0, none⟩)) (fun a ee => execFzF0 rfl (ee _)) (rs_ 6 (fun a ee => ?_))))
  refine stepS rfl rfl (execS20 rfl (Or.inl rfl) (ee _) (ee _) (Or.inl ⟨_, rfl⟩) (fC_at hg2).1 (frozen4 hg2)) ⟨_, ⟨_, rfl, rfl⟩, fun X5 hX5 => ?_⟩
  have hg5 := fC_set0 (z := i) hg2
  refine rv_ 7 (.pointer (some ⟨g, 0, none⟩)) (fun a ee => execNl20 rfl (ee _)) (rv_ 8 (.pointer (some ⟨g, 1, none⟩)) (fun a ee => execFzF1 rfl (ee _)) (rs_ 9 (fun a ee => ?_)))
  refine stepS rfl rfl (execS20 rfl (Or.inr (Or.inl rfl)) (ee _) (ee _) (Or.inl ⟨_, rfl⟩) (fC_at (hX5 ▸ hg5)).2 (frozen4 (hX5 ▸ hg5))) ⟨_, ⟨_, rfl, rfl⟩, fun X6 hX6 => ?_⟩
  have hg6 := fC_set1 (z := x) (hX5 ▸ hg5 : X5.heap[g]? = some (.cells (fC i er) 46))
  have hs6 : Saved (fun q => q = g) V X6 := by
    rw [hX6, hX5]
    exact (((Saved.refl (fun q => q = g) V).below BB (Nat.le_refl _)).cell _ (Or.inr rfl)).cell _ (Or.inr rfl)
  refine rg_ [] ?_
  rintro a A -
  exact bodyPost_end (results_none rfl _ _ _) A.2 ⟨rfl, hX6 ▸ hg6, hs6⟩
set_option maxRecDepth 100000 in
set_option maxHeartbeats 4000000 in
/-- Note. -/
theorem pnote_d (g : Nat) (lo er i x : Int) (V : World) (hg : V.heap[g]? = some (.cells (fC lo er) 46)) (h1 : ¬ i < 0) (h2 : ¬ x = 0) (h3 : ¬ er = 0) (h4 : i < lo) :
    Calls Try.prog 15 #[.pointer (some ⟨g, 0, none⟩), .int .i64 i, .int .i64 x] V fun e w' => e = .returned (.tuple #[]) ∧ w'.heap[g]? = some (.cells (fC i x) 46) ∧ Saved (fun q => q = g) V w' := by
  go_enter Try.func15, Try.ntmps15
  refine wo_ 37 [(0, .pointer (some ⟨g, 0, none⟩)), (1, .int .i64 i), (2, .int .i64 x)] ?_
  rintro a A ⟨t0, t1, t2, -⟩
  have BW : Below V.heap.size V V := Below.refl _ _
  have BB : Below V.heap.size V V := Below.refl _ _
  refine wp_seq ?_
  refine wp_seq ?_
  refine wi_ A (h3_ t0 t1 t2) (rv_ 1 (.bool false) (fun a ee => execPFeqls rfl (ee _)) (rv_ 4 (.bool false) (fun a ee => execDec (exIlss3 (p := i) (q := 0) rfl (ee _) rfl) (decide_eq_false h1)) (rv_ 8 (.bool false) (fun a ee => execDec (exIeqlE (p := x) (q := 0) rfl (ee _) rfl) (decide_eq_false h2)) (rf_ [(15, .bool false)] (h3_ t0 t1 t2) ?_))))
  rintro a A ⟨t15, -⟩ ⟨t0, t1, t2, -⟩
  refine wp_cond_false t15 ?_
  refine wp_skip ?_
  clear t15
  refine wp_seq ?_
  refine wi_ A (h3_ t0 t1 t2) (rv_ 1 (.pointer (some ⟨g, 0, none⟩)) (fun a ee => execNl20 rfl (ee _)) (rv_ 2 (.pointer (some ⟨g, 1, none⟩)) (fun a ee => execFzF1 rfl (ee _)) (rv_ 3 (.int .i64 er) (fun a ee => execL20 rfl (Or.inr (Or.inl rfl)) (ee _) (fC_at (on9 hg BB)).2) (rv_ 4 (.bool false) (fun a ee => execDec (exIeqlE (p := er) (q := 0) rfl (ee _) rfl) (decide_eq_false h3)) (rv_ 8 (.pointer (some ⟨g, 0, none⟩)) (fun a ee => execNl20 rfl (ee _)) (rv_ 9 (.pointer (some ⟨g, 0, none⟩)) (fun a ee => execFzF0 rfl (ee _)) (rv_ 10 (.int .i64 lo) (fun a ee => execL20 rfl (Or.inl rfl) (ee _) (fC_at (on9 hg BB)).1) (rv_ 11 (.bool true) (fun a ee => execDec (exIlss3 (p := i) (q := lo) rfl (ee _) (ee _)) (decide_eq_true h4)) (rf_ [(28, .bool true)] (h3_ t0 t1 t2) ?_)))))))))
  rintro a A ⟨t28, -⟩ ⟨t0, t1, t2, -⟩
  refine wp_cond_true t28 ?_
  clear t28
  have hg2 := on9 hg BB
  refine wi_ A (h3_ t0 t1 t2) (rv_ 4 (.pointer (some ⟨g, 0, none⟩)) (fun a ee => execNl20 rfl (ee _)) (rv_ 5 (.pointer (some ⟨g, 0, none⟩)) (fun a ee => execFzF0 rfl (ee _)) (rs_ 6 (fun a ee => ?_))))
  refine stepS rfl rfl (execS20 rfl (Or.inl rfl) (ee _) (ee _) (Or.inl ⟨_, rfl⟩) (fC_at hg2).1 (frozen4 hg2)) ⟨_, ⟨_, rfl, rfl⟩, fun X5 hX5 => ?_⟩
  have hg5 := fC_set0 (z := i) hg2
  refine rv_ 7 (.pointer (some ⟨g, 0, none⟩)) (fun a ee => execNl20 rfl (ee _)) (rv_ 8 (.pointer (some ⟨g, 1, none⟩)) (fun a ee => execFzF1 rfl (ee _)) (rs_ 9 (fun a ee => ?_)))
  refine stepS rfl rfl (execS20 rfl (Or.inr (Or.inl rfl)) (ee _) (ee _) (Or.inl ⟨_, rfl⟩) (fC_at (hX5 ▸ hg5)).2 (frozen4 (hX5 ▸ hg5))) ⟨_, ⟨_, rfl, rfl⟩, fun X6 hX6 => ?_⟩
  have hg6 := fC_set1 (z := x) (hX5 ▸ hg5 : X5.heap[g]? = some (.cells (fC i er) 46))
  have hs6 : Saved (fun q => q = g) V X6 := by
    rw [hX6, hX5]
    exact (((Saved.refl (fun q => q = g) V).below BB (Nat.le_refl _)).cell _ (Or.inr rfl)).cell _ (Or.inr rfl)
  refine rg_ [] ?_
  rintro a A -
  exact bodyPost_end (results_none rfl _ _ _) A.2 ⟨rfl, hX6 ▸ hg6, hs6⟩
set_option maxRecDepth 100000 in
set_option maxHeartbeats 4000000 in
/-- Note. -/
theorem pnote_e (g : Nat) (lo er i x : Int) (V : World) (hg : V.heap[g]? = some (.cells (fC lo er) 46)) (h1 : ¬ i < 0) (h2 : ¬ x = 0) (h3 : ¬ er = 0) (h4 : ¬ i < lo) :
    Calls Try.prog 15 #[.pointer (some ⟨g, 0, none⟩), .int .i64 i, .int .i64 x] V fun e w' => e = .returned (.tuple #[]) ∧ Below V.heap.size V w' := by
  go_enter Try.func15, Try.ntmps15
  refine wo_ 37 [(0, .pointer (some ⟨g, 0, none⟩)), (1, .int .i64 i), (2, .int .i64 x)] ?_
  rintro a A ⟨t0, t1, t2, -⟩
  have BW : Below V.heap.size V V := Below.refl _ _
  have BB : Below V.heap.size V V := Below.refl _ _
  refine wp_seq ?_
  refine wp_seq ?_
  refine wi_ A (h3_ t0 t1 t2) (rv_ 1 (.bool false) (fun a ee => execPFeqls rfl (ee _)) (rv_ 4 (.bool false) (fun a ee => execDec (exIlss3 (p := i) (q := 0) rfl (ee _) rfl) (decide_eq_false h1)) (rv_ 8 (.bool false) (fun a ee => execDec (exIeqlE (p := x) (q := 0) rfl (ee _) rfl) (decide_eq_false h2)) (rf_ [(15, .bool false)] (h3_ t0 t1 t2) ?_))))
  rintro a A ⟨t15, -⟩ ⟨t0, t1, t2, -⟩
  refine wp_cond_false t15 ?_
  refine wp_skip ?_
  clear t15
  refine wp_seq ?_
  refine wi_ A (h3_ t0 t1 t2) (rv_ 1 (.pointer (some ⟨g, 0, none⟩)) (fun a ee => execNl20 rfl (ee _)) (rv_ 2 (.pointer (some ⟨g, 1, none⟩)) (fun a ee => execFzF1 rfl (ee _)) (rv_ 3 (.int .i64 er) (fun a ee => execL20 rfl (Or.inr (Or.inl rfl)) (ee _) (fC_at (on9 hg BB)).2) (rv_ 4 (.bool false) (fun a ee => execDec (exIeqlE (p := er) (q := 0) rfl (ee _) rfl) (decide_eq_false h3)) (rv_ 8 (.pointer (some ⟨g, 0, none⟩)) (fun a ee => execNl20 rfl (ee _)) (rv_ 9 (.pointer (some ⟨g, 0, none⟩)) (fun a ee => execFzF0 rfl (ee _)) (rv_ 10 (.int .i64 lo) (fun a ee => execL20 rfl (Or.inl rfl) (ee _) (fC_at (on9 hg BB)).1) (rv_ 11 (.bool false) (fun a ee => execDec (exIlss3 (p := i) (q := lo) rfl (ee _) (ee _)) (decide_eq_false h4)) (rf_ [(28, .bool false)] (h3_ t0 t1 t2) ?_)))))))))
  rintro a A ⟨t28, -⟩ ⟨t0, t1, t2, -⟩
  refine wp_cond_false t28 ?_
  refine wp_skip ?_
  exact bodyPost_end (results_none rfl _ _ _) A.2 ⟨rfl, BB⟩
theorem pnote {g : Nat} {s : Int × Int} {V : World} (i x : Int) (hg : V.heap[g]? = some (.cells (fC s.1 s.2) 46)) : Calls Try.prog 15 #[.pointer (some ⟨g, 0, none⟩), .int .i64 i, .int .i64 x] V fun e w' => e = .returned (.tuple #[]) ∧ w'.heap[g]? = some (.cells (fC (nt s i x).1 (nt s i x).2) 46) ∧ Saved (fun q => q = g) V w' := by
  have same : ∀ {w' : World}, Below V.heap.size V w' → Saved (fun q => q = g) V w' := fun hb => (Saved.refl _ V).below hb (Nat.le_refl _)
  unfold nt
  by_cases h1 : i < 0
  · rw [if_pos (Or.inl h1)]
    exact Calls.mono (pnote_a g i x V h1) fun e w' ⟨he, hb⟩ => ⟨he, on9 hg hb, same hb⟩
  · by_cases h2 : x = 0
    · rw [if_pos (Or.inr h2)]
      exact Calls.mono (pnote_b g i x V h1 h2) fun e w' ⟨he, hb⟩ => ⟨he, on9 hg hb, same hb⟩
    · rw [if_neg (fun w => w.elim h1 h2)]
      by_cases h3 : s.2 = 0
      · rw [if_pos (Or.inl h3)]
        exact pnote_c g _ _ i x V hg h1 h2 h3
      · by_cases h4 : i < s.1
        · rw [if_pos (Or.inr h4)]
          exact pnote_d g _ _ i x V hg h1 h2 h3 h4
        · rw [if_neg (fun w => w.elim h3 h4)]
          exact Calls.mono (pnote_e g _ _ i x V hg h1 h2 h3 h4) fun e w' ⟨he, hb⟩ => ⟨he, on9 hg hb, same hb⟩
set_option maxRecDepth 100000 in
set_option maxHeartbeats 4000000 in
/-- First. -/
theorem pfirst_n (V : World) :
    Calls Try.prog 16 #[.pointer none] V fun e w' => e = .returned (.tuple #[.int .i64 (-1), .int .i64 ((0 : Nat) : Int)]) ∧ Below V.heap.size V w' := by
  go_enter Try.func16, Try.ntmps16
  refine wo_ 21 [(0, .pointer none)] ?_
  rintro a A ⟨t0, -⟩
  have BW : Below V.heap.size V V := Below.refl _ _
  have BB : Below V.heap.size V V := Below.refl _ _
  refine wp_seq ?_
  refine wi_ A (h1_ t0) (rf_ [] (h1_ t0) ?_)
  rintro a A - ⟨t0, -⟩
  refine wp_seq ?_
  refine wp_seq ?_
  refine wi_ A (h1_ t0) (rv_ 1 (.bool true) (fun a ee => execPFeqln rfl (ee _)) (rf_ [(12, .bool true)] (h1_ t0) ?_))
  rintro a A ⟨t12, -⟩ ⟨t0, -⟩
  refine wp_cond_true t12 ?_
  clear t12
  refine wp_seq ?_
  refine wi_ A (h1_ t0) (rg_ [(2, .int .i64 (-1)), (3, .int .i64 ((0 : Nat) : Int))] ?_)
  rintro a A ⟨t2, t3, -⟩
  refine wp_ret ?_
  repeat (first | with_reducible refine ret_in ?_ | with_reducible refine ret_then ?_)
  refine bodyPost_ret (results_tmp2 rfl _ _ _) A.2 ⟨?_, BB⟩
  show Ending.returned (.tuple #[a.eval (.tmp 2), a.eval (.tmp 3)]) = _
  rw [t2, t3]
set_option maxRecDepth 100000 in
set_option maxHeartbeats 4000000 in
/-- First. -/
theorem pfirst_z (g : Nat) (lo er : Int) (V : World) (hg : V.heap[g]? = some (.cells (fC lo er) 46)) (h3 : er = 0) :
    Calls Try.prog 16 #[.pointer (some ⟨g, 0, none⟩)] V fun e w' => e = .returned (.tuple #[.int .i64 (-1), .int .i64 ((0 : Nat) : Int)]) ∧ Below V.heap.size V w' := by
  go_enter Try.func16, Try.ntmps16
  refine wo_ 21 [(0, .pointer (some ⟨g, 0, none⟩))] ?_
  rintro a A ⟨t0, -⟩
  have BW : Below V.heap.size V V := Below.refl _ _
  have BB : Below V.heap.size V V := Below.refl _ _
  refine wp_seq ?_
  refine wi_ A (h1_ t0) (rf_ [] (h1_ t0) ?_)
  rintro a A - ⟨t0, -⟩
  refine wp_seq ?_
  refine wp_seq ?_
  refine wi_ A (h1_ t0) (rv_ 1 (.bool false) (fun a ee => execPFeqls rfl (ee _)) (rv_ 4 (.pointer (some ⟨g, 0, none⟩)) (fun a ee => execNl20 rfl (ee _)) (rv_ 5 (.pointer (some ⟨g, 1, none⟩)) (fun a ee => execFzF1 rfl (ee _)) (rv_ 6 (.int .i64 er) (fun a ee => execL20 rfl (Or.inr (Or.inl rfl)) (ee _) (fC_at (on9 hg BB)).2) (rv_ 7 (.bool true) (fun a ee => execDec (exIeqlE (p := er) (q := 0) rfl (ee _) rfl) (decide_eq_true h3)) (rf_ [(12, .bool true)] (h1_ t0) ?_))))))
  rintro a A ⟨t12, -⟩ ⟨t0, -⟩
  refine wp_cond_true t12 ?_
  clear t12
  refine wp_seq ?_
  refine wi_ A (h1_ t0) (rg_ [(2, .int .i64 (-1)), (3, .int .i64 ((0 : Nat) : Int))] ?_)
  rintro a A ⟨t2, t3, -⟩
  refine wp_ret ?_
  repeat (first | with_reducible refine ret_in ?_ | with_reducible refine ret_then ?_)
  refine bodyPost_ret (results_tmp2 rfl _ _ _) A.2 ⟨?_, BB⟩
  show Ending.returned (.tuple #[a.eval (.tmp 2), a.eval (.tmp 3)]) = _
  rw [t2, t3]
set_option maxRecDepth 100000 in
set_option maxHeartbeats 4000000 in
/-- First. -/
theorem pfirst_o (g : Nat) (lo er : Int) (V : World) (hg : V.heap[g]? = some (.cells (fC lo er) 46)) (h3 : ¬ er = 0) :
    Calls Try.prog 16 #[.pointer (some ⟨g, 0, none⟩)] V fun e w' => e = .returned (.tuple #[.int .i64 lo, .int .i64 er]) ∧ Below V.heap.size V w' := by
  go_enter Try.func16, Try.ntmps16
  refine wo_ 21 [(0, .pointer (some ⟨g, 0, none⟩))] ?_
  rintro a A ⟨t0, -⟩
  have BW : Below V.heap.size V V := Below.refl _ _
  have BB : Below V.heap.size V V := Below.refl _ _
  refine wp_seq ?_
  refine wi_ A (h1_ t0) (rf_ [] (h1_ t0) ?_)
  rintro a A - ⟨t0, -⟩
  refine wp_seq ?_
  refine wp_seq ?_
  refine wi_ A (h1_ t0) (rv_ 1 (.bool false) (fun a ee => execPFeqls rfl (ee _)) (rv_ 4 (.pointer (some ⟨g, 0, none⟩)) (fun a ee => execNl20 rfl (ee _)) (rv_ 5 (.pointer (some ⟨g, 1, none⟩)) (fun a ee => execFzF1 rfl (ee _)) (rv_ 6 (.int .i64 er) (fun a ee => execL20 rfl (Or.inr (Or.inl rfl)) (ee _) (fC_at (on9 hg BB)).2) (rv_ 7 (.bool false) (fun a ee => execDec (exIeqlE (p := er) (q := 0) rfl (ee _) rfl) (decide_eq_false h3)) (rf_ [(12, .bool false)] (h1_ t0) ?_))))))
  rintro a A ⟨t12, -⟩ ⟨t0, -⟩
  refine wp_cond_false t12 ?_
  refine wp_skip ?_
  clear t12
  refine wp_seq ?_
  refine wj_ [0, 1, 2, 3, 4, 5, 6, 7, 8, 9] [] [3, 7] [] A (h1_ t0) (fun X3 bD => ?_)
  refine dw_ 1 (.pointer (some ⟨g, 0, none⟩)) (fun a X ee => execNl20 rfl (ee _)) (dw_ 2 (.pointer (some ⟨g, 0, none⟩)) (fun a X ee => execFzF0 rfl (ee _)) (dv_ 3 (.int .i64 lo) (fun a X ee hb => execL20 rfl (Or.inl rfl) (ee _) (fC_at (on9 hg (BB.trans (hb.mono BB.size)))).1) (dw_ 5 (.pointer (some ⟨g, 0, none⟩)) (fun a X ee => execNl20 rfl (ee _)) (dw_ 6 (.pointer (some ⟨g, 1, none⟩)) (fun a X ee => execFzF1 rfl (ee _)) (dv_ 7 (.int .i64 er) (fun a X ee hb => execL20 rfl (Or.inr (Or.inl rfl)) (ee _) (fC_at (on9 hg (BB.trans (hb.mono BB.size)))).2) (dy_ [(2, .int .i64 lo), (3, .int .i64 er)] ?_))))))
  rintro a A ⟨t2, t3, -⟩
  replace BB := BB.trans (bD.mono BB.size)
  clear bD
  refine wp_ret ?_
  refine bodyPost_ret (results_tmp2 rfl _ _ _) A.2 ⟨?_, BB⟩
  show Ending.returned (.tuple #[a.eval (.tmp 2), a.eval (.tmp 3)]) = _
  rw [t2, t3]
theorem pfirst {g : Nat} {s : Int × Int} {V : World} (hg : V.heap[g]? = some (.cells (fC s.1 s.2) 46)) : Calls Try.prog 16 #[.pointer (some ⟨g, 0, none⟩)] V fun e w' => e = .returned (.tuple #[.int .i64 (fs s).1, .int .i64 (fs s).2]) ∧ Below V.heap.size V w' := by
  unfold fs
  by_cases h : s.2 = 0
  · rw [if_pos h]
    exact pfirst_z g _ _ V hg h
  · rw [if_neg h]
    exact pfirst_o g _ _ V hg h
end Go.Proofs.Ytnfokemikcigbaa.Ord
