import Derived.Test.YtjoffdaknacbpaaO8f
namespace Go.Proofs.Ytjoffdaknacbpaa.Sha
open Go.RowKit Gf8 Aes By8 Cel Cf Win Drw
open Go.ChangeMaps Go.MapKept
/- The program's made, of, Lowest, Len, Offer. Written by tools/mkO8g.py. -/

theorem below_gr {V X W : World} {r : Option Nat} (h : Below V.heap.size V X) (g : X.grownBy W r) : V.grownBy W r :=
  ⟨g.os.trans h.os, g.tape.trans h.tape, g.output.trans h.output, Nat.le_trans h.size g.size, fun b hb hne => by rw [g.block b (Nat.lt_of_lt_of_le hb h.size) hne, h.block b hb]⟩
set_option maxRecDepth 100000 in
set_option maxHeartbeats 4000000 in
/-- The program's made. -/
theorem pmade_s (lo hi fb sb : Nat) (mb : Nat → Nat) (n : Nat) (S : Nat → List Off) (V : World) (hF : Fl V lo hi fb sb mb n S) :
    Calls Try.prog 22 #[.pointer (some ⟨fb, 0, none⟩)] V fun e w' => e = .returned (.bool true) ∧ Below V.heap.size V w' := by
  go_enter Try.func22, Try.ntmps22
  refine wo_ 13 [(0, .pointer (some ⟨fb, 0, none⟩))] ?_
  rintro a A ⟨t0, -⟩
  have BW : Below V.heap.size V V := Below.refl _ _
  have BB : Below V.heap.size V V := Below.refl _ _
  refine wp_seq ?_
  refine wi_ A (h1_ t0) (rf_ [] (h1_ t0) ?_)
  rintro a A - ⟨t0, -⟩
  refine wp_seq ?_
  refine wi_ A (h1_ t0) (rv_ 1 (.bool true) (fun a ee => execPneqs rfl (ee _)) (rv_ 4 (.pointer (some ⟨fb, 0, none⟩)) (fun a ee => execNilC rfl (ee _)) (rv_ 5 (.pointer (some ⟨fb, 0, none⟩)) (fun a ee => execFldF0 rfl (ee _)) (rv_ 6 (.slice (some ⟨sb, 0, none⟩) n n) (fun a ee => execLdSs rfl (ee _) (cell_lk0 (hF.on BB).f rfl)) (rv_ 7 (.int .i64 ((n : Nat) : Int)) (fun a ee => execLenSs (len := n) rfl (ee _) ⟨_, _, rfl⟩) (rv_ 8 (.bool true) (fun a ee => execDec (execGtN (p := n) (q := 0) rfl (ee _) rfl) (decide_eq_true (by have := hF.n1.1; omega))) (rg_ [(2, .bool true)] ?_)))))))
  rintro a A ⟨t2, -⟩
  refine wp_ret ?_
  refine bodyPost_ret (results_tmp rfl _ _ _) A.2 ⟨?_, BB⟩
  show Ending.returned (a.eval (.tmp 2)) = _
  rw [t2]
set_option maxRecDepth 100000 in
set_option maxHeartbeats 4000000 in
/-- The program's made of nil. -/
theorem pmade_n (V : World) :
    Calls Try.prog 22 #[.pointer none] V fun e w' => e = .returned (.bool false) ∧ Below V.heap.size V w' := by
  go_enter Try.func22, Try.ntmps22
  refine wo_ 13 [(0, .pointer none)] ?_
  rintro a A ⟨t0, -⟩
  have BW : Below V.heap.size V V := Below.refl _ _
  have BB : Below V.heap.size V V := Below.refl _ _
  refine wp_seq ?_
  refine wi_ A (h1_ t0) (rf_ [] (h1_ t0) ?_)
  rintro a A - ⟨t0, -⟩
  refine wp_seq ?_
  refine wi_ A (h1_ t0) (rv_ 1 (.bool false) (fun a ee => execPneqn rfl (ee _)) (rg_ [(2, .bool false)] ?_))
  rintro a A ⟨t2, -⟩
  refine wp_ret ?_
  refine bodyPost_ret (results_tmp rfl _ _ _) A.2 ⟨?_, BB⟩
  show Ending.returned (a.eval (.tmp 2)) = _
  rw [t2]
set_option maxRecDepth 100000 in
set_option maxHeartbeats 4000000 in
/-- The program's of. -/
theorem pof (lo hi fb sb : Nat) (mb : Nat → Nat) (n : Nat) (S : Nat → List Off) (f : Nat → Nat) (V : World) (hF : Fl V lo hi fb sb mb n S) (hf : ∀ i, i < 16 → f i < 256) :
    Calls Try.prog 23 #[.pointer (some ⟨fb, 0, none⟩), .agg (bA 16 f)] V fun e w' => e = .returned (.pointer (some ⟨sb, tv f 8 % n * 3, none⟩)) ∧ Below V.heap.size V w' := by
  go_enter Try.func23, Try.ntmps23
  have hk : tv f 8 % n < n := Nat.mod_lt _ hF.n1.1
  refine wo_ 17 [(0, .pointer (some ⟨fb, 0, none⟩)), (1, .agg (bA 16 f))] ?_
  rintro a A ⟨t0, t1, -⟩
  have BW : Below V.heap.size V V := Below.refl _ _
  refine wp_seq ?_
  obtain ⟨g3, egg3⟩ : ∃ z_ : Nat, V.heap.size = z_ := ⟨_, rfl⟩
  refine wi_ A (h2_ t0 t1) (rs_ 0 (fun a ee => ?_))
  refine stepV rfl rfl (execBox16 rfl (ee _)) ⟨.pointer (some ⟨g3, 0, none⟩), ⟨_, rfl, by subst egg3; rfl⟩, fun X0 hX => ?_⟩
  have bQ : Below V.heap.size V X0 := by subst hX egg3; exact (belNew V _)
  have Fg3 : (X0.heap[g3]? = some (.cells (bA 16 f) 31)) := by subst hX egg3; exact heapNew V _
  have Fgeg3 : (V.heap.size ≤ g3) := by subst hX egg3; exact ((Below.refl V.heap.size V)).size
  have bX := bQ
  clear bQ hX egg3 ee a
  refine rf_ [(3, .pointer (some ⟨g3, 0, none⟩))] (h1_ t0) ?_
  rintro a A ⟨t3, -⟩ ⟨t0, -⟩
  replace hF := (hF.on bX)
  have ZX0 := bX.size
  replace BW := BW.trans (bX.mono BW.size)
  clear bX
  have BB : Below X0.heap.size X0 X0 := Below.refl _ _
  refine wp_seq ?_
  refine wj_ [0, 1, 2, 3, 4, 5, 6, 7, 8, 9, 10, 11, 12] [10] [3, 4, 8] [] A (h2_ t0 t3) (fun X1_0 bD => ?_)
  refine dw_ 1 (.pointer (some ⟨fb, 0, none⟩)) (fun a X ee => execNilC rfl (ee _)) (dw_ 2 (.pointer (some ⟨fb, 0, none⟩)) (fun a X ee => execFldF0 rfl (ee _)) (dv_ 3 (.slice (some ⟨sb, 0, none⟩) n n) (fun a X ee hb => execLdSs rfl (ee _) (cell_lk0 (hF.on (BB.trans (hb.mono BB.size))).f rfl)) (dv_ 4 (.agg (bA 16 f)) (fun a X ee hb => execLdT rfl (ee _) (fun j_ hj_ => at16 (on9 Fg3 (BB.trans (hb.mono BB.size))) hj_)) (dw_ 6 (.pointer (some ⟨fb, 0, none⟩)) (fun a X ee => execNilC rfl (ee _)) (dw_ 7 (.pointer (some ⟨fb, 0, none⟩)) (fun a X ee => execFldF0 rfl (ee _)) (dv_ 8 (.slice (some ⟨sb, 0, none⟩) n n) (fun a X ee hb => execLdSs rfl (ee _) (cell_lk0 (hF.on (BB.trans (hb.mono BB.size))).f rfl)) (dw_ 9 (.int .i64 ((n : Nat) : Int)) (fun a X ee => execLenSs (len := n) rfl (ee _) ⟨_, _, rfl⟩) (dc_ 10 (pshardt f n X1_0 hf hF.n1.1 hF.n1.2) (cb_ fun X1 bQ => ?_)))))))))
  replace bD := bD.trans (bQ.mono bD.size)
  clear bQ
  refine ⟨Or.inr bD, ?_⟩
  refine dw_ 11 (.pointer (some ⟨sb, (tv f 8 % n) * 3, none⟩)) (fun a X ee => execIdxSs (k := tv f 8 % n) rfl (ee _) (ee _) hk) (dy_ [(4, .pointer (some ⟨sb, (tv f 8 % n) * 3, none⟩))] ?_)
  rintro a A ⟨t4, -⟩
  replace BB := BB.trans (bD.mono BB.size)
  clear bD
  have BW2 := BW.trans (BB.mono BW.size)
  refine wp_ret ?_
  refine bodyPost_ret (results_tmp rfl _ _ _) A.2 ⟨?_, BW2⟩
  show Ending.returned (a.eval (.tmp 4)) = _
  rw [t4]
set_option maxRecDepth 100000 in
set_option maxHeartbeats 4000000 in
/-- The program's Lowest. -/
theorem plow_s (lo hi fb sb : Nat) (mb : Nat → Nat) (n : Nat) (S : Nat → List Off) (f : Nat → Nat) (V : World) (hF : Fl V lo hi fb sb mb n S) (hf : ∀ i, i < 16 → f i < 256) :
    Calls Try.prog 13 #[.pointer (some ⟨fb, 0, none⟩), .agg (bA 16 f)] V fun e w' => e = .returned (.tuple #[.int .i64 ((fnd (S (tv f 8 % n)) (tv f 16)).getD 0), .bool (fnd (S (tv f 8 % n)) (tv f 16)).isSome]) ∧ Below V.heap.size V w' := by
  go_enter Try.func13, Try.ntmps13
  have hk : tv f 8 % n < n := Nat.mod_lt _ hF.n1.1
  refine wo_ 16 [(0, .pointer (some ⟨fb, 0, none⟩)), (1, .agg (bA 16 f))] ?_
  rintro a A ⟨t0, t1, -⟩
  have BW : Below V.heap.size V V := Below.refl _ _
  refine wp_seq ?_
  obtain ⟨g3, egg3⟩ : ∃ z_ : Nat, V.heap.size = z_ := ⟨_, rfl⟩
  refine wi_ A (h2_ t0 t1) (rs_ 0 (fun a ee => ?_))
  refine stepV rfl rfl (execBox16 rfl (ee _)) ⟨.pointer (some ⟨g3, 0, none⟩), ⟨_, rfl, by subst egg3; rfl⟩, fun X0 hX => ?_⟩
  have bQ : Below V.heap.size V X0 := by subst hX egg3; exact (belNew V _)
  have Fg3 : (X0.heap[g3]? = some (.cells (bA 16 f) 31)) := by subst hX egg3; exact heapNew V _
  have Fgeg3 : (V.heap.size ≤ g3) := by subst hX egg3; exact ((Below.refl V.heap.size V)).size
  have bX := bQ
  clear bQ hX egg3 ee a
  refine rf_ [(3, .pointer (some ⟨g3, 0, none⟩))] (h1_ t0) ?_
  rintro a A ⟨t3, -⟩ ⟨t0, -⟩
  replace hF := (hF.on bX)
  have ZX0 := bX.size
  replace BW := BW.trans (bX.mono BW.size)
  clear bX
  have BB : Below X0.heap.size X0 X0 := Below.refl _ _
  refine wp_seq ?_
  refine wp_seq ?_
  refine wi_ A (h2_ t0 t3) (rc_ 1 (pmade_s lo hi fb sb mb n S X0 (hF.on BB)) (cb_ fun X1 bQ => ?_))
  replace BB := BB.trans (bQ.mono BB.size)
  clear bQ
  refine rv_ 2 (.bool false) (fun a ee => execNot8 (b := true) rfl (ee _)) (rf_ [(8, .bool false)] (h2_ t0 t3) ?_)
  rintro a A ⟨t8, -⟩ ⟨t0, t3, -⟩
  refine wp_cond_false t8 ?_
  refine wp_skip ?_
  clear t8
  refine wp_seq ?_
  refine wj_ [0, 1, 3, 2, 4, 5, 6, 7, 8] [2, 4] [1, 3] [] A (h2_ t0 t3) (fun X3_0 bD => ?_)
  refine dv_ 1 (.agg (bA 16 f)) (fun a X ee hb => execLdT rfl (ee _) (fun j_ hj_ => at16 (on9 Fg3 (BB.trans (hb.mono BB.size))) hj_)) (dv_ 3 (.agg (bA 16 f)) (fun a X ee hb => execLdT rfl (ee _) (fun j_ hj_ => at16 (on9 Fg3 (BB.trans (hb.mono BB.size))) hj_)) (dc_ 2 (pof lo hi fb sb mb n S f X3_0 (hF.on (BB.trans (bD.mono BB.size))) hf) (cb_ fun X3_1 bQ => ?_)))
  replace bD := bD.trans (bQ.mono bD.size)
  clear bQ
  refine ⟨Or.inr bD, ?_⟩
  refine dc_ 4 (pfind sb (tv f 8 % n * 3) (mb (tv f 8 % n)) _ _ f X3_1 (hF.on (BB.trans (bD.mono BB.size))).s (shA_at _ hk).1 (shA_at _ hk).2.2 ((hF.on (BB.trans (bD.mono BB.size))).m _ hk) hf) (cb_ fun X3 bQ => ?_)
  replace bD := bD.trans (bQ.mono bD.size)
  clear bQ
  refine ⟨Or.inr bD, ?_⟩
  refine dy_ [(4, .int .i64 ((fnd (S (tv f 8 % n)) (tv f 16)).getD 0)), (5, .bool (fnd (S (tv f 8 % n)) (tv f 16)).isSome)] ?_
  rintro a A ⟨t4, t5, -⟩
  replace BB := BB.trans (bD.mono BB.size)
  clear bD
  have BW2 := BW.trans (BB.mono BW.size)
  refine wp_ret ?_
  refine bodyPost_ret (results_tmp2 rfl _ _ _) A.2 ⟨?_, BW2⟩
  show Ending.returned (.tuple #[a.eval (.tmp 4), a.eval (.tmp 5)]) = _
  rw [t4, t5]
set_option maxRecDepth 100000 in
set_option maxHeartbeats 4000000 in
/-- The program's Lowest of nil. -/
theorem plow_n (f : Nat → Nat) (V : World) :
    Calls Try.prog 13 #[.pointer none, .agg (bA 16 f)] V fun e w' => e = .returned (.tuple #[.int .i64 ((0 : Nat) : Int), .bool false]) ∧ Below V.heap.size V w' := by
  go_enter Try.func13, Try.ntmps13
  refine wo_ 16 [(0, .pointer none), (1, .agg (bA 16 f))] ?_
  rintro a A ⟨t0, t1, -⟩
  have BW : Below V.heap.size V V := Below.refl _ _
  refine wp_seq ?_
  obtain ⟨g3, egg3⟩ : ∃ z_ : Nat, V.heap.size = z_ := ⟨_, rfl⟩
  refine wi_ A (h2_ t0 t1) (rs_ 0 (fun a ee => ?_))
  refine stepV rfl rfl (execBox16 rfl (ee _)) ⟨.pointer (some ⟨g3, 0, none⟩), ⟨_, rfl, by subst egg3; rfl⟩, fun X0 hX => ?_⟩
  have bQ : Below V.heap.size V X0 := by subst hX egg3; exact (belNew V _)
  have Fg3 : (X0.heap[g3]? = some (.cells (bA 16 f) 31)) := by subst hX egg3; exact heapNew V _
  have Fgeg3 : (V.heap.size ≤ g3) := by subst hX egg3; exact ((Below.refl V.heap.size V)).size
  have bX := bQ
  clear bQ hX egg3 ee a
  refine rf_ [(3, .pointer (some ⟨g3, 0, none⟩))] (h1_ t0) ?_
  rintro a A ⟨t3, -⟩ ⟨t0, -⟩
  have ZX0 := bX.size
  replace BW := BW.trans (bX.mono BW.size)
  clear bX
  have BB : Below X0.heap.size X0 X0 := Below.refl _ _
  refine wp_seq ?_
  refine wp_seq ?_
  refine wi_ A (h2_ t0 t3) (rc_ 1 (pmade_n X0) (cb_ fun X1 bQ => ?_))
  replace BB := BB.trans (bQ.mono BB.size)
  clear bQ
  refine rv_ 2 (.bool true) (fun a ee => execNot8 (b := false) rfl (ee _)) (rf_ [(8, .bool true)] (h2_ t0 t3) ?_)
  rintro a A ⟨t8, -⟩ ⟨t0, t3, -⟩
  refine wp_cond_true t8 ?_
  clear t8
  refine wp_seq ?_
  refine wi_ A (h2_ t0 t3) (rg_ [(4, .int .i64 ((0 : Nat) : Int)), (5, .bool false)] ?_)
  rintro a A ⟨t4, t5, -⟩
  have BW2 := BW.trans (BB.mono BW.size)
  refine wp_ret ?_
  repeat (first | with_reducible refine ret_in ?_ | with_reducible refine ret_then ?_)
  refine bodyPost_ret (results_tmp2 rfl _ _ _) A.2 ⟨?_, BW2⟩
  show Ending.returned (.tuple #[a.eval (.tmp 4), a.eval (.tmp 5)]) = _
  rw [t4, t5]
set_option maxRecDepth 100000 in
set_option maxHeartbeats 4000000 in
/-- The program's Len. -/
theorem plen_s (lo hi fb sb : Nat) (mb : Nat → Nat) (n : Nat) (S : Nat → List Off) (V : World) (hF : Fl V lo hi fb sb mb n S) (hL : smL S n < 9223372036854775808) :
    Calls Try.prog 15 #[.pointer (some ⟨fb, 0, none⟩)] V fun e w' => e = .returned (.int .i64 ((smL S n : Nat) : Int)) ∧ Below V.heap.size V w' := by
  go_enter Try.func15, Try.ntmps15
  refine wo_ 27 [(0, .pointer (some ⟨fb, 0, none⟩))] ?_
  rintro a A ⟨t0, -⟩
  have BW : Below V.heap.size V V := Below.refl _ _
  have BB : Below V.heap.size V V := Below.refl _ _
  refine wp_seq ?_
  refine wi_ A (h1_ t0) (rf_ [] (h1_ t0) ?_)
  rintro a A - ⟨t0, -⟩
  refine wp_seq ?_
  refine wp_seq ?_
  refine wi_ A (h1_ t0) (rc_ 1 (pmade_s lo hi fb sb mb n S V (hF.on BB)) (cb_ fun X1 bQ => ?_))
  replace BB := BB.trans (bQ.mono BB.size)
  clear bQ
  refine rv_ 2 (.bool false) (fun a ee => execNot8 (b := true) rfl (ee _)) (rf_ [(7, .bool false)] (h1_ t0) ?_)
  rintro a A ⟨t7, -⟩ ⟨t0, -⟩
  refine wp_cond_false t7 ?_
  refine wp_skip ?_
  clear t7
  refine wp_seq ?_
  refine wi_ A (h1_ t0) (rf_ [(3, .int .i64 ((0 : Nat) : Int))] (h1_ t0) ?_)
  rintro a A ⟨t3, -⟩ ⟨t0, -⟩
  refine wp_seq ?_
  refine wp_seq ?_
  refine wi_ A (h2_ t0 t3) (rv_ 1 (.pointer (some ⟨fb, 0, none⟩)) (fun a ee => execNilC rfl (ee _)) (rv_ 2 (.pointer (some ⟨fb, 0, none⟩)) (fun a ee => execFldF0 rfl (ee _)) (rv_ 3 (.slice (some ⟨sb, 0, none⟩) n n) (fun a ee => execLdSs rfl (ee _) (cell_lk0 (hF.on BB).f rfl)) (rv_ 4 (.int .i64 ((n : Nat) : Int)) (fun a ee => execLenSs (len := n) rfl (ee _) ⟨_, _, rfl⟩) (rf_ [(12, .int .i64 ((n : Nat) : Int)), (13, .int .i64 ((0 : Nat) : Int))] (h2_ t0 t3) ?_)))))
  rintro a A ⟨t12, t13, -⟩ ⟨t0, t3, -⟩
  refine wp_block ?_
  refine wp_loop (fun a W => ∃ (i : Nat), i ≤ n ∧ (a.tmps.size = 27 ∧ a.defers = []) ∧ a.eval (.tmp 0) = .pointer (some ⟨fb, 0, none⟩) ∧ a.eval (.tmp 3) = .int .i64 ((smL S i : Nat) : Int) ∧ a.eval (.tmp 12) = .int .i64 ((n : Nat) : Int) ∧ a.eval (.tmp 13) = .int .i64 ((i : Nat) : Int) ∧ Below V.heap.size V W) (fun a _ => n - (intOf (a.eval (.tmp 13))).toNat) ⟨0, Nat.zero_le _, A, t0, t3, t12, t13, BB⟩ ?_
  clear A t0 t3 t12 t13 BB a
  rintro a XL5 ⟨i, hi, A, t0, t3, t12, t13, BB⟩
  have esi := t13
  refine wp_seq ?_
  refine wi_ A (h4_ t0 t3 t12 t13) (rv_ 0 (.bool (decide (i < n))) (fun a ee => execLtW (p := i) (q := n) rfl (ee _) (ee _)) (rf_ [(14, .bool (decide (i < n)))] (h4_ t0 t3 t12 t13) ?_))
  rintro a A ⟨t14, -⟩ ⟨t0, t3, t12, t13, -⟩
  refine wp_seq ?_
  by_cases lti : i < n
  · rw [decide_eq_true lti] at t14
    refine wp_cond_true t14 ?_
    refine wp_skip ?_
    clear t14
    refine wp_seq ?_
    refine wp_block ?_
    have hn64 := hF.n1.2
    have hs1 := sm_mono S (show i + 1 ≤ n from lti)
    have hs2 : smL S (i + 1) = smL S i + (S i).length := rfl
    refine wp_seq ?_
    refine wi_ A (h4_ t0 t3 t12 t13) (rf_ [(4, .int .i64 ((i : Nat) : Int))] (h4_ t0 t3 t12 t13) ?_)
    rintro a A ⟨t4, -⟩ ⟨t0, t3, t12, t13, -⟩
    refine wi_ A (h5_ t0 t3 t12 t13 t4) (rv_ 2 (.pointer (some ⟨fb, 0, none⟩)) (fun a ee => execNilC rfl (ee _)) (rv_ 3 (.pointer (some ⟨fb, 0, none⟩)) (fun a ee => execFldF0 rfl (ee _)) (rv_ 4 (.slice (some ⟨sb, 0, none⟩) n n) (fun a ee => execLdSs rfl (ee _) (cell_lk0 (hF.on BB).f rfl)) (rv_ 6 (.pointer (some ⟨sb, i * 3, none⟩)) (fun a ee => execIdxSs (k := i) rfl (ee _) (ee _) lti) (rc_ 7 (psize sb (i * 3) (mb i) _ _ XL5 (hF.on BB).s (shA_at _ lti).1 (shA_at _ lti).2.2 ((hF.on BB).m _ lti)) (cb_ fun X7 bQ => ?_))))))
    replace BB := BB.trans (bQ.mono BB.size)
    clear bQ
    refine rv_ 8 (.int .i64 ((smL S i + (S i).length : Nat) : Int)) (fun a ee => execAd8 (p := smL S i) (q := (S i).length) rfl (ee _) (ee _) (by omega)) (rf_ [(3, .int .i64 ((smL S i + (S i).length : Nat) : Int))] (h3_ t0 t12 t13) ?_)
    rintro a A ⟨t3, -⟩ ⟨t0, t12, t13, -⟩
    refine wi_ A (h4_ t0 t3 t12 t13) (rv_ 0 (.int .i64 ((i + 1 : Nat) : Int)) (fun a ee => execAd8 (p := i) (q := 1) rfl (ee _) rfl (by omega)) (rf_ [(13, .int .i64 ((i + 1 : Nat) : Int))] (h3_ t0 t3 t12) ?_))
    rintro a A ⟨t13, -⟩ ⟨t0, t3, t12, -⟩
    exact ⟨⟨i + 1, lti, A, t0, t3, t12, t13, BB⟩, by show n - (intOf (a.eval (.tmp 13))).toNat < n - (intOf (Act.eval _ (.tmp 13))).toNat; rw [t13, esi]; show n - (i + 1) < n - i; omega⟩
  · rw [decide_eq_false lti] at t14
    refine wp_cond_false t14 ?_
    refine wp_exit ?_
    first | with_reducible refine exit_in ?_ | with_reducible refine exit_then (exit_in ?_) | with_reducible refine exit_then (exit_then (exit_in ?_)) | refine exit_in ?_ | refine exit_then (exit_in ?_) | refine exit_then (exit_then (exit_in ?_))
    clear t14 esi
    have ein : i = n := by omega
    rw [ein] at t3
    refine wp_seq ?_
    refine wi_ A (h4_ t0 t3 t12 t13) (rg_ [(2, .int .i64 ((smL S n : Nat) : Int))] ?_)
    rintro a A ⟨t2, -⟩
    refine wp_ret ?_
    refine bodyPost_ret (results_tmp rfl _ _ _) A.2 ⟨?_, BB⟩
    show Ending.returned (a.eval (.tmp 2)) = _
    rw [t2]
set_option maxRecDepth 100000 in
set_option maxHeartbeats 4000000 in
/-- The program's Len of nil. -/
theorem plen_n (V : World) :
    Calls Try.prog 15 #[.pointer none] V fun e w' => e = .returned (.int .i64 ((0 : Nat) : Int)) ∧ Below V.heap.size V w' := by
  go_enter Try.func15, Try.ntmps15
  refine wo_ 27 [(0, .pointer none)] ?_
  rintro a A ⟨t0, -⟩
  have BW : Below V.heap.size V V := Below.refl _ _
  have BB : Below V.heap.size V V := Below.refl _ _
  refine wp_seq ?_
  refine wi_ A (h1_ t0) (rf_ [] (h1_ t0) ?_)
  rintro a A - ⟨t0, -⟩
  refine wp_seq ?_
  refine wp_seq ?_
  refine wi_ A (h1_ t0) (rc_ 1 (pmade_n V) (cb_ fun X1 bQ => ?_))
  replace BB := BB.trans (bQ.mono BB.size)
  clear bQ
  refine rv_ 2 (.bool true) (fun a ee => execNot8 (b := false) rfl (ee _)) (rf_ [(7, .bool true)] (h1_ t0) ?_)
  rintro a A ⟨t7, -⟩ ⟨t0, -⟩
  refine wp_cond_true t7 ?_
  clear t7
  refine wp_seq ?_
  refine wi_ A (h1_ t0) (rg_ [(2, .int .i64 ((0 : Nat) : Int))] ?_)
  rintro a A ⟨t2, -⟩
  refine wp_ret ?_
  repeat (first | with_reducible refine ret_in ?_ | with_reducible refine ret_then ?_)
  refine bodyPost_ret (results_tmp rfl _ _ _) A.2 ⟨?_, BB⟩
  show Ending.returned (a.eval (.tmp 2)) = _
  rw [t2]
set_option maxRecDepth 100000 in
set_option maxHeartbeats 4000000 in
/-- The program's Offer. -/
theorem poff_s (lo hi fb sb : Nat) (mb : Nat → Nat) (n : Nat) (S : Nat → List Off) (f : Nat → Nat) (z : Int) (V : World) (hF : Fl V lo hi fb sb mb n S) (hf : ∀ i, i < 16 → f i < 256) :
    Calls Try.prog 12 #[.pointer (some ⟨fb, 0, none⟩), .agg (bA 16 f), .int .i64 z] V fun e w' => e = .returned (.tuple #[]) ∧ (((∀ y, fnd (S (tv f 8 % n)) (tv f 16) = some y → z < y) ∧ MP w' (mb (tv f 8 % n)) (putM (S (tv f 8 % n)) f z) ∧ V.grownBy w' (some (mb (tv f 8 % n)))) ∨ ((∃ y, fnd (S (tv f 8 % n)) (tv f 16) = some y ∧ ¬ z < y) ∧ Below V.heap.size V w')) := by
  go_enter Try.func12, Try.ntmps12
  have hk : tv f 8 % n < n := Nat.mod_lt _ hF.n1.1
  refine wo_ 15 [(0, .pointer (some ⟨fb, 0, none⟩)), (1, .agg (bA 16 f)), (2, .int .i64 z)] ?_
  rintro a A ⟨t0, t1, t2, -⟩
  have BW : Below V.heap.size V V := Below.refl _ _
  refine wp_seq ?_
  obtain ⟨g4, egg4⟩ : ∃ z_ : Nat, V.heap.size = z_ := ⟨_, rfl⟩
  refine wi_ A (h3_ t0 t1 t2) (rs_ 0 (fun a ee => ?_))
  refine stepV rfl rfl (execBox16 rfl (ee _)) ⟨.pointer (some ⟨g4, 0, none⟩), ⟨_, rfl, by subst egg4; rfl⟩, fun X0 hX => ?_⟩
  have bQ : Below V.heap.size V X0 := by subst hX egg4; exact (belNew V _)
  have Fg4 : (X0.heap[g4]? = some (.cells (bA 16 f) 31)) := by subst hX egg4; exact heapNew V _
  have Fgeg4 : (V.heap.size ≤ g4) := by subst hX egg4; exact ((Below.refl V.heap.size V)).size
  have bX := bQ
  clear bQ hX egg4 ee a
  refine rf_ [(4, .pointer (some ⟨g4, 0, none⟩))] (h2_ t0 t2) ?_
  rintro a A ⟨t4, -⟩ ⟨t0, t2, -⟩
  replace hF := (hF.on bX)
  have ZX0 := bX.size
  replace BW := BW.trans (bX.mono BW.size)
  clear bX
  have BB : Below X0.heap.size X0 X0 := Below.refl _ _
  refine wp_seq ?_
  refine wp_seq ?_
  refine wi_ A (h3_ t0 t2 t4) (rc_ 1 (pmade_s lo hi fb sb mb n S X0 (hF.on BB)) (cb_ fun X1 bQ => ?_))
  replace BB := BB.trans (bQ.mono BB.size)
  clear bQ
  refine rv_ 2 (.bool false) (fun a ee => execNot8 (b := true) rfl (ee _)) (rf_ [(8, .bool false)] (h3_ t0 t2 t4) ?_)
  rintro a A ⟨t8, -⟩ ⟨t0, t2, t4, -⟩
  refine wp_cond_false t8 ?_
  refine wp_skip ?_
  clear t8
  refine wj_ [0, 1, 3, 4, 2, 5] [2, 5] [1, 3] [5] A (h3_ t0 t2 t4) fun X2 bD => ?_
  refine dv_ 1 (.agg (bA 16 f)) (fun a X ee hb => execLdT rfl (ee _) (fun j_ hj_ => at16 (on9 (on9 Fg4 BB) hb) hj_)) (dv_ 3 (.agg (bA 16 f)) (fun a X ee hb => execLdT rfl (ee _) (fun j_ hj_ => at16 (on9 (on9 Fg4 BB) hb) hj_)) (dc_ 2 (pof lo hi fb sb mb n S f X2 ((hF.on BB).on bD) hf) (cb_ fun X3 bQ => ?_)))
  have bD3 := bD.trans (bQ.mono bD.size)
  refine ⟨Or.inr bD3, ?_⟩
  have hF3 := (hF.on BB).on bD3
  refine dc_ 5 (poffer sb (tv f 8 % n * 3) (mb (tv f 8 % n)) _ _ f z X3 hF3.s (shA_at _ hk).1 (shA_at _ hk).2.2 (hF3.m _ hk) hf) fun e w2 hh => ?_
  obtain ⟨he, hh⟩ := hh
  refine ⟨_, he, Or.inl rfl, ?_⟩
  refine dy_ [] ?_
  rintro a A -
  have b3 := BW.trans ((BB.trans (bD3.mono BB.size)).mono BW.size)
  refine bodyPost_end (results_none rfl _ _ _) A.2 ⟨rfl, ?_⟩
  rcases hh with ⟨h1, h2, h3⟩ | ⟨h1, h2⟩
  · exact Or.inl ⟨h1, h2, below_gr b3 h3⟩
  · exact Or.inr ⟨h1, b3.trans (h2.mono b3.size)⟩
set_option maxRecDepth 100000 in
set_option maxHeartbeats 4000000 in
/-- The program's Offer of nil. -/
theorem poff_n (f : Nat → Nat) (z : Int) (V : World) :
    Calls Try.prog 12 #[.pointer none, .agg (bA 16 f), .int .i64 z] V fun e w' => e = .returned (.tuple #[]) ∧ Below V.heap.size V w' := by
  go_enter Try.func12, Try.ntmps12
  refine wo_ 15 [(0, .pointer none), (1, .agg (bA 16 f)), (2, .int .i64 z)] ?_
  rintro a A ⟨t0, t1, t2, -⟩
  have BW : Below V.heap.size V V := Below.refl _ _
  refine wp_seq ?_
  obtain ⟨g4, egg4⟩ : ∃ z_ : Nat, V.heap.size = z_ := ⟨_, rfl⟩
  refine wi_ A (h3_ t0 t1 t2) (rs_ 0 (fun a ee => ?_))
  refine stepV rfl rfl (execBox16 rfl (ee _)) ⟨.pointer (some ⟨g4, 0, none⟩), ⟨_, rfl, by subst egg4; rfl⟩, fun X0 hX => ?_⟩
  have bQ : Below V.heap.size V X0 := by subst hX egg4; exact (belNew V _)
  have Fg4 : (X0.heap[g4]? = some (.cells (bA 16 f) 31)) := by subst hX egg4; exact heapNew V _
  have Fgeg4 : (V.heap.size ≤ g4) := by subst hX egg4; exact ((Below.refl V.heap.size V)).size
  have bX := bQ
  clear bQ hX egg4 ee a
  refine rf_ [(4, .pointer (some ⟨g4, 0, none⟩))] (h2_ t0 t2) ?_
  rintro a A ⟨t4, -⟩ ⟨t0, t2, -⟩
  have ZX0 := bX.size
  replace BW := BW.trans (bX.mono BW.size)
  clear bX
  have BB : Below X0.heap.size X0 X0 := Below.refl _ _
  refine wp_seq ?_
  refine wp_seq ?_
  refine wi_ A (h3_ t0 t2 t4) (rc_ 1 (pmade_n X0) (cb_ fun X1 bQ => ?_))
  replace BB := BB.trans (bQ.mono BB.size)
  clear bQ
  refine rv_ 2 (.bool true) (fun a ee => execNot8 (b := false) rfl (ee _)) (rf_ [(8, .bool true)] (h3_ t0 t2 t4) ?_)
  rintro a A ⟨t8, -⟩ ⟨t0, t2, t4, -⟩
  have BW2 := BW.trans (BB.mono BW.size)
  refine wp_cond_true t8 ?_
  refine wp_ret ?_
  repeat (first | with_reducible refine ret_in ?_ | with_reducible refine ret_then ?_)
  exact bodyPost_ret (results_none rfl _ _ _) A.2 ⟨rfl, BW2⟩
/-- Lowest, by what was offered. -/
theorem plow17 (lo hi : Nat) (v : Value) (o : Nat → Off) (k : Nat) (f : Nat → Nat) (V : World) (h : Flr V lo hi v o k) (hf : ∀ i, i < 16 → f i < 256) : Calls Try.prog 13 #[v, .agg (bA 16 f)] V fun e w' => e = .returned (.tuple #[.int .i64 ((lwO o k (tv f 16)).getD 0), .bool (lwO o k (tv f 16)).isSome]) ∧ Below V.heap.size V w' := by
  rcases h with ⟨rfl, rfl⟩ | ⟨fb, sb, mb, n, S, rfl, hF, hI⟩
  · exact plow_n f V
  · have e : tv f 8 % n = shd n (tv f 16) := by unfold shd; rw [tv_8 hf]
    have q := plow_s lo hi fb sb mb n S f V hF hf
    rw [e, hI.at hF.n1.1] at q
    exact q
theorem plen17 (lo hi : Nat) (v : Value) (o : Nat → Off) (k : Nat) (V : World) (h : Flr V lo hi v o k) (hk : k < 9223372036854775808) : Calls Try.prog 15 #[v] V fun e w' => e = .returned (.int .i64 ((cnO o k : Nat) : Int)) ∧ Below V.heap.size V w' := by
  rcases h with ⟨rfl, rfl⟩ | ⟨fb, sb, mb, n, S, rfl, hF, hI⟩
  · exact plen_n V
  · have := cn_le o k
    have q := plen_s lo hi fb sb mb n S V hF (by rw [hI.ln]; omega)
    rw [hI.ln] at q
    exact q
/-- Offer: the filter has been offered one more; no block but one map of it has changed. -/
theorem poff17 (lo hi : Nat) (v : Value) (o : Nat → Off) (k : Nat) (V : World) (h : Flr V lo hi v o k) (hf : ∀ i, i < 16 → (o k).1 i < 256) : Calls Try.prog 12 #[v, .agg (bA 16 (o k).1), .int .i64 (o k).2] V fun e w' =>
    e = .returned (.tuple #[]) ∧ (v ≠ .pointer none → Flr w' lo hi v o (k + 1)) ∧ (v = .pointer none → k = 0) ∧ (Below V.heap.size V w' ∨ ∃ b es clock, lo ≤ b ∧ b < hi ∧ V.heap[b]? = some (.map es clock) ∧ V.grownBy w' (some b)) := by
  rcases h with ⟨rfl, rfl⟩ | ⟨fb, sb, mb, n, S, rfl, hF, hI⟩
  · exact (poff_n _ _ V).mono fun e w' ⟨h1, h2⟩ => ⟨h1, fun q => absurd rfl q, fun _ => rfl, Or.inl h2⟩
  · have ee : tv (o k).1 8 % n = shd n (tv (o k).1 16) := by unfold shd; rw [tv_8 hf]
    have hs := shd_lt (n := n) hF.n1.1 (tv (o k).1 16)
    have q := poff_s lo hi fb sb mb n S (o k).1 (o k).2 V hF hf
    rw [ee, hI.at hF.n1.1] at q
    refine q.mono fun e w' ⟨h1, h2⟩ => ⟨h1, fun _ => ?_, (fun c => by cases c), ?_⟩
    · rcases h2 with ⟨h2, h3, h4⟩ | ⟨⟨y, h2, h3⟩, h4⟩
      · refine Or.inr ⟨fb, sb, mb, n, _, rfl, ?_, hI.put hF.n1.1 h2⟩
        have hm := hF.m _ hs
        refine ⟨?_, ?_, fun i hi' => ?_, hF.inj, hF.rg, hF.n1⟩
        · rw [h4.block fb (Array.getElem?_eq_some_iff.1 hF.f).1 (fun c => mp_ne hm hF.f (Option.some.inj c).symm)]; exact hF.f
        · rw [h4.block sb (Array.getElem?_eq_some_iff.1 hF.s).1 (fun c => mp_ne hm hF.s (Option.some.inj c).symm)]; exact hF.s
        · by_cases c : i = shd n (tv (o k).1 16)
          · subst c
            rw [upS_at]
            exact h3
          · rw [upS_ne _ _ c]
            exact (hF.m i hi').keep (h4.block _ (hF.m i hi').lt (fun w => c (hF.inj i _ hi' hs (Option.some.inj w))))
      · exact Or.inr ⟨fb, sb, mb, n, S, rfl, hF.on h4, hI.same h2 h3⟩
    · rcases h2 with ⟨_, _, h4⟩ | ⟨_, h4⟩
      · obtain ⟨es, clock, hb, -⟩ := (hF.m _ hs).map
        exact Or.inr ⟨_, es, clock, (hF.rg.2.2.2.2 _ hs).1, (hF.rg.2.2.2.2 _ hs).2, hb, h4⟩
      · exact Or.inl h4
end Go.Proofs.Ytjoffdaknacbpaa.Sha
