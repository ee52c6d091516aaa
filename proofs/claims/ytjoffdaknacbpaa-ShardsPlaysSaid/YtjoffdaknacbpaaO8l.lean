import Derived.Test.YtjoffdaknacbpaaO8k
namespace Go.Proofs.Ytjoffdaknacbpaa.Sha
open Go.RowKit Gf8 Aes By8 Cel Cf Win Drw
/- ShardsPlays. Written by tools/mkO8l.py. -/

theorem cell_sp {W : World} {g : Nat} {k w z : Int} {f : Nat → Nat} {t : TypeId} (h : W.heap[g]? = some (.cells (spC k w f z) t)) : W.cell? ⟨g, 0, none⟩ = some (.int .i64 k) ∧ W.cell? ⟨g, 0 + 1, none⟩ = some (.int .i64 w) ∧ (∀ j, j < 16 → W.cell? ⟨g, 0 + 2 + j, none⟩ = some (.int .u8 ((f j : Nat) : Int))) ∧ W.cell? ⟨g, 0 + 18, none⟩ = some (.int .i64 z) := by
  obtain ⟨h1, h2, h3, h4⟩ := spL_at k w f z
  have q : ∀ i : Nat, (spC k w f z)[i]? = (spL k w f z)[i]? := fun i => by simp [spC]
  refine ⟨cell_lk0 h (by rw [q]; exact h1), cell_lk0 h (by rw [q]; exact h2), fun j hj => cell_lk0 h (by rw [q, Nat.zero_add]; exact h3 j hj), cell_lk0 h (by rw [q]; exact h4)⟩
set_option maxRecDepth 100000 in
set_option maxHeartbeats 4000000 in
/-- ShardsPlays. -/
theorem plays17 (a0 b0 : Int) (sv : Value) (n : Nat) (kd wh ix : Nat → Int) (tg : Nat → Nat → Nat) (V : World) (hP : Sps V sv n kd wh ix tg) :
    Calls Try.prog 3 #[.int .i64 a0, .int .i64 b0, sv] V fun e w' => e = .returned (.bool true) ∧ Below V.heap.size V w' := by
  go_enter Try.func3, Try.ntmps3
  refine wo_ 201 [(0, .int .i64 a0), (1, .int .i64 b0), (2, sv)] ?_
  rintro a A ⟨t0, t1, t2, -⟩
  have BW : Below V.heap.size V V := Below.refl _ _
  have BB : Below V.heap.size V V := Below.refl _ _
  refine wp_seq ?_
  refine wi_ A (h3_ t0 t1 t2) (rf_ [] (h3_ t0 t1 t2) ?_)
  rintro a A - ⟨t0, t1, t2, -⟩
  refine wp_seq ?_
  refine wp_seq ?_
  refine wi_ A (h3_ t0 t1 t2) (rc_ 0 (awake17 V) (cb_ fun X1 bQ => ?_))
  replace BB := BB.trans (bQ.mono BB.size)
  clear bQ
  refine rv_ 1 (.bool false) (fun a ee => execNot8 (b := true) rfl (ee _)) (rf_ [(27, .bool false)] (h3_ t0 t1 t2) ?_)
  rintro a A ⟨t27, -⟩ ⟨t0, t1, t2, -⟩
  refine wp_cond_false t27 ?_
  refine wp_skip ?_
  clear t27
  refine wp_seq ?_
  refine wp_seq ?_
  refine wi_ A (h3_ t0 t1 t2) (rv_ 1 (.int .i64 ((n : Nat) : Int)) (fun a ee => execLenXs (len := n) rfl (ee _) hP.shp) (rv_ 2 (.bool (decide (2000 < n))) (fun a ee => execGtN (p := n) (q := 2000) rfl (ee _) rfl) (rf_ [(30, .bool (decide (2000 < n)))] (h3_ t0 t1 t2) ?_)))
  rintro a A ⟨t30, -⟩ ⟨t0, t1, t2, -⟩
  by_cases hbig : 2000 < n
  · rw [decide_eq_true hbig] at t30
    refine wp_cond_true t30 ?_
    clear t30
    refine wp_seq ?_
    refine wi_ A (h3_ t0 t1 t2) (rg_ [(6, .bool true)] ?_)
    rintro a A ⟨t6, -⟩
    refine wp_ret ?_
    repeat (first | with_reducible refine ret_in ?_ | with_reducible refine ret_then ?_)
    refine bodyPost_ret (results_tmp rfl _ _ _) A.2 ⟨?_, BB⟩
    show Ending.returned (a.eval (.tmp 6)) = _
    rw [t6]
  rw [decide_eq_false hbig] at t30
  refine wp_cond_false t30 ?_
  refine wp_skip ?_
  clear t30
  refine wp_seq ?_
  refine wi_ A (h3_ t0 t1 t2) (rc_ 1 (pnew18 a0 (fun _ => (fun _ => 0, 0)) X1) fun e X5 hh => ?_)
  obtain ⟨⟨v0, l0, h0, he, hl, hh2, hk, hs_⟩, hb⟩ := hh
  refine ⟨_, he, ?_⟩
  have bQ : Below X1.heap.size X1 X5 := hb
  have FA0 : (Flr X5 l0 h0 v0 (fun _ => (fun _ => 0, 0)) 0) := hk
  have FAh0 : (h0 ≤ X5.heap.size) := hh2
  have FAl0 : (V.heap.size ≤ l0) := Nat.le_trans (BB).size hl
  have FAs0 : ((v0 = .pointer none ∧ ¬ fitS a0) ∨ ∃ fb, v0 = .pointer (some ⟨fb, 0, none⟩) ∧ fitS a0) := hs_
  replace BB := BB.trans (bQ.mono BB.size)
  clear bQ
  refine rf_ [(7, v0), (8, .int .i64 ((nwE a0 : Nat) : Int))] (h3_ t0 t1 t2) ?_
  rintro a A ⟨t7, t8, -⟩ ⟨t0, t1, t2, -⟩
  refine wp_seq ?_
  refine wi_ A (h5_ t0 t1 t2 t7 t8) (rc_ 1 (pnew18 b0 (fun _ => (fun _ => 0, 0)) X5) fun e X6 hh => ?_)
  obtain ⟨⟨v1, l1, h1, he, hl, hh2, hk, hs_⟩, hb⟩ := hh
  refine ⟨_, he, ?_⟩
  have bQ : Below X5.heap.size X5 X6 := hb
  have FA1 : (Flr X6 l1 h1 v1 (fun _ => (fun _ => 0, 0)) 0) := hk
  have FAh1 : (h1 ≤ X6.heap.size) := hh2
  have FAl1 : (V.heap.size ≤ l1) := Nat.le_trans (BB).size hl
  have FAs1 : ((v1 = .pointer none ∧ ¬ fitS b0) ∨ ∃ fb, v1 = .pointer (some ⟨fb, 0, none⟩) ∧ fitS b0) := hs_
  have FAd : (h0 ≤ l1) := Nat.le_trans FAh0 hl
  replace FA0 := (FA0.on bQ)
  replace FAh0 := (Nat.le_trans FAh0 bQ.size)
  replace BB := BB.trans (bQ.mono BB.size)
  clear bQ
  refine rf_ [(9, v1), (10, .int .i64 ((nwE b0 : Nat) : Int))] (h5_ t0 t1 t2 t7 t8) ?_
  rintro a A ⟨t9, t10, -⟩ ⟨t0, t1, t2, t7, t8, -⟩
  refine wp_seq ?_
  refine wp_seq ?_
  refine wi_ A (h7_ t0 t1 t2 t7 t8 t9 t10) (rc_ 2 (rnew17 a0 X6) (cs_ (rv_ 3 (.bool false) (fun a ee => execDec (exIneq3 (p := ((nwE a0 : Nat) : Int)) (q := ((nwE a0 : Nat) : Int)) rfl (ee _) (ee _)) (decide_eq_false (fun h => h rfl))) (rc_ 7 (rnew17 b0 X6) (cs_ (rv_ 8 (.bool false) (fun a ee => execDec (exIneq3 (p := ((nwE b0 : Nat) : Int)) (q := ((nwE b0 : Nat) : Int)) rfl (ee _) (ee _)) (decide_eq_false (fun h => h rfl))) (rv_ 12 (.bool (decide (¬ fitS a0))) (fun a ee => execPeqF (s := a0) rfl (ee _) FAs0) (rv_ 14 (.bool (decide (¬ fitS a0))) (fun a ee => execErF (s := a0) rfl (ee _)) (rv_ 15 (.bool false) (fun a ee => execNeBB (b := (decide (¬ fitS a0))) rfl (ee _) (ee _)) (rv_ 19 (.bool (decide (¬ fitS b0))) (fun a ee => execPeqF (s := b0) rfl (ee _) FAs1) (rv_ 21 (.bool (decide (¬ fitS b0))) (fun a ee => execErF (s := b0) rfl (ee _)) (rv_ 22 (.bool false) (fun a ee => execNeBB (b := (decide (¬ fitS b0))) rfl (ee _) (ee _)) (rf_ [(64, .bool false)] (h3_ t2 t7 t9) ?_)))))))))))))
  rintro a A ⟨t64, -⟩ ⟨t2, t7, t9, -⟩
  refine wp_cond_false t64 ?_
  refine wp_skip ?_
  clear t64
  have hv0 : ∃ p, v0 = .pointer p := by rcases FAs0 with ⟨h, _⟩ | ⟨fb, h, _⟩ <;> exact ⟨_, h⟩
  have hv1 : ∃ p, v1 = .pointer p := by rcases FAs1 with ⟨h, _⟩ | ⟨fb, h, _⟩ <;> exact ⟨_, h⟩
  refine wp_seq ?_
  obtain ⟨fsb, egfsb⟩ : ∃ z_ : Nat, X6.heap.size = z_ := ⟨_, rfl⟩
  refine wi_ A (h3_ t2 t7 t9) (rs_ 2 (fun a ee => ?_))
  refine stepV rfl rfl (execBsF rfl (ee _) (ee _) rfl hv0 hv1) ⟨.slice (some ⟨fsb, 0, none⟩) 3 3, ⟨_, rfl, by subst egfsb; rfl⟩, fun X9 hX => ?_⟩
  have bQ : Below X6.heap.size X6 X9 := by subst hX egfsb; exact (belNew X6 _)
  have FF : (X9.heap[fsb]? = some (.cells (c3 (t3 v0 v1 (.pointer none))) 24)) := by subst hX egfsb; exact heapNew X6 _
  have FFg : (V.heap.size ≤ fsb) := by subst hX egfsb; exact (BB).size
  replace FA0 := (FA0.on bQ)
  replace FAh0 := (Nat.le_trans FAh0 bQ.size)
  replace FA1 := (FA1.on bQ)
  replace FAh1 := (Nat.le_trans FAh1 bQ.size)
  replace BB := BB.trans (bQ.mono BB.size)
  clear bQ hX egfsb ee a
  refine rf_ [(11, .slice (some ⟨fsb, 0, none⟩) 3 3)] (h1_ t2) ?_
  rintro a A ⟨t11, -⟩ ⟨t2, -⟩
  refine wp_seq ?_
  obtain ⟨bkb, egbkb⟩ : ∃ z_ : Nat, X9.heap.size = z_ := ⟨_, rfl⟩
  refine wi_ A (h2_ t2 t11) (rs_ 0 (fun a ee => ?_))
  refine stepV rfl rfl (execMkOO rfl rfl rfl) ⟨.slice (some ⟨bkb, 0, none⟩) 3 3, ⟨_, rfl, by subst egbkb; rfl⟩, fun XB hX => ?_⟩
  have bQ : Below X9.heap.size X9 XB := by subst hX egbkb; exact (belNew X9 _)
  have FB : (XB.heap[bkb]? = some (.cells (c3 fun _ => .slice none 0 0) 36)) := by subst hX egbkb; exact heapNew X9 _
  have FBg : (V.heap.size ≤ bkb) := by subst hX egbkb; exact (BB).size
  replace FA0 := (FA0.on bQ)
  replace FAh0 := (Nat.le_trans FAh0 bQ.size)
  replace FA1 := (FA1.on bQ)
  replace FAh1 := (Nat.le_trans FAh1 bQ.size)
  replace FF := (on9 FF bQ)
  replace BB := BB.trans (bQ.mono BB.size)
  clear bQ hX egbkb ee a
  refine rf_ [(12, .slice (some ⟨bkb, 0, none⟩) 3 3)] (h2_ t2 t11) ?_
  rintro a A ⟨t12, -⟩ ⟨t2, t11, -⟩
  obtain ⟨lw, hw, v, r0, o0, FP⟩ : ∃ lw hw v r o, PlG XB V.heap.size fsb bkb lw hw v r r o (fun _ => 0) (fun _ => 0) := ⟨_, _, _, _, _, PlG.begin BB.size FF FB FA0 FA1 FAl0 FAd FAh1 FAl1 FAh0 FFg FBg⟩
  clear FF FB FA0 FA1 FAh0 FAh1
  refine wp_seq ?_
  refine wp_seq ?_
  refine wi_ A (h3_ t2 t11 t12) (rf_ [(13, .int .i64 ((0 : Nat) : Int))] (h3_ t2 t11 t12) ?_)
  rintro a A ⟨t13, -⟩ ⟨t2, t11, t12, -⟩
  refine wp_block ?_
  refine wp_loop (fun a W => ∃ (i : Nat) (r : (Nat → Value)) (o : (Nat → Nat → Off)) (c : (Nat → Nat)), i ≤ n ∧ (∀ j, j < 3 → c j ≤ i) ∧ (a.tmps.size = 201 ∧ a.defers = []) ∧ a.eval (.tmp 2) = sv ∧ a.eval (.tmp 11) = .slice (some ⟨fsb, 0, none⟩) 3 3 ∧ a.eval (.tmp 12) = .slice (some ⟨bkb, 0, none⟩) 3 3 ∧ a.eval (.tmp 13) = .int .i64 ((i : Nat) : Int) ∧ Below V.heap.size V W ∧ (PlG W V.heap.size fsb bkb lw hw v r r o c c)) (fun a _ => n - (intOf (a.eval (.tmp 13))).toNat) ⟨0, r0, o0, (fun _ => 0), Nat.zero_le _, fun _ _ => Nat.le_refl _, A, t2, t11, t12, t13, BB, FP⟩ ?_
  clear A t2 t11 t12 t13 BB FP a
  rintro a XL12 ⟨i, r, o, c, hi, hc, A, t2, t11, t12, t13, BB, FP⟩
  have esi := t13
  refine wp_seq ?_
  refine wp_seq ?_
  refine wi_ A (h4_ t2 t11 t12 t13) (rv_ 2 (.int .i64 ((n : Nat) : Int)) (fun a ee => execLenXs (len := n) rfl (ee _) hP.shp) (rv_ 3 (.bool (decide (i < n))) (fun a ee => execLtW (p := i) (q := n) rfl (ee _) (ee _)) (rf_ [(72, .bool (decide (i < n)))] (h4_ t2 t11 t12 t13) ?_)))
  rintro a A ⟨t72, -⟩ ⟨t2, t11, t12, t13, -⟩
  by_cases lti : i < n
  · rw [decide_eq_true lti] at t72
    refine wp_cond_true t72 ?_
    refine wp_skip ?_
    clear t72
    refine wp_seq ?_
    refine wp_block ?_
    obtain ⟨pb, po, pc, ep_, hpb, hpc⟩ := hP.at (show 0 < n by omega)
    have cP : ∀ X, Below V.heap.size V X → X.rangeAt pb (po + i * 19) (spL (kd i) (wh i) (tg i) (ix i)) := fun X hX => range_on (hpc i lti) hX hpb
    have hby := hP.byt i lti
    refine wp_seq ?_
    obtain ⟨g14, egg14⟩ : ∃ z_ : Nat, XL12.heap.size = z_ := ⟨_, rfl⟩
    refine wi_ A (h4_ t2 t11 t12 t13) (rv_ 2 (.pointer (some ⟨pb, po + i * 19, none⟩)) (fun a ee => execIdxXs (k := i) rfl ((ee _).trans ep_) (ee _) lti) (rv_ 3 (.agg (spC (kd i) (wh i) (tg i) (ix i))) (fun a ee => execLdX rfl (ee _) (cP XL12 BB)) (rs_ 4 (fun a ee => ?_))))
    refine stepV rfl rfl (execAlX rfl) ⟨.pointer (some ⟨g14, 0, none⟩), ⟨_, rfl, by subst egg14; rfl⟩, fun X14_1 hX => ?_⟩
    have bQ : Below XL12.heap.size XL12 X14_1 := by subst hX egg14; exact (belNew XL12 _)
    have Fx0 : (X14_1.heap[g14]? = some (.cells (spC 0 0 (fun _ => 0) 0) 33)) := by subst hX egg14; exact heapNew XL12 _
    have Fxg : (V.heap.size ≤ g14) := by subst hX egg14; exact (BB).size
    replace FP := (FP.on bQ)
    replace BB := BB.trans (bQ.mono BB.size)
    clear bQ hX egg14 ee a
    refine rs_ 5 (fun a ee => ?_)
    refine stepS rfl rfl (execStX rfl (ee _) (ee _) Fx0) ⟨_, ⟨_, rfl, rfl⟩, fun X14 hX => ?_⟩
    obtain ⟨BB, Fx, FQ⟩ : Below V.heap.size V X14 ∧ (X14.heap[g14]? = some (.cells (spC (kd i) (wh i) (tg i) (ix i)) 33)) ∧ (PlG X14 V.heap.size fsb bkb lw hw v r r o c c) := by subst hX; exact ⟨below4 BB Fxg _, setRow_heap _ _ _ _ _ _ Fx0, FP.offT Fx0 rfl grR⟩
    clear FP Fx0 hX ee a
    refine rf_ [(14, .pointer (some ⟨g14, 0, none⟩))] (h4_ t2 t11 t12 t13) ?_
    rintro a A ⟨t14, -⟩ ⟨t2, t11, t12, t13, -⟩
    have FP := FQ
    clear FQ Fxg
    refine wp_seq ?_
    refine wi_ A (h5_ t2 t11 t12 t13 t14) (rv_ 0 (.pointer (some ⟨g14, 0 + 1, none⟩)) (fun a ee => execFldX1 rfl (ee _)) (rv_ 1 (.int .i64 (wh i)) (fun a ee => execLdI rfl (ee _) (cell_sp Fx).2.1) (rc_ 2 (place17 (wh i) 3 X14 (hP.num i lti).1 (hP.num i lti).2 (by omega) (by omega)) (cs_ (rf_ [(15, .int .i64 ((plc (wh i) 3 : Nat) : Int))] (h5_ t2 t11 t12 t13 t14) ?_)))))
    rintro a A ⟨t15, -⟩ ⟨t2, t11, t12, t13, t14, -⟩
    obtain ⟨k, ek⟩ : ∃ k, plc (wh i) 3 = k := ⟨_, rfl⟩
    have hk : k < 3 := by rw [← ek]; exact Nat.mod_lt _ (by omega)
    rw [ek] at t15
    refine wp_seq ?_
    refine wi_ A (h6_ t2 t11 t12 t13 t14 t15) (rv_ 0 (.pointer (some ⟨g14, 0, none⟩)) (fun a ee => execFldX0 rfl (ee _)) (rv_ 1 (.int .i64 (kd i)) (fun a ee => execLdI rfl (ee _) (cell_sp Fx).1) (rf_ [(83, .int .i64 (kd i))] (h6_ t2 t11 t12 t13 t14 t15) ?_)))
    rintro a A ⟨t83, -⟩ ⟨t2, t11, t12, t13, t14, t15, -⟩
    refine wp_block ?_
    refine wp_seq ?_
    by_cases hk0 : kd i = 0
    · refine wi_ A (h7_ t2 t11 t12 t13 t14 t15 t83) (rv_ 0 (.bool true) (fun a ee => execDec (exIeql3 (p := (kd i)) (q := 0) rfl (ee _) rfl) (decide_eq_true hk0)) (rf_ [(84, .bool true)] (h7_ t2 t11 t12 t13 t14 t15 t83) ?_))
      rintro a A ⟨t84, -⟩ ⟨t2, t11, t12, t13, t14, t15, t83, -⟩
      refine wp_cond_true t84 ?_
      clear t84
      rcases FP.fl k hk with ⟨en, -⟩ | ⟨fb, -, -, -, -, en, -⟩
      · refine wp_seq ?_
        refine wj_ [0, 1, 2, 3, 4, 5, 6, 7, 8] [8] [3, 5, 7] [] A (h7_ t2 t11 t12 t13 t14 t15 t83) (fun X18_0 bD => ?_)
        refine dw_ 2 (.pointer (some ⟨fsb, k, none⟩)) (fun a X ee => execIdxFs (k := k) rfl (ee _) (ee _) hk) (dv_ 3 (.pointer none) (fun a X ee hb => execLdFp rfl (ee _) ((cell_lk0 (FP.on hb).fs (c3_at _ hk)).trans (by rw [en]))) (dw_ 4 (.pointer (some ⟨g14, 0 + 2, none⟩)) (fun a X ee => execFldX2 rfl (ee _)) (dv_ 5 (.agg (bA 16 (tg i))) (fun a X ee hb => execLdT rfl (ee _) (cell_sp (on9 Fx hb)).2.2.1) (dw_ 6 (.pointer (some ⟨g14, 0 + 18, none⟩)) (fun a X ee => execFldX3 rfl (ee _)) (dv_ 7 (.int .i64 (ix i)) (fun a X ee hb => execLdI rfl (ee _) (cell_sp (on9 Fx hb)).2.2.2) (dc_ 8 (poff_n (tg i) (ix i) X18_0) (cb_ fun X18 bQ => ?_)))))))
        replace bD := bD.trans (bQ.mono bD.size)
        clear bQ
        refine ⟨Or.inr bD, ?_⟩
        refine dz_ [] (h5_ t2 t11 t12 t13 t15) ?_
        rintro a A - ⟨t2, t11, t12, t13, t15, -⟩
        replace Fx := (on9 Fx bD)
        replace FP := (FP.on bD)
        replace BB := BB.trans (bD.mono BB.size)
        clear bD
        refine wp_seq ?_
        refine wi_ A (h5_ t2 t11 t12 t13 t15) (rv_ 2 (.pointer (some ⟨fsb, k, none⟩)) (fun a ee => execIdxFs (k := k) rfl (ee _) (ee _) hk) (rv_ 3 (.pointer none) (fun a ee => execLdFp rfl (ee _) ((cell_lk0 FP.fs (c3_at _ hk)).trans (by rw [en]))) (rv_ 4 (.bool false) (fun a ee => execPneqn rfl (ee _)) (rf_ [(99, .bool false)] (h4_ t2 t11 t12 t13) ?_))))
        rintro a A ⟨t99, -⟩ ⟨t2, t11, t12, t13, -⟩
        refine wp_cond_false t99 ?_
        refine wp_skip ?_
        clear t99
        clear Fx
        have hcn : ∀ j, j < 3 → c j ≤ i + 1 := fun j hj => Nat.le_succ_of_le (hc j hj)
        refine wi_ A (h4_ t2 t11 t12 t13) (rv_ 1 (.int .i64 ((i + 1 : Nat) : Int)) (fun a ee => execAd8 (p := i) (q := 1) rfl (ee _) rfl (by omega)) (rf_ [(13, .int .i64 ((i + 1 : Nat) : Int))] (h3_ t2 t11 t12) ?_))
        rintro a A ⟨t13, -⟩ ⟨t2, t11, t12, -⟩
        exact ⟨⟨i + 1, r, o, c, lti, hcn, A, t2, t11, t12, t13, BB, FP⟩, by show n - (intOf (a.eval (.tmp 13))).toNat < n - (intOf (Act.eval _ (.tmp 13))).toNat; rw [t13, esi]; show n - (i + 1) < n - i; omega⟩
      · obtain ⟨o2, eo1, eo2⟩ : ∃ o2 : Nat → Nat → Off, o2 k (c k) = (tg i, ix i) ∧ ∀ j q, j ≠ k ∨ q ≠ c k → o2 j q = o j q := ⟨fun j q => if j = k ∧ q = c k then (tg i, ix i) else o j q, if_pos ⟨rfl, rfl⟩, fun j q h => if_neg (fun w => by rcases h with h | h; exact h w.1; exact h w.2)⟩
        have FP2 := FP.cg (p := o2) fun j hj q hq => (eo2 j q (by by_cases e : j = k; right; subst e; omega; left; exact e)).symm
        clear FP
        refine wp_seq ?_
        refine wj_ [0, 1, 2, 3, 4, 5, 6, 7, 8] [8] [3, 5, 7] [8] A (h7_ t2 t11 t12 t13 t14 t15 t83) (fun X18_0 bD => ?_)
        refine dw_ 2 (.pointer (some ⟨fsb, k, none⟩)) (fun a X ee => execIdxFs (k := k) rfl (ee _) (ee _) hk) (dv_ 3 (.pointer (some ⟨fb, 0, none⟩)) (fun a X ee hb => execLdFp rfl (ee _) ((cell_lk0 (FP2.on hb).fs (c3_at _ hk)).trans (by rw [en]))) (dw_ 4 (.pointer (some ⟨g14, 0 + 2, none⟩)) (fun a X ee => execFldX2 rfl (ee _)) (dv_ 5 (.agg (bA 16 (tg i))) (fun a X ee hb => execLdT rfl (ee _) (cell_sp (on9 Fx hb)).2.2.1) (dw_ 6 (.pointer (some ⟨g14, 0 + 18, none⟩)) (fun a X ee => execFldX3 rfl (ee _)) (dv_ 7 (.int .i64 (ix i)) (fun a X ee hb => execLdI rfl (ee _) (cell_sp (on9 Fx hb)).2.2.2) (dc_ 8 (poff18 (lw k) (hw k) (.pointer (some ⟨fb, 0, none⟩)) (o2 k) (c k) (tg i) (ix i) X18_0 (en ▸ (FP2.on bD).fl k hk) eo1 hby (by simp)) fun e X18 hh => ?_))))))
        obtain ⟨he, h1, h3⟩ := hh
        refine ⟨_, he, ?_⟩
        obtain ⟨BB, FP3, Fy⟩ : Below V.heap.size V X18 ∧ (PlG X18 V.heap.size fsb bkb lw hw v r r o2 (up c k (c k + 1)) c) ∧ (X18.heap[g14]? = some (.cells (spC (kd i) (wh i) (tg i) (ix i)) 33)) := ⟨offB (BB.trans (bD.mono BB.size)) ((FP2.on bD).gb.2.2 k hk) h3 rfl, (FP2.on bD).offer hk (en.symm ▸ h1) h3, off_keep h3 (on9 Fx bD)⟩
        clear bD FP2 Fx
        refine ⟨Or.inl rfl, ?_⟩
        refine dz_ [] (h6_ t2 t11 t12 t13 t14 t15) ?_
        rintro a A - ⟨t2, t11, t12, t13, t14, t15, -⟩
        refine wp_seq ?_
        refine wi_ A (h6_ t2 t11 t12 t13 t14 t15) (rv_ 2 (.pointer (some ⟨fsb, k, none⟩)) (fun a ee => execIdxFs (k := k) rfl (ee _) (ee _) hk) (rv_ 3 (.pointer (some ⟨fb, 0, none⟩)) (fun a ee => execLdFp rfl (ee _) ((cell_lk0 FP3.fs (c3_at _ hk)).trans (by rw [en]))) (rv_ 4 (.bool true) (fun a ee => execPneqs rfl (ee _)) (rf_ [(99, .bool true)] (h6_ t2 t11 t12 t13 t14 t15) ?_))))
        rintro a A ⟨t99, -⟩ ⟨t2, t11, t12, t13, t14, t15, -⟩
        refine wp_cond_true t99 ?_
        clear t99
        refine wj_ [0, 1, 2, 3, 4, 5, 6, 7, 8, 9, 10, 11, 12, 13, 14] [11, 12, 14] [5, 7, 9] [12, 14] A (h6_ t2 t11 t12 t13 t14 t15) (fun X20_0 bD => ?_)
        obtain ⟨gs, eggs⟩ : ∃ z_ : Nat, X20_0.heap.size = z_ := ⟨_, rfl⟩
        refine dw_ 4 (.pointer (some ⟨bkb, k, none⟩)) (fun a X ee => execIdxOO (k := k) rfl (ee _) (ee _) hk) (dv_ 5 ((r k)) (fun a X ee hb => execLdOs rfl (ee _) (cell_lk0 (FP3.on hb).bk (c3_at _ hk))) (dw_ 6 (.pointer (some ⟨g14, 0 + 2, none⟩)) (fun a X ee => execFldX2 rfl (ee _)) (dv_ 7 (.agg (bA 16 (tg i))) (fun a X ee hb => execLdT rfl (ee _) (cell_sp (on9 Fy hb)).2.2.1) (dw_ 8 (.pointer (some ⟨g14, 0 + 18, none⟩)) (fun a X ee => execFldX3 rfl (ee _)) (dv_ 9 (.int .i64 (ix i)) (fun a X ee hb => execLdI rfl (ee _) (cell_sp (on9 Fy hb)).2.2.2) (dw_ 10 (.agg (ofA (tg i) (ix i))) (fun a X ee => execBdO rfl (ee _) (ee _)) (ds_ 11 (fun a ee => ?_))))))))
        refine stepV rfl rfl (execBsO rfl (ee _)) ⟨.slice (some ⟨gs, 0, none⟩) 1 1, ⟨_, rfl, by subst eggs; rfl⟩, fun X20_1 hX => ?_⟩
        have bQ : Below X20_0.heap.size X20_0 X20_1 := by subst hX eggs; exact (belNew X20_0 _)
        have Fs : (X20_1.heap[gs]? = some (.cells (ofA (tg i) (ix i)) 38)) := by subst hX eggs; exact heapNew X20_0 _
        replace bD := bD.trans (bQ.mono bD.size)
        clear bQ hX eggs ee a
        refine ⟨Or.inr bD, ?_⟩
        refine ds_ 12 (fun a ee => ?_)
        refine stepAppO rfl rfl rfl (ee _) (ee _) ((FP3.on bD).rs.rows k hk) Fs eo1 (by have := hc k hk; omega) ((BB.trans (bD.mono BB.size))).size fun rn X20_2 own' pl' => ⟨_, ⟨_, rfl, rfl⟩, eqw ?_⟩
        obtain ⟨BB, FP4, Fsl⟩ : Below V.heap.size V X20_2 ∧ (PlG X20_2 V.heap.size fsb bkb lw hw v r (up r k rn) o2 (up c k (c k + 1)) (up c k (c k + 1))) ∧ (∃ g n c, rn = .slice g n c) := ⟨appB (BB.trans (bD.mono BB.size)) ((FP3.on bD).rs.rows k hk) pl', (FP3.on bD).app hk rfl own' pl' (by rw [eo1]; exact hby) rfl, own_sl own'⟩
        clear bD FP3 Fs Fy ee a
        refine ⟨Or.inl rfl, ?_⟩
        refine dw_ 13 (.pointer (some ⟨bkb, k, none⟩)) (fun a X ee => execIdxOO (k := k) rfl (ee _) (ee _) hk) (ds_ 14 (fun a ee => ?_))
        refine stepS rfl rfl (execStOs rfl (ee _) (ee _) Fsl (cell_lk0 FP4.bk (c3_at _ hk)) (frozen4 FP4.bk)) ⟨_, ⟨_, rfl, rfl⟩, fun X20 hX => ?_⟩
        obtain ⟨BB, FP5⟩ : Below V.heap.size V X20 ∧ (PlG X20 V.heap.size fsb bkb lw hw v (up r k rn) (up r k rn) o2 (up c k (c k + 1)) (up c k (c k + 1))) := by subst hX; exact ⟨(BB).setCell (p := ⟨bkb, k, none⟩) FP4.gb.2.1 _, FP4.store hk⟩
        clear FP4 hX ee a
        refine ⟨Or.inl rfl, ?_⟩
        refine dz_ [] (h4_ t2 t11 t12 t13) ?_
        rintro a A - ⟨t2, t11, t12, t13, -⟩
        have hcn : ∀ j, j < 3 → up c k (c k + 1) j ≤ i + 1 := fun j hj => by by_cases e : j = k; subst e; rw [up_at]; have := hc j hj; omega; rw [up_ne _ _ e]; have := hc j hj; omega
        refine wi_ A (h4_ t2 t11 t12 t13) (rv_ 1 (.int .i64 ((i + 1 : Nat) : Int)) (fun a ee => execAd8 (p := i) (q := 1) rfl (ee _) rfl (by omega)) (rf_ [(13, .int .i64 ((i + 1 : Nat) : Int))] (h3_ t2 t11 t12) ?_))
        rintro a A ⟨t13, -⟩ ⟨t2, t11, t12, -⟩
        exact ⟨⟨i + 1, up r k rn, o2, up c k (c k + 1), lti, hcn, A, t2, t11, t12, t13, BB, FP5⟩, by show n - (intOf (a.eval (.tmp 13))).toNat < n - (intOf (Act.eval _ (.tmp 13))).toNat; rw [t13, esi]; show n - (i + 1) < n - i; omega⟩
    by_cases hk1 : kd i = 1
    · refine wi_ A (h7_ t2 t11 t12 t13 t14 t15 t83) (rv_ 0 (.bool false) (fun a ee => execDec (exIeql3 (p := (kd i)) (q := 0) rfl (ee _) rfl) (decide_eq_false hk0)) (rf_ [(84, .bool false)] (h7_ t2 t11 t12 t13 t14 t15 t83) ?_))
      rintro a A ⟨t84, -⟩ ⟨t2, t11, t12, t13, t14, t15, t83, -⟩
      refine wp_cond_false t84 ?_
      clear t84
      refine wp_seq ?_
      refine wi_ A (h7_ t2 t11 t12 t13 t14 t15 t83) (rv_ 0 (.bool true) (fun a ee => execDec (exIeql3 (p := (kd i)) (q := 1) rfl (ee _) rfl) (decide_eq_true hk1)) (rf_ [(114, .bool true)] (h7_ t2 t11 t12 t13 t14 t15 t83) ?_))
      rintro a A ⟨t114, -⟩ ⟨t2, t11, t12, t13, t14, t15, t83, -⟩
      refine wp_cond_true t114 ?_
      clear t114
      refine wp_seq ?_
      refine wj_ [0, 1, 2, 3, 4, 5, 6, 7, 8, 9, 10, 11] [6] [3, 5] [] A (h7_ t2 t11 t12 t13 t14 t15 t83) (fun X22_0 bD => ?_)
      refine dw_ 2 (.pointer (some ⟨fsb, k, none⟩)) (fun a X ee => execIdxFs (k := k) rfl (ee _) (ee _) hk) (dv_ 3 ((v k)) (fun a X ee hb => execLdFp rfl (ee _) (cell_lk0 (FP.on hb).fs (c3_at _ hk))) (dw_ 4 (.pointer (some ⟨g14, 0 + 2, none⟩)) (fun a X ee => execFldX2 rfl (ee _)) (dv_ 5 (.agg (bA 16 (tg i))) (fun a X ee hb => execLdT rfl (ee _) (cell_sp (on9 Fx hb)).2.2.1) (dc_ 6 (plow17 (lw k) (hw k) (v k) (o k) (c k) (tg i) X22_0 ((FP.on bD).fl k hk) hby) (cb_ fun X22 bQ => ?_)))))
      replace bD := bD.trans (bQ.mono bD.size)
      clear bQ
      refine ⟨Or.inr bD, ?_⟩
      refine dz_ [(16, .int .i64 ((lwO (o k) (c k) (tv (tg i) 16)).getD 0)), (17, .bool (lwO (o k) (c k) (tv (tg i) 16)).isSome)] (h6_ t2 t11 t12 t13 t14 t15) ?_
      rintro a A ⟨t16, t17, -⟩ ⟨t2, t11, t12, t13, t14, t15, -⟩
      replace Fx := (on9 Fx bD)
      replace FP := (FP.on bD)
      replace BB := BB.trans (bD.mono BB.size)
      clear bD
      refine wp_seq ?_
      refine wj_ [0, 1, 2, 3, 4, 5, 6, 7, 8, 9, 10, 11] [6] [3, 5] [] A (h8_ t2 t11 t12 t13 t14 t15 t16 t17) (fun X23_0 bD => ?_)
      refine dw_ 2 (.pointer (some ⟨bkb, k, none⟩)) (fun a X ee => execIdxOO (k := k) rfl (ee _) (ee _) hk) (dv_ 3 ((r k)) (fun a X ee hb => execLdOs rfl (ee _) (cell_lk0 (FP.on hb).bk (c3_at _ hk))) (dw_ 4 (.pointer (some ⟨g14, 0 + 2, none⟩)) (fun a X ee => execFldX2 rfl (ee _)) (dv_ 5 (.agg (bA 16 (tg i))) (fun a X ee hb => execLdT rfl (ee _) (cell_sp (on9 Fx hb)).2.2.1) (dc_ 6 (rlow17 (r k) (c k) (o k) (tg i) X23_0 ((FP.on bD).ofs hk) (by have := hc k hk; omega) hby) (cb_ fun X23 bQ => ?_)))))
      replace bD := bD.trans (bQ.mono bD.size)
      clear bQ
      refine ⟨Or.inr bD, ?_⟩
      refine dz_ [(18, .int .i64 ((lwO (o k) (c k) (tv (tg i) 16)).getD 0)), (19, .bool (lwO (o k) (c k) (tv (tg i) 16)).isSome)] (h6_ t2 t11 t12 t13 t16 t17) ?_
      rintro a A ⟨t18, t19, -⟩ ⟨t2, t11, t12, t13, t16, t17, -⟩
      replace Fx := (on9 Fx bD)
      replace FP := (FP.on bD)
      replace BB := BB.trans (bD.mono BB.size)
      clear bD
      clear Fx
      refine wp_seq ?_
      refine wi_ A (h8_ t2 t11 t12 t13 t16 t17 t18 t19) (rv_ 2 (.bool false) (fun a ee => execDec (exIneq3 (p := ((lwO (o k) (c k) (tv (tg i) 16)).getD 0)) (q := ((lwO (o k) (c k) (tv (tg i) 16)).getD 0)) rfl (ee _) (ee _)) (decide_eq_false (fun h => h rfl))) (rv_ 6 (.bool false) (fun a ee => execNeBB (b := (lwO (o k) (c k) (tv (tg i) 16)).isSome) rfl (ee _) (ee _)) (rf_ [(143, .bool false)] (h4_ t2 t11 t12 t13) ?_)))
      rintro a A ⟨t143, -⟩ ⟨t2, t11, t12, t13, -⟩
      refine wp_cond_false t143 ?_
      refine wp_skip ?_
      clear t143
      have hcn : ∀ j, j < 3 → c j ≤ i + 1 := fun j hj => Nat.le_succ_of_le (hc j hj)
      refine wi_ A (h4_ t2 t11 t12 t13) (rv_ 1 (.int .i64 ((i + 1 : Nat) : Int)) (fun a ee => execAd8 (p := i) (q := 1) rfl (ee _) rfl (by omega)) (rf_ [(13, .int .i64 ((i + 1 : Nat) : Int))] (h3_ t2 t11 t12) ?_))
      rintro a A ⟨t13, -⟩ ⟨t2, t11, t12, -⟩
      exact ⟨⟨i + 1, r, o, c, lti, hcn, A, t2, t11, t12, t13, BB, FP⟩, by show n - (intOf (a.eval (.tmp 13))).toNat < n - (intOf (Act.eval _ (.tmp 13))).toNat; rw [t13, esi]; show n - (i + 1) < n - i; omega⟩
    by_cases hk2 : kd i = 2
    · refine wi_ A (h7_ t2 t11 t12 t13 t14 t15 t83) (rv_ 0 (.bool false) (fun a ee => execDec (exIeql3 (p := (kd i)) (q := 0) rfl (ee _) rfl) (decide_eq_false hk0)) (rf_ [(84, .bool false)] (h7_ t2 t11 t12 t13 t14 t15 t83) ?_))
      rintro a A ⟨t84, -⟩ ⟨t2, t11, t12, t13, t14, t15, t83, -⟩
      refine wp_cond_false t84 ?_
      clear t84
      refine wp_seq ?_
      refine wi_ A (h7_ t2 t11 t12 t13 t14 t15 t83) (rv_ 0 (.bool false) (fun a ee => execDec (exIeql3 (p := (kd i)) (q := 1) rfl (ee _) rfl) (decide_eq_false hk1)) (rf_ [(114, .bool false)] (h7_ t2 t11 t12 t13 t14 t15 t83) ?_))
      rintro a A ⟨t114, -⟩ ⟨t2, t11, t12, t13, t14, t15, t83, -⟩
      refine wp_cond_false t114 ?_
      clear t114
      refine wp_seq ?_
      refine wi_ A (h7_ t2 t11 t12 t13 t14 t15 t83) (rv_ 0 (.bool true) (fun a ee => execDec (exIeql3 (p := (kd i)) (q := 2) rfl (ee _) rfl) (decide_eq_true hk2)) (rf_ [(144, .bool true)] (h7_ t2 t11 t12 t13 t14 t15 t83) ?_))
      rintro a A ⟨t144, -⟩ ⟨t2, t11, t12, t13, t14, t15, t83, -⟩
      refine wp_cond_true t144 ?_
      clear t144
      refine wp_seq ?_
      refine wj_ [0, 1, 2, 3, 5, 6, 7, 8, 4, 9, 10] [4, 9] [3, 8] [] A (h7_ t2 t11 t12 t13 t14 t15 t83) (fun X27_0 bD => ?_)
      refine dw_ 2 (.pointer (some ⟨fsb, k, none⟩)) (fun a X ee => execIdxFs (k := k) rfl (ee _) (ee _) hk) (dv_ 3 ((v k)) (fun a X ee hb => execLdFp rfl (ee _) (cell_lk0 (FP.on hb).fs (c3_at _ hk))) (dw_ 7 (.pointer (some ⟨bkb, k, none⟩)) (fun a X ee => execIdxOO (k := k) rfl (ee _) (ee _) hk) (dv_ 8 ((r k)) (fun a X ee hb => execLdOs rfl (ee _) (cell_lk0 (FP.on hb).bk (c3_at _ hk))) (dc_ 4 (plen17 (lw k) (hw k) (v k) (o k) (c k) X27_0 ((FP.on bD).fl k hk) (by have := hc k hk; omega)) (cb_ fun X27_1 bQ => ?_)))))
      replace bD := bD.trans (bQ.mono bD.size)
      clear bQ
      refine ⟨Or.inr bD, ?_⟩
      refine dc_ 9 (rlen17 (r k) (c k) (o k) X27_1 ((FP.on bD).ofs hk) (by have := hc k hk; omega)) (cb_ fun X27 bQ => ?_)
      replace bD := bD.trans (bQ.mono bD.size)
      clear bQ
      refine ⟨Or.inr bD, ?_⟩
      refine dw_ 10 (.bool false) (fun a X ee => execDec (exIneq3 (p := ((cnO (o k) (c k) : Nat) : Int)) (q := ((cnO (o k) (c k) : Nat) : Int)) rfl (ee _) (ee _)) (decide_eq_false (fun h => h rfl))) (dz_ [(156, .bool false)] (h4_ t2 t11 t12 t13) ?_)
      rintro a A ⟨t156, -⟩ ⟨t2, t11, t12, t13, -⟩
      replace Fx := (on9 Fx bD)
      replace FP := (FP.on bD)
      replace BB := BB.trans (bD.mono BB.size)
      clear bD
      refine wp_cond_false t156 ?_
      refine wp_skip ?_
      clear t156
      clear Fx
      have hcn : ∀ j, j < 3 → c j ≤ i + 1 := fun j hj => Nat.le_succ_of_le (hc j hj)
      refine wi_ A (h4_ t2 t11 t12 t13) (rv_ 1 (.int .i64 ((i + 1 : Nat) : Int)) (fun a ee => execAd8 (p := i) (q := 1) rfl (ee _) rfl (by omega)) (rf_ [(13, .int .i64 ((i + 1 : Nat) : Int))] (h3_ t2 t11 t12) ?_))
      rintro a A ⟨t13, -⟩ ⟨t2, t11, t12, -⟩
      exact ⟨⟨i + 1, r, o, c, lti, hcn, A, t2, t11, t12, t13, BB, FP⟩, by show n - (intOf (a.eval (.tmp 13))).toNat < n - (intOf (Act.eval _ (.tmp 13))).toNat; rw [t13, esi]; show n - (i + 1) < n - i; omega⟩
    refine wi_ A (h7_ t2 t11 t12 t13 t14 t15 t83) (rv_ 0 (.bool false) (fun a ee => execDec (exIeql3 (p := (kd i)) (q := 0) rfl (ee _) rfl) (decide_eq_false hk0)) (rf_ [(84, .bool false)] (h7_ t2 t11 t12 t13 t14 t15 t83) ?_))
    rintro a A ⟨t84, -⟩ ⟨t2, t11, t12, t13, t14, t15, t83, -⟩
    refine wp_cond_false t84 ?_
    clear t84
    refine wp_seq ?_
    refine wi_ A (h7_ t2 t11 t12 t13 t14 t15 t83) (rv_ 0 (.bool false) (fun a ee => execDec (exIeql3 (p := (kd i)) (q := 1) rfl (ee _) rfl) (decide_eq_false hk1)) (rf_ [(114, .bool false)] (h7_ t2 t11 t12 t13 t14 t15 t83) ?_))
    rintro a A ⟨t114, -⟩ ⟨t2, t11, t12, t13, t14, t15, t83, -⟩
    refine wp_cond_false t114 ?_
    clear t114
    refine wp_seq ?_
    refine wi_ A (h7_ t2 t11 t12 t13 t14 t15 t83) (rv_ 0 (.bool false) (fun a ee => execDec (exIeql3 (p := (kd i)) (q := 2) rfl (ee _) rfl) (decide_eq_false hk2)) (rf_ [(144, .bool false)] (h7_ t2 t11 t12 t13 t14 t15 t83) ?_))
    rintro a A ⟨t144, -⟩ ⟨t2, t11, t12, t13, t14, t15, t83, -⟩
    refine wp_cond_false t144 ?_
    clear t144
    refine wp_skip ?_
    clear Fx
    have hcn : ∀ j, j < 3 → c j ≤ i + 1 := fun j hj => Nat.le_succ_of_le (hc j hj)
    refine wi_ A (h7_ t2 t11 t12 t13 t14 t15 t83) (rv_ 1 (.int .i64 ((i + 1 : Nat) : Int)) (fun a ee => execAd8 (p := i) (q := 1) rfl (ee _) rfl (by omega)) (rf_ [(13, .int .i64 ((i + 1 : Nat) : Int))] (h3_ t2 t11 t12) ?_))
    rintro a A ⟨t13, -⟩ ⟨t2, t11, t12, -⟩
    exact ⟨⟨i + 1, r, o, c, lti, hcn, A, t2, t11, t12, t13, BB, FP⟩, by show n - (intOf (a.eval (.tmp 13))).toNat < n - (intOf (Act.eval _ (.tmp 13))).toNat; rw [t13, esi]; show n - (i + 1) < n - i; omega⟩
  · rw [decide_eq_false lti] at t72
    refine wp_cond_false t72 ?_
    refine wp_exit ?_
    first | with_reducible refine exit_in ?_ | with_reducible refine exit_then (exit_in ?_) | with_reducible refine exit_then (exit_then (exit_in ?_)) | refine exit_in ?_ | refine exit_then (exit_in ?_) | refine exit_then (exit_then (exit_in ?_))
    clear t72 esi
    have ein : i = n := by omega
    rw [ein] at hc
    clear ein
    refine wp_seq ?_
    refine wp_seq ?_
    refine wi_ A (h4_ t2 t11 t12 t13) (rf_ [(20, .int .i64 ((0 : Nat) : Int))] (h3_ t2 t11 t12) ?_)
    rintro a A ⟨t20, -⟩ ⟨t2, t11, t12, -⟩
    refine wp_block ?_
    refine wp_loop (fun a W => ∃ (k : Nat), k ≤ 3 ∧ (a.tmps.size = 201 ∧ a.defers = []) ∧ a.eval (.tmp 2) = sv ∧ a.eval (.tmp 11) = .slice (some ⟨fsb, 0, none⟩) 3 3 ∧ a.eval (.tmp 12) = .slice (some ⟨bkb, 0, none⟩) 3 3 ∧ a.eval (.tmp 20) = .int .i64 ((k : Nat) : Int) ∧ Below V.heap.size V W ∧ (PlG W V.heap.size fsb bkb lw hw v r r o c c)) (fun a _ => 3 - (intOf (a.eval (.tmp 20))).toNat) ⟨0, Nat.zero_le _, A, t2, t11, t12, t20, BB, FP⟩ ?_
    clear A t2 t11 t12 t20 BB FP a
    rintro a XL30 ⟨k, hk, A, t2, t11, t12, t20, BB, FP⟩
    have esk := t20
    refine wp_seq ?_
    refine wp_seq ?_
    refine wi_ A (h4_ t2 t11 t12 t20) (rv_ 1 (.bool (decide (k < 3))) (fun a ee => execLtW (p := k) (q := 3) rfl (ee _) rfl) (rf_ [(158, .bool (decide (k < 3)))] (h4_ t2 t11 t12 t20) ?_))
    rintro a A ⟨t158, -⟩ ⟨t2, t11, t12, t20, -⟩
    by_cases ltk : k < 3
    · rw [decide_eq_true ltk] at t158
      refine wp_cond_true t158 ?_
      refine wp_skip ?_
      clear t158
      refine wp_seq ?_
      refine wp_block ?_
      refine wp_seq ?_
      refine wi_ A (h4_ t2 t11 t12 t20) (rf_ [(21, .int .i64 ((0 : Nat) : Int))] (h4_ t2 t11 t12 t20) ?_)
      rintro a A ⟨t21, -⟩ ⟨t2, t11, t12, t20, -⟩
      refine wp_block ?_
      refine wp_loop (fun a W => ∃ (j : Nat), j ≤ n ∧ (a.tmps.size = 201 ∧ a.defers = []) ∧ a.eval (.tmp 2) = sv ∧ a.eval (.tmp 11) = .slice (some ⟨fsb, 0, none⟩) 3 3 ∧ a.eval (.tmp 12) = .slice (some ⟨bkb, 0, none⟩) 3 3 ∧ a.eval (.tmp 20) = .int .i64 ((k : Nat) : Int) ∧ a.eval (.tmp 21) = .int .i64 ((j : Nat) : Int) ∧ Below V.heap.size V W ∧ (PlG W V.heap.size fsb bkb lw hw v r r o c c)) (fun a _ => n - (intOf (a.eval (.tmp 21))).toNat) ⟨0, Nat.zero_le _, A, t2, t11, t12, t20, t21, BB, FP⟩ ?_
      clear A t2 t11 t12 t20 t21 BB FP a
      rintro a XL33 ⟨j, hj, A, t2, t11, t12, t20, t21, BB, FP⟩
      have esj := t21
      refine wp_seq ?_
      refine wp_seq ?_
      refine wi_ A (h5_ t2 t11 t12 t20 t21) (rv_ 2 (.int .i64 ((n : Nat) : Int)) (fun a ee => execLenXs (len := n) rfl (ee _) hP.shp) (rv_ 3 (.bool (decide (j < n))) (fun a ee => execLtW (p := j) (q := n) rfl (ee _) (ee _)) (rf_ [(164, .bool (decide (j < n)))] (h5_ t2 t11 t12 t20 t21) ?_)))
      rintro a A ⟨t164, -⟩ ⟨t2, t11, t12, t20, t21, -⟩
      by_cases ltj : j < n
      · rw [decide_eq_true ltj] at t164
        refine wp_cond_true t164 ?_
        refine wp_skip ?_
        clear t164
        refine wp_seq ?_
        refine wp_block ?_
        obtain ⟨pb, po, pc, ep_, hpb, hpc⟩ := hP.at (show 0 < n by omega)
        have cP : ∀ X, Below V.heap.size V X → X.rangeAt pb (po + j * 19) (spL (kd j) (wh j) (tg j) (ix j)) := fun X hX => range_on (hpc j ltj) hX hpb
        have hby := hP.byt j ltj
        refine wp_seq ?_
        refine wj_ [0, 1, 2, 3, 4, 5, 6, 7, 8, 9, 10, 11, 12, 13, 14] [9] [3, 8] [] A (h5_ t2 t11 t12 t20 t21) (fun X35_0 bD => ?_)
        refine dw_ 2 (.pointer (some ⟨fsb, k, none⟩)) (fun a X ee => execIdxFs (k := k) rfl (ee _) (ee _) ltk) (dv_ 3 ((v k)) (fun a X ee hb => execLdFp rfl (ee _) (cell_lk0 (FP.on hb).fs (c3_at _ ltk))) (dw_ 6 (.pointer (some ⟨pb, po + j * 19, none⟩)) (fun a X ee => execIdxXs (k := j) rfl ((ee _).trans ep_) (ee _) ltj) (dw_ 7 (.pointer (some ⟨pb, po + j * 19 + 2, none⟩)) (fun a X ee => execFldX2 rfl (ee _)) (dv_ 8 (.agg (bA 16 (tg j))) (fun a X ee hb => execLdT rfl (ee _) (range_tag (cP X (BB.trans (hb.mono BB.size))))) (dc_ 9 (plow17 (lw k) (hw k) (v k) (o k) (c k) (tg j) X35_0 ((FP.on bD).fl k ltk) hby) (cb_ fun X35 bQ => ?_))))))
        replace bD := bD.trans (bQ.mono bD.size)
        clear bQ
        refine ⟨Or.inr bD, ?_⟩
        refine dz_ [(22, .int .i64 ((lwO (o k) (c k) (tv (tg j) 16)).getD 0)), (23, .bool (lwO (o k) (c k) (tv (tg j) 16)).isSome)] (h5_ t2 t11 t12 t20 t21) ?_
        rintro a A ⟨t22, t23, -⟩ ⟨t2, t11, t12, t20, t21, -⟩
        replace FP := (FP.on bD)
        replace BB := BB.trans (bD.mono BB.size)
        clear bD
        refine wp_seq ?_
        refine wj_ [0, 1, 2, 3, 4, 5, 6, 7, 8, 9, 10, 11, 12, 13, 14] [9] [3, 8] [] A (h7_ t2 t11 t12 t20 t21 t22 t23) (fun X36_0 bD => ?_)
        refine dw_ 2 (.pointer (some ⟨bkb, k, none⟩)) (fun a X ee => execIdxOO (k := k) rfl (ee _) (ee _) ltk) (dv_ 3 ((r k)) (fun a X ee hb => execLdOs rfl (ee _) (cell_lk0 (FP.on hb).bk (c3_at _ ltk))) (dw_ 6 (.pointer (some ⟨pb, po + j * 19, none⟩)) (fun a X ee => execIdxXs (k := j) rfl ((ee _).trans ep_) (ee _) ltj) (dw_ 7 (.pointer (some ⟨pb, po + j * 19 + 2, none⟩)) (fun a X ee => execFldX2 rfl (ee _)) (dv_ 8 (.agg (bA 16 (tg j))) (fun a X ee hb => execLdT rfl (ee _) (range_tag (cP X (BB.trans (hb.mono BB.size))))) (dc_ 9 (rlow17 (r k) (c k) (o k) (tg j) X36_0 ((FP.on bD).ofs ltk) (by have := hc k ltk; omega) hby) (cb_ fun X36 bQ => ?_))))))
        replace bD := bD.trans (bQ.mono bD.size)
        clear bQ
        refine ⟨Or.inr bD, ?_⟩
        refine dz_ [(24, .int .i64 ((lwO (o k) (c k) (tv (tg j) 16)).getD 0)), (25, .bool (lwO (o k) (c k) (tv (tg j) 16)).isSome)] (h7_ t2 t11 t12 t20 t21 t22 t23) ?_
        rintro a A ⟨t24, t25, -⟩ ⟨t2, t11, t12, t20, t21, t22, t23, -⟩
        replace FP := (FP.on bD)
        replace BB := BB.trans (bD.mono BB.size)
        clear bD
        refine wp_seq ?_
        refine wi_ A (h9_ t2 t11 t12 t20 t21 t22 t23 t24 t25) (rv_ 2 (.bool false) (fun a ee => execDec (exIneq3 (p := ((lwO (o k) (c k) (tv (tg j) 16)).getD 0)) (q := ((lwO (o k) (c k) (tv (tg j) 16)).getD 0)) rfl (ee _) (ee _)) (decide_eq_false (fun h => h rfl))) (rv_ 6 (.bool false) (fun a ee => execNeBB (b := (lwO (o k) (c k) (tv (tg j) 16)).isSome) rfl (ee _) (ee _)) (rf_ [(200, .bool false)] (h5_ t2 t11 t12 t20 t21) ?_)))
        rintro a A ⟨t200, -⟩ ⟨t2, t11, t12, t20, t21, -⟩
        refine wp_cond_false t200 ?_
        refine wp_skip ?_
        clear t200
        refine wi_ A (h5_ t2 t11 t12 t20 t21) (rv_ 1 (.int .i64 ((j + 1 : Nat) : Int)) (fun a ee => execAd8 (p := j) (q := 1) rfl (ee _) rfl (by omega)) (rf_ [(21, .int .i64 ((j + 1 : Nat) : Int))] (h4_ t2 t11 t12 t20) ?_))
        rintro a A ⟨t21, -⟩ ⟨t2, t11, t12, t20, -⟩
        exact ⟨⟨j + 1, ltj, A, t2, t11, t12, t20, t21, BB, FP⟩, by show n - (intOf (a.eval (.tmp 21))).toNat < n - (intOf (Act.eval _ (.tmp 21))).toNat; rw [t21, esj]; show n - (j + 1) < n - j; omega⟩
      · rw [decide_eq_false ltj] at t164
        refine wp_cond_false t164 ?_
        refine wp_exit ?_
        first | with_reducible refine exit_in ?_ | with_reducible refine exit_then (exit_in ?_) | with_reducible refine exit_then (exit_then (exit_in ?_)) | refine exit_in ?_ | refine exit_then (exit_in ?_) | refine exit_then (exit_then (exit_in ?_))
        clear t164 esj
        refine wi_ A (h4_ t2 t11 t12 t20) (rv_ 1 (.int .i64 ((k + 1 : Nat) : Int)) (fun a ee => execAd8 (p := k) (q := 1) rfl (ee _) rfl (by omega)) (rf_ [(20, .int .i64 ((k + 1 : Nat) : Int))] (h3_ t2 t11 t12) ?_))
        rintro a A ⟨t20, -⟩ ⟨t2, t11, t12, -⟩
        exact ⟨⟨k + 1, ltk, A, t2, t11, t12, t20, BB, FP⟩, by show 3 - (intOf (a.eval (.tmp 20))).toNat < 3 - (intOf (Act.eval _ (.tmp 20))).toNat; rw [t20, esk]; show 3 - (k + 1) < 3 - k; omega⟩
    · rw [decide_eq_false ltk] at t158
      refine wp_cond_false t158 ?_
      refine wp_exit ?_
      first | with_reducible refine exit_in ?_ | with_reducible refine exit_then (exit_in ?_) | with_reducible refine exit_then (exit_then (exit_in ?_)) | refine exit_in ?_ | refine exit_then (exit_in ?_) | refine exit_then (exit_then (exit_in ?_))
      clear t158 esk
      refine wp_seq ?_
      refine wi_ A (h4_ t2 t11 t12 t20) (rg_ [(6, .bool true)] ?_)
      rintro a A ⟨t6, -⟩
      refine wp_ret ?_
      refine bodyPost_ret (results_tmp rfl _ _ _) A.2 ⟨?_, BB⟩
      show Ending.returned (a.eval (.tmp 6)) = _
      rw [t6]
end Go.Proofs.Ytjoffdaknacbpaa.Sha
