import Derived.Test.YtepdejnholphcaaGreatC9g
namespace Go.Proofs.YtepdejnholphcaaGreat.Win
open Go.RowKit Gf8 Aes By8 Cel Cf
/- The reference's sorted. Written by tools/mkC9h.py. -/

theorem rless_t (f g : Nat → Nat) (V : World) (hf : ∀ i, i < 16 → f i < 256) (hg : ∀ i, i < 16 → g i < 256) (h : tv f 16 < tv g 16) : Calls Tryz.prog 26 #[.agg (bA 16 f), .agg (bA 16 g)] V fun e w' => e = .returned (.bool true) ∧ Below V.heap.size V w' := by
  have := rless f g V hf hg
  rw [decide_eq_true h] at this
  exact this
theorem rless_f (f g : Nat → Nat) (V : World) (hf : ∀ i, i < 16 → f i < 256) (hg : ∀ i, i < 16 → g i < 256) (h : ¬ tv f 16 < tv g 16) : Calls Tryz.prog 26 #[.agg (bA 16 f), .agg (bA 16 g)] V fun e w' => e = .returned (.bool false) ∧ Below V.heap.size V w' := by
  have := rless f g V hf hg
  rw [decide_eq_false h] at this
  exact this
set_option maxRecDepth 100000 in
set_option maxHeartbeats 4000000 in
/-- The reference's sorted, by the shorter ones. -/
theorem rsorted_ (n : Nat) (IH : ∀ m, m < n → ∀ (t : Nat → Nat → Nat) (v : Value) (V : World), Tgs V v m t → m * 16 ≤ 140737488351232 → Calls Tryz.prog 27 #[v] V fun e w' => SrtP V m t e w' ∧ Below V.heap.size V w') (t : Nat → Nat → Nat) (v : Value) (V : World) (hT : Tgs V v n t) (hs : n * 16 ≤ 140737488351232) :
    Calls Tryz.prog 27 #[v] V fun e w' => SrtP V n t e w' ∧ Below V.heap.size V w' := by
  go_enter Tryz.func27, Tryz.ntmps27
  refine wp_seq ?_
  refine wo_ 99 [(0, v)] ?_
  rintro a A ⟨t0, -⟩
  refine wi_ A (h1_ t0) (rf_ [] (h1_ t0) ?_)
  rintro a A - ⟨t0, -⟩
  have BW : Below V.heap.size V V := Below.refl _ _
  have BB := BW
  refine wp_seq ?_
  refine wp_seq ?_
  by_cases h2 : n < 2
  · refine wi_ A (h1_ t0) (rv_ 1 (.int .i64 ((n : Nat) : Int)) (fun a ee => execLenTs (len := n) rfl (ee _) hT.shp) (rv_ 2 (.bool true) (fun a ee => execDec (execLtW (p := n) (q := 2) rfl (ee _) rfl) (decide_eq_true (by omega))) (rf_ [(11, .bool true)] (h1_ t0) ?_)))
    rintro a A ⟨t11, -⟩ ⟨t0, -⟩
    refine wp_cond_true t11 ?_
    clear t11
    refine wp_seq ?_
    obtain ⟨g12, egg12⟩ : ∃ z_ : Nat, V.heap.size = z_ := ⟨_, rfl⟩
    refine wi_ A (h1_ t0) (rs_ 0 (fun a ee => ?_))
    refine stepV rfl rfl (execMk16 (n := 1) rfl rfl rfl (by omega)) ⟨.slice (some ⟨g12, 0, none⟩) 0 1, ⟨_, rfl, by subst egg12; rfl⟩, fun X2 hX => ?_⟩
    have bQ : Below V.heap.size V X2 := by subst hX egg12; exact (belNew V _)
    have F12 : (X2.ownsRow V.heap.size 66 16 (.slice (some ⟨g12, 0, none⟩) 0 1) (0) (tgV (fun _ _ => 0) (0))) := by subst hX egg12; exact own_base16 (own_mk16 V _ _ (by omega)) (BB).size
    replace BB := BB.trans (bQ.mono BB.size)
    clear bQ hX egg12 ee a
    refine rf_ [(3, .slice (some ⟨g12, 0, none⟩) 0 1)] (h1_ t0) ?_
    rintro a A ⟨t3, -⟩ ⟨t0, -⟩
    refine wp_seq ?_
    refine wi_ A (h2_ t0 t3) (rs_ 2 (fun a ee => ?_))
    refine stepAppT (n := 0) (m := n) (t := fun _ _ => 0) (p := t) rfl rfl rfl (ee _) (ee _) F12 (hT.on BB) (by omega) (BB).size fun v15 X3 own' gr => ⟨_, ⟨_, rfl, rfl⟩, eqw ?_⟩
    obtain ⟨BB, F15⟩ : Below V.heap.size V X3 ∧ (X3.ownsRow V.heap.size 66 16 v15 (0 + n) (tgV (catT (0) (fun _ _ => 0) (t)) (0 + n))) := ⟨(BB).grown gr (BB).size (fun k hk => (F12.lt k hk).1), own'⟩
    clear F12 ee a
    refine rg_ [(2, v15)] ?_
    rintro a A ⟨t2, -⟩
    refine wp_ret ?_
    repeat (first | with_reducible refine ret_in ?_ | with_reducible refine ret_then ?_)
    refine bodyPost_ret (results_tmp rfl _ _ _) A.2 ⟨⟨v15, 0 + n, catT 0 (fun _ _ => 0) t, ?_, F15, (tgL_cat.trans (List.nil_append _)).trans (tgL_short h2).symm, cat_byt (fun j hj => absurd hj (Nat.not_lt_zero j)) hT.byt⟩, BB⟩
    show Ending.returned (a.eval (.tmp 2)) = _
    rw [t2]
  · refine wi_ A (h1_ t0) (rv_ 1 (.int .i64 ((n : Nat) : Int)) (fun a ee => execLenTs (len := n) rfl (ee _) hT.shp) (rv_ 2 (.bool false) (fun a ee => execDec (execLtW (p := n) (q := 2) rfl (ee _) rfl) (decide_eq_false (by omega))) (rf_ [(11, .bool false)] (h1_ t0) ?_)))
    rintro a A ⟨t11, -⟩ ⟨t0, -⟩
    refine wp_cond_false t11 ?_
    refine wp_skip ?_
    clear t11
    obtain ⟨b0, o0, c0, ev0, hb0, -⟩ := hT.at (show 0 < n by omega)
    have hnc : n ≤ c0 := by obtain ⟨_, c_, e_, q1, _⟩ := hT.shape; rw [ev0] at e_; injection e_ with _ _ e3; omega
    refine wp_seq ?_
    refine wi_ A (h1_ t0) (rv_ 2 (.int .i64 ((n : Nat) : Int)) (fun a ee => execLenTs (len := n) rfl (ee _) hT.shp) (rv_ 3 (.int .i64 ((n / 2 : Nat) : Int)) (fun a ee => execHalf (p := n) rfl (ee _) (by omega)) (rv_ 4 (.slice (some ⟨b0, o0, none⟩) (n / 2) c0) (fun a ee => execSlH16 rfl ((ee _).trans ev0) (ee _) (sl16_h b0 o0 n c0 (n / 2) (by omega) V)) (rc_ 5 (IH (n / 2) (by omega) t _ V ((hT.on BB).take ev0 (by omega)) (by omega)) fun e X4 hh => ?_))))
    obtain ⟨⟨v21, m21, p21, he, hk, hq⟩, hb⟩ := hh
    refine ⟨_, he, ?_⟩
    have bQ : Below V.heap.size V X4 := hb
    have FA : (X4.ownsRow V.heap.size 66 16 v21 (m21) (tgV (p21) (m21))) := own_base16 hk (BB).size
    have FAp : (tgL m21 p21 = srt (tgL (n / 2) (t)) ∧ ∀ j, j < m21 → ∀ i, i < 16 → p21 j i < 256) := hq
    replace BB := BB.trans (bQ.mono BB.size)
    clear bQ
    refine rf_ [(4, v21)] (h1_ t0) ?_
    rintro a A ⟨t4, -⟩ ⟨t0, -⟩
    refine wp_seq ?_
    refine wi_ A (h2_ t0 t4) (rv_ 2 (.int .i64 ((n : Nat) : Int)) (fun a ee => execLenTs (len := n) rfl (ee _) hT.shp) (rv_ 3 (.int .i64 ((n / 2 : Nat) : Int)) (fun a ee => execHalf (p := n) rfl (ee _) (by omega)) (rv_ 4 (.slice (some ⟨b0, o0 + n / 2 * 16, none⟩) (n - n / 2) (c0 - n / 2)) (fun a ee => execSlL16 rfl ((ee _).trans ev0) (ee _) (sl16_l b0 o0 n c0 (n / 2) (by omega) (by omega) X4)) (rc_ 5 (IH (n - n / 2) (by omega) (fun k => t (n / 2 + k)) _ X4 ((hT.on BB).drop ev0 (by omega)) (by omega)) fun e X5 hh => ?_))))
    obtain ⟨⟨v27, m27, p27, he, hk, hq⟩, hb⟩ := hh
    refine ⟨_, he, ?_⟩
    have bQ : Below X4.heap.size X4 X5 := hb
    have FB : (X5.ownsRow V.heap.size 66 16 v27 (m27) (tgV (p27) (m27))) := own_base16 hk (BB).size
    have FBp : (tgL m27 p27 = srt (tgL (n - n / 2) (fun k => t (n / 2 + k))) ∧ ∀ j, j < m27 → ∀ i, i < 16 → p27 j i < 256) := hq
    replace FA := (own_below FA bQ)
    replace BB := BB.trans (bQ.mono BB.size)
    clear bQ
    refine rf_ [(5, v27)] (h2_ t0 t4) ?_
    rintro a A ⟨t5, -⟩ ⟨t0, t4, -⟩
    obtain ⟨ha1, ha2⟩ := FAp
    obtain ⟨hb1, hb2⟩ := FBp
    have TA := own_tgs FA ha2
    have TB := own_tgs FB hb2
    clear FA FB
    have hma : m21 ≤ n / 2 := by have q1 := congrArg List.length ha1; have q2 := srt_le (l := tgL (n / 2) t); rw [len_tgL] at q1 q2; omega
    have hmb : m27 ≤ n - n / 2 := by have q1 := congrArg List.length hb1; have q2 := srt_le (l := tgL (n - n / 2) fun k => t (n / 2 + k)); rw [len_tgL] at q1 q2; omega
    have hA := inc_tgL (n := m21) (t := p21) (by rw [ha1]; exact inc_srt)
    have hB := inc_tgL (n := m27) (t := p27) (by rw [hb1]; exact inc_srt)
    replace hT := hT.on BB
    have BV := BW.trans (BB.mono BW.size)
    replace BW := BW.trans (BB.mono BW.size)
    clear BB
    have BB : Below X5.heap.size X5 X5 := Below.refl _ _
    refine wp_seq ?_
    obtain ⟨g30, egg30⟩ : ∃ z_ : Nat, X5.heap.size = z_ := ⟨_, rfl⟩
    refine wi_ A (h3_ t0 t4 t5) (rv_ 1 (.int .i64 ((n : Nat) : Int)) (fun a ee => execLenTs (len := n) rfl (ee _) hT.shp) (rs_ 2 (fun a ee => ?_)))
    refine stepV rfl rfl (execMk16 (n := n) rfl rfl (ee _) (by omega)) ⟨.slice (some ⟨g30, 0, none⟩) 0 n, ⟨_, rfl, by subst egg30; rfl⟩, fun X6 hX => ?_⟩
    have bQ : Below X5.heap.size X5 X6 := by subst hX egg30; exact (belNew X5 _)
    have F30 : (X6.ownsRow X5.heap.size 66 16 (.slice (some ⟨g30, 0, none⟩) 0 n) (0) (tgV (fun _ _ => 0) (0))) := by subst hX egg30; exact own_base16 (own_mk16 X5 _ _ (by omega)) (BB).size
    replace BB := BB.trans (bQ.mono BB.size)
    clear bQ hX egg30 ee a
    refine rf_ [(6, .slice (some ⟨g30, 0, none⟩) 0 n)] (h2_ t4 t5) ?_
    rintro a A ⟨t6, -⟩ ⟨t4, t5, -⟩
    refine wp_seq ?_
    refine wi_ A (h3_ t4 t5 t6) (rf_ [(7, .int .i64 ((0 : Nat) : Int)), (8, .int .i64 ((0 : Nat) : Int))] (h3_ t4 t5 t6) ?_)
    rintro a A ⟨t7, t8, -⟩ ⟨t4, t5, t6, -⟩
    have FO := F30
    clear F30
    refine wp_seq ?_
    refine wp_block ?_
    refine wp_loop (fun a W => ∃ (i j k : Nat) (v : Value) (p : Nat → Nat → Nat), i ≤ m21 ∧ j ≤ m27 ∧ k ≤ i + j ∧ MG (fun k_ => tv (p21 k_) 16) (fun k_ => tv (p27 k_) 16) m21 m27 i j (tgL k p) ∧ (∀ j_, j_ < k → ∀ i_, i_ < 16 → p j_ i_ < 256) ∧ (a.tmps.size = 99 ∧ a.defers = []) ∧ a.eval (.tmp 4) = v21 ∧ a.eval (.tmp 5) = v27 ∧ a.eval (.tmp 6) = v ∧ a.eval (.tmp 7) = .int .i64 ((i : Nat) : Int) ∧ a.eval (.tmp 8) = .int .i64 ((j : Nat) : Int) ∧ Below X5.heap.size X5 W ∧ (W.ownsRow X5.heap.size 66 16 v (k) (tgV (p) (k)))) (fun a _ => m21 - (intOf (a.eval (.tmp 7))).toNat + (m27 - (intOf (a.eval (.tmp 8))).toNat)) ⟨0, 0, 0, _, fun _ _ => 0, Nat.zero_le _, Nat.zero_le _, Nat.le_refl _, mg_begin, fun j_ h_ => absurd h_ (Nat.not_lt_zero j_), A, t4, t5, t6, t7, t8, BB, FO⟩ ?_
    clear A t4 t5 t6 t7 t8 BB FO a
    rintro a XL ⟨i, j, k, v, p, hi, hj, hk, hM, hp, A, t4, t5, t6, t7, t8, BB, FO⟩
    have es7 := t7
    have es8 := t8
    refine wp_seq ?_
    refine wp_seq ?_
    by_cases lti : i < m21
    · by_cases ltj : j < m27
      · obtain ⟨ab, ao, ac, ea_, hab, hac⟩ := TA.at (show 0 < m21 by omega)
        have cA : ∀ X, Below X5.heap.size X5 X → ∀ j_, j_ < 16 → X.cell? ⟨ab, ao + i * 16 + j_, none⟩ = some (.int .u8 ((p21 i j_ : Nat) : Int)) := fun X hX j_ hj_ => by rw [cell_below hX hab]; exact hac i lti j_ hj_
        obtain ⟨bb, bo, bc, eb_, hbb, hbc⟩ := TB.at (show 0 < m27 by omega)
        have cB : ∀ X, Below X5.heap.size X5 X → ∀ j_, j_ < 16 → X.cell? ⟨bb, bo + j * 16 + j_, none⟩ = some (.int .u8 ((p27 j j_ : Nat) : Int)) := fun X hX j_ hj_ => by rw [cell_below hX hbb]; exact hbc j ltj j_ hj_
        refine wi_ A (h5_ t4 t5 t6 t7 t8) (rv_ 2 (.int .i64 ((m21 : Nat) : Int)) (fun a ee => execLenTs (len := m21) rfl (ee _) TA.shp) (rv_ 3 (.bool true) (fun a ee => execDec (execLtW (p := i) (q := m21) rfl (ee _) (ee _)) (decide_eq_true (by omega))) (rf_ [(40, .bool true)] (h5_ t4 t5 t6 t7 t8) ?_)))
        rintro a A ⟨t40, -⟩ ⟨t4, t5, t6, t7, t8, -⟩
        refine wp_cond_true t40 ?_
        refine wp_skip ?_
        clear t40
        refine wp_block ?_
        refine wp_seq ?_
        by_cases hl : tv (p27 j) 16 < tv (p21 i) 16
        · refine wj_ [0, 1, 2, 3, 4, 5, 6, 7, 8, 9, 10, 11, 12, 13, 14, 15, 16, 17, 18, 19, 20, 21] [18] [13, 17] [] A (h5_ t4 t5 t6 t7 t8) (fun X9_0 bD => ?_)
          refine dw_ 2 (.int .i64 ((m27 : Nat) : Int)) (fun a X ee => execLenTs (len := m27) rfl (ee _) TB.shp) (dw_ 3 (.bool false) (fun a X ee => execDec (execEqN (p := j) (q := m27) rfl (ee _) (ee _)) (decide_eq_false (by omega))) (dw_ 7 (.int .i64 ((m21 : Nat) : Int)) (fun a X ee => execLenTs (len := m21) rfl (ee _) TA.shp) (dw_ 8 (.bool true) (fun a X ee => execDec (execLtW (p := i) (q := m21) rfl (ee _) (ee _)) (decide_eq_true (by omega))) (dw_ 12 (.pointer (some ⟨bb, bo + j * 16, none⟩)) (fun a X ee => execIdxTs (k := j) rfl ((ee _).trans eb_) (ee _) ltj) (dv_ 13 (.agg (bA 16 (p27 j))) (fun a X ee hb => execLdT rfl (ee _) (fun j_ hj_ => cB X (BB.trans (hb.mono BB.size)) j_ hj_)) (dw_ 16 (.pointer (some ⟨ab, ao + i * 16, none⟩)) (fun a X ee => execIdxTs (k := i) rfl ((ee _).trans ea_) (ee _) lti) (dv_ 17 (.agg (bA 16 (p21 i))) (fun a X ee hb => execLdT rfl (ee _) (fun j_ hj_ => cA X (BB.trans (hb.mono BB.size)) j_ hj_)) (dc_ 18 (rless_t (p27 j) (p21 i) X9_0 (TB.byt j ltj) (TA.byt i lti) hl) (cb_ fun X9 bQ => ?_)))))))))
          replace bD := bD.trans (bQ.mono bD.size)
          clear bQ
          refine ⟨Or.inr bD, ?_⟩
          refine dw_ 19 (.bool false) (fun a X ee => execNot8 (b := true) rfl (ee _)) (dz_ [(62, .bool false)] (h5_ t4 t5 t6 t7 t8) ?_)
          rintro a A ⟨t62, -⟩ ⟨t4, t5, t6, t7, t8, -⟩
          replace FO := (own_below FO bD)
          replace BB := BB.trans (bD.mono BB.size)
          clear bD
          refine wp_cond_false t62 ?_
          clear t62
          refine wp_seq ?_
          obtain ⟨g94, egg94⟩ : ∃ z_ : Nat, X9.heap.size = z_ := ⟨_, rfl⟩
          refine wi_ A (h5_ t4 t5 t6 t7 t8) (rv_ 3 (.pointer (some ⟨bb, bo + j * 16, none⟩)) (fun a ee => execIdxTs (k := j) rfl ((ee _).trans eb_) (ee _) ltj) (rv_ 4 (.agg (bA 16 (p27 j))) (fun a ee => execLdT rfl (ee _) (fun j_ hj_ => cB X9 BB j_ hj_)) (rs_ 5 (fun a ee => ?_))))
          refine stepV rfl rfl (execBsT rfl (ee _)) ⟨.slice (some ⟨g94, 0, none⟩) 1 1, ⟨_, rfl, by subst egg94; rfl⟩, fun X14_1 hX => ?_⟩
          have bQ : Below X9.heap.size X9 X14_1 := by subst hX egg94; exact (belNew X9 _)
          have F94 : (Tgs X14_1 (.slice (some ⟨g94, 0, none⟩) 1 1) 1 (fun _ => (p27 j))) := by subst hX egg94; exact one_tgs X9 _ (TB.byt j ltj)
          replace FO := (own_below FO bQ)
          replace BB := BB.trans (bQ.mono BB.size)
          clear bQ hX egg94 ee a
          refine rs_ 6 (fun a ee => ?_)
          refine stepAppT (n := k) (m := 1) (t := p) (p := fun _ => p27 j) rfl rfl rfl (ee _) (ee _) FO F94 (by omega) (BB).size fun v95 X14 own' gr => ⟨_, ⟨_, rfl, rfl⟩, eqw ?_⟩
          obtain ⟨BB, FO2⟩ : Below X5.heap.size X5 X14 ∧ (X14.ownsRow X5.heap.size 66 16 v95 (k + 1) (tgV (catT (k) (p) (fun _ => p27 j)) (k + 1))) := ⟨(BB).grown gr (BB).size (fun k hk => (FO.lt k hk).1), own'⟩
          clear FO F94 ee a
          refine rf_ [(6, v95)] (h4_ t4 t5 t7 t8) ?_
          rintro a A ⟨t6, -⟩ ⟨t4, t5, t7, t8, -⟩
          refine wi_ A (h5_ t4 t5 t6 t7 t8) (rv_ 1 (.int .i64 ((j + 1 : Nat) : Int)) (fun a ee => execAd8 (p := j) (q := 1) rfl (ee _) rfl (by omega)) (rf_ [(8, .int .i64 ((j + 1 : Nat) : Int))] (h4_ t4 t5 t6 t7) ?_))
          rintro a A ⟨t8, -⟩ ⟨t4, t5, t6, t7, -⟩
          exact (show _ ∧ _ from ⟨⟨i, j + 1, k + 1, v95, catT k p fun _ => p27 j, hi, ltj, by omega, by rw [tgL_snoc]; exact hM.takeB hB ltj (fun _ => hl), cat_byt hp (fun _ _ => TB.byt j ltj), A, t4, t5, t6, t7, t8, BB, FO2⟩, by show m21 - (intOf (a.eval (.tmp 7))).toNat + (m27 - (intOf (a.eval (.tmp 8))).toNat) < m21 - (intOf (Act.eval _ (.tmp 7))).toNat + (m27 - (intOf (Act.eval _ (.tmp 8))).toNat); rw [t7, t8, es7, es8]; show m21 - (i) + (m27 - (j + 1)) < m21 - i + (m27 - j); omega⟩)
        · refine wj_ [0, 1, 2, 3, 4, 5, 6, 7, 8, 9, 10, 11, 12, 13, 14, 15, 16, 17, 18, 19, 20, 21] [18] [13, 17] [] A (h5_ t4 t5 t6 t7 t8) (fun X9_0 bD => ?_)
          refine dw_ 2 (.int .i64 ((m27 : Nat) : Int)) (fun a X ee => execLenTs (len := m27) rfl (ee _) TB.shp) (dw_ 3 (.bool false) (fun a X ee => execDec (execEqN (p := j) (q := m27) rfl (ee _) (ee _)) (decide_eq_false (by omega))) (dw_ 7 (.int .i64 ((m21 : Nat) : Int)) (fun a X ee => execLenTs (len := m21) rfl (ee _) TA.shp) (dw_ 8 (.bool true) (fun a X ee => execDec (execLtW (p := i) (q := m21) rfl (ee _) (ee _)) (decide_eq_true (by omega))) (dw_ 12 (.pointer (some ⟨bb, bo + j * 16, none⟩)) (fun a X ee => execIdxTs (k := j) rfl ((ee _).trans eb_) (ee _) ltj) (dv_ 13 (.agg (bA 16 (p27 j))) (fun a X ee hb => execLdT rfl (ee _) (fun j_ hj_ => cB X (BB.trans (hb.mono BB.size)) j_ hj_)) (dw_ 16 (.pointer (some ⟨ab, ao + i * 16, none⟩)) (fun a X ee => execIdxTs (k := i) rfl ((ee _).trans ea_) (ee _) lti) (dv_ 17 (.agg (bA 16 (p21 i))) (fun a X ee hb => execLdT rfl (ee _) (fun j_ hj_ => cA X (BB.trans (hb.mono BB.size)) j_ hj_)) (dc_ 18 (rless_f (p27 j) (p21 i) X9_0 (TB.byt j ltj) (TA.byt i lti) hl) (cb_ fun X9 bQ => ?_)))))))))
          replace bD := bD.trans (bQ.mono bD.size)
          clear bQ
          refine ⟨Or.inr bD, ?_⟩
          refine dw_ 19 (.bool true) (fun a X ee => execNot8 (b := false) rfl (ee _)) (dz_ [(62, .bool true)] (h5_ t4 t5 t6 t7 t8) ?_)
          rintro a A ⟨t62, -⟩ ⟨t4, t5, t6, t7, t8, -⟩
          replace FO := (own_below FO bD)
          replace BB := BB.trans (bD.mono BB.size)
          clear bD
          refine wp_cond_true t62 ?_
          clear t62
          refine wp_seq ?_
          refine wp_seq ?_
          cases hq : eqB 16 (p21 i) (p27 j) with
          | true =>
            refine wj_ [0, 1, 2, 3, 4, 5, 6, 7, 8, 9, 10, 11, 12, 13, 14] [] [8, 12] [] A (h5_ t4 t5 t6 t7 t8) (fun X10 bD => ?_)
            refine dw_ 2 (.int .i64 ((m27 : Nat) : Int)) (fun a X ee => execLenTs (len := m27) rfl (ee _) TB.shp) (dw_ 3 (.bool true) (fun a X ee => execDec (execLtW (p := j) (q := m27) rfl (ee _) (ee _)) (decide_eq_true (by omega))) (dw_ 7 (.pointer (some ⟨ab, ao + i * 16, none⟩)) (fun a X ee => execIdxTs (k := i) rfl ((ee _).trans ea_) (ee _) lti) (dv_ 8 (.agg (bA 16 (p21 i))) (fun a X ee hb => execLdT rfl (ee _) (fun j_ hj_ => cA X (BB.trans (hb.mono BB.size)) j_ hj_)) (dw_ 11 (.pointer (some ⟨bb, bo + j * 16, none⟩)) (fun a X ee => execIdxTs (k := j) rfl ((ee _).trans eb_) (ee _) ltj) (dv_ 12 (.agg (bA 16 (p27 j))) (fun a X ee hb => execLdT rfl (ee _) (fun j_ hj_ => cB X (BB.trans (hb.mono BB.size)) j_ hj_)) (dw_ 13 (.bool true) (fun a X ee => execeql16t rfl (ee _) (ee _) hq) (dz_ [(77, .bool true)] (h5_ t4 t5 t6 t7 t8) ?_)))))))
            rintro a A ⟨t77, -⟩ ⟨t4, t5, t6, t7, t8, -⟩
            replace FO := (own_below FO bD)
            replace BB := BB.trans (bD.mono BB.size)
            clear bD
            have he : tv (p21 i) 16 = tv (p27 j) 16 := of_decide_eq_true (by rw [← eqB_tv (TA.byt i lti) (TB.byt j ltj)]; exact hq)
            refine wp_cond_true t77 ?_
            clear t77
            refine wi_ A (h5_ t4 t5 t6 t7 t8) (rv_ 1 (.int .i64 ((j + 1 : Nat) : Int)) (fun a ee => execAd8 (p := j) (q := 1) rfl (ee _) rfl (by omega)) (rf_ [(8, .int .i64 ((j + 1 : Nat) : Int))] (h4_ t4 t5 t6 t7) ?_))
            rintro a A ⟨t8, -⟩ ⟨t4, t5, t6, t7, -⟩
            refine wp_seq ?_
            obtain ⟨g85, egg85⟩ : ∃ z_ : Nat, X10.heap.size = z_ := ⟨_, rfl⟩
            refine wi_ A (h5_ t4 t5 t6 t7 t8) (rv_ 3 (.pointer (some ⟨ab, ao + i * 16, none⟩)) (fun a ee => execIdxTs (k := i) rfl ((ee _).trans ea_) (ee _) lti) (rv_ 4 (.agg (bA 16 (p21 i))) (fun a ee => execLdT rfl (ee _) (fun j_ hj_ => cA X10 BB j_ hj_)) (rs_ 5 (fun a ee => ?_))))
            refine stepV rfl rfl (execBsT rfl (ee _)) ⟨.slice (some ⟨g85, 0, none⟩) 1 1, ⟨_, rfl, by subst egg85; rfl⟩, fun X12_1 hX => ?_⟩
            have bQ : Below X10.heap.size X10 X12_1 := by subst hX egg85; exact (belNew X10 _)
            have F85 : (Tgs X12_1 (.slice (some ⟨g85, 0, none⟩) 1 1) 1 (fun _ => (p21 i))) := by subst hX egg85; exact one_tgs X10 _ (TA.byt i lti)
            replace FO := (own_below FO bQ)
            replace BB := BB.trans (bQ.mono BB.size)
            clear bQ hX egg85 ee a
            refine rs_ 6 (fun a ee => ?_)
            refine stepAppT (n := k) (m := 1) (t := p) (p := fun _ => p21 i) rfl rfl rfl (ee _) (ee _) FO F85 (by omega) (BB).size fun v86 X12 own' gr => ⟨_, ⟨_, rfl, rfl⟩, eqw ?_⟩
            obtain ⟨BB, FO2⟩ : Below X5.heap.size X5 X12 ∧ (X12.ownsRow X5.heap.size 66 16 v86 (k + 1) (tgV (catT (k) (p) (fun _ => p21 i)) (k + 1))) := ⟨(BB).grown gr (BB).size (fun k hk => (FO.lt k hk).1), own'⟩
            clear FO F85 ee a
            refine rf_ [(6, v86)] (h4_ t4 t5 t7 t8) ?_
            rintro a A ⟨t6, -⟩ ⟨t4, t5, t7, t8, -⟩
            refine wi_ A (h5_ t4 t5 t6 t7 t8) (rv_ 1 (.int .i64 ((i + 1 : Nat) : Int)) (fun a ee => execAd8 (p := i) (q := 1) rfl (ee _) rfl (by omega)) (rf_ [(7, .int .i64 ((i + 1 : Nat) : Int))] (h4_ t4 t5 t6 t8) ?_))
            rintro a A ⟨t7, -⟩ ⟨t4, t5, t6, t8, -⟩
            exact (show _ ∧ _ from ⟨⟨i + 1, j + 1, k + 1, v86, catT k p fun _ => p21 i, lti, ltj, by omega, by rw [tgL_snoc]; exact hM.takeAB hA hB lti ltj he, cat_byt hp (fun _ _ => TA.byt i lti), A, t4, t5, t6, t7, t8, BB, FO2⟩, by show m21 - (intOf (a.eval (.tmp 7))).toNat + (m27 - (intOf (a.eval (.tmp 8))).toNat) < m21 - (intOf (Act.eval _ (.tmp 7))).toNat + (m27 - (intOf (Act.eval _ (.tmp 8))).toNat); rw [t7, t8, es7, es8]; show m21 - (i + 1) + (m27 - (j + 1)) < m21 - i + (m27 - j); omega⟩)
          | false =>
            refine wj_ [0, 1, 2, 3, 4, 5, 6, 7, 8, 9, 10, 11, 12, 13, 14] [] [8, 12] [] A (h5_ t4 t5 t6 t7 t8) (fun X10 bD => ?_)
            refine dw_ 2 (.int .i64 ((m27 : Nat) : Int)) (fun a X ee => execLenTs (len := m27) rfl (ee _) TB.shp) (dw_ 3 (.bool true) (fun a X ee => execDec (execLtW (p := j) (q := m27) rfl (ee _) (ee _)) (decide_eq_true (by omega))) (dw_ 7 (.pointer (some ⟨ab, ao + i * 16, none⟩)) (fun a X ee => execIdxTs (k := i) rfl ((ee _).trans ea_) (ee _) lti) (dv_ 8 (.agg (bA 16 (p21 i))) (fun a X ee hb => execLdT rfl (ee _) (fun j_ hj_ => cA X (BB.trans (hb.mono BB.size)) j_ hj_)) (dw_ 11 (.pointer (some ⟨bb, bo + j * 16, none⟩)) (fun a X ee => execIdxTs (k := j) rfl ((ee _).trans eb_) (ee _) ltj) (dv_ 12 (.agg (bA 16 (p27 j))) (fun a X ee hb => execLdT rfl (ee _) (fun j_ hj_ => cB X (BB.trans (hb.mono BB.size)) j_ hj_)) (dw_ 13 (.bool false) (fun a X ee => execeql16f rfl (ee _) (ee _) hq) (dz_ [(77, .bool false)] (h5_ t4 t5 t6 t7 t8) ?_)))))))
            rintro a A ⟨t77, -⟩ ⟨t4, t5, t6, t7, t8, -⟩
            replace FO := (own_below FO bD)
            replace BB := BB.trans (bD.mono BB.size)
            clear bD
            have he : tv (p21 i) 16 ≠ tv (p27 j) 16 := of_decide_eq_false (by rw [← eqB_tv (TA.byt i lti) (TB.byt j ltj)]; exact hq)
            refine wp_cond_false t77 ?_
            refine wp_skip ?_
            clear t77
            refine wp_seq ?_
            obtain ⟨g85, egg85⟩ : ∃ z_ : Nat, X10.heap.size = z_ := ⟨_, rfl⟩
            refine wi_ A (h5_ t4 t5 t6 t7 t8) (rv_ 3 (.pointer (some ⟨ab, ao + i * 16, none⟩)) (fun a ee => execIdxTs (k := i) rfl ((ee _).trans ea_) (ee _) lti) (rv_ 4 (.agg (bA 16 (p21 i))) (fun a ee => execLdT rfl (ee _) (fun j_ hj_ => cA X10 BB j_ hj_)) (rs_ 5 (fun a ee => ?_))))
            refine stepV rfl rfl (execBsT rfl (ee _)) ⟨.slice (some ⟨g85, 0, none⟩) 1 1, ⟨_, rfl, by subst egg85; rfl⟩, fun X12_1 hX => ?_⟩
            have bQ : Below X10.heap.size X10 X12_1 := by subst hX egg85; exact (belNew X10 _)
            have F85 : (Tgs X12_1 (.slice (some ⟨g85, 0, none⟩) 1 1) 1 (fun _ => (p21 i))) := by subst hX egg85; exact one_tgs X10 _ (TA.byt i lti)
            replace FO := (own_below FO bQ)
            replace BB := BB.trans (bQ.mono BB.size)
            clear bQ hX egg85 ee a
            refine rs_ 6 (fun a ee => ?_)
            refine stepAppT (n := k) (m := 1) (t := p) (p := fun _ => p21 i) rfl rfl rfl (ee _) (ee _) FO F85 (by omega) (BB).size fun v86 X12 own' gr => ⟨_, ⟨_, rfl, rfl⟩, eqw ?_⟩
            obtain ⟨BB, FO2⟩ : Below X5.heap.size X5 X12 ∧ (X12.ownsRow X5.heap.size 66 16 v86 (k + 1) (tgV (catT (k) (p) (fun _ => p21 i)) (k + 1))) := ⟨(BB).grown gr (BB).size (fun k hk => (FO.lt k hk).1), own'⟩
            clear FO F85 ee a
            refine rf_ [(6, v86)] (h4_ t4 t5 t7 t8) ?_
            rintro a A ⟨t6, -⟩ ⟨t4, t5, t7, t8, -⟩
            refine wi_ A (h5_ t4 t5 t6 t7 t8) (rv_ 1 (.int .i64 ((i + 1 : Nat) : Int)) (fun a ee => execAd8 (p := i) (q := 1) rfl (ee _) rfl (by omega)) (rf_ [(7, .int .i64 ((i + 1 : Nat) : Int))] (h4_ t4 t5 t6 t8) ?_))
            rintro a A ⟨t7, -⟩ ⟨t4, t5, t6, t8, -⟩
            exact (show _ ∧ _ from ⟨⟨i + 1, j, k + 1, v86, catT k p fun _ => p21 i, lti, hj, by omega, by rw [tgL_snoc]; exact hM.takeA hA lti (fun _ => by show tv (p21 i) 16 < tv (p27 j) 16; omega), cat_byt hp (fun _ _ => TA.byt i lti), A, t4, t5, t6, t7, t8, BB, FO2⟩, by show m21 - (intOf (a.eval (.tmp 7))).toNat + (m27 - (intOf (a.eval (.tmp 8))).toNat) < m21 - (intOf (Act.eval _ (.tmp 7))).toNat + (m27 - (intOf (Act.eval _ (.tmp 8))).toNat); rw [t7, t8, es7, es8]; show m21 - (i + 1) + (m27 - (j)) < m21 - i + (m27 - j); omega⟩)
      · obtain ⟨ab, ao, ac, ea_, hab, hac⟩ := TA.at (show 0 < m21 by omega)
        have cA : ∀ X, Below X5.heap.size X5 X → ∀ j_, j_ < 16 → X.cell? ⟨ab, ao + i * 16 + j_, none⟩ = some (.int .u8 ((p21 i j_ : Nat) : Int)) := fun X hX j_ hj_ => by rw [cell_below hX hab]; exact hac i lti j_ hj_
        refine wi_ A (h5_ t4 t5 t6 t7 t8) (rv_ 2 (.int .i64 ((m21 : Nat) : Int)) (fun a ee => execLenTs (len := m21) rfl (ee _) TA.shp) (rv_ 3 (.bool true) (fun a ee => execDec (execLtW (p := i) (q := m21) rfl (ee _) (ee _)) (decide_eq_true (by omega))) (rf_ [(40, .bool true)] (h5_ t4 t5 t6 t7 t8) ?_)))
        rintro a A ⟨t40, -⟩ ⟨t4, t5, t6, t7, t8, -⟩
        refine wp_cond_true t40 ?_
        refine wp_skip ?_
        clear t40
        refine wp_block ?_
        refine wp_seq ?_
        refine wj_ [0, 1, 2, 3, 4, 5, 6, 7, 8, 9, 10, 11, 12, 13, 14, 15, 16, 17, 18, 19, 20, 21] [] [] [] A (h5_ t4 t5 t6 t7 t8) (fun X9 bD => ?_)
        refine dw_ 2 (.int .i64 ((m27 : Nat) : Int)) (fun a X ee => execLenTs (len := m27) rfl (ee _) TB.shp) (dw_ 3 (.bool true) (fun a X ee => execDec (execEqN (p := j) (q := m27) rfl (ee _) (ee _)) (decide_eq_true (by omega))) (dz_ [(62, .bool true)] (h5_ t4 t5 t6 t7 t8) ?_))
        rintro a A ⟨t62, -⟩ ⟨t4, t5, t6, t7, t8, -⟩
        replace FO := (own_below FO bD)
        replace BB := BB.trans (bD.mono BB.size)
        clear bD
        refine wp_cond_true t62 ?_
        clear t62
        refine wp_seq ?_
        refine wp_seq ?_
        refine wj_ [0, 1, 2, 3, 4, 5, 6, 7, 8, 9, 10, 11, 12, 13, 14] [] [] [] A (h5_ t4 t5 t6 t7 t8) (fun X10 bD => ?_)
        refine dw_ 2 (.int .i64 ((m27 : Nat) : Int)) (fun a X ee => execLenTs (len := m27) rfl (ee _) TB.shp) (dw_ 3 (.bool false) (fun a X ee => execDec (execLtW (p := j) (q := m27) rfl (ee _) (ee _)) (decide_eq_false (by omega))) (dz_ [(77, .bool false)] (h5_ t4 t5 t6 t7 t8) ?_))
        rintro a A ⟨t77, -⟩ ⟨t4, t5, t6, t7, t8, -⟩
        replace FO := (own_below FO bD)
        replace BB := BB.trans (bD.mono BB.size)
        clear bD
        refine wp_cond_false t77 ?_
        refine wp_skip ?_
        clear t77
        refine wp_seq ?_
        obtain ⟨g85, egg85⟩ : ∃ z_ : Nat, X10.heap.size = z_ := ⟨_, rfl⟩
        refine wi_ A (h5_ t4 t5 t6 t7 t8) (rv_ 3 (.pointer (some ⟨ab, ao + i * 16, none⟩)) (fun a ee => execIdxTs (k := i) rfl ((ee _).trans ea_) (ee _) lti) (rv_ 4 (.agg (bA 16 (p21 i))) (fun a ee => execLdT rfl (ee _) (fun j_ hj_ => cA X10 BB j_ hj_)) (rs_ 5 (fun a ee => ?_))))
        refine stepV rfl rfl (execBsT rfl (ee _)) ⟨.slice (some ⟨g85, 0, none⟩) 1 1, ⟨_, rfl, by subst egg85; rfl⟩, fun X12_1 hX => ?_⟩
        have bQ : Below X10.heap.size X10 X12_1 := by subst hX egg85; exact (belNew X10 _)
        have F85 : (Tgs X12_1 (.slice (some ⟨g85, 0, none⟩) 1 1) 1 (fun _ => (p21 i))) := by subst hX egg85; exact one_tgs X10 _ (TA.byt i lti)
        replace FO := (own_below FO bQ)
        replace BB := BB.trans (bQ.mono BB.size)
        clear bQ hX egg85 ee a
        refine rs_ 6 (fun a ee => ?_)
        refine stepAppT (n := k) (m := 1) (t := p) (p := fun _ => p21 i) rfl rfl rfl (ee _) (ee _) FO F85 (by omega) (BB).size fun v86 X12 own' gr => ⟨_, ⟨_, rfl, rfl⟩, eqw ?_⟩
        obtain ⟨BB, FO2⟩ : Below X5.heap.size X5 X12 ∧ (X12.ownsRow X5.heap.size 66 16 v86 (k + 1) (tgV (catT (k) (p) (fun _ => p21 i)) (k + 1))) := ⟨(BB).grown gr (BB).size (fun k hk => (FO.lt k hk).1), own'⟩
        clear FO F85 ee a
        refine rf_ [(6, v86)] (h4_ t4 t5 t7 t8) ?_
        rintro a A ⟨t6, -⟩ ⟨t4, t5, t7, t8, -⟩
        refine wi_ A (h5_ t4 t5 t6 t7 t8) (rv_ 1 (.int .i64 ((i + 1 : Nat) : Int)) (fun a ee => execAd8 (p := i) (q := 1) rfl (ee _) rfl (by omega)) (rf_ [(7, .int .i64 ((i + 1 : Nat) : Int))] (h4_ t4 t5 t6 t8) ?_))
        rintro a A ⟨t7, -⟩ ⟨t4, t5, t6, t8, -⟩
        exact (show _ ∧ _ from ⟨⟨i + 1, j, k + 1, v86, catT k p fun _ => p21 i, lti, hj, by omega, by rw [tgL_snoc]; exact hM.takeA hA lti (fun h_ => absurd h_ ltj), cat_byt hp (fun _ _ => TA.byt i lti), A, t4, t5, t6, t7, t8, BB, FO2⟩, by show m21 - (intOf (a.eval (.tmp 7))).toNat + (m27 - (intOf (a.eval (.tmp 8))).toNat) < m21 - (intOf (Act.eval _ (.tmp 7))).toNat + (m27 - (intOf (Act.eval _ (.tmp 8))).toNat); rw [t7, t8, es7, es8]; show m21 - (i + 1) + (m27 - (j)) < m21 - i + (m27 - j); omega⟩)
    · by_cases ltj : j < m27
      · obtain ⟨bb, bo, bc, eb_, hbb, hbc⟩ := TB.at (show 0 < m27 by omega)
        have cB : ∀ X, Below X5.heap.size X5 X → ∀ j_, j_ < 16 → X.cell? ⟨bb, bo + j * 16 + j_, none⟩ = some (.int .u8 ((p27 j j_ : Nat) : Int)) := fun X hX j_ hj_ => by rw [cell_below hX hbb]; exact hbc j ltj j_ hj_
        refine wi_ A (h5_ t4 t5 t6 t7 t8) (rv_ 2 (.int .i64 ((m21 : Nat) : Int)) (fun a ee => execLenTs (len := m21) rfl (ee _) TA.shp) (rv_ 3 (.bool false) (fun a ee => execDec (execLtW (p := i) (q := m21) rfl (ee _) (ee _)) (decide_eq_false (by omega))) (rv_ 7 (.int .i64 ((m27 : Nat) : Int)) (fun a ee => execLenTs (len := m27) rfl (ee _) TB.shp) (rv_ 8 (.bool true) (fun a ee => execDec (execLtW (p := j) (q := m27) rfl (ee _) (ee _)) (decide_eq_true (by omega))) (rf_ [(40, .bool true)] (h5_ t4 t5 t6 t7 t8) ?_)))))
        rintro a A ⟨t40, -⟩ ⟨t4, t5, t6, t7, t8, -⟩
        refine wp_cond_true t40 ?_
        refine wp_skip ?_
        clear t40
        refine wp_block ?_
        refine wp_seq ?_
        refine wj_ [0, 1, 2, 3, 4, 5, 6, 7, 8, 9, 10, 11, 12, 13, 14, 15, 16, 17, 18, 19, 20, 21] [] [] [] A (h5_ t4 t5 t6 t7 t8) (fun X9 bD => ?_)
        refine dw_ 2 (.int .i64 ((m27 : Nat) : Int)) (fun a X ee => execLenTs (len := m27) rfl (ee _) TB.shp) (dw_ 3 (.bool false) (fun a X ee => execDec (execEqN (p := j) (q := m27) rfl (ee _) (ee _)) (decide_eq_false (by omega))) (dw_ 7 (.int .i64 ((m21 : Nat) : Int)) (fun a X ee => execLenTs (len := m21) rfl (ee _) TA.shp) (dw_ 8 (.bool false) (fun a X ee => execDec (execLtW (p := i) (q := m21) rfl (ee _) (ee _)) (decide_eq_false (by omega))) (dz_ [(62, .bool false)] (h5_ t4 t5 t6 t7 t8) ?_))))
        rintro a A ⟨t62, -⟩ ⟨t4, t5, t6, t7, t8, -⟩
        replace FO := (own_below FO bD)
        replace BB := BB.trans (bD.mono BB.size)
        clear bD
        refine wp_cond_false t62 ?_
        clear t62
        refine wp_seq ?_
        obtain ⟨g94, egg94⟩ : ∃ z_ : Nat, X9.heap.size = z_ := ⟨_, rfl⟩
        refine wi_ A (h5_ t4 t5 t6 t7 t8) (rv_ 3 (.pointer (some ⟨bb, bo + j * 16, none⟩)) (fun a ee => execIdxTs (k := j) rfl ((ee _).trans eb_) (ee _) ltj) (rv_ 4 (.agg (bA 16 (p27 j))) (fun a ee => execLdT rfl (ee _) (fun j_ hj_ => cB X9 BB j_ hj_)) (rs_ 5 (fun a ee => ?_))))
        refine stepV rfl rfl (execBsT rfl (ee _)) ⟨.slice (some ⟨g94, 0, none⟩) 1 1, ⟨_, rfl, by subst egg94; rfl⟩, fun X14_1 hX => ?_⟩
        have bQ : Below X9.heap.size X9 X14_1 := by subst hX egg94; exact (belNew X9 _)
        have F94 : (Tgs X14_1 (.slice (some ⟨g94, 0, none⟩) 1 1) 1 (fun _ => (p27 j))) := by subst hX egg94; exact one_tgs X9 _ (TB.byt j ltj)
        replace FO := (own_below FO bQ)
        replace BB := BB.trans (bQ.mono BB.size)
        clear bQ hX egg94 ee a
        refine rs_ 6 (fun a ee => ?_)
        refine stepAppT (n := k) (m := 1) (t := p) (p := fun _ => p27 j) rfl rfl rfl (ee _) (ee _) FO F94 (by omega) (BB).size fun v95 X14 own' gr => ⟨_, ⟨_, rfl, rfl⟩, eqw ?_⟩
        obtain ⟨BB, FO2⟩ : Below X5.heap.size X5 X14 ∧ (X14.ownsRow X5.heap.size 66 16 v95 (k + 1) (tgV (catT (k) (p) (fun _ => p27 j)) (k + 1))) := ⟨(BB).grown gr (BB).size (fun k hk => (FO.lt k hk).1), own'⟩
        clear FO F94 ee a
        refine rf_ [(6, v95)] (h4_ t4 t5 t7 t8) ?_
        rintro a A ⟨t6, -⟩ ⟨t4, t5, t7, t8, -⟩
        refine wi_ A (h5_ t4 t5 t6 t7 t8) (rv_ 1 (.int .i64 ((j + 1 : Nat) : Int)) (fun a ee => execAd8 (p := j) (q := 1) rfl (ee _) rfl (by omega)) (rf_ [(8, .int .i64 ((j + 1 : Nat) : Int))] (h4_ t4 t5 t6 t7) ?_))
        rintro a A ⟨t8, -⟩ ⟨t4, t5, t6, t7, -⟩
        exact (show _ ∧ _ from ⟨⟨i, j + 1, k + 1, v95, catT k p fun _ => p27 j, hi, ltj, by omega, by rw [tgL_snoc]; exact hM.takeB hB ltj (fun h_ => absurd h_ lti), cat_byt hp (fun _ _ => TB.byt j ltj), A, t4, t5, t6, t7, t8, BB, FO2⟩, by show m21 - (intOf (a.eval (.tmp 7))).toNat + (m27 - (intOf (a.eval (.tmp 8))).toNat) < m21 - (intOf (Act.eval _ (.tmp 7))).toNat + (m27 - (intOf (Act.eval _ (.tmp 8))).toNat); rw [t7, t8, es7, es8]; show m21 - (i) + (m27 - (j + 1)) < m21 - i + (m27 - j); omega⟩)
      · refine wi_ A (h5_ t4 t5 t6 t7 t8) (rv_ 2 (.int .i64 ((m21 : Nat) : Int)) (fun a ee => execLenTs (len := m21) rfl (ee _) TA.shp) (rv_ 3 (.bool false) (fun a ee => execDec (execLtW (p := i) (q := m21) rfl (ee _) (ee _)) (decide_eq_false (by omega))) (rv_ 7 (.int .i64 ((m27 : Nat) : Int)) (fun a ee => execLenTs (len := m27) rfl (ee _) TB.shp) (rv_ 8 (.bool false) (fun a ee => execDec (execLtW (p := j) (q := m27) rfl (ee _) (ee _)) (decide_eq_false (by omega))) (rf_ [(40, .bool false)] (h5_ t4 t5 t6 t7 t8) ?_)))))
        rintro a A ⟨t40, -⟩ ⟨t4, t5, t6, t7, t8, -⟩
        refine wp_cond_false t40 ?_
        refine wp_exit ?_
        first | with_reducible refine exit_in ?_ | with_reducible refine exit_then (exit_in ?_) | with_reducible refine exit_then (exit_then (exit_in ?_)) | refine exit_in ?_ | refine exit_then (exit_in ?_) | refine exit_then (exit_then (exit_in ?_))
        clear t40 es7 es8
        obtain rfl : i = m21 := by omega
        obtain rfl : j = m27 := by omega
        refine wp_seq ?_
        refine wi_ A (h5_ t4 t5 t6 t7 t8) (rg_ [(2, v)] ?_)
        rintro a A ⟨t2, -⟩
        have BW2 := BW.trans (BB.mono BW.size)
        refine wp_ret ?_
        refine bodyPost_ret (results_tmp rfl _ _ _) A.2 ⟨⟨v, k, p, ?_, own_base16 FO BW.size, mg_end hM (by omega) ha1 hb1, hp⟩, BW2⟩
        show Ending.returned (a.eval (.tmp 2)) = _
        rw [t2]
/-- The reference's sorted. -/
theorem rsorted (n : Nat) : ∀ (t : Nat → Nat → Nat) (v : Value) (V : World), Tgs V v n t → n * 16 ≤ 140737488351232 → Calls Tryz.prog 27 #[v] V fun e w' => SrtP V n t e w' ∧ Below V.heap.size V w' :=
  Nat.strongRecOn n fun n IH => rsorted_ n IH
end Go.Proofs.YtepdejnholphcaaGreat.Win
