import Derived.Test.YtepdejnholphcaaGreatJ9e
namespace Go.Proofs.YtepdejnholphcaaGreat.Win
open Go.RowKit Gf8 Aes By8 Cel Cf
/- The program's right, Check. Written by tools/mkJ9f.py. -/

set_option maxRecDepth 100000 in
set_option maxHeartbeats 4000000 in
/-- The program's right. -/
theorem pright (nw s r : Int) (ev : Value) (n : Nat) (nu : Nat → Int) (tw : Nat → Value) (ln : Nat → Nat) (t : Nat → Nat → Nat → Nat) (V : World) (hE : Eps V ev n nu tw ln t) (hn : n < 9223372036854775808) (hl : ∀ j, j < n → ln j ≤ 8796093022208) (hnw : I64 nw) (h8 : 1 ≤ s ∧ s ≤ 8) (hr0 : 0 ≤ r ∧ r ≤ 4096) :
    Calls Tryz.prog 33 #[.agg (wC nw ev), .int .i64 s, .int .i64 r] V fun e w' => e = .returned (.bool (decide (Rgt (nw, esL n nu ln t) s r))) ∧ Below V.heap.size V w' := by
  go_enter Tryz.func33, Tryz.ntmps33
  refine wo_ 53 [(0, .agg (wC nw ev)), (1, .int .i64 s), (2, .int .i64 r)] ?_
  rintro a A ⟨t0, t1, t2, -⟩
  have BW : Below V.heap.size V V := Below.refl _ _
  refine wp_seq ?_
  obtain ⟨g3, egg3⟩ : ∃ z_ : Nat, V.heap.size = z_ := ⟨_, rfl⟩
  refine wi_ A (h3_ t0 t1 t2) (rs_ 0 (fun a ee => ?_))
  refine stepV rfl rfl (execBoxW rfl (ee _)) ⟨.pointer (some ⟨g3, 0, none⟩), ⟨_, rfl, by subst egg3; rfl⟩, fun X0 hX => ?_⟩
  have bQ : Below V.heap.size V X0 := by subst hX egg3; exact (belNew V _)
  have Fg3 : (X0.heap[g3]? = some (.cells (wC nw ev) 27)) := by subst hX egg3; exact heapNew V _
  have bX := bQ
  clear bQ hX egg3 ee a
  refine rf_ [(3, .pointer (some ⟨g3, 0, none⟩))] (h2_ t1 t2) ?_
  rintro a A ⟨t3, -⟩ ⟨t1, t2, -⟩
  replace hE := (hE.on bX)
  have ZX0 := bX.size
  replace BW := BW.trans (bX.mono BW.size)
  clear bX
  have BB : Below X0.heap.size X0 X0 := Below.refl _ _
  refine wp_seq ?_
  refine wp_seq ?_
  by_cases h1 : nw < 0
  · refine wi_ A (h3_ t1 t2 t3) (rv_ 0 (.pointer (some ⟨g3, 0, none⟩)) (fun a ee => execFldW0 rfl (ee _)) (rv_ 1 (.int .i64 nw) (fun a ee => execLd2 rfl (ee _) (wC_0 (on9 Fg3 BB))) (rv_ 2 (.bool true) (fun a ee => execDec (exIlss2 (p := nw) (q := 0) rfl (ee _) rfl) (decide_eq_true h1)) (rf_ [(28, .bool true)] (h3_ t1 t2 t3) ?_))))
    rintro a A ⟨t28, -⟩ ⟨t1, t2, t3, -⟩
    refine wp_cond_true t28 ?_
    clear t28
    refine wp_seq ?_
    refine wi_ A (h3_ t1 t2 t3) (rg_ [(6, .bool false)] ?_)
    rintro a A ⟨t6, -⟩
    have BW2 := BW.trans (BB.mono BW.size)
    refine wp_ret ?_
    repeat (first | with_reducible refine ret_in ?_ | with_reducible refine ret_then ?_)
    refine bodyPost_ret (results_tmp rfl _ _ _) A.2 ⟨?_, BW2⟩
    show Ending.returned (a.eval (.tmp 6)) = _
    rw [t6]
    rw [show decide (Rgt (nw, esL n nu ln t) s r) = false from decide_eq_false (fun h_ => by have q_ : 0 ≤ nw := h_.2.2.2.2.1; omega)]
  · by_cases h2 : nw > 4611686018427387904
    · refine wi_ A (h3_ t1 t2 t3) (rv_ 0 (.pointer (some ⟨g3, 0, none⟩)) (fun a ee => execFldW0 rfl (ee _)) (rv_ 1 (.int .i64 nw) (fun a ee => execLd2 rfl (ee _) (wC_0 (on9 Fg3 BB))) (rv_ 2 (.bool false) (fun a ee => execDec (exIlss2 (p := nw) (q := 0) rfl (ee _) rfl) (decide_eq_false h1)) (rv_ 4 (.pointer (some ⟨g3, 0, none⟩)) (fun a ee => execFldW0 rfl (ee _)) (rv_ 5 (.int .i64 nw) (fun a ee => execLd2 rfl (ee _) (wC_0 (on9 Fg3 BB))) (rv_ 6 (.bool true) (fun a ee => execDec (exIgtr2 (p := nw) (q := 4611686018427387904) rfl (ee _) rfl) (decide_eq_true h2)) (rf_ [(28, .bool true)] (h3_ t1 t2 t3) ?_)))))))
      rintro a A ⟨t28, -⟩ ⟨t1, t2, t3, -⟩
      refine wp_cond_true t28 ?_
      clear t28
      refine wp_seq ?_
      refine wi_ A (h3_ t1 t2 t3) (rg_ [(6, .bool false)] ?_)
      rintro a A ⟨t6, -⟩
      have BW2 := BW.trans (BB.mono BW.size)
      refine wp_ret ?_
      repeat (first | with_reducible refine ret_in ?_ | with_reducible refine ret_then ?_)
      refine bodyPost_ret (results_tmp rfl _ _ _) A.2 ⟨?_, BW2⟩
      show Ending.returned (a.eval (.tmp 6)) = _
      rw [t6]
      rw [show decide (Rgt (nw, esL n nu ln t) s r) = false from decide_eq_false (fun h_ => by have q_ : nw ≤ 4611686018427387904 := h_.2.2.2.2.2.1; omega)]
    · by_cases h3 : ¬ RsOk nw s n nu
      · refine wi_ A (h3_ t1 t2 t3) (rv_ 0 (.pointer (some ⟨g3, 0, none⟩)) (fun a ee => execFldW0 rfl (ee _)) (rv_ 1 (.int .i64 nw) (fun a ee => execLd2 rfl (ee _) (wC_0 (on9 Fg3 BB))) (rv_ 2 (.bool false) (fun a ee => execDec (exIlss2 (p := nw) (q := 0) rfl (ee _) rfl) (decide_eq_false h1)) (rv_ 4 (.pointer (some ⟨g3, 0, none⟩)) (fun a ee => execFldW0 rfl (ee _)) (rv_ 5 (.int .i64 nw) (fun a ee => execLd2 rfl (ee _) (wC_0 (on9 Fg3 BB))) (rv_ 6 (.bool false) (fun a ee => execDec (exIgtr2 (p := nw) (q := 4611686018427387904) rfl (ee _) rfl) (decide_eq_false h2)) (rv_ 9 (.agg (wC nw ev)) (fun a ee => execLdWn rfl (ee _) (on9 Fg3 BB)) (rc_ 11 (prise_f nw s ev n nu tw ln t X0 (hE.on BB) hn ⟨by omega, by omega⟩ h8 h3) (cb_ fun X1 bQ => ?_)))))))))
        replace BB := BB.trans (bQ.mono BB.size)
        clear bQ
        refine rv_ 12 (.bool true) (fun a ee => execNot8 (b := false) rfl (ee _)) (rf_ [(28, .bool true)] (h3_ t1 t2 t3) ?_)
        rintro a A ⟨t28, -⟩ ⟨t1, t2, t3, -⟩
        refine wp_cond_true t28 ?_
        clear t28
        refine wp_seq ?_
        refine wi_ A (h3_ t1 t2 t3) (rg_ [(6, .bool false)] ?_)
        rintro a A ⟨t6, -⟩
        have BW2 := BW.trans (BB.mono BW.size)
        refine wp_ret ?_
        repeat (first | with_reducible refine ret_in ?_ | with_reducible refine ret_then ?_)
        refine bodyPost_ret (results_tmp rfl _ _ _) A.2 ⟨?_, BW2⟩
        show Ending.returned (a.eval (.tmp 6)) = _
        rw [t6]
        rw [show decide (Rgt (nw, esL n nu ln t) s r) = false from decide_eq_false (fun h_ => h3 ⟨fun j_ hj_ => by have q_ := (each_iff (P := fun x => OkE nw s x)).1 h_.2.2.2.2.2.2.2.1 j_ hj_; exact ⟨q_.1, q_.2.1, q_.2.2.1⟩, rise_iff.1 h_.2.2.2.2.2.2.2.2.1⟩)]
      · have h3 := Classical.not_not.1 h3
        have hn8 : n ≤ 8 := few h3.2 (fun j_ hj_ => ⟨(h3.1 j_ hj_).2.1, (h3.1 j_ hj_).2.2⟩) h8.2
        have hal := al_few n hl
        have hlen := al_len (nu := nu) (t := t) n (ln := ln)
        have hsum := sW_fit (nu := nu) (t := t) n (ln := ln) (by omega)
        by_cases h4 : sW ln n > r
        · refine wi_ A (h3_ t1 t2 t3) (rv_ 0 (.pointer (some ⟨g3, 0, none⟩)) (fun a ee => execFldW0 rfl (ee _)) (rv_ 1 (.int .i64 nw) (fun a ee => execLd2 rfl (ee _) (wC_0 (on9 Fg3 BB))) (rv_ 2 (.bool false) (fun a ee => execDec (exIlss2 (p := nw) (q := 0) rfl (ee _) rfl) (decide_eq_false h1)) (rv_ 4 (.pointer (some ⟨g3, 0, none⟩)) (fun a ee => execFldW0 rfl (ee _)) (rv_ 5 (.int .i64 nw) (fun a ee => execLd2 rfl (ee _) (wC_0 (on9 Fg3 BB))) (rv_ 6 (.bool false) (fun a ee => execDec (exIgtr2 (p := nw) (q := 4611686018427387904) rfl (ee _) rfl) (decide_eq_false h2)) (rv_ 9 (.agg (wC nw ev)) (fun a ee => execLdWn rfl (ee _) (on9 Fg3 BB)) (rc_ 11 (prise_t nw s ev n nu tw ln t X0 (hE.on BB) hn ⟨by omega, by omega⟩ h8 h3) (cb_ fun X1_1 bQ => ?_)))))))))
          replace BB := BB.trans (bQ.mono BB.size)
          clear bQ
          refine rv_ 12 (.bool false) (fun a ee => execNot8 (b := true) rfl (ee _)) (rv_ 15 (.agg (wC nw ev)) (fun a ee => execLdWn rfl (ee _) (on9 Fg3 BB)) (rc_ 16 (plen16 nw ev n nu tw ln t X1_1 (hE.on BB) hn) (cb_ fun X1 bQ => ?_)))
          replace BB := BB.trans (bQ.mono BB.size)
          clear bQ
          refine rv_ 18 (.bool true) (fun a ee => execDec (exIgtr3 (p := (sW ln n)) (q := r) rfl (ee _) (ee _)) (decide_eq_true h4)) (rf_ [(28, .bool true)] (h3_ t1 t2 t3) ?_)
          rintro a A ⟨t28, -⟩ ⟨t1, t2, t3, -⟩
          refine wp_cond_true t28 ?_
          clear t28
          refine wp_seq ?_
          refine wi_ A (h3_ t1 t2 t3) (rg_ [(6, .bool false)] ?_)
          rintro a A ⟨t6, -⟩
          have BW2 := BW.trans (BB.mono BW.size)
          refine wp_ret ?_
          repeat (first | with_reducible refine ret_in ?_ | with_reducible refine ret_then ?_)
          refine bodyPost_ret (results_tmp rfl _ _ _) A.2 ⟨?_, BW2⟩
          show Ending.returned (a.eval (.tmp 6)) = _
          rw [t6]
          rw [show decide (Rgt (nw, esL n nu ln t) s r) = false from decide_eq_false (fun h_ => by have q_ : ((wLen (esL n nu ln t) : Nat) : Int) ≤ r := h_.2.2.2.2.2.2.1; rw [hsum] at h4; omega)]
        · refine wi_ A (h3_ t1 t2 t3) (rv_ 0 (.pointer (some ⟨g3, 0, none⟩)) (fun a ee => execFldW0 rfl (ee _)) (rv_ 1 (.int .i64 nw) (fun a ee => execLd2 rfl (ee _) (wC_0 (on9 Fg3 BB))) (rv_ 2 (.bool false) (fun a ee => execDec (exIlss2 (p := nw) (q := 0) rfl (ee _) rfl) (decide_eq_false h1)) (rv_ 4 (.pointer (some ⟨g3, 0, none⟩)) (fun a ee => execFldW0 rfl (ee _)) (rv_ 5 (.int .i64 nw) (fun a ee => execLd2 rfl (ee _) (wC_0 (on9 Fg3 BB))) (rv_ 6 (.bool false) (fun a ee => execDec (exIgtr2 (p := nw) (q := 4611686018427387904) rfl (ee _) rfl) (decide_eq_false h2)) (rv_ 9 (.agg (wC nw ev)) (fun a ee => execLdWn rfl (ee _) (on9 Fg3 BB)) (rc_ 11 (prise_t nw s ev n nu tw ln t X0 (hE.on BB) hn ⟨by omega, by omega⟩ h8 h3) (cb_ fun X1_1 bQ => ?_)))))))))
          replace BB := BB.trans (bQ.mono BB.size)
          clear bQ
          refine rv_ 12 (.bool false) (fun a ee => execNot8 (b := true) rfl (ee _)) (rv_ 15 (.agg (wC nw ev)) (fun a ee => execLdWn rfl (ee _) (on9 Fg3 BB)) (rc_ 16 (plen16 nw ev n nu tw ln t X1_1 (hE.on BB) hn) (cb_ fun X1 bQ => ?_)))
          replace BB := BB.trans (bQ.mono BB.size)
          clear bQ
          refine rv_ 18 (.bool false) (fun a ee => execDec (exIgtr3 (p := (sW ln n)) (q := r) rfl (ee _) (ee _)) (decide_eq_false h4)) (rf_ [(28, .bool false)] (h3_ t1 t2 t3) ?_)
          rintro a A ⟨t28, -⟩ ⟨t1, t2, t3, -⟩
          refine wp_cond_false t28 ?_
          refine wp_skip ?_
          clear t28
          refine wp_seq ?_
          refine wp_seq ?_
          refine wi_ A (h3_ t1 t2 t3) (rv_ 0 (.pointer (some ⟨g3, 1, none⟩)) (fun a ee => execFldW1 rfl (ee _)) (rv_ 1 (ev) (fun a ee => execLdEs rfl (ee _) (wC_1 (on9 Fg3 BB))) (rv_ 2 (.int .i64 ((n : Nat) : Int)) (fun a ee => execLenEs (len := n) rfl (ee _) hE.shp) (rf_ [(30, ev), (31, .int .i64 ((n : Nat) : Int)), (32, .int .i64 ((0 : Nat) : Int))] (h3_ t1 t2 t3) ?_))))
          rintro a A ⟨t30, t31, t32, -⟩ ⟨t1, t2, t3, -⟩
          refine wp_block ?_
          refine wp_loop (fun a W => ∃ (i : Nat), i ≤ n ∧ (∀ j_, j_ < i → ln j_ ≠ 0 ∧ Inc (tgL (ln j_) (t j_))) ∧ (a.tmps.size = 53 ∧ a.defers = []) ∧ a.eval (.tmp 1) = .int .i64 s ∧ a.eval (.tmp 2) = .int .i64 r ∧ a.eval (.tmp 3) = .pointer (some ⟨g3, 0, none⟩) ∧ a.eval (.tmp 30) = ev ∧ a.eval (.tmp 31) = .int .i64 ((n : Nat) : Int) ∧ a.eval (.tmp 32) = .int .i64 ((i : Nat) : Int) ∧ Below X0.heap.size X0 W) (fun a _ => n - (intOf (a.eval (.tmp 32))).toNat) ⟨0, Nat.zero_le _, fun j_ h => absurd h (Nat.not_lt_zero j_), A, t1, t2, t3, t30, t31, t32, BB⟩ ?_
          clear A t1 t2 t3 t30 t31 t32 BB a
          rintro a XL4 ⟨i, hi, hok, A, t1, t2, t3, t30, t31, t32, BB⟩
          have esi := t32
          refine wp_seq ?_
          refine wi_ A (h6_ t1 t2 t3 t30 t31 t32) (rv_ 0 (.bool (decide (i < n))) (fun a ee => execLtW (p := i) (q := n) rfl (ee _) (ee _)) (rf_ [(33, .bool (decide (i < n)))] (h6_ t1 t2 t3 t30 t31 t32) ?_))
          rintro a A ⟨t33, -⟩ ⟨t1, t2, t3, t30, t31, t32, -⟩
          refine wp_seq ?_
          by_cases lti : i < n
          · rw [decide_eq_true lti] at t33
            refine wp_cond_true t33 ?_
            refine wp_skip ?_
            clear t33
            refine wp_seq ?_
            refine wp_block ?_
            have hT := hE.lists i lti
            obtain ⟨eb, eo, ec, ee_, heb, hec⟩ := hE.at (show 0 < n by omega)
            have cE : ∀ X, Below X0.heap.size X0 X → X.cell? ⟨eb, eo + i * 2 + 1, none⟩ = some (tw i) := fun X hX => by rw [cell_below hX heb]; exact (hec i lti).2
            have cN : ∀ X, Below X0.heap.size X0 X → X.cell? ⟨eb, eo + i * 2 + 0, none⟩ = some (.int .i64 (nu i)) := fun X hX => by rw [cell_below hX heb]; exact (hec i lti).1
            have hln := hl i lti
            refine wp_seq ?_
            obtain ⟨g8, egg8⟩ : ∃ z_ : Nat, XL4.heap.size = z_ := ⟨_, rfl⟩
            refine wi_ A (h6_ t1 t2 t3 t30 t31 t32) (rv_ 0 (.pointer (some ⟨eb, eo + i * 2, none⟩)) (fun a ee => execIdxEs (k := i) rfl ((ee _).trans ee_) (ee _) lti) (rv_ 1 (.agg (epC (nu i) (tw i))) (fun a ee => execLdEp rfl (ee _) (cN XL4 BB) (cE XL4 BB)) (rs_ 2 (fun a ee => ?_))))
            refine stepV rfl rfl (execAllEp rfl) ⟨.pointer (some ⟨g8, 0, none⟩), ⟨_, rfl, by subst egg8; rfl⟩, fun X5_1 hX => ?_⟩
            have bQ : Below XL4.heap.size XL4 X5_1 := by subst hX egg8; exact (belNew XL4 _)
            have Fg8 : (X5_1.heap[g8]? = some (.cells (epC 0 (.slice none 0 0)) 57)) := by subst hX egg8; exact heapNew XL4 _
            have FGe : (X0.heap.size ≤ g8) := by subst hX egg8; exact (BB).size
            replace BB := BB.trans (bQ.mono BB.size)
            clear bQ hX egg8 ee a
            refine rs_ 3 (fun a ee => ?_)
            refine stepS rfl rfl (execStEp rfl (ee _) (ee _) Fg8 (by obtain ⟨_, _, e_⟩ := hT.shp; rw [e_]; rfl)) ⟨_, ⟨_, rfl, rfl⟩, fun X5 hX => ?_⟩
            obtain ⟨BB, Fe⟩ : Below X0.heap.size X0 X5 ∧ (X5.heap[g8]? = some (.cells (epC (nu i) (tw i)) 57)) := by subst hX; exact ⟨below4 BB FGe _, setRow_heap _ _ _ _ _ _ Fg8⟩
            clear Fg8 hX ee a
            refine rf_ [(8, .pointer (some ⟨g8, 0, none⟩))] (h6_ t1 t2 t3 t30 t31 t32) ?_
            rintro a A ⟨t8, -⟩ ⟨t1, t2, t3, t30, t31, t32, -⟩
            clear FGe
            refine wp_seq ?_
            by_cases d1 : ln i = 0
            · refine wi_ A (h7_ t1 t2 t3 t30 t31 t32 t8) (rv_ 0 (.pointer (some ⟨g8, 0 + 1, none⟩)) (fun a ee => execFldE1 rfl (ee _)) (rv_ 1 (tw i) (fun a ee => execLdTs rfl (ee _) (epC_1 Fe)) (rv_ 2 (.int .i64 ((ln i : Nat) : Int)) (fun a ee => execLenTs (len := ln i) rfl (ee _) hT.shp) (rv_ 3 (.bool true) (fun a ee => execDec (execEqN (p := ln i) (q := 0) rfl (ee _) rfl) (decide_eq_true (by omega))) (rf_ [(45, .bool true)] (h7_ t1 t2 t3 t30 t31 t32 t8) ?_)))))
              rintro a A ⟨t45, -⟩ ⟨t1, t2, t3, t30, t31, t32, t8, -⟩
              refine wp_cond_true t45 ?_
              clear t45
              refine wp_seq ?_
              refine wi_ A (h7_ t1 t2 t3 t30 t31 t32 t8) (rg_ [(6, .bool false)] ?_)
              rintro a A ⟨t6, -⟩
              have BW2 := BW.trans (BB.mono BW.size)
              refine wp_ret ?_
              repeat (first | with_reducible refine ret_in ?_ | with_reducible refine ret_then ?_)
              refine bodyPost_ret (results_tmp rfl _ _ _) A.2 ⟨?_, BW2⟩
              show Ending.returned (a.eval (.tmp 6)) = _
              rw [t6]
              rw [show decide (Rgt (nw, esL n nu ln t) s r) = false from decide_eq_false (fun h_ => (((each_iff (P := fun x => OkE nw s x)).1 h_.2.2.2.2.2.2.2.1 i lti).2.2.2.1 : tgL (ln i) (t i) ≠ []) (by rw [d1]; rfl))]
            · by_cases d2 : ¬ Inc (tgL (ln i) (t i))
              · refine wi_ A (h7_ t1 t2 t3 t30 t31 t32 t8) (rv_ 0 (.pointer (some ⟨g8, 0 + 1, none⟩)) (fun a ee => execFldE1 rfl (ee _)) (rv_ 1 (tw i) (fun a ee => execLdTs rfl (ee _) (epC_1 Fe)) (rv_ 2 (.int .i64 ((ln i : Nat) : Int)) (fun a ee => execLenTs (len := ln i) rfl (ee _) hT.shp) (rv_ 3 (.bool false) (fun a ee => execDec (execEqN (p := ln i) (q := 0) rfl (ee _) rfl) (decide_eq_false (by omega))) (rv_ 5 (.pointer (some ⟨g8, 0 + 1, none⟩)) (fun a ee => execFldE1 rfl (ee _)) (rv_ 6 (tw i) (fun a ee => execLdTs rfl (ee _) (epC_1 Fe)) (rc_ 7 (pasc_f (tw i) (ln i) (t i) X5 (hT.on BB) (by omega) (by omega) d2) (cb_ fun X6 bQ => ?_))))))))
                replace Fe := (on9 Fe bQ)
                replace BB := BB.trans (bQ.mono BB.size)
                clear bQ
                refine rv_ 8 (.bool true) (fun a ee => execNot8 (b := false) rfl (ee _)) (rf_ [(45, .bool true)] (h7_ t1 t2 t3 t30 t31 t32 t8) ?_)
                rintro a A ⟨t45, -⟩ ⟨t1, t2, t3, t30, t31, t32, t8, -⟩
                refine wp_cond_true t45 ?_
                clear t45
                refine wp_seq ?_
                refine wi_ A (h7_ t1 t2 t3 t30 t31 t32 t8) (rg_ [(6, .bool false)] ?_)
                rintro a A ⟨t6, -⟩
                have BW2 := BW.trans (BB.mono BW.size)
                refine wp_ret ?_
                repeat (first | with_reducible refine ret_in ?_ | with_reducible refine ret_then ?_)
                refine bodyPost_ret (results_tmp rfl _ _ _) A.2 ⟨?_, BW2⟩
                show Ending.returned (a.eval (.tmp 6)) = _
                rw [t6]
                rw [show decide (Rgt (nw, esL n nu ln t) s r) = false from decide_eq_false (fun h_ => d2 ((each_iff (P := fun x => OkE nw s x)).1 h_.2.2.2.2.2.2.2.1 i lti).2.2.2.2)]
              · have d2 := Classical.not_not.1 d2
                refine wi_ A (h7_ t1 t2 t3 t30 t31 t32 t8) (rv_ 0 (.pointer (some ⟨g8, 0 + 1, none⟩)) (fun a ee => execFldE1 rfl (ee _)) (rv_ 1 (tw i) (fun a ee => execLdTs rfl (ee _) (epC_1 Fe)) (rv_ 2 (.int .i64 ((ln i : Nat) : Int)) (fun a ee => execLenTs (len := ln i) rfl (ee _) hT.shp) (rv_ 3 (.bool false) (fun a ee => execDec (execEqN (p := ln i) (q := 0) rfl (ee _) rfl) (decide_eq_false (by omega))) (rv_ 5 (.pointer (some ⟨g8, 0 + 1, none⟩)) (fun a ee => execFldE1 rfl (ee _)) (rv_ 6 (tw i) (fun a ee => execLdTs rfl (ee _) (epC_1 Fe)) (rc_ 7 (pasc_t (tw i) (ln i) (t i) X5 (hT.on BB) (by omega) (by omega) d2) (cb_ fun X6 bQ => ?_))))))))
                replace Fe := (on9 Fe bQ)
                replace BB := BB.trans (bQ.mono BB.size)
                clear bQ
                refine rv_ 8 (.bool false) (fun a ee => execNot8 (b := true) rfl (ee _)) (rf_ [(45, .bool false)] (h7_ t1 t2 t3 t30 t31 t32 t8) ?_)
                rintro a A ⟨t45, -⟩ ⟨t1, t2, t3, t30, t31, t32, t8, -⟩
                refine wp_cond_false t45 ?_
                refine wp_skip ?_
                clear t45
                clear Fe t8
                refine wi_ A (h6_ t1 t2 t3 t30 t31 t32) (rv_ 0 (.int .i64 ((i + 1 : Nat) : Int)) (fun a ee => execAd8 (p := i) (q := 1) rfl (ee _) rfl (by omega)) (rf_ [(32, .int .i64 ((i + 1 : Nat) : Int))] (h5_ t1 t2 t3 t30 t31) ?_))
                rintro a A ⟨t32, -⟩ ⟨t1, t2, t3, t30, t31, -⟩
                exact ⟨⟨i + 1, lti, fun j_ h => by rcases Nat.lt_or_eq_of_le (Nat.le_of_lt_succ h) with h_ | h_; exact hok j_ h_; exact h_ ▸ ⟨d1, d2⟩, A, t1, t2, t3, t30, t31, t32, BB⟩, by show n - (intOf (a.eval (.tmp 32))).toNat < n - (intOf (Act.eval _ (.tmp 32))).toNat; rw [t32, esi]; show n - (i + 1) < n - i; omega⟩
          · rw [decide_eq_false lti] at t33
            refine wp_cond_false t33 ?_
            refine wp_exit ?_
            first | with_reducible refine exit_in ?_ | with_reducible refine exit_then (exit_in ?_) | with_reducible refine exit_then (exit_then (exit_in ?_)) | refine exit_in ?_ | refine exit_then (exit_in ?_) | refine exit_then (exit_then (exit_in ?_))
            clear t33 esi
            have ein : i = n := by omega
            rw [ein] at hok
            refine wp_seq ?_
            refine wp_region_stB (σ := Nat × (List (Nat → Nat))) 53 [(0, 47), (1, 48), (2, 49), (3, 50), (4, 51), (5, 52), (6, 6)] (fun l_ s X => Below X0.heap.size X0 X ∧ (l_ 1 = true → (MS X s.1 s.2)) ∧ (l_ 1 = true → (∀ x, x ∈ tvs s.2 ↔ x ∈ wAll (esL n nu ln t)))) (fun s => fun i_ => match i_ with | 0 => .agg (wC nw ev) | 1 => .map (some s.1) | 2 => .int .i64 ((s.2.length : Nat) : Int) | 3 => .agg (wC nw ev) | 4 => .int .i64 (sW ln n) | 5 => .bool (decide (s.2.length = alN ln n)) | 6 => .bool (decide (s.2.length = alN ln n)) | _ => undef) (0, []) (by kernel_rfl) (by kernel_rfl) A.1 (by kernel_rfl) (by decide) (by decide) ⟨(BB.drew), (fun q0_ => by cases q0_), (fun q0_ => by cases q0_)⟩ ?_ ?_
            · intro i_ hi_ l_ s a X hl_ hf hdep hl2 hcl hno hT
              have up : ∀ j x, x ≠ j → updB l_ j x = l_ x := fun j x hj => by unfold updB; simp [hj]
              match i_, hi_ with
              | 0, _ => exact stepV rfl rfl (execLdWn rfl ((hf 3 (by decide)).trans t3) (on9 Fg3 hT.1)) ⟨s, ⟨_, rfl, rfl⟩, ⟨hT.1, (fun q0_ => absurd (hl_.symm.trans (hcl 1 _ rfl ((up 0 1 (by decide)).symm.trans q0_) 0 rfl)) (by decide)), (fun q0_ => absurd (hl_.symm.trans (hcl 1 _ rfl ((up 0 1 (by decide)).symm.trans q0_) 0 rfl)) (by decide))⟩, fun _ _ _ => rfl⟩
              | 1, _ =>
                refine stepC rfl rfl (execCall1 Tryz.func37 (by kernel_rfl) (by kernel_rfl) rfl (hdep _ rfl 0 rfl _ rfl _ rfl)) (pheld nw ev n nu tw ln t X (hE.on hT.1) hn hl) fun e w' hh => ?_
                obtain ⟨⟨b_, q_, he, hM, hge, hq⟩, hb⟩ := hh
                refine ⟨_, he, (b_, q_), ⟨_, rfl, rfl⟩, ⟨hT.1.trans ((hb).mono hT.1.size), (fun _q0_ => hM), (fun _q0_ => hq)⟩, fun i hi hli => ?_⟩
                match i, hi with
                | 0, _ => rfl
                | 1, _ => exact absurd (hl_.symm.trans hli) (by decide)
                | 2, _ => exact absurd (hl_.symm.trans (hcl 2 _ rfl hli 1 rfl)) (by decide)
                | 3, _ => rfl
                | 4, _ => rfl
                | 5, _ => exact absurd (hl_.symm.trans (hcl 2 _ rfl (hcl 5 _ rfl hli 2 rfl) 1 rfl)) (by decide)
                | 6, _ => exact absurd (hl_.symm.trans (hcl 6 _ rfl hli 1 rfl)) (by decide)
                | k_ + 7, h_ => exact absurd h_ (by simp)
              | 2, _ => exact stepV rfl rfl (execLenM rfl (hdep _ rfl 1 rfl _ rfl _ rfl) (hT.2.1 (hl2 _ rfl 1 rfl))) ⟨s, ⟨_, rfl, rfl⟩, ⟨hT.1, (fun q0_ => (hT.2.1 (by rw [up 2 1 (by decide)] at q0_; exact q0_))), (fun q0_ => (hT.2.2 (by rw [up 2 1 (by decide)] at q0_; exact q0_)))⟩, fun _ _ _ => rfl⟩
              | 3, _ => exact stepV rfl rfl (execLdWn rfl ((hf 3 (by decide)).trans t3) (on9 Fg3 hT.1)) ⟨s, ⟨_, rfl, rfl⟩, ⟨hT.1, (fun q0_ => (hT.2.1 (by rw [up 3 1 (by decide)] at q0_; exact q0_))), (fun q0_ => (hT.2.2 (by rw [up 3 1 (by decide)] at q0_; exact q0_)))⟩, fun _ _ _ => rfl⟩
              | 4, _ => exact stepC rfl rfl (execCall1 Tryz.func35 (by kernel_rfl) (by kernel_rfl) rfl (hdep _ rfl 3 rfl _ rfl _ rfl)) (plen16 nw ev n nu tw ln t X (hE.on hT.1) hn) fun e w' hh => ⟨_, hh.1, s, ⟨_, rfl, rfl⟩, ⟨hT.1.trans (hh.2.mono hT.1.size), (fun q0_ => ((hT.2.1 (by rw [up 4 1 (by decide)] at q0_; exact q0_)).on hh.2)), (fun q0_ => (hT.2.2 (by rw [up 4 1 (by decide)] at q0_; exact q0_)))⟩, fun _ _ _ => rfl⟩
              | 5, _ => exact stepV rfl rfl (execEqN (p := s.2.length) (q := alN ln n) rfl (hdep _ rfl 2 rfl _ rfl _ rfl) ((hdep _ rfl 4 rfl _ rfl _ rfl).trans (by rw [hsum, hlen]; rfl))) ⟨s, ⟨_, rfl, rfl⟩, ⟨hT.1, (fun q0_ => (hT.2.1 (by rw [up 5 1 (by decide)] at q0_; exact q0_))), (fun q0_ => (hT.2.2 (by rw [up 5 1 (by decide)] at q0_; exact q0_)))⟩, fun _ _ _ => rfl⟩
              | 6, _ => exact stepV rfl rfl (Cf.execAsgB rfl (hdep _ rfl 5 rfl _ rfl _ rfl)) ⟨s, ⟨_, rfl, rfl⟩, ⟨hT.1, (fun q0_ => (hT.2.1 (by rw [up 6 1 (by decide)] at q0_; exact q0_))), (fun q0_ => (hT.2.2 (by rw [up 6 1 (by decide)] at q0_; exact q0_)))⟩, fun _ _ _ => rfl⟩
              | k_ + 7, h_ => exact absurd h_ (by simp)
            rintro l_ ⟨bm, Sc⟩ a X9 h1 h2 h3 h4 hall hT
            clear BB
            obtain ⟨BB, FM, FMp⟩ := hT
            replace FM : (MS X9 bm Sc) := FM (hall 1 (by decide))
            replace FMp : (∀ x, x ∈ tvs Sc ↔ x ∈ wAll (esL n nu ln t)) := FMp (hall 1 (by decide))
            clear hall
            have t6 : a.eval (.tmp 6) = .bool (decide (Sc.length = alN ln n)) := h4 (6, 6) (by decide)
            replace A := (⟨h1, h2.trans A.2⟩ : a.tmps.size = 53 ∧ a.defers = [])
            clear h1 h2 h3 h4
            clear t1 t2 t3 t30 t31
            have hnd : Sc.length = alN ln n ↔ (wAll (esL n nu ln t)).Nodup := by
              have q1 : (srt (tvs Sc)).length = (tvs Sc).length := srt_len.2 FM.nod
              rw [srt_same FMp, List.length_map] at q1
              rw [← srt_len, ← q1, show (wAll (esL n nu ln t)).length = alN ln n from hlen]
            clear FM
            have BW2 := BW.trans (BB.mono BW.size)
            refine wp_ret ?_
            refine bodyPost_ret (results_tmp rfl _ _ _) A.2 ⟨?_, BW2⟩
            show Ending.returned (a.eval (.tmp 6)) = _
            rw [t6]
            congr 2
            apply decide_eq_decide.2
            rw [hnd]
            refine ⟨fun q_ => ⟨h8.1, h8.2, hr0.1, hr0.2, by show 0 ≤ nw; omega, by show nw ≤ 4611686018427387904; omega, by show ((wLen (esL n nu ln t) : Nat) : Int) ≤ r; rw [← hsum]; omega, each_iff.2 fun j_ hj_ => ⟨(h3.1 j_ hj_).1, (h3.1 j_ hj_).2.1, (h3.1 j_ hj_).2.2, fun q2 => (hok j_ hj_).1 (by have q3 := congrArg List.length q2; rw [len_tgL] at q3; exact q3), (hok j_ hj_).2⟩, rise_iff.2 h3.2, q_⟩, fun q_ => q_.2.2.2.2.2.2.2.2.2⟩
theorem pright_t (nw s r : Int) (ev : Value) (n : Nat) (nu : Nat → Int) (tw : Nat → Value) (ln : Nat → Nat) (t : Nat → Nat → Nat → Nat) (V : World) (hE : Eps V ev n nu tw ln t) (hn : n < 9223372036854775808) (hl : ∀ j, j < n → ln j ≤ 8796093022208) (hnw : I64 nw) (h8 : 1 ≤ s ∧ s ≤ 8) (hr0 : 0 ≤ r ∧ r ≤ 4096) (hR : Rgt (nw, esL n nu ln t) s r) : Calls Tryz.prog 33 #[.agg (wC nw ev), .int .i64 s, .int .i64 r] V fun e w' => e = .returned (.bool true) ∧ Below V.heap.size V w' := by
  have h := pright nw s r ev n nu tw ln t V hE hn hl hnw h8 hr0
  rw [decide_eq_true hR] at h
  exact h
theorem pright_f (nw s r : Int) (ev : Value) (n : Nat) (nu : Nat → Int) (tw : Nat → Value) (ln : Nat → Nat) (t : Nat → Nat → Nat → Nat) (V : World) (hE : Eps V ev n nu tw ln t) (hn : n < 9223372036854775808) (hl : ∀ j, j < n → ln j ≤ 8796093022208) (hnw : I64 nw) (h8 : 1 ≤ s ∧ s ≤ 8) (hr0 : 0 ≤ r ∧ r ≤ 4096) (hR : ¬ Rgt (nw, esL n nu ln t) s r) : Calls Tryz.prog 33 #[.agg (wC nw ev), .int .i64 s, .int .i64 r] V fun e w' => e = .returned (.bool false) ∧ Below V.heap.size V w' := by
  have h := pright nw s r ev n nu tw ln t V hE hn hl hnw h8 hr0
  rw [decide_eq_false hR] at h
  exact h
set_option maxRecDepth 100000 in
set_option maxHeartbeats 4000000 in
/-- The program's Check. -/
theorem pcheck (nw s r : Int) (ev : Value) (n : Nat) (nu : Nat → Int) (tw : Nat → Value) (ln : Nat → Nat) (t : Nat → Nat → Nat → Nat) (V : World) (hE : Eps V ev n nu tw ln t) (hn : n < 9223372036854775808) (hl : ∀ j, j < n → ln j ≤ 8796093022208) (hnw : I64 nw) :
    Calls Tryz.prog 30 #[.agg (wC nw ev), .int .i64 s, .int .i64 r] V fun e w' => e = .returned (.int .i64 ((wChk (nw, esL n nu ln t) s r : Nat) : Int)) ∧ Below V.heap.size V w' := by
  go_enter Tryz.func30, Tryz.ntmps30
  refine wo_ 22 [(0, .agg (wC nw ev)), (1, .int .i64 s), (2, .int .i64 r)] ?_
  rintro a A ⟨t0, t1, t2, -⟩
  have BW : Below V.heap.size V V := Below.refl _ _
  refine wp_seq ?_
  obtain ⟨g3, egg3⟩ : ∃ z_ : Nat, V.heap.size = z_ := ⟨_, rfl⟩
  refine wi_ A (h3_ t0 t1 t2) (rs_ 0 (fun a ee => ?_))
  refine stepV rfl rfl (execBoxW rfl (ee _)) ⟨.pointer (some ⟨g3, 0, none⟩), ⟨_, rfl, by subst egg3; rfl⟩, fun X0 hX => ?_⟩
  have bQ : Below V.heap.size V X0 := by subst hX egg3; exact (belNew V _)
  have Fg3 : (X0.heap[g3]? = some (.cells (wC nw ev) 27)) := by subst hX egg3; exact heapNew V _
  have bX := bQ
  clear bQ hX egg3 ee a
  refine rf_ [(3, .pointer (some ⟨g3, 0, none⟩))] (h2_ t1 t2) ?_
  rintro a A ⟨t3, -⟩ ⟨t1, t2, -⟩
  replace hE := (hE.on bX)
  have ZX0 := bX.size
  replace BW := BW.trans (bX.mono BW.size)
  clear bX
  have BB : Below X0.heap.size X0 X0 := Below.refl _ _
  refine wp_seq ?_
  refine wp_seq ?_
  by_cases h1 : ¬ (1 ≤ s ∧ s ≤ 8)
  · refine wi_ A (h3_ t1 t2 t3) (rc_ 1 (pspan_f s X0 h1) (cb_ fun X1 bQ => ?_))
    replace BB := BB.trans (bQ.mono BB.size)
    clear bQ
    refine rv_ 2 (.bool true) (fun a ee => execNot8 (b := false) rfl (ee _)) (rg_ [(21, .bool true)] ?_)
    rintro a A ⟨t21, -⟩
    refine wp_cond_true t21 ?_
    clear t21
    refine wp_seq ?_
    refine wi_ A h0_ (rg_ [(6, .int .i64 ((2 : Nat) : Int))] ?_)
    rintro a A ⟨t6, -⟩
    have BW2 := BW.trans (BB.mono BW.size)
    refine wp_ret ?_
    repeat (first | with_reducible refine ret_in ?_ | with_reducible refine ret_then ?_)
    refine bodyPost_ret (results_tmp rfl _ _ _) A.2 ⟨?_, BW2⟩
    show Ending.returned (a.eval (.tmp 6)) = _
    rw [t6]
    rw [show wChk (nw, esL n nu ln t) s r = 2 from if_neg (fun h_ => h1 ⟨h_.1, h_.2.1⟩)]
  · have h1 := Classical.not_not.1 h1
    by_cases h2 : ¬ (0 ≤ r ∧ r ≤ 4096)
    · refine wi_ A (h3_ t1 t2 t3) (rc_ 1 (pspan_t s X0 h1) (cb_ fun X1_1 bQ => ?_))
      replace BB := BB.trans (bQ.mono BB.size)
      clear bQ
      refine rv_ 2 (.bool false) (fun a ee => execNot8 (b := true) rfl (ee _)) (rc_ 5 (proom_f r X1_1 h2) (cb_ fun X1 bQ => ?_))
      replace BB := BB.trans (bQ.mono BB.size)
      clear bQ
      refine rv_ 6 (.bool true) (fun a ee => execNot8 (b := false) rfl (ee _)) (rg_ [(21, .bool true)] ?_)
      rintro a A ⟨t21, -⟩
      refine wp_cond_true t21 ?_
      clear t21
      refine wp_seq ?_
      refine wi_ A h0_ (rg_ [(6, .int .i64 ((2 : Nat) : Int))] ?_)
      rintro a A ⟨t6, -⟩
      have BW2 := BW.trans (BB.mono BW.size)
      refine wp_ret ?_
      repeat (first | with_reducible refine ret_in ?_ | with_reducible refine ret_then ?_)
      refine bodyPost_ret (results_tmp rfl _ _ _) A.2 ⟨?_, BW2⟩
      show Ending.returned (a.eval (.tmp 6)) = _
      rw [t6]
      rw [show wChk (nw, esL n nu ln t) s r = 2 from if_neg (fun h_ => h2 ⟨h_.2.2.1, h_.2.2.2.1⟩)]
    · have h2 := Classical.not_not.1 h2
      by_cases h3 : ¬ Rgt (nw, esL n nu ln t) s r
      · refine wi_ A (h3_ t1 t2 t3) (rc_ 1 (pspan_t s X0 h1) (cb_ fun X1_1 bQ => ?_))
        replace BB := BB.trans (bQ.mono BB.size)
        clear bQ
        refine rv_ 2 (.bool false) (fun a ee => execNot8 (b := true) rfl (ee _)) (rc_ 5 (proom_t r X1_1 h2) (cb_ fun X1_2 bQ => ?_))
        replace BB := BB.trans (bQ.mono BB.size)
        clear bQ
        refine rv_ 6 (.bool false) (fun a ee => execNot8 (b := true) rfl (ee _)) (rv_ 9 (.agg (wC nw ev)) (fun a ee => execLdWn rfl (ee _) (on9 Fg3 BB)) (rc_ 12 (pright_f nw s r ev n nu tw ln t X1_2 (hE.on BB) hn hl hnw h1 h2 h3) (cb_ fun X1 bQ => ?_)))
        replace BB := BB.trans (bQ.mono BB.size)
        clear bQ
        refine rv_ 13 (.bool true) (fun a ee => execNot8 (b := false) rfl (ee _)) (rg_ [(21, .bool true)] ?_)
        rintro a A ⟨t21, -⟩
        refine wp_cond_true t21 ?_
        clear t21
        refine wp_seq ?_
        refine wi_ A h0_ (rg_ [(6, .int .i64 ((2 : Nat) : Int))] ?_)
        rintro a A ⟨t6, -⟩
        have BW2 := BW.trans (BB.mono BW.size)
        refine wp_ret ?_
        repeat (first | with_reducible refine ret_in ?_ | with_reducible refine ret_then ?_)
        refine bodyPost_ret (results_tmp rfl _ _ _) A.2 ⟨?_, BW2⟩
        show Ending.returned (a.eval (.tmp 6)) = _
        rw [t6]
        rw [show wChk (nw, esL n nu ln t) s r = 2 from if_neg (fun h_ => h3 h_)]
      · have h3 := Classical.not_not.1 h3
        refine wi_ A (h3_ t1 t2 t3) (rc_ 1 (pspan_t s X0 h1) (cb_ fun X1_1 bQ => ?_))
        replace BB := BB.trans (bQ.mono BB.size)
        clear bQ
        refine rv_ 2 (.bool false) (fun a ee => execNot8 (b := true) rfl (ee _)) (rc_ 5 (proom_t r X1_1 h2) (cb_ fun X1_2 bQ => ?_))
        replace BB := BB.trans (bQ.mono BB.size)
        clear bQ
        refine rv_ 6 (.bool false) (fun a ee => execNot8 (b := true) rfl (ee _)) (rv_ 9 (.agg (wC nw ev)) (fun a ee => execLdWn rfl (ee _) (on9 Fg3 BB)) (rc_ 12 (pright_t nw s r ev n nu tw ln t X1_2 (hE.on BB) hn hl hnw h1 h2 h3) (cb_ fun X1 bQ => ?_)))
        replace BB := BB.trans (bQ.mono BB.size)
        clear bQ
        refine rv_ 13 (.bool false) (fun a ee => execNot8 (b := true) rfl (ee _)) (rg_ [(21, .bool false)] ?_)
        rintro a A ⟨t21, -⟩
        refine wp_cond_false t21 ?_
        refine wp_skip ?_
        clear t21
        refine wp_seq ?_
        refine wi_ A h0_ (rg_ [(6, .int .i64 ((0 : Nat) : Int))] ?_)
        rintro a A ⟨t6, -⟩
        have BW2 := BW.trans (BB.mono BW.size)
        refine wp_ret ?_
        refine bodyPost_ret (results_tmp rfl _ _ _) A.2 ⟨?_, BW2⟩
        show Ending.returned (a.eval (.tmp 6)) = _
        rw [t6]
        rw [show wChk (nw, esL n nu ln t) s r = 0 from if_pos h3]
end Go.Proofs.YtepdejnholphcaaGreat.Win
