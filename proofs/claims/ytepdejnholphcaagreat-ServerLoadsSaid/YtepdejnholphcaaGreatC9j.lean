import Derived.Test.YtepdejnholphcaaGreatC9i
namespace Go.Proofs.YtepdejnholphcaaGreat.Win
open Go.RowKit Gf8 Aes By8 Cel Cf
/- The reference's Check. Written by tools/mkC9j.py. -/

set_option maxRecDepth 100000 in
set_option maxHeartbeats 4000000 in
/-- The reference's Check. -/
theorem rcheck16 (nw s r : Int) (ev : Value) (n : Nat) (nu : Nat → Int) (tw : Nat → Value) (ln : Nat → Nat) (t : Nat → Nat → Nat → Nat) (V : World) (hE : Eps V ev n nu tw ln t) (hn : n < 9223372036854775808) (hl : ∀ j, j < n → ln j ≤ 8796093022208) (hnw : I64 nw) (hs : I64 s) (hr : I64 r) :
    Calls Tryz.prog 17 #[.agg (wC nw ev), .int .i64 s, .int .i64 r] V fun e w' => e = .returned (.int .i64 ((wChk (nw, esL n nu ln t) s r : Nat) : Int)) ∧ Below V.heap.size V w' := by
  go_enter Tryz.func17, Tryz.ntmps17
  refine wo_ 118 [(0, .agg (wC nw ev)), (1, .int .i64 s), (2, .int .i64 r)] ?_
  rintro a A ⟨t0, t1, t2, -⟩
  have BW : Below V.heap.size V V := Below.refl _ _
  refine wp_seq ?_
  obtain ⟨g3, egg3⟩ : ∃ z_ : Nat, V.heap.size = z_ := ⟨_, rfl⟩
  refine wi_ A (h3_ t0 t1 t2) (rs_ 0 (fun a ee => ?_))
  refine stepV rfl rfl (execBoxW rfl (ee _)) ⟨.pointer (some ⟨g3, 0, none⟩), ⟨_, rfl, by subst egg3; rfl⟩, fun X0 hX => ?_⟩
  have bQ : Below V.heap.size V X0 := by subst hX egg3; exact (belNew V _)
  have Fg3 : (X0.heap[g3]? = some (.cells (wC nw ev) 27)) := by subst hX egg3; exact heapNew V _
  have bX := bQ
  clear bQ hX egg3 ee a
  refine rf_ [(3, .pointer (some ⟨g3, 0, none⟩))] (h2_ t1 t2) ?_
  rintro a A ⟨t3, -⟩ ⟨t1, t2, -⟩
  replace hE := (hE.on bX)
  have ZX0 := bX.size
  replace BW := BW.trans (bX.mono BW.size)
  clear bX
  have BB : Below X0.heap.size X0 X0 := Below.refl _ _
  refine wp_seq ?_
  refine wp_seq ?_
  by_cases h1 : s < 1
  · refine wi_ A (h3_ t1 t2 t3) (rv_ 1 (.bool true) (fun a ee => execDec (exIlss3 (p := s) (q := 1) rfl (ee _) rfl) (decide_eq_true h1)) (rf_ [(39, .bool true)] (h3_ t1 t2 t3) ?_))
    rintro a A ⟨t39, -⟩ ⟨t1, t2, t3, -⟩
    refine wp_cond_true t39 ?_
    clear t39
    refine wp_seq ?_
    refine wi_ A (h3_ t1 t2 t3) (rg_ [(6, .int .i64 ((2 : Nat) : Int))] ?_)
    rintro a A ⟨t6, -⟩
    have BW2 := BW.trans (BB.mono BW.size)
    refine wp_ret ?_
    repeat (first | with_reducible refine ret_in ?_ | with_reducible refine ret_then ?_)
    refine bodyPost_ret (results_tmp rfl _ _ _) A.2 ⟨?_, BW2⟩
    show Ending.returned (a.eval (.tmp 6)) = _
    rw [t6]
    rw [show wChk (nw, esL n nu ln t) s r = 2 from if_neg (fun h_ => by have := h_.1; omega)]
  · by_cases h2 : s > 8
    · refine wi_ A (h3_ t1 t2 t3) (rv_ 1 (.bool false) (fun a ee => execDec (exIlss3 (p := s) (q := 1) rfl (ee _) rfl) (decide_eq_false h1)) (rv_ 4 (.bool true) (fun a ee => execDec (exIgtr3 (p := s) (q := 8) rfl (ee _) rfl) (decide_eq_true h2)) (rf_ [(39, .bool true)] (h3_ t1 t2 t3) ?_)))
      rintro a A ⟨t39, -⟩ ⟨t1, t2, t3, -⟩
      refine wp_cond_true t39 ?_
      clear t39
      refine wp_seq ?_
      refine wi_ A (h3_ t1 t2 t3) (rg_ [(6, .int .i64 ((2 : Nat) : Int))] ?_)
      rintro a A ⟨t6, -⟩
      have BW2 := BW.trans (BB.mono BW.size)
      refine wp_ret ?_
      repeat (first | with_reducible refine ret_in ?_ | with_reducible refine ret_then ?_)
      refine bodyPost_ret (results_tmp rfl _ _ _) A.2 ⟨?_, BW2⟩
      show Ending.returned (a.eval (.tmp 6)) = _
      rw [t6]
      rw [show wChk (nw, esL n nu ln t) s r = 2 from if_neg (fun h_ => by have := h_.2.1; omega)]
    · by_cases h3 : r < 0
      · refine wi_ A (h3_ t1 t2 t3) (rv_ 1 (.bool false) (fun a ee => execDec (exIlss3 (p := s) (q := 1) rfl (ee _) rfl) (decide_eq_false h1)) (rv_ 4 (.bool false) (fun a ee => execDec (exIgtr3 (p := s) (q := 8) rfl (ee _) rfl) (decide_eq_false h2)) (rv_ 8 (.bool true) (fun a ee => execDec (exIlss3 (p := r) (q := 0) rfl (ee _) rfl) (decide_eq_true h3)) (rf_ [(39, .bool true)] (h3_ t1 t2 t3) ?_))))
        rintro a A ⟨t39, -⟩ ⟨t1, t2, t3, -⟩
        refine wp_cond_true t39 ?_
        clear t39
        refine wp_seq ?_
        refine wi_ A (h3_ t1 t2 t3) (rg_ [(6, .int .i64 ((2 : Nat) : Int))] ?_)
        rintro a A ⟨t6, -⟩
        have BW2 := BW.trans (BB.mono BW.size)
        refine wp_ret ?_
        repeat (first | with_reducible refine ret_in ?_ | with_reducible refine ret_then ?_)
        refine bodyPost_ret (results_tmp rfl _ _ _) A.2 ⟨?_, BW2⟩
        show Ending.returned (a.eval (.tmp 6)) = _
        rw [t6]
        rw [show wChk (nw, esL n nu ln t) s r = 2 from if_neg (fun h_ => by have := h_.2.2.1; omega)]
      · by_cases h4 : r > 4096
        · refine wi_ A (h3_ t1 t2 t3) (rv_ 1 (.bool false) (fun a ee => execDec (exIlss3 (p := s) (q := 1) rfl (ee _) rfl) (decide_eq_false h1)) (rv_ 4 (.bool false) (fun a ee => execDec (exIgtr3 (p := s) (q := 8) rfl (ee _) rfl) (decide_eq_false h2)) (rv_ 8 (.bool false) (fun a ee => execDec (exIlss3 (p := r) (q := 0) rfl (ee _) rfl) (decide_eq_false h3)) (rv_ 12 (.bool true) (fun a ee => execDec (exIgtr3 (p := r) (q := 4096) rfl (ee _) rfl) (decide_eq_true h4)) (rf_ [(39, .bool true)] (h3_ t1 t2 t3) ?_)))))
          rintro a A ⟨t39, -⟩ ⟨t1, t2, t3, -⟩
          refine wp_cond_true t39 ?_
          clear t39
          refine wp_seq ?_
          refine wi_ A (h3_ t1 t2 t3) (rg_ [(6, .int .i64 ((2 : Nat) : Int))] ?_)
          rintro a A ⟨t6, -⟩
          have BW2 := BW.trans (BB.mono BW.size)
          refine wp_ret ?_
          repeat (first | with_reducible refine ret_in ?_ | with_reducible refine ret_then ?_)
          refine bodyPost_ret (results_tmp rfl _ _ _) A.2 ⟨?_, BW2⟩
          show Ending.returned (a.eval (.tmp 6)) = _
          rw [t6]
          rw [show wChk (nw, esL n nu ln t) s r = 2 from if_neg (fun h_ => by have := h_.2.2.2.1; omega)]
        · by_cases h5 : nw < 0
          · refine wi_ A (h3_ t1 t2 t3) (rv_ 1 (.bool false) (fun a ee => execDec (exIlss3 (p := s) (q := 1) rfl (ee _) rfl) (decide_eq_false h1)) (rv_ 4 (.bool false) (fun a ee => execDec (exIgtr3 (p := s) (q := 8) rfl (ee _) rfl) (decide_eq_false h2)) (rv_ 8 (.bool false) (fun a ee => execDec (exIlss3 (p := r) (q := 0) rfl (ee _) rfl) (decide_eq_false h3)) (rv_ 12 (.bool false) (fun a ee => execDec (exIgtr3 (p := r) (q := 4096) rfl (ee _) rfl) (decide_eq_false h4)) (rv_ 15 (.pointer (some ⟨g3, 0, none⟩)) (fun a ee => execFldW0 rfl (ee _)) (rv_ 16 (.int .i64 nw) (fun a ee => execLd2 rfl (ee _) (wC_0 (on9 Fg3 BB))) (rv_ 17 (.bool true) (fun a ee => execDec (exIlss2 (p := nw) (q := 0) rfl (ee _) rfl) (decide_eq_true h5)) (rf_ [(39, .bool true)] (h3_ t1 t2 t3) ?_))))))))
            rintro a A ⟨t39, -⟩ ⟨t1, t2, t3, -⟩
            refine wp_cond_true t39 ?_
            clear t39
            refine wp_seq ?_
            refine wi_ A (h3_ t1 t2 t3) (rg_ [(6, .int .i64 ((2 : Nat) : Int))] ?_)
            rintro a A ⟨t6, -⟩
            have BW2 := BW.trans (BB.mono BW.size)
            refine wp_ret ?_
            repeat (first | with_reducible refine ret_in ?_ | with_reducible refine ret_then ?_)
            refine bodyPost_ret (results_tmp rfl _ _ _) A.2 ⟨?_, BW2⟩
            show Ending.returned (a.eval (.tmp 6)) = _
            rw [t6]
            rw [show wChk (nw, esL n nu ln t) s r = 2 from if_neg (fun h_ => by have q_ : 0 ≤ nw := h_.2.2.2.2.1; omega)]
          · by_cases h6 : nw > 4611686018427387904
            · refine wi_ A (h3_ t1 t2 t3) (rv_ 1 (.bool false) (fun a ee => execDec (exIlss3 (p := s) (q := 1) rfl (ee _) rfl) (decide_eq_false h1)) (rv_ 4 (.bool false) (fun a ee => execDec (exIgtr3 (p := s) (q := 8) rfl (ee _) rfl) (decide_eq_false h2)) (rv_ 8 (.bool false) (fun a ee => execDec (exIlss3 (p := r) (q := 0) rfl (ee _) rfl) (decide_eq_false h3)) (rv_ 12 (.bool false) (fun a ee => execDec (exIgtr3 (p := r) (q := 4096) rfl (ee _) rfl) (decide_eq_false h4)) (rv_ 15 (.pointer (some ⟨g3, 0, none⟩)) (fun a ee => execFldW0 rfl (ee _)) (rv_ 16 (.int .i64 nw) (fun a ee => execLd2 rfl (ee _) (wC_0 (on9 Fg3 BB))) (rv_ 17 (.bool false) (fun a ee => execDec (exIlss2 (p := nw) (q := 0) rfl (ee _) rfl) (decide_eq_false h5)) (rv_ 20 (.pointer (some ⟨g3, 0, none⟩)) (fun a ee => execFldW0 rfl (ee _)) (rv_ 21 (.int .i64 nw) (fun a ee => execLd2 rfl (ee _) (wC_0 (on9 Fg3 BB))) (rv_ 22 (.bool true) (fun a ee => execDec (exIgtr2 (p := nw) (q := 4611686018427387904) rfl (ee _) rfl) (decide_eq_true h6)) (rf_ [(39, .bool true)] (h3_ t1 t2 t3) ?_)))))))))))
              rintro a A ⟨t39, -⟩ ⟨t1, t2, t3, -⟩
              refine wp_cond_true t39 ?_
              clear t39
              refine wp_seq ?_
              refine wi_ A (h3_ t1 t2 t3) (rg_ [(6, .int .i64 ((2 : Nat) : Int))] ?_)
              rintro a A ⟨t6, -⟩
              have BW2 := BW.trans (BB.mono BW.size)
              refine wp_ret ?_
              repeat (first | with_reducible refine ret_in ?_ | with_reducible refine ret_then ?_)
              refine bodyPost_ret (results_tmp rfl _ _ _) A.2 ⟨?_, BW2⟩
              show Ending.returned (a.eval (.tmp 6)) = _
              rw [t6]
              rw [show wChk (nw, esL n nu ln t) s r = 2 from if_neg (fun h_ => by have q_ : nw ≤ 4611686018427387904 := h_.2.2.2.2.2.1; omega)]
            · by_cases h7 : sW ln n > r
              · refine wi_ A (h3_ t1 t2 t3) (rv_ 1 (.bool false) (fun a ee => execDec (exIlss3 (p := s) (q := 1) rfl (ee _) rfl) (decide_eq_false h1)) (rv_ 4 (.bool false) (fun a ee => execDec (exIgtr3 (p := s) (q := 8) rfl (ee _) rfl) (decide_eq_false h2)) (rv_ 8 (.bool false) (fun a ee => execDec (exIlss3 (p := r) (q := 0) rfl (ee _) rfl) (decide_eq_false h3)) (rv_ 12 (.bool false) (fun a ee => execDec (exIgtr3 (p := r) (q := 4096) rfl (ee _) rfl) (decide_eq_false h4)) (rv_ 15 (.pointer (some ⟨g3, 0, none⟩)) (fun a ee => execFldW0 rfl (ee _)) (rv_ 16 (.int .i64 nw) (fun a ee => execLd2 rfl (ee _) (wC_0 (on9 Fg3 BB))) (rv_ 17 (.bool false) (fun a ee => execDec (exIlss2 (p := nw) (q := 0) rfl (ee _) rfl) (decide_eq_false h5)) (rv_ 20 (.pointer (some ⟨g3, 0, none⟩)) (fun a ee => execFldW0 rfl (ee _)) (rv_ 21 (.int .i64 nw) (fun a ee => execLd2 rfl (ee _) (wC_0 (on9 Fg3 BB))) (rv_ 22 (.bool false) (fun a ee => execDec (exIgtr2 (p := nw) (q := 4611686018427387904) rfl (ee _) rfl) (decide_eq_false h6)) (rv_ 25 (.agg (wC nw ev)) (fun a ee => execLdWn rfl (ee _) (on9 Fg3 BB)) (rc_ 26 (rlen16 nw ev n nu tw ln t X0 (hE.on BB) hn) (cb_ fun X1 bQ => ?_)))))))))))))
                replace BB := BB.trans (bQ.mono BB.size)
                clear bQ
                refine rv_ 28 (.bool true) (fun a ee => execDec (exIgtr3 (p := (sW ln n)) (q := r) rfl (ee _) (ee _)) (decide_eq_true h7)) (rf_ [(39, .bool true)] (h3_ t1 t2 t3) ?_)
                rintro a A ⟨t39, -⟩ ⟨t1, t2, t3, -⟩
                refine wp_cond_true t39 ?_
                clear t39
                refine wp_seq ?_
                refine wi_ A (h3_ t1 t2 t3) (rg_ [(6, .int .i64 ((2 : Nat) : Int))] ?_)
                rintro a A ⟨t6, -⟩
                have BW2 := BW.trans (BB.mono BW.size)
                refine wp_ret ?_
                repeat (first | with_reducible refine ret_in ?_ | with_reducible refine ret_then ?_)
                refine bodyPost_ret (results_tmp rfl _ _ _) A.2 ⟨?_, BW2⟩
                show Ending.returned (a.eval (.tmp 6)) = _
                rw [t6]
                rw [show wChk (nw, esL n nu ln t) s r = 2 from if_neg (fun h_ => by have q_ : ((wLen (esL n nu ln t) : Nat) : Int) ≤ r := h_.2.2.2.2.2.2.1; have q2 := sW_fit (nu := nu) (t := t) (ln := ln) n (by omega); omega)]
              · refine wi_ A (h3_ t1 t2 t3) (rv_ 1 (.bool false) (fun a ee => execDec (exIlss3 (p := s) (q := 1) rfl (ee _) rfl) (decide_eq_false h1)) (rv_ 4 (.bool false) (fun a ee => execDec (exIgtr3 (p := s) (q := 8) rfl (ee _) rfl) (decide_eq_false h2)) (rv_ 8 (.bool false) (fun a ee => execDec (exIlss3 (p := r) (q := 0) rfl (ee _) rfl) (decide_eq_false h3)) (rv_ 12 (.bool false) (fun a ee => execDec (exIgtr3 (p := r) (q := 4096) rfl (ee _) rfl) (decide_eq_false h4)) (rv_ 15 (.pointer (some ⟨g3, 0, none⟩)) (fun a ee => execFldW0 rfl (ee _)) (rv_ 16 (.int .i64 nw) (fun a ee => execLd2 rfl (ee _) (wC_0 (on9 Fg3 BB))) (rv_ 17 (.bool false) (fun a ee => execDec (exIlss2 (p := nw) (q := 0) rfl (ee _) rfl) (decide_eq_false h5)) (rv_ 20 (.pointer (some ⟨g3, 0, none⟩)) (fun a ee => execFldW0 rfl (ee _)) (rv_ 21 (.int .i64 nw) (fun a ee => execLd2 rfl (ee _) (wC_0 (on9 Fg3 BB))) (rv_ 22 (.bool false) (fun a ee => execDec (exIgtr2 (p := nw) (q := 4611686018427387904) rfl (ee _) rfl) (decide_eq_false h6)) (rv_ 25 (.agg (wC nw ev)) (fun a ee => execLdWn rfl (ee _) (on9 Fg3 BB)) (rc_ 26 (rlen16 nw ev n nu tw ln t X0 (hE.on BB) hn) (cb_ fun X1 bQ => ?_)))))))))))))
                replace BB := BB.trans (bQ.mono BB.size)
                clear bQ
                refine rv_ 28 (.bool false) (fun a ee => execDec (exIgtr3 (p := (sW ln n)) (q := r) rfl (ee _) (ee _)) (decide_eq_false h7)) (rf_ [(39, .bool false)] (h3_ t1 t2 t3) ?_)
                rintro a A ⟨t39, -⟩ ⟨t1, t2, t3, -⟩
                refine wp_cond_false t39 ?_
                refine wp_skip ?_
                clear t39
                have hsub1 : 0 ≤ nw := by omega
                have hsub2 : nw ≤ 4611686018427387904 := by omega
                refine wp_seq ?_
                refine wp_seq ?_
                refine wi_ A (h3_ t1 t2 t3) (rf_ [(7, .int .i64 ((0 : Nat) : Int))] (h3_ t1 t2 t3) ?_)
                rintro a A ⟨t7, -⟩ ⟨t1, t2, t3, -⟩
                refine wp_block ?_
                refine wp_loop (fun a W => ∃ (i : Nat), i ≤ n ∧ (∀ j_, j_ < i → OkE nw s (nu j_, tgL (ln j_) (t j_))) ∧ (∀ k_, k_ + 1 < i → nu k_ < nu (k_ + 1)) ∧ (a.tmps.size = 118 ∧ a.defers = []) ∧ a.eval (.tmp 1) = .int .i64 s ∧ a.eval (.tmp 2) = .int .i64 r ∧ a.eval (.tmp 3) = .pointer (some ⟨g3, 0, none⟩) ∧ a.eval (.tmp 7) = .int .i64 ((i : Nat) : Int) ∧ Below X0.heap.size X0 W) (fun a _ => n - (intOf (a.eval (.tmp 7))).toNat) ⟨0, Nat.zero_le _, fun j_ h => absurd h (Nat.not_lt_zero j_), fun k_ h => absurd h (Nat.not_lt_zero _), A, t1, t2, t3, t7, BB⟩ ?_
                clear A t1 t2 t3 t7 BB a
                rintro a XL4 ⟨i, hi, hok, hri, A, t1, t2, t3, t7, BB⟩
                have esi := t7
                refine wp_seq ?_
                refine wp_seq ?_
                refine wi_ A (h4_ t1 t2 t3 t7) (rv_ 1 (.pointer (some ⟨g3, 1, none⟩)) (fun a ee => execFldW1 rfl (ee _)) (rv_ 2 (ev) (fun a ee => execLdEs rfl (ee _) (wC_1 (on9 Fg3 BB))) (rv_ 3 (.int .i64 ((n : Nat) : Int)) (fun a ee => execLenEs (len := n) rfl (ee _) hE.shp) (rv_ 4 (.bool (decide (i < n))) (fun a ee => execLtW (p := i) (q := n) rfl (ee _) (ee _)) (rf_ [(44, .bool (decide (i < n)))] (h4_ t1 t2 t3 t7) ?_)))))
                rintro a A ⟨t44, -⟩ ⟨t1, t2, t3, t7, -⟩
                by_cases lti : i < n
                · rw [decide_eq_true lti] at t44
                  refine wp_cond_true t44 ?_
                  refine wp_skip ?_
                  clear t44
                  refine wp_seq ?_
                  refine wp_block ?_
                  have hT := hE.lists i lti
                  have hln := hl i lti
                  obtain ⟨eb, eo, ec, ee_, heb, hec⟩ := hE.at (show 0 < n by omega)
                  have cE : ∀ X, Below X0.heap.size X0 X → X.cell? ⟨eb, eo + i * 2 + 1, none⟩ = some (tw i) := fun X hX => by rw [cell_below hX heb]; exact (hec i lti).2
                  have cN : ∀ X, Below X0.heap.size X0 X → X.cell? ⟨eb, eo + i * 2 + 0, none⟩ = some (.int .i64 (nu i)) := fun X hX => by rw [cell_below hX heb]; exact (hec i lti).1
                  have cP : 0 < i → ∀ X, Below X0.heap.size X0 X → X.cell? ⟨eb, eo + (i - 1) * 2 + 0, none⟩ = some (.int .i64 (nu (i - 1))) := fun _ X hX => by rw [cell_below hX heb]; exact (hec (i - 1) (by omega)).1
                  refine wp_seq ?_
                  obtain ⟨g8, egg8⟩ : ∃ z_ : Nat, XL4.heap.size = z_ := ⟨_, rfl⟩
                  refine wi_ A (h4_ t1 t2 t3 t7) (rv_ 0 (.pointer (some ⟨g3, 1, none⟩)) (fun a ee => execFldW1 rfl (ee _)) (rv_ 1 (ev) (fun a ee => execLdEs rfl (ee _) (wC_1 (on9 Fg3 BB))) (rv_ 3 (.pointer (some ⟨eb, eo + i * 2, none⟩)) (fun a ee => execIdxEs (k := i) rfl ((ee _).trans ee_) (ee _) (by omega)) (rv_ 4 (.agg (epC (nu i) (tw i))) (fun a ee => execLdEp rfl (ee _) (cN XL4 BB) (cE XL4 BB)) (rs_ 5 (fun a ee => ?_))))))
                  refine stepV rfl rfl (execAllEp rfl) ⟨.pointer (some ⟨g8, 0, none⟩), ⟨_, rfl, by subst egg8; rfl⟩, fun X6_1 hX => ?_⟩
                  have bQ : Below XL4.heap.size XL4 X6_1 := by subst hX egg8; exact (belNew XL4 _)
                  have Fg8 : (X6_1.heap[g8]? = some (.cells (epC 0 (.slice none 0 0)) 57)) := by subst hX egg8; exact heapNew XL4 _
                  have FGe : (X0.heap.size ≤ g8) := by subst hX egg8; exact (BB).size
                  replace BB := BB.trans (bQ.mono BB.size)
                  clear bQ hX egg8 ee a
                  refine rs_ 6 (fun a ee => ?_)
                  refine stepS rfl rfl (execStEp rfl (ee _) (ee _) Fg8 (by obtain ⟨_, _, e_⟩ := hT.shp; rw [e_]; rfl)) ⟨_, ⟨_, rfl, rfl⟩, fun X6 hX => ?_⟩
                  obtain ⟨BB, Fe⟩ : Below X0.heap.size X0 X6 ∧ (X6.heap[g8]? = some (.cells (epC (nu i) (tw i)) 57)) := by subst hX; exact ⟨below4 BB FGe _, setRow_heap _ _ _ _ _ _ Fg8⟩
                  clear Fg8 hX ee a
                  refine rf_ [(8, .pointer (some ⟨g8, 0, none⟩))] (h4_ t1 t2 t3 t7) ?_
                  rintro a A ⟨t8, -⟩ ⟨t1, t2, t3, t7, -⟩
                  clear FGe
                  refine wp_seq ?_
                  refine wp_seq ?_
                  by_cases d1 : nu i < 0
                  · refine wi_ A (h5_ t1 t2 t3 t7 t8) (rv_ 0 (.pointer (some ⟨g8, 0 + 0, none⟩)) (fun a ee => execFldE0 rfl (ee _)) (rv_ 1 (.int .i64 (nu i)) (fun a ee => execLd2 rfl (ee _) (epC_0 Fe)) (rv_ 2 (.bool true) (fun a ee => execDec (exIlss2 (p := (nu i)) (q := 0) rfl (ee _) rfl) (decide_eq_true d1)) (rf_ [(76, .bool true)] (h5_ t1 t2 t3 t7 t8) ?_))))
                    rintro a A ⟨t76, -⟩ ⟨t1, t2, t3, t7, t8, -⟩
                    refine wp_cond_true t76 ?_
                    clear t76
                    refine wp_seq ?_
                    refine wi_ A (h5_ t1 t2 t3 t7 t8) (rg_ [(6, .int .i64 ((2 : Nat) : Int))] ?_)
                    rintro a A ⟨t6, -⟩
                    have BW2 := BW.trans (BB.mono BW.size)
                    refine wp_ret ?_
                    repeat (first | with_reducible refine ret_in ?_ | with_reducible refine ret_then ?_)
                    refine bodyPost_ret (results_tmp rfl _ _ _) A.2 ⟨?_, BW2⟩
                    show Ending.returned (a.eval (.tmp 6)) = _
                    rw [t6]
                    rw [show wChk (nw, esL n nu ln t) s r = 2 from if_neg (fun h_ => by have q_ : 0 ≤ nu i := ((each_iff (P := fun x => OkE nw s x)).1 h_.2.2.2.2.2.2.2.1 i lti).1; omega)]
                  · by_cases d2 : nu i > nw
                    · refine wi_ A (h5_ t1 t2 t3 t7 t8) (rv_ 0 (.pointer (some ⟨g8, 0 + 0, none⟩)) (fun a ee => execFldE0 rfl (ee _)) (rv_ 1 (.int .i64 (nu i)) (fun a ee => execLd2 rfl (ee _) (epC_0 Fe)) (rv_ 2 (.bool false) (fun a ee => execDec (exIlss2 (p := (nu i)) (q := 0) rfl (ee _) rfl) (decide_eq_false d1)) (rv_ 4 (.pointer (some ⟨g8, 0 + 0, none⟩)) (fun a ee => execFldE0 rfl (ee _)) (rv_ 5 (.int .i64 (nu i)) (fun a ee => execLd2 rfl (ee _) (epC_0 Fe)) (rv_ 6 (.pointer (some ⟨g3, 0, none⟩)) (fun a ee => execFldW0 rfl (ee _)) (rv_ 7 (.int .i64 nw) (fun a ee => execLd2 rfl (ee _) (wC_0 (on9 Fg3 BB))) (rv_ 8 (.bool true) (fun a ee => execDec (exIgtr2 (p := (nu i)) (q := nw) rfl (ee _) (ee _)) (decide_eq_true d2)) (rf_ [(76, .bool true)] (h5_ t1 t2 t3 t7 t8) ?_)))))))))
                      rintro a A ⟨t76, -⟩ ⟨t1, t2, t3, t7, t8, -⟩
                      refine wp_cond_true t76 ?_
                      clear t76
                      refine wp_seq ?_
                      refine wi_ A (h5_ t1 t2 t3 t7 t8) (rg_ [(6, .int .i64 ((2 : Nat) : Int))] ?_)
                      rintro a A ⟨t6, -⟩
                      have BW2 := BW.trans (BB.mono BW.size)
                      refine wp_ret ?_
                      repeat (first | with_reducible refine ret_in ?_ | with_reducible refine ret_then ?_)
                      refine bodyPost_ret (results_tmp rfl _ _ _) A.2 ⟨?_, BW2⟩
                      show Ending.returned (a.eval (.tmp 6)) = _
                      rw [t6]
                      rw [show wChk (nw, esL n nu ln t) s r = 2 from if_neg (fun h_ => by have q_ : nu i ≤ nw := ((each_iff (P := fun x => OkE nw s x)).1 h_.2.2.2.2.2.2.2.1 i lti).2.1; omega)]
                    · by_cases d3 : nu i ≤ nw - s
                      · refine wi_ A (h5_ t1 t2 t3 t7 t8) (rv_ 0 (.pointer (some ⟨g8, 0 + 0, none⟩)) (fun a ee => execFldE0 rfl (ee _)) (rv_ 1 (.int .i64 (nu i)) (fun a ee => execLd2 rfl (ee _) (epC_0 Fe)) (rv_ 2 (.bool false) (fun a ee => execDec (exIlss2 (p := (nu i)) (q := 0) rfl (ee _) rfl) (decide_eq_false d1)) (rv_ 4 (.pointer (some ⟨g8, 0 + 0, none⟩)) (fun a ee => execFldE0 rfl (ee _)) (rv_ 5 (.int .i64 (nu i)) (fun a ee => execLd2 rfl (ee _) (epC_0 Fe)) (rv_ 6 (.pointer (some ⟨g3, 0, none⟩)) (fun a ee => execFldW0 rfl (ee _)) (rv_ 7 (.int .i64 nw) (fun a ee => execLd2 rfl (ee _) (wC_0 (on9 Fg3 BB))) (rv_ 8 (.bool false) (fun a ee => execDec (exIgtr2 (p := (nu i)) (q := nw) rfl (ee _) (ee _)) (decide_eq_false d2)) (rv_ 11 (.pointer (some ⟨g8, 0 + 0, none⟩)) (fun a ee => execFldE0 rfl (ee _)) (rv_ 12 (.int .i64 (nu i)) (fun a ee => execLd2 rfl (ee _) (epC_0 Fe)) (rv_ 13 (.pointer (some ⟨g3, 0, none⟩)) (fun a ee => execFldW0 rfl (ee _)) (rv_ 14 (.int .i64 nw) (fun a ee => execLd2 rfl (ee _) (wC_0 (on9 Fg3 BB))) (rv_ 16 (.int .i64 (nw - s)) (fun a ee => execSub2 (z := nw - s) rfl (ee _) (ee _) rfl (by omega) (by omega)) (rv_ 17 (.bool true) (fun a ee => execDec (exIleq2 (p := (nu i)) (q := (nw - s)) rfl (ee _) (ee _)) (decide_eq_true d3)) (rf_ [(76, .bool true)] (h5_ t1 t2 t3 t7 t8) ?_)))))))))))))))
                        rintro a A ⟨t76, -⟩ ⟨t1, t2, t3, t7, t8, -⟩
                        refine wp_cond_true t76 ?_
                        clear t76
                        refine wp_seq ?_
                        refine wi_ A (h5_ t1 t2 t3 t7 t8) (rg_ [(6, .int .i64 ((2 : Nat) : Int))] ?_)
                        rintro a A ⟨t6, -⟩
                        have BW2 := BW.trans (BB.mono BW.size)
                        refine wp_ret ?_
                        repeat (first | with_reducible refine ret_in ?_ | with_reducible refine ret_then ?_)
                        refine bodyPost_ret (results_tmp rfl _ _ _) A.2 ⟨?_, BW2⟩
                        show Ending.returned (a.eval (.tmp 6)) = _
                        rw [t6]
                        rw [show wChk (nw, esL n nu ln t) s r = 2 from if_neg (fun h_ => by have q_ : nw - s < nu i := ((each_iff (P := fun x => OkE nw s x)).1 h_.2.2.2.2.2.2.2.1 i lti).2.2.1; omega)]
                      · by_cases d4 : ln i = 0
                        · refine wi_ A (h5_ t1 t2 t3 t7 t8) (rv_ 0 (.pointer (some ⟨g8, 0 + 0, none⟩)) (fun a ee => execFldE0 rfl (ee _)) (rv_ 1 (.int .i64 (nu i)) (fun a ee => execLd2 rfl (ee _) (epC_0 Fe)) (rv_ 2 (.bool false) (fun a ee => execDec (exIlss2 (p := (nu i)) (q := 0) rfl (ee _) rfl) (decide_eq_false d1)) (rv_ 4 (.pointer (some ⟨g8, 0 + 0, none⟩)) (fun a ee => execFldE0 rfl (ee _)) (rv_ 5 (.int .i64 (nu i)) (fun a ee => execLd2 rfl (ee _) (epC_0 Fe)) (rv_ 6 (.pointer (some ⟨g3, 0, none⟩)) (fun a ee => execFldW0 rfl (ee _)) (rv_ 7 (.int .i64 nw) (fun a ee => execLd2 rfl (ee _) (wC_0 (on9 Fg3 BB))) (rv_ 8 (.bool false) (fun a ee => execDec (exIgtr2 (p := (nu i)) (q := nw) rfl (ee _) (ee _)) (decide_eq_false d2)) (rv_ 11 (.pointer (some ⟨g8, 0 + 0, none⟩)) (fun a ee => execFldE0 rfl (ee _)) (rv_ 12 (.int .i64 (nu i)) (fun a ee => execLd2 rfl (ee _) (epC_0 Fe)) (rv_ 13 (.pointer (some ⟨g3, 0, none⟩)) (fun a ee => execFldW0 rfl (ee _)) (rv_ 14 (.int .i64 nw) (fun a ee => execLd2 rfl (ee _) (wC_0 (on9 Fg3 BB))) (rv_ 16 (.int .i64 (nw - s)) (fun a ee => execSub2 (z := nw - s) rfl (ee _) (ee _) rfl (by omega) (by omega)) (rv_ 17 (.bool false) (fun a ee => execDec (exIleq2 (p := (nu i)) (q := (nw - s)) rfl (ee _) (ee _)) (decide_eq_false d3)) (rv_ 20 (.pointer (some ⟨g8, 0 + 1, none⟩)) (fun a ee => execFldE1 rfl (ee _)) (rv_ 21 (tw i) (fun a ee => execLdTs rfl (ee _) (epC_1 Fe)) (rv_ 22 (.int .i64 ((ln i : Nat) : Int)) (fun a ee => execLenTs (len := ln i) rfl (ee _) (hE.lists i lti).shp) (rv_ 23 (.bool true) (fun a ee => execDec (execEqN (p := ln i) (q := 0) rfl (ee _) rfl) (decide_eq_true (by omega))) (rf_ [(76, .bool true)] (h5_ t1 t2 t3 t7 t8) ?_)))))))))))))))))))
                          rintro a A ⟨t76, -⟩ ⟨t1, t2, t3, t7, t8, -⟩
                          refine wp_cond_true t76 ?_
                          clear t76
                          refine wp_seq ?_
                          refine wi_ A (h5_ t1 t2 t3 t7 t8) (rg_ [(6, .int .i64 ((2 : Nat) : Int))] ?_)
                          rintro a A ⟨t6, -⟩
                          have BW2 := BW.trans (BB.mono BW.size)
                          refine wp_ret ?_
                          repeat (first | with_reducible refine ret_in ?_ | with_reducible refine ret_then ?_)
                          refine bodyPost_ret (results_tmp rfl _ _ _) A.2 ⟨?_, BW2⟩
                          show Ending.returned (a.eval (.tmp 6)) = _
                          rw [t6]
                          rw [show wChk (nw, esL n nu ln t) s r = 2 from if_neg (fun h_ => (((each_iff (P := fun x => OkE nw s x)).1 h_.2.2.2.2.2.2.2.1 i lti).2.2.2.1 : tgL (ln i) (t i) ≠ []) (by rw [d4]; rfl))]
                        · refine wi_ A (h5_ t1 t2 t3 t7 t8) (rv_ 0 (.pointer (some ⟨g8, 0 + 0, none⟩)) (fun a ee => execFldE0 rfl (ee _)) (rv_ 1 (.int .i64 (nu i)) (fun a ee => execLd2 rfl (ee _) (epC_0 Fe)) (rv_ 2 (.bool false) (fun a ee => execDec (exIlss2 (p := (nu i)) (q := 0) rfl (ee _) rfl) (decide_eq_false d1)) (rv_ 4 (.pointer (some ⟨g8, 0 + 0, none⟩)) (fun a ee => execFldE0 rfl (ee _)) (rv_ 5 (.int .i64 (nu i)) (fun a ee => execLd2 rfl (ee _) (epC_0 Fe)) (rv_ 6 (.pointer (some ⟨g3, 0, none⟩)) (fun a ee => execFldW0 rfl (ee _)) (rv_ 7 (.int .i64 nw) (fun a ee => execLd2 rfl (ee _) (wC_0 (on9 Fg3 BB))) (rv_ 8 (.bool false) (fun a ee => execDec (exIgtr2 (p := (nu i)) (q := nw) rfl (ee _) (ee _)) (decide_eq_false d2)) (rv_ 11 (.pointer (some ⟨g8, 0 + 0, none⟩)) (fun a ee => execFldE0 rfl (ee _)) (rv_ 12 (.int .i64 (nu i)) (fun a ee => execLd2 rfl (ee _) (epC_0 Fe)) (rv_ 13 (.pointer (some ⟨g3, 0, none⟩)) (fun a ee => execFldW0 rfl (ee _)) (rv_ 14 (.int .i64 nw) (fun a ee => execLd2 rfl (ee _) (wC_0 (on9 Fg3 BB))) (rv_ 16 (.int .i64 (nw - s)) (fun a ee => execSub2 (z := nw - s) rfl (ee _) (ee _) rfl (by omega) (by omega)) (rv_ 17 (.bool false) (fun a ee => execDec (exIleq2 (p := (nu i)) (q := (nw - s)) rfl (ee _) (ee _)) (decide_eq_false d3)) (rv_ 20 (.pointer (some ⟨g8, 0 + 1, none⟩)) (fun a ee => execFldE1 rfl (ee _)) (rv_ 21 (tw i) (fun a ee => execLdTs rfl (ee _) (epC_1 Fe)) (rv_ 22 (.int .i64 ((ln i : Nat) : Int)) (fun a ee => execLenTs (len := ln i) rfl (ee _) (hE.lists i lti).shp) (rv_ 23 (.bool false) (fun a ee => execDec (execEqN (p := ln i) (q := 0) rfl (ee _) rfl) (decide_eq_false (by omega))) (rf_ [(76, .bool false)] (h5_ t1 t2 t3 t7 t8) ?_)))))))))))))))))))
                          rintro a A ⟨t76, -⟩ ⟨t1, t2, t3, t7, t8, -⟩
                          refine wp_cond_false t76 ?_
                          refine wp_skip ?_
                          clear t76
                          refine wp_seq ?_
                          refine wp_seq ?_
                          by_cases i0 : 0 < i
                          · by_cases f1 : nu (i - 1) ≥ nu i
                            · refine wj_ [0, 1, 2, 3, 4, 5, 6, 7, 8, 9, 10, 11, 12, 13] [] [4, 9, 11] [] A (h5_ t1 t2 t3 t7 t8) (fun X9 bD => ?_)
                              refine dw_ 1 (.bool true) (fun a X ee => execDec (execGtN (p := i) (q := 0) rfl (ee _) rfl) (decide_eq_true (by omega))) (dw_ 3 (.pointer (some ⟨g3, 1, none⟩)) (fun a X ee => execFldW1 rfl (ee _)) (dv_ 4 (ev) (fun a X ee hb => execLdEs rfl (ee _) (wC_1 (on9 Fg3 (BB.trans (hb.mono BB.size))))) (dw_ 6 (.int .i64 ((i - 1 : Nat) : Int)) (fun a X ee => By8.execSubI (p := i) (q := 1) rfl (ee _) rfl (by omega) (by omega)) (dw_ 7 (.pointer (some ⟨eb, eo + (i - 1) * 2, none⟩)) (fun a X ee => execIdxEs (k := i - 1) rfl ((ee _).trans ee_) (ee _) (by omega)) (dw_ 8 (.pointer (some ⟨eb, eo + (i - 1) * 2 + 0, none⟩)) (fun a X ee => execFldE0 rfl (ee _)) (dv_ 9 (.int .i64 (nu (i - 1))) (fun a X ee hb => execLd2 rfl (ee _) (cP (by omega) X (BB.trans (hb.mono BB.size)))) (dw_ 10 (.pointer (some ⟨g8, 0 + 0, none⟩)) (fun a X ee => execFldE0 rfl (ee _)) (dv_ 11 (.int .i64 (nu i)) (fun a X ee hb => execLd2 rfl (ee _) (epC_0 (on9 Fe hb))) (dw_ 12 (.bool true) (fun a X ee => execDec (exIgeq2 (p := (nu (i - 1))) (q := (nu i)) rfl (ee _) (ee _)) (decide_eq_true f1)) (dz_ [(90, .bool true)] (h5_ t1 t2 t3 t7 t8) ?_))))))))))
                              rintro a A ⟨t90, -⟩ ⟨t1, t2, t3, t7, t8, -⟩
                              replace Fe := (on9 Fe bD)
                              replace BB := BB.trans (bD.mono BB.size)
                              clear bD
                              refine wp_cond_true t90 ?_
                              clear t90
                              refine wp_seq ?_
                              refine wi_ A (h5_ t1 t2 t3 t7 t8) (rg_ [(6, .int .i64 ((2 : Nat) : Int))] ?_)
                              rintro a A ⟨t6, -⟩
                              have BW2 := BW.trans (BB.mono BW.size)
                              refine wp_ret ?_
                              repeat (first | with_reducible refine ret_in ?_ | with_reducible refine ret_then ?_)
                              refine bodyPost_ret (results_tmp rfl _ _ _) A.2 ⟨?_, BW2⟩
                              show Ending.returned (a.eval (.tmp 6)) = _
                              rw [t6]
                              rw [show wChk (nw, esL n nu ln t) s r = 2 from if_neg (fun h_ => by have q_ := rise_iff.1 h_.2.2.2.2.2.2.2.2.1 (i - 1) (by omega); rw [show i - 1 + 1 = i by omega] at q_; omega)]
                            · refine wj_ [0, 1, 2, 3, 4, 5, 6, 7, 8, 9, 10, 11, 12, 13] [] [4, 9, 11] [] A (h5_ t1 t2 t3 t7 t8) (fun X9 bD => ?_)
                              refine dw_ 1 (.bool true) (fun a X ee => execDec (execGtN (p := i) (q := 0) rfl (ee _) rfl) (decide_eq_true (by omega))) (dw_ 3 (.pointer (some ⟨g3, 1, none⟩)) (fun a X ee => execFldW1 rfl (ee _)) (dv_ 4 (ev) (fun a X ee hb => execLdEs rfl (ee _) (wC_1 (on9 Fg3 (BB.trans (hb.mono BB.size))))) (dw_ 6 (.int .i64 ((i - 1 : Nat) : Int)) (fun a X ee => By8.execSubI (p := i) (q := 1) rfl (ee _) rfl (by omega) (by omega)) (dw_ 7 (.pointer (some ⟨eb, eo + (i - 1) * 2, none⟩)) (fun a X ee => execIdxEs (k := i - 1) rfl ((ee _).trans ee_) (ee _) (by omega)) (dw_ 8 (.pointer (some ⟨eb, eo + (i - 1) * 2 + 0, none⟩)) (fun a X ee => execFldE0 rfl (ee _)) (dv_ 9 (.int .i64 (nu (i - 1))) (fun a X ee hb => execLd2 rfl (ee _) (cP (by omega) X (BB.trans (hb.mono BB.size)))) (dw_ 10 (.pointer (some ⟨g8, 0 + 0, none⟩)) (fun a X ee => execFldE0 rfl (ee _)) (dv_ 11 (.int .i64 (nu i)) (fun a X ee hb => execLd2 rfl (ee _) (epC_0 (on9 Fe hb))) (dw_ 12 (.bool false) (fun a X ee => execDec (exIgeq2 (p := (nu (i - 1))) (q := (nu i)) rfl (ee _) (ee _)) (decide_eq_false f1)) (dz_ [(90, .bool false)] (h5_ t1 t2 t3 t7 t8) ?_))))))))))
                              rintro a A ⟨t90, -⟩ ⟨t1, t2, t3, t7, t8, -⟩
                              replace Fe := (on9 Fe bD)
                              replace BB := BB.trans (bD.mono BB.size)
                              clear bD
                              refine wp_cond_false t90 ?_
                              refine wp_skip ?_
                              clear t90
                              have hrii : ∀ k_, k_ + 1 = i → nu k_ < nu i := fun k_ h => by rw [show k_ = i - 1 by omega]; omega
                              refine wp_seq ?_
                              refine wi_ A (h5_ t1 t2 t3 t7 t8) (rf_ [(9, .int .i64 ((1 : Nat) : Int))] (h5_ t1 t2 t3 t7 t8) ?_)
                              rintro a A ⟨t9, -⟩ ⟨t1, t2, t3, t7, t8, -⟩
                              have hl1 : 1 ≤ ln i := by omega
                              refine wp_block ?_
                              refine wp_loop (fun a W => ∃ (j : Nat), j ≤ ln i ∧ (1 ≤ j) ∧ (∀ k_, k_ + 1 < j → tv (t i k_) 16 < tv (t i (k_ + 1)) 16) ∧ (a.tmps.size = 118 ∧ a.defers = []) ∧ a.eval (.tmp 1) = .int .i64 s ∧ a.eval (.tmp 2) = .int .i64 r ∧ a.eval (.tmp 3) = .pointer (some ⟨g3, 0, none⟩) ∧ a.eval (.tmp 7) = .int .i64 ((i : Nat) : Int) ∧ a.eval (.tmp 8) = .pointer (some ⟨g8, 0, none⟩) ∧ a.eval (.tmp 9) = .int .i64 ((j : Nat) : Int) ∧ Below X0.heap.size X0 W ∧ (W.heap[g8]? = some (.cells (epC (nu i) (tw i)) 57))) (fun a _ => ln i - (intOf (a.eval (.tmp 9))).toNat) ⟨1, hl1, Nat.le_refl _, fun k_ h => absurd h (by omega), A, t1, t2, t3, t7, t8, t9, BB, Fe⟩ ?_
                              clear A t1 t2 t3 t7 t8 t9 BB Fe a
                              rintro a XL12 ⟨j, hj, hj1, hj2, A, t1, t2, t3, t7, t8, t9, BB, Fe⟩
                              have esj := t9
                              refine wp_seq ?_
                              refine wp_seq ?_
                              refine wi_ A (h6_ t1 t2 t3 t7 t8 t9) (rv_ 1 (.pointer (some ⟨g8, 0 + 1, none⟩)) (fun a ee => execFldE1 rfl (ee _)) (rv_ 2 (tw i) (fun a ee => execLdTs rfl (ee _) (epC_1 Fe)) (rv_ 3 (.int .i64 ((ln i : Nat) : Int)) (fun a ee => execLenTs (len := ln i) rfl (ee _) hT.shp) (rv_ 4 (.bool (decide (j < ln i))) (fun a ee => execLtW (p := j) (q := ln i) rfl (ee _) (ee _)) (rf_ [(95, .bool (decide (j < ln i)))] (h6_ t1 t2 t3 t7 t8 t9) ?_)))))
                              rintro a A ⟨t95, -⟩ ⟨t1, t2, t3, t7, t8, t9, -⟩
                              by_cases ltj : j < ln i
                              · rw [decide_eq_true ltj] at t95
                                refine wp_cond_true t95 ?_
                                refine wp_skip ?_
                                clear t95
                                refine wp_seq ?_
                                refine wp_block ?_
                                obtain ⟨tb, to_, tc, et_, htb, htc⟩ := hT.at (show 0 < ln i by omega)
                                have cT : ∀ X, Below X0.heap.size X0 X → ∀ j_, j_ < 16 → X.cell? ⟨tb, to_ + j * 16 + j_, none⟩ = some (.int .u8 ((t i j j_ : Nat) : Int)) := fun X hX j_ hj_ => by rw [cell_below hX htb]; exact htc j (by omega) j_ hj_
                                have cU : ∀ X, Below X0.heap.size X0 X → ∀ j_, j_ < 16 → X.cell? ⟨tb, to_ + (j - 1) * 16 + j_, none⟩ = some (.int .u8 ((t i (j - 1) j_ : Nat) : Int)) := fun X hX j_ hj_ => by rw [cell_below hX htb]; exact htc (j - 1) (by omega) j_ hj_
                                refine wp_seq ?_
                                by_cases hless : tv (t i (j - 1)) 16 < tv (t i j) 16
                                · refine wj_ [0, 1, 2, 3, 4, 5, 6, 7, 8, 9, 10, 11, 12] [11] [1, 5, 7, 10] [] A (h6_ t1 t2 t3 t7 t8 t9) (fun X14_0 bD => ?_)
                                  refine dw_ 0 (.pointer (some ⟨g8, 0 + 1, none⟩)) (fun a X ee => execFldE1 rfl (ee _)) (dv_ 1 (tw i) (fun a X ee hb => execLdTs rfl (ee _) (epC_1 (on9 Fe hb))) (dw_ 3 (.int .i64 ((j - 1 : Nat) : Int)) (fun a X ee => By8.execSubI (p := j) (q := 1) rfl (ee _) rfl (by omega) (by omega)) (dw_ 4 (.pointer (some ⟨tb, to_ + (j - 1) * 16, none⟩)) (fun a X ee => execIdxTs (k := j - 1) rfl ((ee _).trans et_) (ee _) (by omega)) (dv_ 5 (.agg (bA 16 (t i (j - 1)))) (fun a X ee hb => execLdT rfl (ee _) (fun j_ hj_ => cU X (BB.trans (hb.mono BB.size)) j_ hj_)) (dw_ 6 (.pointer (some ⟨g8, 0 + 1, none⟩)) (fun a X ee => execFldE1 rfl (ee _)) (dv_ 7 (tw i) (fun a X ee hb => execLdTs rfl (ee _) (epC_1 (on9 Fe hb))) (dw_ 9 (.pointer (some ⟨tb, to_ + j * 16, none⟩)) (fun a X ee => execIdxTs (k := j) rfl ((ee _).trans et_) (ee _) (by omega)) (dv_ 10 (.agg (bA 16 (t i j))) (fun a X ee hb => execLdT rfl (ee _) (fun j_ hj_ => cT X (BB.trans (hb.mono BB.size)) j_ hj_)) (dc_ 11 (rless_t (t i (j - 1)) (t i j) X14_0 (hT.byt (j - 1) (by omega)) (hT.byt j (by omega)) hless) (cb_ fun X14 bQ => ?_))))))))))
                                  replace bD := bD.trans (bQ.mono bD.size)
                                  clear bQ
                                  refine ⟨Or.inr bD, ?_⟩
                                  refine dw_ 12 (.bool false) (fun a X ee => execNot8 (b := true) rfl (ee _)) (dz_ [(110, .bool false)] (h6_ t1 t2 t3 t7 t8 t9) ?_)
                                  rintro a A ⟨t110, -⟩ ⟨t1, t2, t3, t7, t8, t9, -⟩
                                  replace Fe := (on9 Fe bD)
                                  replace BB := BB.trans (bD.mono BB.size)
                                  clear bD
                                  refine wp_cond_false t110 ?_
                                  refine wp_skip ?_
                                  clear t110
                                  refine wi_ A (h6_ t1 t2 t3 t7 t8 t9) (rv_ 1 (.int .i64 ((j + 1 : Nat) : Int)) (fun a ee => execAd8 (p := j) (q := 1) rfl (ee _) rfl (by omega)) (rf_ [(9, .int .i64 ((j + 1 : Nat) : Int))] (h5_ t1 t2 t3 t7 t8) ?_))
                                  rintro a A ⟨t9, -⟩ ⟨t1, t2, t3, t7, t8, -⟩
                                  exact ⟨⟨j + 1, ltj, Nat.le_succ_of_le hj1, fun k_ h => by by_cases q_ : k_ + 1 < j; exact hj2 k_ q_; rw [show k_ = j - 1 by omega, show j - 1 + 1 = j by omega]; exact hless, A, t1, t2, t3, t7, t8, t9, BB, Fe⟩, by show ln i - (intOf (a.eval (.tmp 9))).toNat < ln i - (intOf (Act.eval _ (.tmp 9))).toNat; rw [t9, esj]; show ln i - (j + 1) < ln i - j; omega⟩
                                · refine wj_ [0, 1, 2, 3, 4, 5, 6, 7, 8, 9, 10, 11, 12] [11] [1, 5, 7, 10] [] A (h6_ t1 t2 t3 t7 t8 t9) (fun X14_0 bD => ?_)
                                  refine dw_ 0 (.pointer (some ⟨g8, 0 + 1, none⟩)) (fun a X ee => execFldE1 rfl (ee _)) (dv_ 1 (tw i) (fun a X ee hb => execLdTs rfl (ee _) (epC_1 (on9 Fe hb))) (dw_ 3 (.int .i64 ((j - 1 : Nat) : Int)) (fun a X ee => By8.execSubI (p := j) (q := 1) rfl (ee _) rfl (by omega) (by omega)) (dw_ 4 (.pointer (some ⟨tb, to_ + (j - 1) * 16, none⟩)) (fun a X ee => execIdxTs (k := j - 1) rfl ((ee _).trans et_) (ee _) (by omega)) (dv_ 5 (.agg (bA 16 (t i (j - 1)))) (fun a X ee hb => execLdT rfl (ee _) (fun j_ hj_ => cU X (BB.trans (hb.mono BB.size)) j_ hj_)) (dw_ 6 (.pointer (some ⟨g8, 0 + 1, none⟩)) (fun a X ee => execFldE1 rfl (ee _)) (dv_ 7 (tw i) (fun a X ee hb => execLdTs rfl (ee _) (epC_1 (on9 Fe hb))) (dw_ 9 (.pointer (some ⟨tb, to_ + j * 16, none⟩)) (fun a X ee => execIdxTs (k := j) rfl ((ee _).trans et_) (ee _) (by omega)) (dv_ 10 (.agg (bA 16 (t i j))) (fun a X ee hb => execLdT rfl (ee _) (fun j_ hj_ => cT X (BB.trans (hb.mono BB.size)) j_ hj_)) (dc_ 11 (rless_f (t i (j - 1)) (t i j) X14_0 (hT.byt (j - 1) (by omega)) (hT.byt j (by omega)) hless) (cb_ fun X14 bQ => ?_))))))))))
                                  replace bD := bD.trans (bQ.mono bD.size)
                                  clear bQ
                                  refine ⟨Or.inr bD, ?_⟩
                                  refine dw_ 12 (.bool true) (fun a X ee => execNot8 (b := false) rfl (ee _)) (dz_ [(110, .bool true)] (h6_ t1 t2 t3 t7 t8 t9) ?_)
                                  rintro a A ⟨t110, -⟩ ⟨t1, t2, t3, t7, t8, t9, -⟩
                                  replace Fe := (on9 Fe bD)
                                  replace BB := BB.trans (bD.mono BB.size)
                                  clear bD
                                  refine wp_cond_true t110 ?_
                                  clear t110
                                  refine wp_seq ?_
                                  refine wi_ A (h6_ t1 t2 t3 t7 t8 t9) (rg_ [(6, .int .i64 ((2 : Nat) : Int))] ?_)
                                  rintro a A ⟨t6, -⟩
                                  have BW2 := BW.trans (BB.mono BW.size)
                                  refine wp_ret ?_
                                  repeat (first | with_reducible refine ret_in ?_ | with_reducible refine ret_then ?_)
                                  refine bodyPost_ret (results_tmp rfl _ _ _) A.2 ⟨?_, BW2⟩
                                  show Ending.returned (a.eval (.tmp 6)) = _
                                  rw [t6]
                                  rw [show wChk (nw, esL n nu ln t) s r = 2 from if_neg (fun h_ => by have q_ := inc_iff.1 (((each_iff (P := fun x => OkE nw s x)).1 h_.2.2.2.2.2.2.2.1 i lti).2.2.2.2 : Inc (tgL (ln i) (t i))) (j - 1) (by omega); rw [show j - 1 + 1 = j by omega] at q_; exact hless q_)]
                              · rw [decide_eq_false ltj] at t95
                                refine wp_cond_false t95 ?_
                                refine wp_exit ?_
                                first | with_reducible refine exit_in ?_ | with_reducible refine exit_then (exit_in ?_) | with_reducible refine exit_then (exit_then (exit_in ?_)) | refine exit_in ?_ | refine exit_then (exit_in ?_) | refine exit_then (exit_then (exit_in ?_))
                                clear t95 esj
                                obtain rfl : j = ln i := by omega
                                have hoki : OkE nw s (nu i, tgL (ln i) (t i)) := ⟨by show 0 ≤ nu i; omega, by show nu i ≤ nw; omega, by show nw - s < nu i; omega, fun q_ => by have q2 := congrArg List.length q_; rw [len_tgL] at q2; exact d4 q2, inc_iff.2 hj2⟩
                                clear Fe t8 t9
                                refine wi_ A (h4_ t1 t2 t3 t7) (rv_ 1 (.int .i64 ((i + 1 : Nat) : Int)) (fun a ee => execAd8 (p := i) (q := 1) rfl (ee _) rfl (by omega)) (rf_ [(7, .int .i64 ((i + 1 : Nat) : Int))] (h3_ t1 t2 t3) ?_))
                                rintro a A ⟨t7, -⟩ ⟨t1, t2, t3, -⟩
                                exact ⟨⟨i + 1, lti, fun j_ h => by rcases Nat.lt_or_eq_of_le (Nat.le_of_lt_succ h) with h_ | h_; exact hok j_ h_; exact h_ ▸ hoki, fun k_ h => by rcases Nat.lt_or_eq_of_le (Nat.le_of_lt_succ h) with h_ | h_; exact hri k_ h_; exact h_ ▸ hrii k_ h_, A, t1, t2, t3, t7, BB⟩, by show n - (intOf (a.eval (.tmp 7))).toNat < n - (intOf (Act.eval _ (.tmp 7))).toNat; rw [t7, esi]; show n - (i + 1) < n - i; omega⟩
                          · refine wj_ [0, 1, 2, 3, 4, 5, 6, 7, 8, 9, 10, 11, 12, 13] [] [] [] A (h5_ t1 t2 t3 t7 t8) (fun X9 bD => ?_)
                            refine dw_ 1 (.bool false) (fun a X ee => execDec (execGtN (p := i) (q := 0) rfl (ee _) rfl) (decide_eq_false (by omega))) (dz_ [(90, .bool false)] (h5_ t1 t2 t3 t7 t8) ?_)
                            rintro a A ⟨t90, -⟩ ⟨t1, t2, t3, t7, t8, -⟩
                            replace Fe := (on9 Fe bD)
                            replace BB := BB.trans (bD.mono BB.size)
                            clear bD
                            refine wp_cond_false t90 ?_
                            refine wp_skip ?_
                            clear t90
                            have hrii : ∀ k_, k_ + 1 = i → nu k_ < nu i := fun k_ h => by omega
                            refine wp_seq ?_
                            refine wi_ A (h5_ t1 t2 t3 t7 t8) (rf_ [(9, .int .i64 ((1 : Nat) : Int))] (h5_ t1 t2 t3 t7 t8) ?_)
                            rintro a A ⟨t9, -⟩ ⟨t1, t2, t3, t7, t8, -⟩
                            have hl1 : 1 ≤ ln i := by omega
                            refine wp_block ?_
                            refine wp_loop (fun a W => ∃ (j : Nat), j ≤ ln i ∧ (1 ≤ j) ∧ (∀ k_, k_ + 1 < j → tv (t i k_) 16 < tv (t i (k_ + 1)) 16) ∧ (a.tmps.size = 118 ∧ a.defers = []) ∧ a.eval (.tmp 1) = .int .i64 s ∧ a.eval (.tmp 2) = .int .i64 r ∧ a.eval (.tmp 3) = .pointer (some ⟨g3, 0, none⟩) ∧ a.eval (.tmp 7) = .int .i64 ((i : Nat) : Int) ∧ a.eval (.tmp 8) = .pointer (some ⟨g8, 0, none⟩) ∧ a.eval (.tmp 9) = .int .i64 ((j : Nat) : Int) ∧ Below X0.heap.size X0 W ∧ (W.heap[g8]? = some (.cells (epC (nu i) (tw i)) 57))) (fun a _ => ln i - (intOf (a.eval (.tmp 9))).toNat) ⟨1, hl1, Nat.le_refl _, fun k_ h => absurd h (by omega), A, t1, t2, t3, t7, t8, t9, BB, Fe⟩ ?_
                            clear A t1 t2 t3 t7 t8 t9 BB Fe a
                            rintro a XL12 ⟨j, hj, hj1, hj2, A, t1, t2, t3, t7, t8, t9, BB, Fe⟩
                            have esj := t9
                            refine wp_seq ?_
                            refine wp_seq ?_
                            refine wi_ A (h6_ t1 t2 t3 t7 t8 t9) (rv_ 1 (.pointer (some ⟨g8, 0 + 1, none⟩)) (fun a ee => execFldE1 rfl (ee _)) (rv_ 2 (tw i) (fun a ee => execLdTs rfl (ee _) (epC_1 Fe)) (rv_ 3 (.int .i64 ((ln i : Nat) : Int)) (fun a ee => execLenTs (len := ln i) rfl (ee _) hT.shp) (rv_ 4 (.bool (decide (j < ln i))) (fun a ee => execLtW (p := j) (q := ln i) rfl (ee _) (ee _)) (rf_ [(95, .bool (decide (j < ln i)))] (h6_ t1 t2 t3 t7 t8 t9) ?_)))))
                            rintro a A ⟨t95, -⟩ ⟨t1, t2, t3, t7, t8, t9, -⟩
                            by_cases ltj : j < ln i
                            · rw [decide_eq_true ltj] at t95
                              refine wp_cond_true t95 ?_
                              refine wp_skip ?_
                              clear t95
                              refine wp_seq ?_
                              refine wp_block ?_
                              obtain ⟨tb, to_, tc, et_, htb, htc⟩ := hT.at (show 0 < ln i by omega)
                              have cT : ∀ X, Below X0.heap.size X0 X → ∀ j_, j_ < 16 → X.cell? ⟨tb, to_ + j * 16 + j_, none⟩ = some (.int .u8 ((t i j j_ : Nat) : Int)) := fun X hX j_ hj_ => by rw [cell_below hX htb]; exact htc j (by omega) j_ hj_
                              have cU : ∀ X, Below X0.heap.size X0 X → ∀ j_, j_ < 16 → X.cell? ⟨tb, to_ + (j - 1) * 16 + j_, none⟩ = some (.int .u8 ((t i (j - 1) j_ : Nat) : Int)) := fun X hX j_ hj_ => by rw [cell_below hX htb]; exact htc (j - 1) (by omega) j_ hj_
                              refine wp_seq ?_
                              by_cases hless : tv (t i (j - 1)) 16 < tv (t i j) 16
                              · refine wj_ [0, 1, 2, 3, 4, 5, 6, 7, 8, 9, 10, 11, 12] [11] [1, 5, 7, 10] [] A (h6_ t1 t2 t3 t7 t8 t9) (fun X14_0 bD => ?_)
                                refine dw_ 0 (.pointer (some ⟨g8, 0 + 1, none⟩)) (fun a X ee => execFldE1 rfl (ee _)) (dv_ 1 (tw i) (fun a X ee hb => execLdTs rfl (ee _) (epC_1 (on9 Fe hb))) (dw_ 3 (.int .i64 ((j - 1 : Nat) : Int)) (fun a X ee => By8.execSubI (p := j) (q := 1) rfl (ee _) rfl (by omega) (by omega)) (dw_ 4 (.pointer (some ⟨tb, to_ + (j - 1) * 16, none⟩)) (fun a X ee => execIdxTs (k := j - 1) rfl ((ee _).trans et_) (ee _) (by omega)) (dv_ 5 (.agg (bA 16 (t i (j - 1)))) (fun a X ee hb => execLdT rfl (ee _) (fun j_ hj_ => cU X (BB.trans (hb.mono BB.size)) j_ hj_)) (dw_ 6 (.pointer (some ⟨g8, 0 + 1, none⟩)) (fun a X ee => execFldE1 rfl (ee _)) (dv_ 7 (tw i) (fun a X ee hb => execLdTs rfl (ee _) (epC_1 (on9 Fe hb))) (dw_ 9 (.pointer (some ⟨tb, to_ + j * 16, none⟩)) (fun a X ee => execIdxTs (k := j) rfl ((ee _).trans et_) (ee _) (by omega)) (dv_ 10 (.agg (bA 16 (t i j))) (fun a X ee hb => execLdT rfl (ee _) (fun j_ hj_ => cT X (BB.trans (hb.mono BB.size)) j_ hj_)) (dc_ 11 (rless_t (t i (j - 1)) (t i j) X14_0 (hT.byt (j - 1) (by omega)) (hT.byt j (by omega)) hless) (cb_ fun X14 bQ => ?_))))))))))
                                replace bD := bD.trans (bQ.mono bD.size)
                                clear bQ
                                refine ⟨Or.inr bD, ?_⟩
                                refine dw_ 12 (.bool false) (fun a X ee => execNot8 (b := true) rfl (ee _)) (dz_ [(110, .bool false)] (h6_ t1 t2 t3 t7 t8 t9) ?_)
                                rintro a A ⟨t110, -⟩ ⟨t1, t2, t3, t7, t8, t9, -⟩
                                replace Fe := (on9 Fe bD)
                                replace BB := BB.trans (bD.mono BB.size)
                                clear bD
                                refine wp_cond_false t110 ?_
                                refine wp_skip ?_
                                clear t110
                                refine wi_ A (h6_ t1 t2 t3 t7 t8 t9) (rv_ 1 (.int .i64 ((j + 1 : Nat) : Int)) (fun a ee => execAd8 (p := j) (q := 1) rfl (ee _) rfl (by omega)) (rf_ [(9, .int .i64 ((j + 1 : Nat) : Int))] (h5_ t1 t2 t3 t7 t8) ?_))
                                rintro a A ⟨t9, -⟩ ⟨t1, t2, t3, t7, t8, -⟩
                                exact ⟨⟨j + 1, ltj, Nat.le_succ_of_le hj1, fun k_ h => by by_cases q_ : k_ + 1 < j; exact hj2 k_ q_; rw [show k_ = j - 1 by omega, show j - 1 + 1 = j by omega]; exact hless, A, t1, t2, t3, t7, t8, t9, BB, Fe⟩, by show ln i - (intOf (a.eval (.tmp 9))).toNat < ln i - (intOf (Act.eval _ (.tmp 9))).toNat; rw [t9, esj]; show ln i - (j + 1) < ln i - j; omega⟩
                              · refine wj_ [0, 1, 2, 3, 4, 5, 6, 7, 8, 9, 10, 11, 12] [11] [1, 5, 7, 10] [] A (h6_ t1 t2 t3 t7 t8 t9) (fun X14_0 bD => ?_)
                                refine dw_ 0 (.pointer (some ⟨g8, 0 + 1, none⟩)) (fun a X ee => execFldE1 rfl (ee _)) (dv_ 1 (tw i) (fun a X ee hb => execLdTs rfl (ee _) (epC_1 (on9 Fe hb))) (dw_ 3 (.int .i64 ((j - 1 : Nat) : Int)) (fun a X ee => By8.execSubI (p := j) (q := 1) rfl (ee _) rfl (by omega) (by omega)) (dw_ 4 (.pointer (some ⟨tb, to_ + (j - 1) * 16, none⟩)) (fun a X ee => execIdxTs (k := j - 1) rfl ((ee _).trans et_) (ee _) (by omega)) (dv_ 5 (.agg (bA 16 (t i (j - 1)))) (fun a X ee hb => execLdT rfl (ee _) (fun j_ hj_ => cU X (BB.trans (hb.mono BB.size)) j_ hj_)) (dw_ 6 (.pointer (some ⟨g8, 0 + 1, none⟩)) (fun a X ee => execFldE1 rfl (ee _)) (dv_ 7 (tw i) (fun a X ee hb => execLdTs rfl (ee _) (epC_1 (on9 Fe hb))) (dw_ 9 (.pointer (some ⟨tb, to_ + j * 16, none⟩)) (fun a X ee => execIdxTs (k := j) rfl ((ee _).trans et_) (ee _) (by omega)) (dv_ 10 (.agg (bA 16 (t i j))) (fun a X ee hb => execLdT rfl (ee _) (fun j_ hj_ => cT X (BB.trans (hb.mono BB.size)) j_ hj_)) (dc_ 11 (rless_f (t i (j - 1)) (t i j) X14_0 (hT.byt (j - 1) (by omega)) (hT.byt j (by omega)) hless) (cb_ fun X14 bQ => ?_))))))))))
                                replace bD := bD.trans (bQ.mono bD.size)
                                clear bQ
                                refine ⟨Or.inr bD, ?_⟩
                                refine dw_ 12 (.bool true) (fun a X ee => execNot8 (b := false) rfl (ee _)) (dz_ [(110, .bool true)] (h6_ t1 t2 t3 t7 t8 t9) ?_)
                                rintro a A ⟨t110, -⟩ ⟨t1, t2, t3, t7, t8, t9, -⟩
                                replace Fe := (on9 Fe bD)
                                replace BB := BB.trans (bD.mono BB.size)
                                clear bD
                                refine wp_cond_true t110 ?_
                                clear t110
                                refine wp_seq ?_
                                refine wi_ A (h6_ t1 t2 t3 t7 t8 t9) (rg_ [(6, .int .i64 ((2 : Nat) : Int))] ?_)
                                rintro a A ⟨t6, -⟩
                                have BW2 := BW.trans (BB.mono BW.size)
                                refine wp_ret ?_
                                repeat (first | with_reducible refine ret_in ?_ | with_reducible refine ret_then ?_)
                                refine bodyPost_ret (results_tmp rfl _ _ _) A.2 ⟨?_, BW2⟩
                                show Ending.returned (a.eval (.tmp 6)) = _
                                rw [t6]
                                rw [show wChk (nw, esL n nu ln t) s r = 2 from if_neg (fun h_ => by have q_ := inc_iff.1 (((each_iff (P := fun x => OkE nw s x)).1 h_.2.2.2.2.2.2.2.1 i lti).2.2.2.2 : Inc (tgL (ln i) (t i))) (j - 1) (by omega); rw [show j - 1 + 1 = j by omega] at q_; exact hless q_)]
                            · rw [decide_eq_false ltj] at t95
                              refine wp_cond_false t95 ?_
                              refine wp_exit ?_
                              first | with_reducible refine exit_in ?_ | with_reducible refine exit_then (exit_in ?_) | with_reducible refine exit_then (exit_then (exit_in ?_)) | refine exit_in ?_ | refine exit_then (exit_in ?_) | refine exit_then (exit_then (exit_in ?_))
                              clear t95 esj
                              obtain rfl : j = ln i := by omega
                              have hoki : OkE nw s (nu i, tgL (ln i) (t i)) := ⟨by show 0 ≤ nu i; omega, by show nu i ≤ nw; omega, by show nw - s < nu i; omega, fun q_ => by have q2 := congrArg List.length q_; rw [len_tgL] at q2; exact d4 q2, inc_iff.2 hj2⟩
                              clear Fe t8 t9
                              refine wi_ A (h4_ t1 t2 t3 t7) (rv_ 1 (.int .i64 ((i + 1 : Nat) : Int)) (fun a ee => execAd8 (p := i) (q := 1) rfl (ee _) rfl (by omega)) (rf_ [(7, .int .i64 ((i + 1 : Nat) : Int))] (h3_ t1 t2 t3) ?_))
                              rintro a A ⟨t7, -⟩ ⟨t1, t2, t3, -⟩
                              exact ⟨⟨i + 1, lti, fun j_ h => by rcases Nat.lt_or_eq_of_le (Nat.le_of_lt_succ h) with h_ | h_; exact hok j_ h_; exact h_ ▸ hoki, fun k_ h => by rcases Nat.lt_or_eq_of_le (Nat.le_of_lt_succ h) with h_ | h_; exact hri k_ h_; exact h_ ▸ hrii k_ h_, A, t1, t2, t3, t7, BB⟩, by show n - (intOf (a.eval (.tmp 7))).toNat < n - (intOf (Act.eval _ (.tmp 7))).toNat; rw [t7, esi]; show n - (i + 1) < n - i; omega⟩
                · rw [decide_eq_false lti] at t44
                  refine wp_cond_false t44 ?_
                  refine wp_exit ?_
                  first | with_reducible refine exit_in ?_ | with_reducible refine exit_then (exit_in ?_) | with_reducible refine exit_then (exit_then (exit_in ?_)) | refine exit_in ?_ | refine exit_then (exit_in ?_) | refine exit_then (exit_then (exit_in ?_))
                  clear t44 esi
                  obtain rfl : i = n := by omega
                  have hn8 : i ≤ 8 := few hri (fun j_ hj_ => ⟨(hok j_ hj_).2.1, (hok j_ hj_).2.2.1⟩) (by omega)
                  have hal := al_few i hl
                  have hlen := al_len (nu := nu) (t := t) i (ln := ln)
                  have hsum := sW_fit (nu := nu) (t := t) i (ln := ln) (by omega)
                  have hby := al_byt (t := t) i (fun j_ hj_ => (hE.lists j_ hj_).byt)
                  have h16 : alN ln i * 16 ≤ 140737488351232 := by omega
                  refine wp_seq ?_
                  refine wp_seq ?_
                  refine wp_region_stB (σ := Value × Value × Nat × (Nat → Nat → Nat)) 118 [(0, 111), (1, 112), (2, 113), (3, 114), (4, 115), (5, 116), (6, 117)] (fun l_ s X => Below X0.heap.size X0 X ∧ (l_ 1 = true → (X.ownsRow X0.heap.size 66 16 s.1 (alN ln i) (tgV (alT ln t i) (alN ln i)))) ∧ (l_ 2 = true → (X.ownsRow X0.heap.size 66 16 s.2.1 (s.2.2.1) (tgV (s.2.2.2) (s.2.2.1)))) ∧ (l_ 2 = true → (tgL s.2.2.1 s.2.2.2 = srt (tgL (alN ln i) (alT ln t i)) ∧ ∀ j, j < s.2.2.1 → ∀ i, i < 16 → s.2.2.2 j i < 256))) (fun s => fun i_ => match i_ with | 0 => .agg (wC nw ev) | 1 => s.1 | 2 => s.2.1 | 3 => .int .i64 ((s.2.2.1 : Nat) : Int) | 4 => .agg (wC nw ev) | 5 => .int .i64 (sW ln i) | 6 => .bool (decide (s.2.2.1 ≠ alN ln i)) | _ => undef) (undef, undef, 0, fun _ _ => 0) (by kernel_rfl) (by kernel_rfl) A.1 (by kernel_rfl) (by decide) (by decide) ⟨(BB.drew), (fun q0_ => by cases q0_), (fun q0_ => by cases q0_), (fun q0_ => by cases q0_)⟩ ?_ ?_
                  · intro i_ hi_ l_ s a X hl_ hf hdep hl2 hcl hno hT
                    have up : ∀ j x, x ≠ j → updB l_ j x = l_ x := fun j x hj => by unfold updB; simp [hj]
                    match i_, hi_ with
                    | 0, _ => exact stepV rfl rfl (execLdWn rfl ((hf 3 (by decide)).trans t3) (on9 Fg3 hT.1)) ⟨s, ⟨_, rfl, rfl⟩, ⟨hT.1, (fun q0_ => absurd (hl_.symm.trans (hcl 1 _ rfl ((up 0 1 (by decide)).symm.trans q0_) 0 rfl)) (by decide)), (fun q0_ => absurd (hl_.symm.trans (hcl 1 _ rfl (hcl 2 _ rfl ((up 0 2 (by decide)).symm.trans q0_) 1 rfl) 0 rfl)) (by decide)), (fun q0_ => absurd (hl_.symm.trans (hcl 1 _ rfl (hcl 2 _ rfl ((up 0 2 (by decide)).symm.trans q0_) 1 rfl) 0 rfl)) (by decide))⟩, fun _ _ _ => rfl⟩
                    | 1, _ =>
                      refine stepC rfl rfl (execCall1 Tryz.func28 (by kernel_rfl) (by kernel_rfl) rfl (hdep _ rfl 0 rfl _ rfl _ rfl)) (rall16 nw ev i nu tw ln t X (hE.on hT.1) hn (by omega)) fun e w' hh => ?_
                      obtain ⟨r_, he, hk, hb⟩ := hh
                      refine ⟨_, he, (r_, s.2.1, s.2.2.1, s.2.2.2), ⟨_, rfl, rfl⟩, ⟨hT.1.trans ((hb).mono hT.1.size), (fun _q0_ => own_base16 hk (hT.1).size), (fun q0_ => absurd (hl_.symm.trans (hcl 2 _ rfl ((up 1 2 (by decide)).symm.trans q0_) 1 rfl)) (by decide)), (fun q0_ => absurd (hl_.symm.trans (hcl 2 _ rfl ((up 1 2 (by decide)).symm.trans q0_) 1 rfl)) (by decide))⟩, fun i hi hli => ?_⟩
                      match i, hi with
                      | 0, _ => rfl
                      | 1, _ => exact absurd (hl_.symm.trans hli) (by decide)
                      | 2, _ => rfl
                      | 3, _ => rfl
                      | 4, _ => rfl
                      | 5, _ => rfl
                      | 6, _ => rfl
                      | k_ + 7, h_ => exact absurd h_ (by simp)
                    | 2, _ =>
                      refine stepC rfl rfl (execCall1 Tryz.func27 (by kernel_rfl) (by kernel_rfl) rfl (hdep _ rfl 1 rfl _ rfl _ rfl)) (rsorted (alN ln i) (alT ln t i) _ X (own_tgs (hT.2.1 (hl2 _ rfl 1 rfl)) hby) h16) fun e w' hh => ?_
                      obtain ⟨⟨r_, m_, p_, he, hk, hq⟩, hb⟩ := hh
                      refine ⟨_, he, (s.1, r_, m_, p_), ⟨_, rfl, rfl⟩, ⟨hT.1.trans ((hb).mono hT.1.size), (fun q0_ => (own_below (hT.2.1 (by rw [up 2 1 (by decide)] at q0_; exact q0_)) hb)), (fun _q0_ => own_base16 hk (hT.1).size), (fun _q0_ => hq)⟩, fun i hi hli => ?_⟩
                      match i, hi with
                      | 0, _ => rfl
                      | 1, _ => rfl
                      | 2, _ => exact absurd (hl_.symm.trans hli) (by decide)
                      | 3, _ => exact absurd (hl_.symm.trans (hcl 3 _ rfl hli 2 rfl)) (by decide)
                      | 4, _ => rfl
                      | 5, _ => rfl
                      | 6, _ => exact absurd (hl_.symm.trans (hcl 3 _ rfl (hcl 6 _ rfl hli 3 rfl) 2 rfl)) (by decide)
                      | k_ + 7, h_ => exact absurd h_ (by simp)
                    | 3, _ => exact stepV rfl rfl (execLenTs (len := s.2.2.1) rfl (hdep _ rfl 2 rfl _ rfl _ rfl) (own_tgs (hT.2.2.1 (hl2 _ rfl 2 rfl)) (hT.2.2.2 (hl2 _ rfl 2 rfl)).2).shp) ⟨s, ⟨_, rfl, rfl⟩, ⟨hT.1, (fun q0_ => (hT.2.1 (by rw [up 3 1 (by decide)] at q0_; exact q0_))), (fun q0_ => (hT.2.2.1 (by rw [up 3 2 (by decide)] at q0_; exact q0_))), (fun q0_ => (hT.2.2.2 (by rw [up 3 2 (by decide)] at q0_; exact q0_)))⟩, fun _ _ _ => rfl⟩
                    | 4, _ => exact stepV rfl rfl (execLdWn rfl ((hf 3 (by decide)).trans t3) (on9 Fg3 hT.1)) ⟨s, ⟨_, rfl, rfl⟩, ⟨hT.1, (fun q0_ => (hT.2.1 (by rw [up 4 1 (by decide)] at q0_; exact q0_))), (fun q0_ => (hT.2.2.1 (by rw [up 4 2 (by decide)] at q0_; exact q0_))), (fun q0_ => (hT.2.2.2 (by rw [up 4 2 (by decide)] at q0_; exact q0_)))⟩, fun _ _ _ => rfl⟩
                    | 5, _ => exact stepC rfl rfl (execCall1 Tryz.func25 (by kernel_rfl) (by kernel_rfl) rfl (hdep _ rfl 4 rfl _ rfl _ rfl)) (rlen16 nw ev i nu tw ln t X (hE.on hT.1) hn) fun e w' hh => ⟨_, hh.1, s, ⟨_, rfl, rfl⟩, ⟨hT.1.trans (hh.2.mono hT.1.size), (fun q0_ => (own_below (hT.2.1 (by rw [up 5 1 (by decide)] at q0_; exact q0_)) hh.2)), (fun q0_ => (own_below (hT.2.2.1 (by rw [up 5 2 (by decide)] at q0_; exact q0_)) hh.2)), (fun q0_ => (hT.2.2.2 (by rw [up 5 2 (by decide)] at q0_; exact q0_)))⟩, fun _ _ _ => rfl⟩
                    | 6, _ => exact stepV rfl rfl (execNeN (p := s.2.2.1) (q := alN ln i) rfl (hdep _ rfl 3 rfl _ rfl _ rfl) ((hdep _ rfl 5 rfl _ rfl _ rfl).trans (by rw [hsum, hlen]; rfl))) ⟨s, ⟨_, rfl, rfl⟩, ⟨hT.1, (fun q0_ => (hT.2.1 (by rw [up 6 1 (by decide)] at q0_; exact q0_))), (fun q0_ => (hT.2.2.1 (by rw [up 6 2 (by decide)] at q0_; exact q0_))), (fun q0_ => (hT.2.2.2 (by rw [up 6 2 (by decide)] at q0_; exact q0_)))⟩, fun _ _ _ => rfl⟩
                    | k_ + 7, h_ => exact absurd h_ (by simp)
                  rintro l_ ⟨v112, v113, m113, p113⟩ a X16 h1 h2 h3 h4 hall hT
                  clear BB
                  obtain ⟨BB, FL, FXs, FSp⟩ := hT
                  replace FL : (X16.ownsRow X0.heap.size 66 16 v112 (alN ln i) (tgV (alT ln t i) (alN ln i))) := FL (hall 1 (by decide))
                  replace FXs : (X16.ownsRow X0.heap.size 66 16 v113 (m113) (tgV (p113) (m113))) := FXs (hall 2 (by decide))
                  replace FSp : (tgL m113 p113 = srt (tgL (alN ln i) (alT ln t i)) ∧ ∀ j, j < m113 → ∀ i, i < 16 → p113 j i < 256) := FSp (hall 2 (by decide))
                  clear hall
                  have t117 : a.eval (.tmp 117) = .bool (decide (m113 ≠ alN ln i)) := h4 (6, 117) (by decide)
                  replace A := (⟨h1, h2.trans A.2⟩ : a.tmps.size = 118 ∧ a.defers = [])
                  clear h1 h2 h3 h4
                  clear t1 t2 t3
                  obtain ⟨hq1, -⟩ := FSp
                  have hm : m113 = (srt (tgL (alN ln i) (alT ln t i))).length := by rw [← hq1, len_tgL]
                  clear FL FXs
                  have hnd : m113 = alN ln i ↔ (wAll (esL i nu ln t)).Nodup := by rw [hm, ← srt_len, al_list (nu := nu) i, ← hlen]; rfl
                  by_cases hq9 : m113 ≠ alN ln i
                  · rw [decide_eq_true hq9] at t117
                    refine wp_cond_true t117 ?_
                    clear t117
                    refine wp_seq ?_
                    refine wi_ A h0_ (rg_ [(6, .int .i64 ((2 : Nat) : Int))] ?_)
                    rintro a A ⟨t6, -⟩
                    have BW2 := BW.trans (BB.mono BW.size)
                    refine wp_ret ?_
                    repeat (first | with_reducible refine ret_in ?_ | with_reducible refine ret_then ?_)
                    refine bodyPost_ret (results_tmp rfl _ _ _) A.2 ⟨?_, BW2⟩
                    show Ending.returned (a.eval (.tmp 6)) = _
                    rw [t6]
                    rw [show wChk (nw, esL i nu ln t) s r = 2 from if_neg (fun h_ => hq9 (hnd.2 h_.2.2.2.2.2.2.2.2.2))]
                  · rw [decide_eq_false hq9] at t117
                    refine wp_cond_false t117 ?_
                    refine wp_skip ?_
                    clear t117
                    refine wp_seq ?_
                    refine wi_ A h0_ (rg_ [(6, .int .i64 ((0 : Nat) : Int))] ?_)
                    rintro a A ⟨t6, -⟩
                    have BW2 := BW.trans (BB.mono BW.size)
                    refine wp_ret ?_
                    refine bodyPost_ret (results_tmp rfl _ _ _) A.2 ⟨?_, BW2⟩
                    show Ending.returned (a.eval (.tmp 6)) = _
                    rw [t6]
                    rw [show wChk (nw, esL i nu ln t) s r = 0 from if_pos ⟨by omega, by omega, by omega, by omega, hsub1, hsub2, by show ((wLen (esL i nu ln t) : Nat) : Int) ≤ r; rw [← hsum]; omega, each_iff.2 hok, rise_iff.2 hri, hnd.1 (Classical.not_not.1 hq9)⟩]
end Go.Proofs.YtepdejnholphcaaGreat.Win
