import Derived.Test.YtijibdapooalcabJ9g
namespace Go.Proofs.Ytijibdapooalcab.Win
open Go.RowKit Gf8 Aes By8 Cel Cf
/- The program's Open. Written by tools/mkJ9h.py. -/

set_option maxRecDepth 100000 in
set_option maxHeartbeats 4000000 in
/-- The program's Open. -/
theorem popen16 (nw ep s : Int) (ev : Value) (n : Nat) (nu : Nat → Int) (tw : Nat → Value) (ln : Nat → Nat) (t : Nat → Nat → Nat → Nat) (V : World) (hE : Eps V ev n nu tw ln t) (hn : n < 9223372036854775808) (hl : ∀ j, j < n → ln j ≤ 8796093022208) (hnw : I64 nw) (hs : I64 s) (hep : I64 ep) (h32 : n * 32 ≤ 140737488351232) :
    Calls Try.prog 11 #[.agg (wC nw ev), .int .i64 ep, .int .i64 s] V fun e w' => OpP V (wOpen (nw, esL n nu ln t) ep s) e w' ∧ Below V.heap.size V w' := by
  go_enter Try.func11, Try.ntmps11
  refine wo_ 66 [(0, .agg (wC nw ev)), (1, .int .i64 ep), (2, .int .i64 s)] ?_
  rintro a A ⟨t0, t1, t2, -⟩
  have BW : Below V.heap.size V V := Below.refl _ _
  have BB := BW
  refine wp_seq ?_
  obtain ⟨g3, egg3⟩ : ∃ z_ : Nat, V.heap.size = z_ := ⟨_, rfl⟩
  refine wi_ A (h3_ t0 t1 t2) (rs_ 0 (fun a ee => ?_))
  refine stepV rfl rfl (execBoxW rfl (ee _)) ⟨.pointer (some ⟨g3, 0, none⟩), ⟨_, rfl, by subst egg3; rfl⟩, fun X0_1 hX => ?_⟩
  have bQ : Below V.heap.size V X0_1 := by subst hX egg3; exact (belNew V _)
  have Fg3 : (X0_1.heap[g3]? = some (.cells (wC nw ev) 24)) := by subst hX egg3; exact heapNew V _
  replace BB := BB.trans (bQ.mono BB.size)
  clear bQ hX egg3 ee a
  obtain ⟨g6, egg6⟩ : ∃ z_ : Nat, X0_1.heap.size = z_ := ⟨_, rfl⟩
  refine rs_ 1 (fun a ee => ?_)
  refine stepV rfl rfl (execAllW rfl) ⟨.pointer (some ⟨g6, 0, none⟩), ⟨_, rfl, by subst egg6; rfl⟩, fun X0 hX => ?_⟩
  have bQ : Below X0_1.heap.size X0_1 X0 := by subst hX egg6; exact (belNew X0_1 _)
  have Fg6 : (X0.heap[g6]? = some (.cells (wC 0 (.slice none 0 0)) 24)) := by subst hX egg6; exact heapNew X0_1 _
  have FGg6 : (V.heap.size ≤ g6) := by subst hX egg6; exact (BB).size
  replace Fg3 := (on9 Fg3 bQ)
  replace BB := BB.trans (bQ.mono BB.size)
  clear bQ hX egg6 ee a
  refine rf_ [(3, .pointer (some ⟨g3, 0, none⟩)), (6, .pointer (some ⟨g6, 0, none⟩))] (h2_ t1 t2) ?_
  rintro a A ⟨t3, t6, -⟩ ⟨t1, t2, -⟩
  refine wp_seq ?_
  refine wp_seq ?_
  by_cases h1 : ¬ (1 ≤ s ∧ s ≤ 8)
  · refine wi_ A (h4_ t1 t2 t3 t6) (rc_ 1 (pspan_f s X0 h1) (cb_ fun X1 bQ => ?_))
    replace Fg3 := (on9 Fg3 bQ)
    replace Fg6 := (on9 Fg6 bQ)
    replace BB := BB.trans (bQ.mono BB.size)
    clear bQ
    refine rv_ 2 (.bool true) (fun a ee => execNot8 (b := false) rfl (ee _)) (rf_ [(22, .bool true)] (h4_ t1 t2 t3 t6) ?_)
    rintro a A ⟨t22, -⟩ ⟨t1, t2, t3, t6, -⟩
    refine wp_cond_true t22 ?_
    clear t22
    refine wp_seq ?_
    clear Fg3 t3
    refine wi_ A (h3_ t1 t2 t6) (rv_ 0 (.agg (wC 0 (.slice none 0 0))) (fun a ee => execBdW0 rfl) (rs_ 1 (fun a ee => ?_)))
    refine stepS rfl rfl (execStWn rfl (ee _) (ee _) Fg6 rfl) ⟨_, ⟨_, rfl, rfl⟩, fun X2 hX => ?_⟩
    obtain ⟨BB, Fg6s⟩ : Below V.heap.size V X2 ∧ (X2.heap[g6]? = some (.cells (wC 0 (.slice none 0 0)) 24)) := by subst hX; exact ⟨below4 BB FGg6 _, setRow_heap _ _ _ _ _ _ Fg6⟩
    clear Fg6 hX ee a
    refine rf_ [(7, .int .i64 ((2 : Nat) : Int))] (h1_ t6) ?_
    rintro a A ⟨t7, -⟩ ⟨t6, -⟩
    rw [show wOpen (nw, esL n nu ln t) ep s = ((0, []), 2) from if_neg (fun h_ => h1 ⟨h_.1, h_.2.1⟩)]
    refine wp_ret ?_
    repeat (first | with_reducible refine ret_in ?_ | with_reducible refine ret_then ?_)
    refine bodyPost_ret (results_cell_tmp1 Try.results11 _ _ g6 24 _ (0, 0) _ t6 Fg6s Try.underlying24 rfl (sizeW _ _)) A.2 ⟨⟨.slice none 0 0, 0, fun _ => 0, fun _ => undef, fun _ => 0, fun _ _ _ => 0, ?_, rfl, NwE.zero _ _ _ _ _ _⟩, BB⟩
    show Ending.returned (.tuple #[.agg (wC 0 (.slice none 0 0)), a.eval (.tmp 7)]) = _
    rw [t7]
  · have h1 := Classical.not_not.1 h1
    by_cases h2 : ep < 0
    · refine wi_ A (h4_ t1 t2 t3 t6) (rc_ 1 (pspan_t s X0 h1) (cb_ fun X1 bQ => ?_))
      replace Fg3 := (on9 Fg3 bQ)
      replace Fg6 := (on9 Fg6 bQ)
      replace BB := BB.trans (bQ.mono BB.size)
      clear bQ
      refine rv_ 2 (.bool false) (fun a ee => execNot8 (b := true) rfl (ee _)) (rv_ 5 (.bool true) (fun a ee => execDec (exIlss2 (p := ep) (q := 0) rfl (ee _) rfl) (decide_eq_true h2)) (rf_ [(22, .bool true)] (h4_ t1 t2 t3 t6) ?_))
      rintro a A ⟨t22, -⟩ ⟨t1, t2, t3, t6, -⟩
      refine wp_cond_true t22 ?_
      clear t22
      refine wp_seq ?_
      clear Fg3 t3
      refine wi_ A (h3_ t1 t2 t6) (rv_ 0 (.agg (wC 0 (.slice none 0 0))) (fun a ee => execBdW0 rfl) (rs_ 1 (fun a ee => ?_)))
      refine stepS rfl rfl (execStWn rfl (ee _) (ee _) Fg6 rfl) ⟨_, ⟨_, rfl, rfl⟩, fun X2 hX => ?_⟩
      obtain ⟨BB, Fg6s⟩ : Below V.heap.size V X2 ∧ (X2.heap[g6]? = some (.cells (wC 0 (.slice none 0 0)) 24)) := by subst hX; exact ⟨below4 BB FGg6 _, setRow_heap _ _ _ _ _ _ Fg6⟩
      clear Fg6 hX ee a
      refine rf_ [(7, .int .i64 ((2 : Nat) : Int))] (h1_ t6) ?_
      rintro a A ⟨t7, -⟩ ⟨t6, -⟩
      rw [show wOpen (nw, esL n nu ln t) ep s = ((0, []), 2) from if_neg (fun h_ => by have := h_.2.2.1; omega)]
      refine wp_ret ?_
      repeat (first | with_reducible refine ret_in ?_ | with_reducible refine ret_then ?_)
      refine bodyPost_ret (results_cell_tmp1 Try.results11 _ _ g6 24 _ (0, 0) _ t6 Fg6s Try.underlying24 rfl (sizeW _ _)) A.2 ⟨⟨.slice none 0 0, 0, fun _ => 0, fun _ => undef, fun _ => 0, fun _ _ _ => 0, ?_, rfl, NwE.zero _ _ _ _ _ _⟩, BB⟩
      show Ending.returned (.tuple #[.agg (wC 0 (.slice none 0 0)), a.eval (.tmp 7)]) = _
      rw [t7]
    · by_cases h3 : ep > 4611686018427387904
      · refine wi_ A (h4_ t1 t2 t3 t6) (rc_ 1 (pspan_t s X0 h1) (cb_ fun X1 bQ => ?_))
        replace Fg3 := (on9 Fg3 bQ)
        replace Fg6 := (on9 Fg6 bQ)
        replace BB := BB.trans (bQ.mono BB.size)
        clear bQ
        refine rv_ 2 (.bool false) (fun a ee => execNot8 (b := true) rfl (ee _)) (rv_ 5 (.bool false) (fun a ee => execDec (exIlss2 (p := ep) (q := 0) rfl (ee _) rfl) (decide_eq_false h2)) (rv_ 9 (.bool true) (fun a ee => execDec (exIgtr2 (p := ep) (q := 4611686018427387904) rfl (ee _) rfl) (decide_eq_true h3)) (rf_ [(22, .bool true)] (h4_ t1 t2 t3 t6) ?_)))
        rintro a A ⟨t22, -⟩ ⟨t1, t2, t3, t6, -⟩
        refine wp_cond_true t22 ?_
        clear t22
        refine wp_seq ?_
        clear Fg3 t3
        refine wi_ A (h3_ t1 t2 t6) (rv_ 0 (.agg (wC 0 (.slice none 0 0))) (fun a ee => execBdW0 rfl) (rs_ 1 (fun a ee => ?_)))
        refine stepS rfl rfl (execStWn rfl (ee _) (ee _) Fg6 rfl) ⟨_, ⟨_, rfl, rfl⟩, fun X2 hX => ?_⟩
        obtain ⟨BB, Fg6s⟩ : Below V.heap.size V X2 ∧ (X2.heap[g6]? = some (.cells (wC 0 (.slice none 0 0)) 24)) := by subst hX; exact ⟨below4 BB FGg6 _, setRow_heap _ _ _ _ _ _ Fg6⟩
        clear Fg6 hX ee a
        refine rf_ [(7, .int .i64 ((2 : Nat) : Int))] (h1_ t6) ?_
        rintro a A ⟨t7, -⟩ ⟨t6, -⟩
        rw [show wOpen (nw, esL n nu ln t) ep s = ((0, []), 2) from if_neg (fun h_ => by have := h_.2.2.2; omega)]
        refine wp_ret ?_
        repeat (first | with_reducible refine ret_in ?_ | with_reducible refine ret_then ?_)
        refine bodyPost_ret (results_cell_tmp1 Try.results11 _ _ g6 24 _ (0, 0) _ t6 Fg6s Try.underlying24 rfl (sizeW _ _)) A.2 ⟨⟨.slice none 0 0, 0, fun _ => 0, fun _ => undef, fun _ => 0, fun _ _ _ => 0, ?_, rfl, NwE.zero _ _ _ _ _ _⟩, BB⟩
        show Ending.returned (.tuple #[.agg (wC 0 (.slice none 0 0)), a.eval (.tmp 7)]) = _
        rw [t7]
      · refine wi_ A (h4_ t1 t2 t3 t6) (rc_ 1 (pspan_t s X0 h1) (cb_ fun X1 bQ => ?_))
        replace Fg3 := (on9 Fg3 bQ)
        replace Fg6 := (on9 Fg6 bQ)
        replace BB := BB.trans (bQ.mono BB.size)
        clear bQ
        refine rv_ 2 (.bool false) (fun a ee => execNot8 (b := true) rfl (ee _)) (rv_ 5 (.bool false) (fun a ee => execDec (exIlss2 (p := ep) (q := 0) rfl (ee _) rfl) (decide_eq_false h2)) (rv_ 9 (.bool false) (fun a ee => execDec (exIgtr2 (p := ep) (q := 4611686018427387904) rfl (ee _) rfl) (decide_eq_false h3)) (rf_ [(22, .bool false)] (h4_ t1 t2 t3 t6) ?_)))
        rintro a A ⟨t22, -⟩ ⟨t1, t2, t3, t6, -⟩
        refine wp_cond_false t22 ?_
        refine wp_skip ?_
        clear t22
        obtain ⟨hs1, hs8⟩ := h1
        have hA_ : opA ep s := ⟨hs1, hs8, by omega, by omega⟩
        refine wp_seq ?_
        refine wp_seq ?_
        by_cases e1 : ep + s ≤ nw
        · refine wi_ A (h4_ t1 t2 t3 t6) (rv_ 2 (.int .i64 (ep + s)) (fun a ee => execAdI2 (z := (ep + s)) rfl (ee _) (ee _) rfl (by omega) (by omega)) (rv_ 3 (.pointer (some ⟨g3, 0, none⟩)) (fun a ee => execFldW0 rfl (ee _)) (rv_ 4 (.int .i64 nw) (fun a ee => execLd2 rfl (ee _) (wC_0 Fg3)) (rv_ 5 (.bool true) (fun a ee => execDec (exIleq2 (p := (ep + s)) (q := nw) rfl (ee _) (ee _)) (decide_eq_true e1)) (rf_ [(36, .bool true)] (h4_ t1 t2 t3 t6) ?_)))))
          rintro a A ⟨t36, -⟩ ⟨t1, t2, t3, t6, -⟩
          refine wp_cond_true t36 ?_
          clear t36
          refine wp_seq ?_
          clear Fg3 t3
          refine wi_ A (h3_ t1 t2 t6) (rv_ 0 (.agg (wC 0 (.slice none 0 0))) (fun a ee => execBdW0 rfl) (rs_ 1 (fun a ee => ?_)))
          refine stepS rfl rfl (execStWn rfl (ee _) (ee _) Fg6 rfl) ⟨_, ⟨_, rfl, rfl⟩, fun X4 hX => ?_⟩
          obtain ⟨BB, Fg6s⟩ : Below V.heap.size V X4 ∧ (X4.heap[g6]? = some (.cells (wC 0 (.slice none 0 0)) 24)) := by subst hX; exact ⟨below4 BB FGg6 _, setRow_heap _ _ _ _ _ _ Fg6⟩
          clear Fg6 hX ee a
          refine rf_ [(7, .int .i64 ((161 : Nat) : Int))] (h1_ t6) ?_
          rintro a A ⟨t7, -⟩ ⟨t6, -⟩
          rw [show wOpen (nw, esL n nu ln t) ep s = ((0, []), 161) from (if_pos hA_).trans (if_pos (Or.inl e1))]
          refine wp_ret ?_
          repeat (first | with_reducible refine ret_in ?_ | with_reducible refine ret_then ?_)
          refine bodyPost_ret (results_cell_tmp1 Try.results11 _ _ g6 24 _ (0, 0) _ t6 Fg6s Try.underlying24 rfl (sizeW _ _)) A.2 ⟨⟨.slice none 0 0, 0, fun _ => 0, fun _ => undef, fun _ => 0, fun _ _ _ => 0, ?_, rfl, NwE.zero _ _ _ _ _ _⟩, BB⟩
          show Ending.returned (.tuple #[.agg (wC 0 (.slice none 0 0)), a.eval (.tmp 7)]) = _
          rw [t7]
        · by_cases e2 : ep - 1024 > nw
          · refine wi_ A (h4_ t1 t2 t3 t6) (rv_ 2 (.int .i64 (ep + s)) (fun a ee => execAdI2 (z := (ep + s)) rfl (ee _) (ee _) rfl (by omega) (by omega)) (rv_ 3 (.pointer (some ⟨g3, 0, none⟩)) (fun a ee => execFldW0 rfl (ee _)) (rv_ 4 (.int .i64 nw) (fun a ee => execLd2 rfl (ee _) (wC_0 Fg3)) (rv_ 5 (.bool false) (fun a ee => execDec (exIleq2 (p := (ep + s)) (q := nw) rfl (ee _) (ee _)) (decide_eq_false e1)) (rv_ 8 (.int .i64 (ep - 1024)) (fun a ee => execSub2 (z := (ep - 1024)) rfl (ee _) rfl rfl (by omega) (by omega)) (rv_ 9 (.pointer (some ⟨g3, 0, none⟩)) (fun a ee => execFldW0 rfl (ee _)) (rv_ 10 (.int .i64 nw) (fun a ee => execLd2 rfl (ee _) (wC_0 Fg3)) (rv_ 11 (.bool true) (fun a ee => execDec (exIgtr2 (p := (ep - 1024)) (q := nw) rfl (ee _) (ee _)) (decide_eq_true e2)) (rf_ [(36, .bool true)] (h4_ t1 t2 t3 t6) ?_)))))))))
            rintro a A ⟨t36, -⟩ ⟨t1, t2, t3, t6, -⟩
            refine wp_cond_true t36 ?_
            clear t36
            refine wp_seq ?_
            clear Fg3 t3
            refine wi_ A (h3_ t1 t2 t6) (rv_ 0 (.agg (wC 0 (.slice none 0 0))) (fun a ee => execBdW0 rfl) (rs_ 1 (fun a ee => ?_)))
            refine stepS rfl rfl (execStWn rfl (ee _) (ee _) Fg6 rfl) ⟨_, ⟨_, rfl, rfl⟩, fun X4 hX => ?_⟩
            obtain ⟨BB, Fg6s⟩ : Below V.heap.size V X4 ∧ (X4.heap[g6]? = some (.cells (wC 0 (.slice none 0 0)) 24)) := by subst hX; exact ⟨below4 BB FGg6 _, setRow_heap _ _ _ _ _ _ Fg6⟩
            clear Fg6 hX ee a
            refine rf_ [(7, .int .i64 ((161 : Nat) : Int))] (h1_ t6) ?_
            rintro a A ⟨t7, -⟩ ⟨t6, -⟩
            rw [show wOpen (nw, esL n nu ln t) ep s = ((0, []), 161) from (if_pos hA_).trans (if_pos (Or.inr (by omega)))]
            refine wp_ret ?_
            repeat (first | with_reducible refine ret_in ?_ | with_reducible refine ret_then ?_)
            refine bodyPost_ret (results_cell_tmp1 Try.results11 _ _ g6 24 _ (0, 0) _ t6 Fg6s Try.underlying24 rfl (sizeW _ _)) A.2 ⟨⟨.slice none 0 0, 0, fun _ => 0, fun _ => undef, fun _ => 0, fun _ _ _ => 0, ?_, rfl, NwE.zero _ _ _ _ _ _⟩, BB⟩
            show Ending.returned (.tuple #[.agg (wC 0 (.slice none 0 0)), a.eval (.tmp 7)]) = _
            rw [t7]
          · refine wi_ A (h4_ t1 t2 t3 t6) (rv_ 2 (.int .i64 (ep + s)) (fun a ee => execAdI2 (z := (ep + s)) rfl (ee _) (ee _) rfl (by omega) (by omega)) (rv_ 3 (.pointer (some ⟨g3, 0, none⟩)) (fun a ee => execFldW0 rfl (ee _)) (rv_ 4 (.int .i64 nw) (fun a ee => execLd2 rfl (ee _) (wC_0 Fg3)) (rv_ 5 (.bool false) (fun a ee => execDec (exIleq2 (p := (ep + s)) (q := nw) rfl (ee _) (ee _)) (decide_eq_false e1)) (rv_ 8 (.int .i64 (ep - 1024)) (fun a ee => execSub2 (z := (ep - 1024)) rfl (ee _) rfl rfl (by omega) (by omega)) (rv_ 9 (.pointer (some ⟨g3, 0, none⟩)) (fun a ee => execFldW0 rfl (ee _)) (rv_ 10 (.int .i64 nw) (fun a ee => execLd2 rfl (ee _) (wC_0 Fg3)) (rv_ 11 (.bool false) (fun a ee => execDec (exIgtr2 (p := (ep - 1024)) (q := nw) rfl (ee _) (ee _)) (decide_eq_false e2)) (rf_ [(36, .bool false)] (h4_ t1 t2 t3 t6) ?_)))))))))
            rintro a A ⟨t36, -⟩ ⟨t1, t2, t3, t6, -⟩
            refine wp_cond_false t36 ?_
            refine wp_skip ?_
            clear t36
            have hO : wOpen (nw, esL n nu ln t) ep s = (opW (nw, esL n nu ln t) ep s, 0) := (if_pos hA_).trans (if_neg (fun h_ => by rcases h_ with h_ | h_ <;> omega))
            rw [hO]
            obtain ⟨M, eM⟩ : ∃ M, max nw ep = M := ⟨_, rfl⟩
            have hM1 : 0 ≤ M := by omega
            have hM2 : M < 4611686018427388000 := by omega
            replace hE := (hE.on BB)
            replace BW := BW.trans (BB.mono BW.size)
            clear BB
            have BB : Below X1.heap.size X1 X1 := Below.refl _ _
            refine wp_seq ?_
            refine wi_ A (h4_ t1 t2 t3 t6) (rv_ 0 (.pointer (some ⟨g3, 0, none⟩)) (fun a ee => execFldW0 rfl (ee _)) (rv_ 1 (.int .i64 nw) (fun a ee => execLd2 rfl (ee _) (wC_0 (on9 Fg3 BB))) (rv_ 3 (.int .i64 (max nw ep)) (fun a ee => execMax2 rfl (ee _) (ee _)) (rf_ [(8, .int .i64 (max nw ep))] (h3_ t2 t3 t6) ?_))))
            rintro a A ⟨t8, -⟩ ⟨t2, t3, t6, -⟩
            rw [eM] at t8
            refine wp_seq ?_
            obtain ⟨g9, egg9⟩ : ∃ z_ : Nat, X1.heap.size = z_ := ⟨_, rfl⟩
            refine wi_ A (h4_ t2 t3 t6 t8) (rv_ 1 (.agg (wC M (.slice none 0 0))) (fun a ee => execBdW1 rfl (ee _)) (rs_ 2 (fun a ee => ?_)))
            refine stepV rfl rfl (execAllW rfl) ⟨.pointer (some ⟨g9, 0, none⟩), ⟨_, rfl, by subst egg9; rfl⟩, fun X6_1 hX => ?_⟩
            have bQ : Below X1.heap.size X1 X6_1 := by subst hX egg9; exact (belNew X1 _)
            have Fg9 : (X6_1.heap[g9]? = some (.cells (wC 0 (.slice none 0 0)) 24)) := by subst hX egg9; exact heapNew X1 _
            have FGg9 : (X1.heap.size ≤ g9) := by subst hX egg9; exact (BB).size
            replace BB := BB.trans (bQ.mono BB.size)
            clear bQ hX egg9 ee a
            refine rs_ 3 (fun a ee => ?_)
            refine stepS rfl rfl (execStWn rfl (ee _) (ee _) Fg9 rfl) ⟨_, ⟨_, rfl, rfl⟩, fun X6 hX => ?_⟩
            obtain ⟨BB, Fg9s⟩ : Below X1.heap.size X1 X6 ∧ (X6.heap[g9]? = some (.cells (wC M (.slice none 0 0)) 24)) := by subst hX; exact ⟨below4 BB FGg9 _, setRow_heap _ _ _ _ _ _ Fg9⟩
            clear Fg9 hX ee a
            refine rf_ [(9, .pointer (some ⟨g9, 0, none⟩))] (h4_ t2 t3 t6 t8) ?_
            rintro a A ⟨t9, -⟩ ⟨t2, t3, t6, t8, -⟩
            refine wp_seq ?_
            refine wp_seq ?_
            refine wi_ A (h5_ t2 t3 t6 t8 t9) (rv_ 0 (.pointer (some ⟨g3, 1, none⟩)) (fun a ee => execFldW1 rfl (ee _)) (rv_ 1 (ev) (fun a ee => execLdEs rfl (ee _) (wC_1 (on9 Fg3 BB))) (rv_ 2 (.int .i64 ((n : Nat) : Int)) (fun a ee => execLenEs (len := n) rfl (ee _) hE.shp) (rf_ [(45, ev), (46, .int .i64 ((n : Nat) : Int)), (47, .int .i64 ((0 : Nat) : Int))] (h4_ t2 t6 t8 t9) ?_))))
            rintro a A ⟨t45, t46, t47, -⟩ ⟨t2, t6, t8, t9, -⟩
            have FE : (NwE X1.heap.size X6 (.slice none 0 0) 0 (fun _ => 0) (fun _ => undef) (fun _ => 0) (fun _ _ _ => 0)) := NwE.zero _ _ _ _ _ _
            have Fo := Fg9s
            clear Fg9s
            refine wp_block ?_
            refine wp_loop (fun a W => ∃ (i : Nat) (ev2 : Value) (k : Nat) (nv : Nat → Int) (uw : Nat → Value) (lm : Nat → Nat) (sg : Nat → Nat → Nat → Nat), i ≤ n ∧ (esL k nv lm sg = (esL i nu ln t).filter fun x => decide (M - s < x.1)) ∧ (k ≤ i) ∧ (a.tmps.size = 66 ∧ a.defers = []) ∧ a.eval (.tmp 2) = .int .i64 s ∧ a.eval (.tmp 6) = .pointer (some ⟨g6, 0, none⟩) ∧ a.eval (.tmp 8) = .int .i64 M ∧ a.eval (.tmp 9) = .pointer (some ⟨g9, 0, none⟩) ∧ a.eval (.tmp 45) = ev ∧ a.eval (.tmp 46) = .int .i64 ((n : Nat) : Int) ∧ a.eval (.tmp 47) = .int .i64 ((i : Nat) : Int) ∧ Below X1.heap.size X1 W ∧ (W.heap[g9]? = some (.cells (wC M ev2) 24)) ∧ (NwE X1.heap.size W ev2 k nv uw lm sg)) (fun a _ => n - (intOf (a.eval (.tmp 47))).toNat) ⟨0, .slice none 0 0, 0, fun _ => 0, fun _ => undef, fun _ => 0, fun _ _ _ => 0, Nat.zero_le _, rfl, Nat.le_refl _, A, t2, t6, t8, t9, t45, t46, t47, BB, Fo, FE⟩ ?_
            clear A t2 t6 t8 t9 t45 t46 t47 BB Fo FE a
            rintro a XL8 ⟨i, ev2, k, nv, uw, lm, sg, hi, hf, hk, A, t2, t6, t8, t9, t45, t46, t47, BB, Fo, FE⟩
            have esi := t47
            refine wp_seq ?_
            refine wi_ A (h7_ t2 t6 t8 t9 t45 t46 t47) (rv_ 0 (.bool (decide (i < n))) (fun a ee => execLtW (p := i) (q := n) rfl (ee _) (ee _)) (rf_ [(48, .bool (decide (i < n)))] (h7_ t2 t6 t8 t9 t45 t46 t47) ?_))
            rintro a A ⟨t48, -⟩ ⟨t2, t6, t8, t9, t45, t46, t47, -⟩
            refine wp_seq ?_
            by_cases lti : i < n
            · rw [decide_eq_true lti] at t48
              refine wp_cond_true t48 ?_
              refine wp_skip ?_
              clear t48
              refine wp_seq ?_
              refine wp_block ?_
              have hTe := hE.lists i lti
              have hln := hl i lti
              have hln16 : ln i * 16 ≤ 140737488355328 := by omega
              have hnui := hE.nums i lti
              obtain ⟨eb, eo, ec, ee_, heb, hec⟩ := hE.at (show 0 < n by omega)
              have cE : ∀ X, Below X1.heap.size X1 X → X.cell? ⟨eb, eo + i * 2 + 1, none⟩ = some (tw i) := fun X hX => by rw [cell_below hX heb]; exact (hec i lti).2
              have cN : ∀ X, Below X1.heap.size X1 X → X.cell? ⟨eb, eo + i * 2 + 0, none⟩ = some (.int .i64 (nu i)) := fun X hX => by rw [cell_below hX heb]; exact (hec i lti).1
              refine wp_seq ?_
              obtain ⟨g11, egg11⟩ : ∃ z_ : Nat, XL8.heap.size = z_ := ⟨_, rfl⟩
              refine wi_ A (h7_ t2 t6 t8 t9 t45 t46 t47) (rv_ 0 (.pointer (some ⟨eb, eo + i * 2, none⟩)) (fun a ee => execIdxEs (k := i) rfl ((ee _).trans ee_) (ee _) (by omega)) (rv_ 1 (.agg (epC (nu i) (tw i))) (fun a ee => execLdEp rfl (ee _) (cN XL8 BB) (cE XL8 BB)) (rs_ 2 (fun a ee => ?_))))
              refine stepV rfl rfl (execAllEp rfl) ⟨.pointer (some ⟨g11, 0, none⟩), ⟨_, rfl, by subst egg11; rfl⟩, fun X9_1 hX => ?_⟩
              have bQ : Below XL8.heap.size XL8 X9_1 := by subst hX egg11; exact (belNew XL8 _)
              have Fg11 : (X9_1.heap[g11]? = some (.cells (epC 0 (.slice none 0 0)) 47)) := by subst hX egg11; exact heapNew XL8 _
              have FGe : (X1.heap.size ≤ g11) := by subst hX egg11; exact (BB).size
              have FD : (ev2.ownBlock ≠ some g11) := by subst hX egg11; exact fun q_ => Nat.lt_irrefl _ (FE.lt.1 _ q_)
              replace Fo := (on9 Fo bQ)
              replace FE := (FE.on bQ)
              replace BB := BB.trans (bQ.mono BB.size)
              clear bQ hX egg11 ee a
              refine rs_ 3 (fun a ee => ?_)
              refine stepS rfl rfl (execStEp rfl (ee _) (ee _) Fg11 (by obtain ⟨_, _, e_⟩ := hTe.shp; rw [e_]; rfl)) ⟨_, ⟨_, rfl, rfl⟩, fun X9 hX => ?_⟩
              obtain ⟨BB, Fo, FE, Fe⟩ : Below X1.heap.size X1 X9 ∧ (X9.heap[g9]? = some (.cells (wC M ev2) 24)) ∧ (NwE X1.heap.size X9 ev2 k nv uw lm sg) ∧ (X9.heap[g11]? = some (.cells (epC (nu i) (tw i)) 47)) := by subst hX; exact ⟨below4 BB FGe _, (by rw [setRow_other _ _ _ _ (ne_type Fg11 Fo (by decide))]; exact Fo), (FE).setE Fg11 FD, setRow_heap _ _ _ _ _ _ Fg11⟩
              clear Fg11 hX ee a
              refine rf_ [(11, .pointer (some ⟨g11, 0, none⟩))] (h7_ t2 t6 t8 t9 t45 t46 t47) ?_
              rintro a A ⟨t11, -⟩ ⟨t2, t6, t8, t9, t45, t46, t47, -⟩
              clear FGe FD
              refine wp_seq ?_
              by_cases hkp : nu i > M - s
              · refine wi_ A (h8_ t2 t6 t8 t9 t45 t46 t47 t11) (rv_ 0 (.pointer (some ⟨g11, 0 + 0, none⟩)) (fun a ee => execFldE0 rfl (ee _)) (rv_ 1 (.int .i64 (nu i)) (fun a ee => execLd2 rfl (ee _) (epC_0 Fe)) (rv_ 4 (.int .i64 (M - s)) (fun a ee => execSub2 (z := (M - s)) rfl (ee _) (ee _) rfl (by omega) (by omega)) (rv_ 5 (.bool true) (fun a ee => execDec (exIgtr2 (p := (nu i)) (q := (M - s)) rfl (ee _) (ee _)) (decide_eq_true hkp)) (rf_ [(56, .bool true)] (h8_ t2 t6 t8 t9 t45 t46 t47 t11) ?_)))))
                rintro a A ⟨t56, -⟩ ⟨t2, t6, t8, t9, t45, t46, t47, t11, -⟩
                refine wp_cond_true t56 ?_
                clear t56
                have hlo : ∀ j_, j_ < k → ∀ b_, (uw j_).ownBlock = some b_ → b_ < X9.heap.size := FE.lt.2
                have hCB : X1.heap.size ≤ X9.heap.size := BB.size
                have FZ : X9.heap.size ≤ X9.heap.size := Nat.le_refl _
                refine wj_ [0, 1, 2, 3, 4, 5, 6, 7] [3, 4, 5, 7] [1, 2] [5, 7] A (h8_ t2 t6 t8 t9 t45 t46 t47 t11) (fun X11_0 bD => ?_)
                refine dw_ 0 (.pointer (some ⟨g9, 1, none⟩)) (fun a X ee => execFldW1 rfl (ee _)) (dv_ 1 (ev2) (fun a X ee hb => execLdEs rfl (ee _) (wC_1 (on9 Fo hb))) (dv_ 2 (.agg (epC (nu i) (tw i))) (fun a X ee hb => execLdEp rfl (ee _) (epC_0 (on9 Fe hb)) (epC_1 (on9 Fe hb))) (dc_ 3 (pcopyOf (nu i) (tw i) (ln i) (t i) X11_0 (hTe.on (BB.trans (bD.mono BB.size))) hln16) fun e X11_1 hh => ?_)))
                obtain ⟨⟨v60, he, hk⟩, hb⟩ := hh
                refine ⟨_, he, ?_⟩
                have bQ : Below X11_0.heap.size X11_0 X11_1 := hb
                have FC : (X11_1.ownsRow X9.heap.size 36 16 v60 (ln i) (tgV (t i) (ln i))) := ownE_base hk (Nat.le_trans FZ (bD).size)
                replace bD := bD.trans (bQ.mono bD.size)
                clear bQ
                refine ⟨Or.inr bD, ?_⟩
                obtain ⟨g61, egg61⟩ : ∃ z_ : Nat, X11_1.heap.size = z_ := ⟨_, rfl⟩
                refine ds_ 4 (fun a ee => ?_)
                refine stepV rfl rfl (execBsEp rfl (ee _) (ownE_shp FC)) ⟨.slice (some ⟨g61, 0, none⟩) 1 1, ⟨_, rfl, by subst egg61; rfl⟩, fun X11_2 hX => ?_⟩
                have bQ : Below X11_1.heap.size X11_1 X11_2 := by subst hX egg61; exact (belNew X11_1 _)
                have Fg61 : (X11_2.heap[g61]? = some (.cells (epC (nu i) v60) 47)) := by subst hX egg61; exact heapNew X11_1 _
                replace FC := (ownE_below FC bQ)
                replace bD := bD.trans (bQ.mono bD.size)
                clear bQ hX egg61 ee a
                refine ⟨Or.inr bD, ?_⟩
                refine ds_ 5 (fun a ee => ?_)
                refine stepAppE rfl rfl rfl (ee _) (ee _) (FE.on bD).row Fg61 (slc_one (ownE_shp FC)) (by omega) ((BB.trans (bD.mono BB.size))).size fun v62 X11_3 own' gr => ⟨_, ⟨_, rfl, rfl⟩, eqw ?_⟩
                obtain ⟨BB, Fo, FE2⟩ : Below X1.heap.size X1 X11_3 ∧ (X11_3.heap[g9]? = some (.cells (wC M ev2) 24)) ∧ (NwE X1.heap.size X11_3 v62 (k + 1) (up nv k (nu i)) (up uw k v60) (up lm k (ln i)) (up sg k (t i))) := ⟨((BB.trans (bD.mono BB.size))).grown gr ((BB.trans (bD.mono BB.size))).size (fun k hk => ((FE.on bD).row.lt k hk).1), heapE_over (FE.on bD).row gr (on9 Fo bD) (by decide), ((FE.on bD)).push FC hlo hCB hTe.byt hnui own' gr⟩
                clear bD FE Fg61 Fe FC FZ ee a
                refine ⟨Or.inl rfl, ?_⟩
                refine dw_ 6 (.pointer (some ⟨g9, 1, none⟩)) (fun a X ee => execFldW1 rfl (ee _)) (ds_ 7 (fun a ee => ?_))
                refine stepS rfl rfl (execStEs rfl (ee _) (ee _) (ownE_shp FE2.row) (wC_1 Fo) (frozen4 Fo)) ⟨_, ⟨_, rfl, rfl⟩, fun X11 hX => ?_⟩
                obtain ⟨BB, FE2, Fo2⟩ : Below X1.heap.size X1 X11 ∧ (NwE X1.heap.size X11 v62 (k + 1) (up nv k (nu i)) (up uw k v60) (up lm k (ln i)) (up sg k (t i))) ∧ (X11.heap[g9]? = some (.cells (wC M v62) 24)) := by subst hX; exact ⟨(BB).setCell FGg9 _, (FE2).setC Fo (by decide) (by decide), wC_set Fo⟩
                clear Fo hX ee a
                refine ⟨Or.inl rfl, ?_⟩
                refine dz_ [] (h7_ t2 t6 t8 t9 t45 t46 t47) ?_
                rintro a A - ⟨t2, t6, t8, t9, t45, t46, t47, -⟩
                have hf2 : esL (k + 1) (up nv k (nu i)) (up lm k (ln i)) (up sg k (t i)) = (esL (i + 1) nu ln t).filter fun x => decide (M - s < x.1) := by rw [esL_up, hf, esL_succ, fil_y (show M - s < nu i by omega)]
                have hk2 : k + 1 ≤ i + 1 := by omega
                refine wi_ A (h7_ t2 t6 t8 t9 t45 t46 t47) (rv_ 0 (.int .i64 ((i + 1 : Nat) : Int)) (fun a ee => execAd8 (p := i) (q := 1) rfl (ee _) rfl (by omega)) (rf_ [(47, .int .i64 ((i + 1 : Nat) : Int))] (h6_ t2 t6 t8 t9 t45 t46) ?_))
                rintro a A ⟨t47, -⟩ ⟨t2, t6, t8, t9, t45, t46, -⟩
                exact ⟨⟨i + 1, v62, k + 1, up nv k (nu i), up uw k v60, up lm k (ln i), up sg k (t i), lti, hf2, hk2, A, t2, t6, t8, t9, t45, t46, t47, BB, Fo2, FE2⟩, by show n - (intOf (a.eval (.tmp 47))).toNat < n - (intOf (Act.eval _ (.tmp 47))).toNat; rw [t47, esi]; show n - (i + 1) < n - i; omega⟩
              · refine wi_ A (h8_ t2 t6 t8 t9 t45 t46 t47 t11) (rv_ 0 (.pointer (some ⟨g11, 0 + 0, none⟩)) (fun a ee => execFldE0 rfl (ee _)) (rv_ 1 (.int .i64 (nu i)) (fun a ee => execLd2 rfl (ee _) (epC_0 Fe)) (rv_ 4 (.int .i64 (M - s)) (fun a ee => execSub2 (z := (M - s)) rfl (ee _) (ee _) rfl (by omega) (by omega)) (rv_ 5 (.bool false) (fun a ee => execDec (exIgtr2 (p := (nu i)) (q := (M - s)) rfl (ee _) (ee _)) (decide_eq_false hkp)) (rf_ [(56, .bool false)] (h8_ t2 t6 t8 t9 t45 t46 t47 t11) ?_)))))
                rintro a A ⟨t56, -⟩ ⟨t2, t6, t8, t9, t45, t46, t47, t11, -⟩
                refine wp_cond_false t56 ?_
                refine wp_skip ?_
                clear t56 t11 Fe
                have hf2 : esL k nv lm sg = (esL (i + 1) nu ln t).filter fun x => decide (M - s < x.1) := by rw [hf, esL_succ, fil_n (show ¬ M - s < nu i by omega)]
                have hk2 : k ≤ i + 1 := by omega
                refine wi_ A (h7_ t2 t6 t8 t9 t45 t46 t47) (rv_ 0 (.int .i64 ((i + 1 : Nat) : Int)) (fun a ee => execAd8 (p := i) (q := 1) rfl (ee _) rfl (by omega)) (rf_ [(47, .int .i64 ((i + 1 : Nat) : Int))] (h6_ t2 t6 t8 t9 t45 t46) ?_))
                rintro a A ⟨t47, -⟩ ⟨t2, t6, t8, t9, t45, t46, -⟩
                exact ⟨⟨i + 1, ev2, k, nv, uw, lm, sg, lti, hf2, hk2, A, t2, t6, t8, t9, t45, t46, t47, BB, Fo, FE⟩, by show n - (intOf (a.eval (.tmp 47))).toNat < n - (intOf (Act.eval _ (.tmp 47))).toNat; rw [t47, esi]; show n - (i + 1) < n - i; omega⟩
            · rw [decide_eq_false lti] at t48
              refine wp_cond_false t48 ?_
              refine wp_exit ?_
              first | with_reducible refine exit_in ?_ | with_reducible refine exit_then (exit_in ?_) | with_reducible refine exit_then (exit_then (exit_in ?_)) | refine exit_in ?_ | refine exit_then (exit_in ?_) | refine exit_then (exit_then (exit_in ?_))
              clear t48 esi
              have ein : i = n := by omega
              rw [ein] at hf
              clear t2 t8 t45 t46 t47
              replace Fg6 := on9 Fg6 BB
              have BV := BW.trans (BB.mono BW.size)
              replace FE := FE.base BW.size
              clear BB
              have BB := BV
              clear BV
              refine wp_seq ?_
              refine wi_ A (h2_ t6 t9) (rv_ 0 (.agg (wC M ev2)) (fun a ee => execLdWn rfl (ee _) Fo) (rs_ 1 (fun a ee => ?_)))
              refine stepS rfl rfl (execStWn rfl (ee _) (ee _) Fg6 (slc_one (ownE_shp FE.row))) ⟨_, ⟨_, rfl, rfl⟩, fun X13 hX => ?_⟩
              obtain ⟨BB, FE, Fr⟩ : Below V.heap.size V X13 ∧ (NwE V.heap.size X13 ev2 k nv uw lm sg) ∧ (X13.heap[g6]? = some (.cells (wC M ev2) 24)) := by subst hX; exact ⟨below4 BB FGg6 _, (FE).setW Fg6 (by decide) (by decide), setRow_heap _ _ _ _ _ _ Fg6⟩
              clear Fg6 Fo hX ee a
              refine rf_ [(7, .int .i64 ((0 : Nat) : Int))] (h1_ t6) ?_
              rintro a A ⟨t7, -⟩ ⟨t6, -⟩
              refine wp_ret ?_
              refine bodyPost_ret (results_cell_tmp1 Try.results11 _ _ g6 24 _ (0, 0) _ t6 Fr Try.underlying24 rfl (sizeW _ _)) A.2 ⟨⟨ev2, k, nv, uw, lm, sg, ?_, by rw [hf, ← eM]; rfl, FE⟩, BB⟩
              show Ending.returned (.tuple #[.agg (wC M ev2), a.eval (.tmp 7)]) = _
              rw [t7]
              rw [← eM]
              rfl
end Go.Proofs.Ytijibdapooalcab.Win
