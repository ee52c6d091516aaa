import Derived.Test.YtijibdapooalcabC9o
namespace Go.Proofs.Ytijibdapooalcab.Win
open Go.RowKit Gf8 Aes By8 Cel Cf
/- The reference's Add. Written by tools/mkC9p.py. -/

set_option maxRecDepth 100000 in
set_option maxHeartbeats 4000000 in
/-- The reference's Add. -/
theorem radd16 (nw ep r : Int) (ev : Value) (n : Nat) (nu : Nat → Int) (tw : Nat → Value) (ln : Nat → Nat) (t : Nat → Nat → Nat → Nat) (V : World) (hE : Eps V ev n nu tw ln t) (hn : n < 9223372036854775808) (hl : ∀ j, j < n → ln j ≤ 8796093022208) (hnw : I64 nw) (hep : I64 ep) (hr : I64 r) (v : Value) (m : Nat) (tg : Nat → Nat → Nat) (hT : Tgs V v m tg) (hm : m * 16 ≤ 140737488351232) :
    Calls Try.prog 15 #[.agg (wC nw ev), .int .i64 ep, v, .int .i64 r] V fun e w' => OpP V (wAdd (nw, esL n nu ln t) ep (tgL m tg) r) e w' ∧ Below V.heap.size V w' := by
  go_enter Try.func15, Try.ntmps15
  refine wo_ 183 [(0, .agg (wC nw ev)), (1, .int .i64 ep), (2, v), (3, .int .i64 r)] ?_
  rintro a A ⟨t0, t1, t2, t3, -⟩
  have BW : Below V.heap.size V V := Below.refl _ _
  have BB := BW
  refine wp_seq ?_
  obtain ⟨g4, egg4⟩ : ∃ z_ : Nat, V.heap.size = z_ := ⟨_, rfl⟩
  refine wi_ A (h4_ t0 t1 t2 t3) (rs_ 0 (fun a ee => ?_))
  refine stepV rfl rfl (execBoxW rfl (ee _)) ⟨.pointer (some ⟨g4, 0, none⟩), ⟨_, rfl, by subst egg4; rfl⟩, fun X0_1 hX => ?_⟩
  have bQ : Below V.heap.size V X0_1 := by subst hX egg4; exact (belNew V _)
  have Fg4 : (X0_1.heap[g4]? = some (.cells (wC nw ev) 24)) := by subst hX egg4; exact heapNew V _
  replace BB := BB.trans (bQ.mono BB.size)
  clear bQ hX egg4 ee a
  obtain ⟨g8, egg8⟩ : ∃ z_ : Nat, X0_1.heap.size = z_ := ⟨_, rfl⟩
  refine rs_ 1 (fun a ee => ?_)
  refine stepV rfl rfl (execAllW rfl) ⟨.pointer (some ⟨g8, 0, none⟩), ⟨_, rfl, by subst egg8; rfl⟩, fun X0 hX => ?_⟩
  have bQ : Below X0_1.heap.size X0_1 X0 := by subst hX egg8; exact (belNew X0_1 _)
  have Fg8 : (X0.heap[g8]? = some (.cells (wC 0 (.slice none 0 0)) 24)) := by subst hX egg8; exact heapNew X0_1 _
  have FGg8 : (V.heap.size ≤ g8) := by subst hX egg8; exact (BB).size
  replace Fg4 := (on9 Fg4 bQ)
  replace BB := BB.trans (bQ.mono BB.size)
  clear bQ hX egg8 ee a
  refine rf_ [(4, .pointer (some ⟨g4, 0, none⟩)), (8, .pointer (some ⟨g8, 0, none⟩))] (h3_ t1 t2 t3) ?_
  rintro a A ⟨t4, t8, -⟩ ⟨t1, t2, t3, -⟩
  refine wp_seq ?_
  refine wp_seq ?_
  by_cases h1 : r < 0
  · refine wi_ A (h5_ t1 t2 t3 t4 t8) (rv_ 1 (.bool true) (fun a ee => execDec (exIlss3 (p := r) (q := 0) rfl (ee _) rfl) (decide_eq_true h1)) (rf_ [(30, .bool true)] (h5_ t1 t2 t3 t4 t8) ?_))
    rintro a A ⟨t30, -⟩ ⟨t1, t2, t3, t4, t8, -⟩
    refine wp_cond_true t30 ?_
    clear t30
    refine wp_seq ?_
    clear Fg4 t4
    refine wi_ A (h4_ t1 t2 t3 t8) (rv_ 0 (.agg (wC 0 (.slice none 0 0))) (fun a ee => execBdW0 rfl) (rs_ 1 (fun a ee => ?_)))
    refine stepS rfl rfl (execStWn rfl (ee _) (ee _) Fg8 rfl) ⟨_, ⟨_, rfl, rfl⟩, fun X2 hX => ?_⟩
    obtain ⟨BB, Fg8s⟩ : Below V.heap.size V X2 ∧ (X2.heap[g8]? = some (.cells (wC 0 (.slice none 0 0)) 24)) := by subst hX; exact ⟨below4 BB FGg8 _, setRow_heap _ _ _ _ _ _ Fg8⟩
    clear Fg8 hX ee a
    refine rf_ [(9, .int .i64 ((2 : Nat) : Int))] (h1_ t8) ?_
    rintro a A ⟨t9, -⟩ ⟨t8, -⟩
    rw [show wAdd (nw, esL n nu ln t) ep (tgL m tg) r = ((0, []), 2) from if_neg (fun h_ => by have := h_.1; omega)]
    refine wp_ret ?_
    repeat (first | with_reducible refine ret_in ?_ | with_reducible refine ret_then ?_)
    refine bodyPost_ret (results_cell_tmp1 Try.results15 _ _ g8 24 _ (0, 0) _ t8 Fg8s Try.underlying24 rfl (sizeW _ _)) A.2 ⟨⟨.slice none 0 0, 0, fun _ => 0, fun _ => undef, fun _ => 0, fun _ _ _ => 0, ?_, rfl, NwE.zero _ _ _ _ _ _⟩, BB⟩
    show Ending.returned (.tuple #[.agg (wC 0 (.slice none 0 0)), a.eval (.tmp 9)]) = _
    rw [t9]
  · by_cases h2 : r > 4096
    · refine wi_ A (h5_ t1 t2 t3 t4 t8) (rv_ 1 (.bool false) (fun a ee => execDec (exIlss3 (p := r) (q := 0) rfl (ee _) rfl) (decide_eq_false h1)) (rv_ 4 (.bool true) (fun a ee => execDec (exIgtr3 (p := r) (q := 4096) rfl (ee _) rfl) (decide_eq_true h2)) (rf_ [(30, .bool true)] (h5_ t1 t2 t3 t4 t8) ?_)))
      rintro a A ⟨t30, -⟩ ⟨t1, t2, t3, t4, t8, -⟩
      refine wp_cond_true t30 ?_
      clear t30
      refine wp_seq ?_
      clear Fg4 t4
      refine wi_ A (h4_ t1 t2 t3 t8) (rv_ 0 (.agg (wC 0 (.slice none 0 0))) (fun a ee => execBdW0 rfl) (rs_ 1 (fun a ee => ?_)))
      refine stepS rfl rfl (execStWn rfl (ee _) (ee _) Fg8 rfl) ⟨_, ⟨_, rfl, rfl⟩, fun X2 hX => ?_⟩
      obtain ⟨BB, Fg8s⟩ : Below V.heap.size V X2 ∧ (X2.heap[g8]? = some (.cells (wC 0 (.slice none 0 0)) 24)) := by subst hX; exact ⟨below4 BB FGg8 _, setRow_heap _ _ _ _ _ _ Fg8⟩
      clear Fg8 hX ee a
      refine rf_ [(9, .int .i64 ((2 : Nat) : Int))] (h1_ t8) ?_
      rintro a A ⟨t9, -⟩ ⟨t8, -⟩
      rw [show wAdd (nw, esL n nu ln t) ep (tgL m tg) r = ((0, []), 2) from if_neg (fun h_ => by have := h_.2.1; omega)]
      refine wp_ret ?_
      repeat (first | with_reducible refine ret_in ?_ | with_reducible refine ret_then ?_)
      refine bodyPost_ret (results_cell_tmp1 Try.results15 _ _ g8 24 _ (0, 0) _ t8 Fg8s Try.underlying24 rfl (sizeW _ _)) A.2 ⟨⟨.slice none 0 0, 0, fun _ => 0, fun _ => undef, fun _ => 0, fun _ _ _ => 0, ?_, rfl, NwE.zero _ _ _ _ _ _⟩, BB⟩
      show Ending.returned (.tuple #[.agg (wC 0 (.slice none 0 0)), a.eval (.tmp 9)]) = _
      rw [t9]
    · by_cases h3 : wChk (nw, esL n nu ln t) 8 4096 ≠ 0
      · refine wi_ A (h5_ t1 t2 t3 t4 t8) (rv_ 1 (.bool false) (fun a ee => execDec (exIlss3 (p := r) (q := 0) rfl (ee _) rfl) (decide_eq_false h1)) (rv_ 4 (.bool false) (fun a ee => execDec (exIgtr3 (p := r) (q := 4096) rfl (ee _) rfl) (decide_eq_false h2)) (rv_ 7 (.agg (wC nw ev)) (fun a ee => execLdWn rfl (ee _) Fg4) (rc_ 8 (rcheck16 nw 8 4096 ev n nu tw ln t X0 (hE.on BB) hn hl hnw (by decide) (by decide)) (cb_ fun X1 bQ => ?_)))))
        replace Fg4 := (on9 Fg4 bQ)
        replace Fg8 := (on9 Fg8 bQ)
        replace BB := BB.trans (bQ.mono BB.size)
        clear bQ
        refine rv_ 9 (.bool true) (fun a ee => execDec (execNeN (p := wChk (nw, esL n nu ln t) 8 4096) (q := 0) rfl (ee _) rfl) (decide_eq_true (by exact h3))) (rf_ [(30, .bool true)] (h5_ t1 t2 t3 t4 t8) ?_)
        rintro a A ⟨t30, -⟩ ⟨t1, t2, t3, t4, t8, -⟩
        refine wp_cond_true t30 ?_
        clear t30
        refine wp_seq ?_
        clear Fg4 t4
        refine wi_ A (h4_ t1 t2 t3 t8) (rv_ 0 (.agg (wC 0 (.slice none 0 0))) (fun a ee => execBdW0 rfl) (rs_ 1 (fun a ee => ?_)))
        refine stepS rfl rfl (execStWn rfl (ee _) (ee _) Fg8 rfl) ⟨_, ⟨_, rfl, rfl⟩, fun X2 hX => ?_⟩
        obtain ⟨BB, Fg8s⟩ : Below V.heap.size V X2 ∧ (X2.heap[g8]? = some (.cells (wC 0 (.slice none 0 0)) 24)) := by subst hX; exact ⟨below4 BB FGg8 _, setRow_heap _ _ _ _ _ _ Fg8⟩
        clear Fg8 hX ee a
        refine rf_ [(9, .int .i64 ((2 : Nat) : Int))] (h1_ t8) ?_
        rintro a A ⟨t9, -⟩ ⟨t8, -⟩
        rw [show wAdd (nw, esL n nu ln t) ep (tgL m tg) r = ((0, []), 2) from if_neg (fun h_ => h3 (if_pos h_.2.2))]
        refine wp_ret ?_
        repeat (first | with_reducible refine ret_in ?_ | with_reducible refine ret_then ?_)
        refine bodyPost_ret (results_cell_tmp1 Try.results15 _ _ g8 24 _ (0, 0) _ t8 Fg8s Try.underlying24 rfl (sizeW _ _)) A.2 ⟨⟨.slice none 0 0, 0, fun _ => 0, fun _ => undef, fun _ => 0, fun _ _ _ => 0, ?_, rfl, NwE.zero _ _ _ _ _ _⟩, BB⟩
        show Ending.returned (.tuple #[.agg (wC 0 (.slice none 0 0)), a.eval (.tmp 9)]) = _
        rw [t9]
      · refine wi_ A (h5_ t1 t2 t3 t4 t8) (rv_ 1 (.bool false) (fun a ee => execDec (exIlss3 (p := r) (q := 0) rfl (ee _) rfl) (decide_eq_false h1)) (rv_ 4 (.bool false) (fun a ee => execDec (exIgtr3 (p := r) (q := 4096) rfl (ee _) rfl) (decide_eq_false h2)) (rv_ 7 (.agg (wC nw ev)) (fun a ee => execLdWn rfl (ee _) Fg4) (rc_ 8 (rcheck16 nw 8 4096 ev n nu tw ln t X0 (hE.on BB) hn hl hnw (by decide) (by decide)) (cb_ fun X1 bQ => ?_)))))
        replace Fg4 := (on9 Fg4 bQ)
        replace Fg8 := (on9 Fg8 bQ)
        replace BB := BB.trans (bQ.mono BB.size)
        clear bQ
        refine rv_ 9 (.bool false) (fun a ee => execDec (execNeN (p := wChk (nw, esL n nu ln t) 8 4096) (q := 0) rfl (ee _) rfl) (decide_eq_false (by exact h3))) (rf_ [(30, .bool false)] (h5_ t1 t2 t3 t4 t8) ?_)
        rintro a A ⟨t30, -⟩ ⟨t1, t2, t3, t4, t8, -⟩
        refine wp_cond_false t30 ?_
        refine wp_skip ?_
        clear t30
        have hR : Rgt (nw, esL n nu ln t) 8 4096 := by
          refine Classical.byContradiction fun q_ => h3 ?_
          rw [show wChk (nw, esL n nu ln t) 8 4096 = 2 from if_neg q_]
          decide
        have hA_ : adA (nw, esL n nu ln t) r := ⟨by omega, by omega, hR⟩
        have hnw1 : 0 ≤ nw := hR.2.2.2.2.1
        have hnw2 : nw ≤ 4611686018427387904 := hR.2.2.2.2.2.1
        refine wp_seq ?_
        refine wp_seq ?_
        by_cases e1 : ep < 0
        · refine wi_ A (h5_ t1 t2 t3 t4 t8) (rv_ 1 (.bool true) (fun a ee => execDec (exIlss2 (p := ep) (q := 0) rfl (ee _) rfl) (decide_eq_true e1)) (rf_ [(46, .bool true)] (h5_ t1 t2 t3 t4 t8) ?_))
          rintro a A ⟨t46, -⟩ ⟨t1, t2, t3, t4, t8, -⟩
          refine wp_cond_true t46 ?_
          clear t46
          refine wp_seq ?_
          clear Fg4 t4
          refine wi_ A (h4_ t1 t2 t3 t8) (rv_ 0 (.agg (wC 0 (.slice none 0 0))) (fun a ee => execBdW0 rfl) (rs_ 1 (fun a ee => ?_)))
          refine stepS rfl rfl (execStWn rfl (ee _) (ee _) Fg8 rfl) ⟨_, ⟨_, rfl, rfl⟩, fun X4 hX => ?_⟩
          obtain ⟨BB, Fg8s⟩ : Below V.heap.size V X4 ∧ (X4.heap[g8]? = some (.cells (wC 0 (.slice none 0 0)) 24)) := by subst hX; exact ⟨below4 BB FGg8 _, setRow_heap _ _ _ _ _ _ Fg8⟩
          clear Fg8 hX ee a
          refine rf_ [(9, .int .i64 ((161 : Nat) : Int))] (h1_ t8) ?_
          rintro a A ⟨t9, -⟩ ⟨t8, -⟩
          rw [show wAdd (nw, esL n nu ln t) ep (tgL m tg) r = ((0, []), 161) from (if_pos hA_).trans (if_neg (fun h_ => by have q1 := h_.1; have q2 : ep ≤ nw := h_.2.1; have q3 : nw - 8 < ep := h_.2.2; omega))]
          refine wp_ret ?_
          repeat (first | with_reducible refine ret_in ?_ | with_reducible refine ret_then ?_)
          refine bodyPost_ret (results_cell_tmp1 Try.results15 _ _ g8 24 _ (0, 0) _ t8 Fg8s Try.underlying24 rfl (sizeW _ _)) A.2 ⟨⟨.slice none 0 0, 0, fun _ => 0, fun _ => undef, fun _ => 0, fun _ _ _ => 0, ?_, rfl, NwE.zero _ _ _ _ _ _⟩, BB⟩
          show Ending.returned (.tuple #[.agg (wC 0 (.slice none 0 0)), a.eval (.tmp 9)]) = _
          rw [t9]
        · by_cases e2 : ep > nw
          · refine wi_ A (h5_ t1 t2 t3 t4 t8) (rv_ 1 (.bool false) (fun a ee => execDec (exIlss2 (p := ep) (q := 0) rfl (ee _) rfl) (decide_eq_false e1)) (rv_ 4 (.pointer (some ⟨g4, 0, none⟩)) (fun a ee => execFldW0 rfl (ee _)) (rv_ 5 (.int .i64 nw) (fun a ee => execLd2 rfl (ee _) (wC_0 Fg4)) (rv_ 6 (.bool true) (fun a ee => execDec (exIgtr2 (p := ep) (q := nw) rfl (ee _) (ee _)) (decide_eq_true e2)) (rf_ [(46, .bool true)] (h5_ t1 t2 t3 t4 t8) ?_)))))
            rintro a A ⟨t46, -⟩ ⟨t1, t2, t3, t4, t8, -⟩
            refine wp_cond_true t46 ?_
            clear t46
            refine wp_seq ?_
            clear Fg4 t4
            refine wi_ A (h4_ t1 t2 t3 t8) (rv_ 0 (.agg (wC 0 (.slice none 0 0))) (fun a ee => execBdW0 rfl) (rs_ 1 (fun a ee => ?_)))
            refine stepS rfl rfl (execStWn rfl (ee _) (ee _) Fg8 rfl) ⟨_, ⟨_, rfl, rfl⟩, fun X4 hX => ?_⟩
            obtain ⟨BB, Fg8s⟩ : Below V.heap.size V X4 ∧ (X4.heap[g8]? = some (.cells (wC 0 (.slice none 0 0)) 24)) := by subst hX; exact ⟨below4 BB FGg8 _, setRow_heap _ _ _ _ _ _ Fg8⟩
            clear Fg8 hX ee a
            refine rf_ [(9, .int .i64 ((161 : Nat) : Int))] (h1_ t8) ?_
            rintro a A ⟨t9, -⟩ ⟨t8, -⟩
            rw [show wAdd (nw, esL n nu ln t) ep (tgL m tg) r = ((0, []), 161) from (if_pos hA_).trans (if_neg (fun h_ => by have q1 := h_.1; have q2 : ep ≤ nw := h_.2.1; have q3 : nw - 8 < ep := h_.2.2; omega))]
            refine wp_ret ?_
            repeat (first | with_reducible refine ret_in ?_ | with_reducible refine ret_then ?_)
            refine bodyPost_ret (results_cell_tmp1 Try.results15 _ _ g8 24 _ (0, 0) _ t8 Fg8s Try.underlying24 rfl (sizeW _ _)) A.2 ⟨⟨.slice none 0 0, 0, fun _ => 0, fun _ => undef, fun _ => 0, fun _ _ _ => 0, ?_, rfl, NwE.zero _ _ _ _ _ _⟩, BB⟩
            show Ending.returned (.tuple #[.agg (wC 0 (.slice none 0 0)), a.eval (.tmp 9)]) = _
            rw [t9]
          · by_cases e3 : ep ≤ nw - 8
            · refine wi_ A (h5_ t1 t2 t3 t4 t8) (rv_ 1 (.bool false) (fun a ee => execDec (exIlss2 (p := ep) (q := 0) rfl (ee _) rfl) (decide_eq_false e1)) (rv_ 4 (.pointer (some ⟨g4, 0, none⟩)) (fun a ee => execFldW0 rfl (ee _)) (rv_ 5 (.int .i64 nw) (fun a ee => execLd2 rfl (ee _) (wC_0 Fg4)) (rv_ 6 (.bool false) (fun a ee => execDec (exIgtr2 (p := ep) (q := nw) rfl (ee _) (ee _)) (decide_eq_false e2)) (rv_ 10 (.pointer (some ⟨g4, 0, none⟩)) (fun a ee => execFldW0 rfl (ee _)) (rv_ 11 (.int .i64 nw) (fun a ee => execLd2 rfl (ee _) (wC_0 Fg4)) (rv_ 12 (.int .i64 (nw - 8)) (fun a ee => execSub2 (z := (nw - 8)) rfl (ee _) rfl rfl (by omega) (by omega)) (rv_ 13 (.bool true) (fun a ee => execDec (exIleq2 (p := ep) (q := (nw - 8)) rfl (ee _) (ee _)) (decide_eq_true e3)) (rf_ [(46, .bool true)] (h5_ t1 t2 t3 t4 t8) ?_)))))))))
              rintro a A ⟨t46, -⟩ ⟨t1, t2, t3, t4, t8, -⟩
              refine wp_cond_true t46 ?_
              clear t46
              refine wp_seq ?_
              clear Fg4 t4
              refine wi_ A (h4_ t1 t2 t3 t8) (rv_ 0 (.agg (wC 0 (.slice none 0 0))) (fun a ee => execBdW0 rfl) (rs_ 1 (fun a ee => ?_)))
              refine stepS rfl rfl (execStWn rfl (ee _) (ee _) Fg8 rfl) ⟨_, ⟨_, rfl, rfl⟩, fun X4 hX => ?_⟩
              obtain ⟨BB, Fg8s⟩ : Below V.heap.size V X4 ∧ (X4.heap[g8]? = some (.cells (wC 0 (.slice none 0 0)) 24)) := by subst hX; exact ⟨below4 BB FGg8 _, setRow_heap _ _ _ _ _ _ Fg8⟩
              clear Fg8 hX ee a
              refine rf_ [(9, .int .i64 ((161 : Nat) : Int))] (h1_ t8) ?_
              rintro a A ⟨t9, -⟩ ⟨t8, -⟩
              rw [show wAdd (nw, esL n nu ln t) ep (tgL m tg) r = ((0, []), 161) from (if_pos hA_).trans (if_neg (fun h_ => by have q1 := h_.1; have q2 : ep ≤ nw := h_.2.1; have q3 : nw - 8 < ep := h_.2.2; omega))]
              refine wp_ret ?_
              repeat (first | with_reducible refine ret_in ?_ | with_reducible refine ret_then ?_)
              refine bodyPost_ret (results_cell_tmp1 Try.results15 _ _ g8 24 _ (0, 0) _ t8 Fg8s Try.underlying24 rfl (sizeW _ _)) A.2 ⟨⟨.slice none 0 0, 0, fun _ => 0, fun _ => undef, fun _ => 0, fun _ _ _ => 0, ?_, rfl, NwE.zero _ _ _ _ _ _⟩, BB⟩
              show Ending.returned (.tuple #[.agg (wC 0 (.slice none 0 0)), a.eval (.tmp 9)]) = _
              rw [t9]
            · refine wi_ A (h5_ t1 t2 t3 t4 t8) (rv_ 1 (.bool false) (fun a ee => execDec (exIlss2 (p := ep) (q := 0) rfl (ee _) rfl) (decide_eq_false e1)) (rv_ 4 (.pointer (some ⟨g4, 0, none⟩)) (fun a ee => execFldW0 rfl (ee _)) (rv_ 5 (.int .i64 nw) (fun a ee => execLd2 rfl (ee _) (wC_0 Fg4)) (rv_ 6 (.bool false) (fun a ee => execDec (exIgtr2 (p := ep) (q := nw) rfl (ee _) (ee _)) (decide_eq_false e2)) (rv_ 10 (.pointer (some ⟨g4, 0, none⟩)) (fun a ee => execFldW0 rfl (ee _)) (rv_ 11 (.int .i64 nw) (fun a ee => execLd2 rfl (ee _) (wC_0 Fg4)) (rv_ 12 (.int .i64 (nw - 8)) (fun a ee => execSub2 (z := (nw - 8)) rfl (ee _) rfl rfl (by omega) (by omega)) (rv_ 13 (.bool false) (fun a ee => execDec (exIleq2 (p := ep) (q := (nw - 8)) rfl (ee _) (ee _)) (decide_eq_false e3)) (rf_ [(46, .bool false)] (h5_ t1 t2 t3 t4 t8) ?_)))))))))
              rintro a A ⟨t46, -⟩ ⟨t1, t2, t3, t4, t8, -⟩
              refine wp_cond_false t46 ?_
              refine wp_skip ?_
              clear t46
              have hB_ : adB (nw, esL n nu ln t) ep := ⟨by omega, by show ep ≤ nw; omega, by show nw - 8 < ep; omega⟩
              have hok := each_iff.1 hR.2.2.2.2.2.2.2.1
              have hri := rise_iff.1 hR.2.2.2.2.2.2.2.2.1
              have hn8 : n ≤ 8 := few hri (fun j_ hj_ => ⟨(hok j_ hj_).2.1, (hok j_ hj_).2.2.1⟩) (by omega)
              have hlen := al_len (nu := nu) (t := t) n (ln := ln)
              have hwl : wLen (esL n nu ln t) ≤ 4096 := by have q_ : ((wLen (esL n nu ln t) : Nat) : Int) ≤ 4096 := hR.2.2.2.2.2.2.1; omega
              have hby := al_byt (t := t) n (fun j_ hj_ => (hE.lists j_ hj_).byt)
              have h16 : alN ln n * 16 ≤ 140737488351232 := by omega
              replace hE := (hE.on BB)
              replace hT := (hT.on BB)
              replace BW := BW.trans (BB.mono BW.size)
              clear BB
              have BB : Below X1.heap.size X1 X1 := Below.refl _ _
              refine wp_seq ?_
              refine wi_ A (h5_ t1 t2 t3 t4 t8) (rv_ 0 (.agg (wC nw ev)) (fun a ee => execLdWn rfl (ee _) (on9 Fg4 BB)) (rc_ 1 (rall16 nw ev n nu tw ln t X1 (hE.on BB) hn (by omega)) fun e X5_1 hh => ?_))
              obtain ⟨v49, he, hk, hb⟩ := hh
              refine ⟨_, he, ?_⟩
              have bQ : Below X1.heap.size X1 X5_1 := hb
              have FL : (X5_1.ownsRow X1.heap.size 36 16 v49 (alN ln n) (tgV (alT ln t n) (alN ln n))) := own_base16 hk (BB).size
              replace BB := BB.trans (bQ.mono BB.size)
              clear bQ
              refine rc_ 2 (rsorted (alN ln n) (alT ln t n) _ X5_1 (own_tgs FL hby) (by omega)) fun e X5 hh => ?_
              obtain ⟨⟨v50, m50, p50, he, hk, hq⟩, hb⟩ := hh
              refine ⟨_, he, ?_⟩
              have bQ : Below X5_1.heap.size X5_1 X5 := hb
              have FXs : (X5.ownsRow X1.heap.size 36 16 v50 (m50) (tgV (p50) (m50))) := own_base16 hk (BB).size
              have FSp : (tgL m50 p50 = srt (tgL (alN ln n) (alT ln t n)) ∧ ∀ j, j < m50 → ∀ i, i < 16 → p50 j i < 256) := hq
              replace FL := (ownE_below FL bQ)
              replace BB := BB.trans (bQ.mono BB.size)
              clear bQ
              refine rf_ [(10, v50)] (h5_ t1 t2 t3 t4 t8) ?_
              rintro a A ⟨t10, -⟩ ⟨t1, t2, t3, t4, t8, -⟩
              clear FL
              refine wp_seq ?_
              refine wi_ A (h6_ t1 t2 t3 t4 t8 t10) (rc_ 1 (rsorted (m) (tg) _ X5 (hT.on BB) (by omega)) fun e X6 hh => ?_)
              obtain ⟨⟨v52, m52, p52, he, hk, hq⟩, hb⟩ := hh
              refine ⟨_, he, ?_⟩
              have bQ : Below X5.heap.size X5 X6 := hb
              have FQ : (X6.ownsRow X1.heap.size 36 16 v52 (m52) (tgV (p52) (m52))) := own_base16 hk (BB).size
              have FQp : (tgL m52 p52 = srt (tgL (m) (tg)) ∧ ∀ j, j < m52 → ∀ i, i < 16 → p52 j i < 256) := hq
              replace FXs := (ownE_below FXs bQ)
              replace BB := BB.trans (bQ.mono BB.size)
              clear bQ
              refine rf_ [(11, v52)] (h5_ t1 t3 t4 t8 t10) ?_
              rintro a A ⟨t11, -⟩ ⟨t1, t3, t4, t8, t10, -⟩
              obtain ⟨hp1, hb1⟩ := FSp
              obtain ⟨hp2, hb2⟩ := FQp
              have TA := own_tgs FXs hb1
              have TB := own_tgs FQ hb2
              clear FXs FQ
              have hI1 : Inc (tgL m50 p50) := by rw [hp1]; exact inc_srt
              have hI2 : Inc (tgL m52 p52) := by rw [hp2]; exact inc_srt
              have hm1 : m50 = wLen (esL n nu ln t) := by
                have q1 := congrArg List.length hp1
                rw [len_tgL, al_list (nu := nu) n] at q1
                rw [q1]
                exact srt_len.2 hR.2.2.2.2.2.2.2.2.2
              have hm2 : m52 ≤ m := by
                have q1 := congrArg List.length hp2
                have q2 := srt_le (l := tgL m tg)
                rw [len_tgL] at q1 q2
                omega
              replace hE := (hE.on BB)
              replace hT := (hT.on BB)
              replace Fg4 := (on9 Fg4 BB)
              replace Fg8 := (on9 Fg8 BB)
              replace FGg8 := FGg8
              replace BW := BW.trans (BB.mono BW.size)
              clear BB
              have BB : Below X6.heap.size X6 X6 := Below.refl _ _
              have BZ := BW.size
              refine wp_seq ?_
              refine wi_ A (h6_ t1 t3 t4 t8 t10 t11) (rf_ [(12, .slice none 0 0)] (h6_ t1 t3 t4 t8 t10 t11) ?_)
              rintro a A ⟨t12, -⟩ ⟨t1, t3, t4, t8, t10, t11, -⟩
              refine wp_seq ?_
              refine wi_ A (h7_ t1 t3 t4 t8 t10 t11 t12) (rf_ [(13, .int .i64 ((0 : Nat) : Int))] (h7_ t1 t3 t4 t8 t10 t11 t12) ?_)
              rintro a A ⟨t13, -⟩ ⟨t1, t3, t4, t8, t10, t11, t12, -⟩
              refine wp_seq ?_
              refine wp_seq ?_
              refine wi_ A (h8_ t1 t3 t4 t8 t10 t11 t12 t13) (rf_ [(14, .int .i64 ((0 : Nat) : Int))] (h8_ t1 t3 t4 t8 t10 t11 t12 t13) ?_)
              rintro a A ⟨t14, -⟩ ⟨t1, t3, t4, t8, t10, t11, t12, t13, -⟩
              have FF : (X6.ownsRow X6.heap.size 36 16 (.slice none 0 0) (0) (tgV (fun _ _ => 0) (0))) := own_none16 _ _ _
              refine wp_block ?_
              refine wp_loop (fun a W => ∃ (i : Nat) (fv : Value) (fc : Nat) (fp : Nat → Nat → Nat) (jj : Nat), i ≤ m52 ∧ (jj ≤ m50) ∧ (i < m52 → ∀ k_, k_ < jj → tv (p50 k_) 16 < tv (p52 i) 16) ∧ (tgL fc fp = (tgL i p52).filter fun z => decide (z ∉ tgL m50 p50)) ∧ (fc ≤ i) ∧ (∀ j_, j_ < fc → ∀ i_, i_ < 16 → fp j_ i_ < 256) ∧ (a.tmps.size = 183 ∧ a.defers = []) ∧ a.eval (.tmp 1) = .int .i64 ep ∧ a.eval (.tmp 3) = .int .i64 r ∧ a.eval (.tmp 4) = .pointer (some ⟨g4, 0, none⟩) ∧ a.eval (.tmp 8) = .pointer (some ⟨g8, 0, none⟩) ∧ a.eval (.tmp 10) = v50 ∧ a.eval (.tmp 11) = v52 ∧ a.eval (.tmp 12) = fv ∧ a.eval (.tmp 13) = .int .i64 ((jj : Nat) : Int) ∧ a.eval (.tmp 14) = .int .i64 ((i : Nat) : Int) ∧ Below X6.heap.size X6 W ∧ (W.ownsRow X6.heap.size 36 16 fv (fc) (tgV (fp) (fc)))) (fun a _ => m52 - (intOf (a.eval (.tmp 14))).toNat) ⟨0, .slice none 0 0, 0, fun _ _ => 0, 0, Nat.zero_le _, Nat.zero_le _, fun _ k_ h_ => absurd h_ (Nat.not_lt_zero k_), rfl, Nat.le_refl _, fun j_ h_ => absurd h_ (Nat.not_lt_zero j_), A, t1, t3, t4, t8, t10, t11, t12, t13, t14, BB, FF⟩ ?_
              clear A t1 t3 t4 t8 t10 t11 t12 t13 t14 BB FF a
              rintro a XL10 ⟨i, fv, fc, fp, jj, hi, hj, hlt, hf, hfc, hfb, A, t1, t3, t4, t8, t10, t11, t12, t13, t14, BB, FF⟩
              have esi := t14
              refine wp_seq ?_
              refine wp_seq ?_
              refine wi_ A (h9_ t1 t3 t4 t8 t10 t11 t12 t13 t14) (rv_ 2 (.int .i64 ((m52 : Nat) : Int)) (fun a ee => execLenTs (len := m52) rfl (ee _) TB.shp) (rv_ 3 (.bool (decide (i < m52))) (fun a ee => execLtW (p := i) (q := m52) rfl (ee _) (ee _)) (rf_ [(56, .bool (decide (i < m52)))] (h9_ t1 t3 t4 t8 t10 t11 t12 t13 t14) ?_)))
              rintro a A ⟨t56, -⟩ ⟨t1, t3, t4, t8, t10, t11, t12, t13, t14, -⟩
              by_cases lti : i < m52
              · rw [decide_eq_true lti] at t56
                refine wp_cond_true t56 ?_
                refine wp_skip ?_
                clear t56
                refine wp_seq ?_
                refine wp_block ?_
                obtain ⟨bb, bo, bc, eb_, hbb, hbc⟩ := TB.at (show 0 < m52 by omega)
                have cB : ∀ X, Below X6.heap.size X6 X → ∀ j_, j_ < 16 → X.cell? ⟨bb, bo + i * 16 + j_, none⟩ = some (.int .u8 ((p52 i j_ : Nat) : Int)) := fun X hX j_ hj_ => by rw [cell_below hX hbb]; exact hbc i lti j_ hj_
                have hlo0 := hlt lti
                refine wp_seq ?_
                refine wp_block ?_
                refine wp_loop (fun a W => ∃ (jj : Nat), jj ≤ m50 ∧ (∀ k_, k_ < jj → tv (p50 k_) 16 < tv (p52 i) 16) ∧ (a.tmps.size = 183 ∧ a.defers = []) ∧ a.eval (.tmp 1) = .int .i64 ep ∧ a.eval (.tmp 3) = .int .i64 r ∧ a.eval (.tmp 4) = .pointer (some ⟨g4, 0, none⟩) ∧ a.eval (.tmp 8) = .pointer (some ⟨g8, 0, none⟩) ∧ a.eval (.tmp 10) = v50 ∧ a.eval (.tmp 11) = v52 ∧ a.eval (.tmp 12) = fv ∧ a.eval (.tmp 13) = .int .i64 ((jj : Nat) : Int) ∧ a.eval (.tmp 14) = .int .i64 ((i : Nat) : Int) ∧ Below X6.heap.size X6 W ∧ (W.ownsRow X6.heap.size 36 16 fv (fc) (tgV (fp) (fc)))) (fun a _ => m50 - (intOf (a.eval (.tmp 13))).toNat) ⟨jj, hj, hlo0, A, t1, t3, t4, t8, t10, t11, t12, t13, t14, BB, FF⟩ ?_
                clear A t1 t3 t4 t8 t10 t11 t12 t13 t14 BB FF hlo0 hlt hj a
                rintro a XI ⟨jj, hj, hlo, A, t1, t3, t4, t8, t10, t11, t12, t13, t14, BB, FF⟩
                have esj := t13
                refine wp_seq ?_
                refine wp_seq ?_
                by_cases ltj : jj < m50
                · by_cases hles : tv (p50 jj) 16 < tv (p52 i) 16
                  · obtain ⟨ab, ao, ac, ea_, hab, hac⟩ := TA.at (show 0 < m50 by omega)
                    have cA : ∀ X, Below X6.heap.size X6 X → ∀ j_, j_ < 16 → X.cell? ⟨ab, ao + jj * 16 + j_, none⟩ = some (.int .u8 ((p50 jj j_ : Nat) : Int)) := fun X hX j_ hj_ => by rw [cell_below hX hab]; exact hac jj ltj j_ hj_
                    refine wj_ [0, 1, 2, 3, 4, 5, 6, 7, 8, 9, 10, 11, 12, 13, 14] [13] [8, 12] [] A (h9_ t1 t3 t4 t8 t10 t11 t12 t13 t14) (fun X12_0 bD => ?_)
                    refine dw_ 2 (.int .i64 ((m50 : Nat) : Int)) (fun a X ee => execLenTs (len := m50) rfl (ee _) TA.shp) (dw_ 3 (.bool true) (fun a X ee => execDec (execLtW (p := jj) (q := m50) rfl (ee _) (ee _)) (decide_eq_true (by omega))) (dw_ 7 (.pointer (some ⟨ab, ao + jj * 16, none⟩)) (fun a X ee => execIdxTs (k := jj) rfl ((ee _).trans ea_) (ee _) ltj) (dv_ 8 (.agg (bA 16 (p50 jj))) (fun a X ee hb => execLdT rfl (ee _) (fun j_ hj_ => cA X (BB.trans (hb.mono BB.size)) j_ hj_)) (dw_ 11 (.pointer (some ⟨bb, bo + i * 16, none⟩)) (fun a X ee => execIdxTs (k := i) rfl ((ee _).trans eb_) (ee _) lti) (dv_ 12 (.agg (bA 16 (p52 i))) (fun a X ee hb => execLdT rfl (ee _) (fun j_ hj_ => cB X (BB.trans (hb.mono BB.size)) j_ hj_)) (dc_ 13 (rless_t (p50 jj) (p52 i) X12_0 (TA.byt jj ltj) (TB.byt i lti) hles) (cb_ fun X12 bQ => ?_)))))))
                    replace bD := bD.trans (bQ.mono bD.size)
                    clear bQ
                    refine ⟨Or.inr bD, ?_⟩
                    refine dz_ [(73, .bool true)] (h9_ t1 t3 t4 t8 t10 t11 t12 t13 t14) ?_
                    rintro a A ⟨t73, -⟩ ⟨t1, t3, t4, t8, t10, t11, t12, t13, t14, -⟩
                    replace FF := (ownE_below FF bD)
                    replace BB := BB.trans (bD.mono BB.size)
                    clear bD
                    refine wp_cond_true t73 ?_
                    refine wp_skip ?_
                    clear t73
                    refine wp_block ?_
                    refine wi_ A (h9_ t1 t3 t4 t8 t10 t11 t12 t13 t14) (rv_ 1 (.int .i64 ((jj + 1 : Nat) : Int)) (fun a ee => execAd8 (p := jj) (q := 1) rfl (ee _) rfl (by omega)) (rf_ [(13, .int .i64 ((jj + 1 : Nat) : Int))] (h8_ t1 t3 t4 t8 t10 t11 t12 t14) ?_))
                    rintro a A ⟨t13, -⟩ ⟨t1, t3, t4, t8, t10, t11, t12, t14, -⟩
                    exact ⟨⟨jj + 1, ltj, fun k_ h_ => by rcases Nat.lt_or_eq_of_le (Nat.le_of_lt_succ h_) with h2_ | h2_; exact hlo k_ h2_; exact h2_ ▸ hles, A, t1, t3, t4, t8, t10, t11, t12, t13, t14, BB, FF⟩, by show m50 - (intOf (a.eval (.tmp 13))).toNat < m50 - (intOf (Act.eval _ (.tmp 13))).toNat; rw [t13, esj]; show m50 - (jj + 1) < m50 - jj; omega⟩
                  · obtain ⟨ab, ao, ac, ea_, hab, hac⟩ := TA.at (show 0 < m50 by omega)
                    have cA : ∀ X, Below X6.heap.size X6 X → ∀ j_, j_ < 16 → X.cell? ⟨ab, ao + jj * 16 + j_, none⟩ = some (.int .u8 ((p50 jj j_ : Nat) : Int)) := fun X hX j_ hj_ => by rw [cell_below hX hab]; exact hac jj ltj j_ hj_
                    refine wj_ [0, 1, 2, 3, 4, 5, 6, 7, 8, 9, 10, 11, 12, 13, 14] [13] [8, 12] [] A (h9_ t1 t3 t4 t8 t10 t11 t12 t13 t14) (fun X12_0 bD => ?_)
                    refine dw_ 2 (.int .i64 ((m50 : Nat) : Int)) (fun a X ee => execLenTs (len := m50) rfl (ee _) TA.shp) (dw_ 3 (.bool true) (fun a X ee => execDec (execLtW (p := jj) (q := m50) rfl (ee _) (ee _)) (decide_eq_true (by omega))) (dw_ 7 (.pointer (some ⟨ab, ao + jj * 16, none⟩)) (fun a X ee => execIdxTs (k := jj) rfl ((ee _).trans ea_) (ee _) ltj) (dv_ 8 (.agg (bA 16 (p50 jj))) (fun a X ee hb => execLdT rfl (ee _) (fun j_ hj_ => cA X (BB.trans (hb.mono BB.size)) j_ hj_)) (dw_ 11 (.pointer (some ⟨bb, bo + i * 16, none⟩)) (fun a X ee => execIdxTs (k := i) rfl ((ee _).trans eb_) (ee _) lti) (dv_ 12 (.agg (bA 16 (p52 i))) (fun a X ee hb => execLdT rfl (ee _) (fun j_ hj_ => cB X (BB.trans (hb.mono BB.size)) j_ hj_)) (dc_ 13 (rless_f (p50 jj) (p52 i) X12_0 (TA.byt jj ltj) (TB.byt i lti) hles) (cb_ fun X12 bQ => ?_)))))))
                    replace bD := bD.trans (bQ.mono bD.size)
                    clear bQ
                    refine ⟨Or.inr bD, ?_⟩
                    refine dz_ [(73, .bool false)] (h9_ t1 t3 t4 t8 t10 t11 t12 t13 t14) ?_
                    rintro a A ⟨t73, -⟩ ⟨t1, t3, t4, t8, t10, t11, t12, t13, t14, -⟩
                    replace FF := (ownE_below FF bD)
                    replace BB := BB.trans (bD.mono BB.size)
                    clear bD
                    cases hq : eqB 16 (p50 jj) (p52 i) with
                    | true =>
                      refine wp_cond_false t73 ?_
                      refine wp_exit ?_
                      first | with_reducible refine exit_in ?_ | with_reducible refine exit_then (exit_in ?_) | with_reducible refine exit_then (exit_then (exit_in ?_)) | refine exit_in ?_ | refine exit_then (exit_in ?_) | refine exit_then (exit_then (exit_in ?_))
                      clear t73 esj
                      refine wp_seq ?_
                      refine wj_ [0, 1, 2, 3, 4, 5, 6, 7, 8, 9, 10, 11, 12, 13, 14] [] [8, 12] [] A (h9_ t1 t3 t4 t8 t10 t11 t12 t13 t14) (fun X14 bD => ?_)
                      refine dw_ 2 (.int .i64 ((m50 : Nat) : Int)) (fun a X ee => execLenTs (len := m50) rfl (ee _) TA.shp) (dw_ 3 (.bool false) (fun a X ee => execDec (execEqN (p := jj) (q := m50) rfl (ee _) (ee _)) (decide_eq_false (by omega))) (dw_ 7 (.pointer (some ⟨ab, ao + jj * 16, none⟩)) (fun a X ee => execIdxTs (k := jj) rfl ((ee _).trans ea_) (ee _) ltj) (dv_ 8 (.agg (bA 16 (p50 jj))) (fun a X ee hb => execLdT rfl (ee _) (fun j_ hj_ => cA X (BB.trans (hb.mono BB.size)) j_ hj_)) (dw_ 11 (.pointer (some ⟨bb, bo + i * 16, none⟩)) (fun a X ee => execIdxTs (k := i) rfl ((ee _).trans eb_) (ee _) lti) (dv_ 12 (.agg (bA 16 (p52 i))) (fun a X ee hb => execLdT rfl (ee _) (fun j_ hj_ => cB X (BB.trans (hb.mono BB.size)) j_ hj_)) (dw_ 13 (.bool false) (fun a X ee => execneq16t rfl (ee _) (ee _) hq) (dz_ [(90, .bool false)] (h9_ t1 t3 t4 t8 t10 t11 t12 t13 t14) ?_)))))))
                      rintro a A ⟨t90, -⟩ ⟨t1, t3, t4, t8, t10, t11, t12, t13, t14, -⟩
                      replace FF := (ownE_below FF bD)
                      replace BB := BB.trans (bD.mono BB.size)
                      clear bD
                      have hin := in_at hI1 hlo (fun _ => hles)
                      have hlt2 : i + 1 < m52 → ∀ k_, k_ < jj → tv (p50 k_) 16 < tv (p52 (i + 1)) 16 := fun h_ k_ hk_ => by have q1 := hlo k_ hk_; have q2 := inc_far hI2 (show i < i + 1 by omega) h_; omega
                      refine wp_cond_false t90 ?_
                      refine wp_skip ?_
                      clear t90
                      have hf2 : tgL fc fp = (tgL (i + 1) p52).filter fun z => decide (z ∉ tgL m50 p50) := by rw [tgL_succ, filt_n (hin.2 ⟨ltj, of_decide_eq_true (by rw [← eqB_tv (TA.byt jj ltj) (TB.byt i lti)]; exact hq)⟩), hf]
                      have hfc2 : fc ≤ i + 1 := by omega
                      have hfb2 := hfb
                      refine wi_ A (h9_ t1 t3 t4 t8 t10 t11 t12 t13 t14) (rv_ 1 (.int .i64 ((i + 1 : Nat) : Int)) (fun a ee => execAd8 (p := i) (q := 1) rfl (ee _) rfl (by omega)) (rf_ [(14, .int .i64 ((i + 1 : Nat) : Int))] (h8_ t1 t3 t4 t8 t10 t11 t12 t13) ?_))
                      rintro a A ⟨t14, -⟩ ⟨t1, t3, t4, t8, t10, t11, t12, t13, -⟩
                      exact ⟨⟨i + 1, fv, fc, fp, jj, lti, hj, hlt2, hf2, hfc2, hfb2, A, t1, t3, t4, t8, t10, t11, t12, t13, t14, BB, FF⟩, by show m52 - (intOf (a.eval (.tmp 14))).toNat < m52 - (intOf (Act.eval _ (.tmp 14))).toNat; rw [t14, esi]; show m52 - (i + 1) < m52 - i; omega⟩
                    | false =>
                      refine wp_cond_false t73 ?_
                      refine wp_exit ?_
                      first | with_reducible refine exit_in ?_ | with_reducible refine exit_then (exit_in ?_) | with_reducible refine exit_then (exit_then (exit_in ?_)) | refine exit_in ?_ | refine exit_then (exit_in ?_) | refine exit_then (exit_then (exit_in ?_))
                      clear t73 esj
                      refine wp_seq ?_
                      refine wj_ [0, 1, 2, 3, 4, 5, 6, 7, 8, 9, 10, 11, 12, 13, 14] [] [8, 12] [] A (h9_ t1 t3 t4 t8 t10 t11 t12 t13 t14) (fun X14 bD => ?_)
                      refine dw_ 2 (.int .i64 ((m50 : Nat) : Int)) (fun a X ee => execLenTs (len := m50) rfl (ee _) TA.shp) (dw_ 3 (.bool false) (fun a X ee => execDec (execEqN (p := jj) (q := m50) rfl (ee _) (ee _)) (decide_eq_false (by omega))) (dw_ 7 (.pointer (some ⟨ab, ao + jj * 16, none⟩)) (fun a X ee => execIdxTs (k := jj) rfl ((ee _).trans ea_) (ee _) ltj) (dv_ 8 (.agg (bA 16 (p50 jj))) (fun a X ee hb => execLdT rfl (ee _) (fun j_ hj_ => cA X (BB.trans (hb.mono BB.size)) j_ hj_)) (dw_ 11 (.pointer (some ⟨bb, bo + i * 16, none⟩)) (fun a X ee => execIdxTs (k := i) rfl ((ee _).trans eb_) (ee _) lti) (dv_ 12 (.agg (bA 16 (p52 i))) (fun a X ee hb => execLdT rfl (ee _) (fun j_ hj_ => cB X (BB.trans (hb.mono BB.size)) j_ hj_)) (dw_ 13 (.bool true) (fun a X ee => execneq16f rfl (ee _) (ee _) hq) (dz_ [(90, .bool true)] (h9_ t1 t3 t4 t8 t10 t11 t12 t13 t14) ?_)))))))
                      rintro a A ⟨t90, -⟩ ⟨t1, t3, t4, t8, t10, t11, t12, t13, t14, -⟩
                      replace FF := (ownE_below FF bD)
                      replace BB := BB.trans (bD.mono BB.size)
                      clear bD
                      have hin := in_at hI1 hlo (fun _ => hles)
                      have hlt2 : i + 1 < m52 → ∀ k_, k_ < jj → tv (p50 k_) 16 < tv (p52 (i + 1)) 16 := fun h_ k_ hk_ => by have q1 := hlo k_ hk_; have q2 := inc_far hI2 (show i < i + 1 by omega) h_; omega
                      refine wp_cond_true t90 ?_
                      clear t90
                      obtain ⟨g96, egg96⟩ : ∃ z_ : Nat, X14.heap.size = z_ := ⟨_, rfl⟩
                      refine wi_ A (h9_ t1 t3 t4 t8 t10 t11 t12 t13 t14) (rv_ 3 (.pointer (some ⟨bb, bo + i * 16, none⟩)) (fun a ee => execIdxTs (k := i) rfl ((ee _).trans eb_) (ee _) lti) (rv_ 4 (.agg (bA 16 (p52 i))) (fun a ee => execLdT rfl (ee _) (fun j_ hj_ => cB X14 BB j_ hj_)) (rs_ 5 (fun a ee => ?_))))
                      refine stepV rfl rfl (execBsT rfl (ee _)) ⟨.slice (some ⟨g96, 0, none⟩) 1 1, ⟨_, rfl, by subst egg96; rfl⟩, fun X15_1 hX => ?_⟩
                      have bQ : Below X14.heap.size X14 X15_1 := by subst hX egg96; exact (belNew X14 _)
                      have F96 : (Tgs X15_1 (.slice (some ⟨g96, 0, none⟩) 1 1) 1 (fun _ => (p52 i))) := by subst hX egg96; exact one_tgs X14 _ (TB.byt i lti)
                      replace FF := (ownE_below FF bQ)
                      replace BB := BB.trans (bQ.mono BB.size)
                      clear bQ hX egg96 ee a
                      refine rs_ 6 (fun a ee => ?_)
                      refine stepAppT (n := fc) (m := 1) (t := fp) (p := fun _ => p52 i) rfl rfl rfl (ee _) (ee _) FF F96 (by omega) (BB).size fun v97 X15 own' gr => ⟨_, ⟨_, rfl, rfl⟩, eqw ?_⟩
                      obtain ⟨BB, FF2⟩ : Below X6.heap.size X6 X15 ∧ (X15.ownsRow X6.heap.size 36 16 v97 (fc + 1) (tgV (catT (fc) (fp) (fun _ => p52 i)) (fc + 1))) := ⟨(BB).grown gr (BB).size (fun k hk => (FF.lt k hk).1), own'⟩
                      clear FF F96 ee a
                      refine rf_ [(12, v97)] (h8_ t1 t3 t4 t8 t10 t11 t13 t14) ?_
                      rintro a A ⟨t12, -⟩ ⟨t1, t3, t4, t8, t10, t11, t13, t14, -⟩
                      have hf2 : tgL (fc + 1) (catT fc fp fun _ => p52 i) = (tgL (i + 1) p52).filter fun z => decide (z ∉ tgL m50 p50) := by rw [tgL_snoc, tgL_succ, filt_y (fun h_ => by have h_ := hin.1 h_; exact (of_decide_eq_false (by rw [← eqB_tv (TA.byt jj ltj) (TB.byt i lti)]; exact hq)) h_.2), hf]
                      have hfc2 : fc + 1 ≤ i + 1 := by omega
                      have hfb2 : ∀ j_, j_ < fc + 1 → ∀ i_, i_ < 16 → catT fc fp (fun _ => p52 i) j_ i_ < 256 := cat_byt hfb (fun _ _ => TB.byt i lti)
                      refine wi_ A (h9_ t1 t3 t4 t8 t10 t11 t12 t13 t14) (rv_ 1 (.int .i64 ((i + 1 : Nat) : Int)) (fun a ee => execAd8 (p := i) (q := 1) rfl (ee _) rfl (by omega)) (rf_ [(14, .int .i64 ((i + 1 : Nat) : Int))] (h8_ t1 t3 t4 t8 t10 t11 t12 t13) ?_))
                      rintro a A ⟨t14, -⟩ ⟨t1, t3, t4, t8, t10, t11, t12, t13, -⟩
                      exact ⟨⟨i + 1, v97, fc + 1, catT fc fp fun _ => p52 i, jj, lti, hj, hlt2, hf2, hfc2, hfb2, A, t1, t3, t4, t8, t10, t11, t12, t13, t14, BB, FF2⟩, by show m52 - (intOf (a.eval (.tmp 14))).toNat < m52 - (intOf (Act.eval _ (.tmp 14))).toNat; rw [t14, esi]; show m52 - (i + 1) < m52 - i; omega⟩
                · refine wj_ [0, 1, 2, 3, 4, 5, 6, 7, 8, 9, 10, 11, 12, 13, 14] [] [] [] A (h9_ t1 t3 t4 t8 t10 t11 t12 t13 t14) (fun X12 bD => ?_)
                  refine dw_ 2 (.int .i64 ((m50 : Nat) : Int)) (fun a X ee => execLenTs (len := m50) rfl (ee _) TA.shp) (dw_ 3 (.bool false) (fun a X ee => execDec (execLtW (p := jj) (q := m50) rfl (ee _) (ee _)) (decide_eq_false (by omega))) (dz_ [(73, .bool false)] (h9_ t1 t3 t4 t8 t10 t11 t12 t13 t14) ?_))
                  rintro a A ⟨t73, -⟩ ⟨t1, t3, t4, t8, t10, t11, t12, t13, t14, -⟩
                  replace FF := (ownE_below FF bD)
                  replace BB := BB.trans (bD.mono BB.size)
                  clear bD
                  refine wp_cond_false t73 ?_
                  refine wp_exit ?_
                  first | with_reducible refine exit_in ?_ | with_reducible refine exit_then (exit_in ?_) | with_reducible refine exit_then (exit_then (exit_in ?_)) | refine exit_in ?_ | refine exit_then (exit_in ?_) | refine exit_then (exit_then (exit_in ?_))
                  clear t73 esj
                  refine wp_seq ?_
                  refine wj_ [0, 1, 2, 3, 4, 5, 6, 7, 8, 9, 10, 11, 12, 13, 14] [] [] [] A (h9_ t1 t3 t4 t8 t10 t11 t12 t13 t14) (fun X14 bD => ?_)
                  refine dw_ 2 (.int .i64 ((m50 : Nat) : Int)) (fun a X ee => execLenTs (len := m50) rfl (ee _) TA.shp) (dw_ 3 (.bool true) (fun a X ee => execDec (execEqN (p := jj) (q := m50) rfl (ee _) (ee _)) (decide_eq_true (by omega))) (dz_ [(90, .bool true)] (h9_ t1 t3 t4 t8 t10 t11 t12 t13 t14) ?_))
                  rintro a A ⟨t90, -⟩ ⟨t1, t3, t4, t8, t10, t11, t12, t13, t14, -⟩
                  replace FF := (ownE_below FF bD)
                  replace BB := BB.trans (bD.mono BB.size)
                  clear bD
                  have hin := in_at hI1 hlo (fun h_ => absurd h_ ltj)
                  have hlt2 : i + 1 < m52 → ∀ k_, k_ < jj → tv (p50 k_) 16 < tv (p52 (i + 1)) 16 := fun h_ k_ hk_ => by have q1 := hlo k_ hk_; have q2 := inc_far hI2 (show i < i + 1 by omega) h_; omega
                  refine wp_cond_true t90 ?_
                  clear t90
                  obtain ⟨g96, egg96⟩ : ∃ z_ : Nat, X14.heap.size = z_ := ⟨_, rfl⟩
                  refine wi_ A (h9_ t1 t3 t4 t8 t10 t11 t12 t13 t14) (rv_ 3 (.pointer (some ⟨bb, bo + i * 16, none⟩)) (fun a ee => execIdxTs (k := i) rfl ((ee _).trans eb_) (ee _) lti) (rv_ 4 (.agg (bA 16 (p52 i))) (fun a ee => execLdT rfl (ee _) (fun j_ hj_ => cB X14 BB j_ hj_)) (rs_ 5 (fun a ee => ?_))))
                  refine stepV rfl rfl (execBsT rfl (ee _)) ⟨.slice (some ⟨g96, 0, none⟩) 1 1, ⟨_, rfl, by subst egg96; rfl⟩, fun X15_1 hX => ?_⟩
                  have bQ : Below X14.heap.size X14 X15_1 := by subst hX egg96; exact (belNew X14 _)
                  have F96 : (Tgs X15_1 (.slice (some ⟨g96, 0, none⟩) 1 1) 1 (fun _ => (p52 i))) := by subst hX egg96; exact one_tgs X14 _ (TB.byt i lti)
                  replace FF := (ownE_below FF bQ)
                  replace BB := BB.trans (bQ.mono BB.size)
                  clear bQ hX egg96 ee a
                  refine rs_ 6 (fun a ee => ?_)
                  refine stepAppT (n := fc) (m := 1) (t := fp) (p := fun _ => p52 i) rfl rfl rfl (ee _) (ee _) FF F96 (by omega) (BB).size fun v97 X15 own' gr => ⟨_, ⟨_, rfl, rfl⟩, eqw ?_⟩
                  obtain ⟨BB, FF2⟩ : Below X6.heap.size X6 X15 ∧ (X15.ownsRow X6.heap.size 36 16 v97 (fc + 1) (tgV (catT (fc) (fp) (fun _ => p52 i)) (fc + 1))) := ⟨(BB).grown gr (BB).size (fun k hk => (FF.lt k hk).1), own'⟩
                  clear FF F96 ee a
                  refine rf_ [(12, v97)] (h8_ t1 t3 t4 t8 t10 t11 t13 t14) ?_
                  rintro a A ⟨t12, -⟩ ⟨t1, t3, t4, t8, t10, t11, t13, t14, -⟩
                  have hf2 : tgL (fc + 1) (catT fc fp fun _ => p52 i) = (tgL (i + 1) p52).filter fun z => decide (z ∉ tgL m50 p50) := by rw [tgL_snoc, tgL_succ, filt_y (fun h_ => by have h_ := hin.1 h_; exact absurd h_.1 ltj), hf]
                  have hfc2 : fc + 1 ≤ i + 1 := by omega
                  have hfb2 : ∀ j_, j_ < fc + 1 → ∀ i_, i_ < 16 → catT fc fp (fun _ => p52 i) j_ i_ < 256 := cat_byt hfb (fun _ _ => TB.byt i lti)
                  refine wi_ A (h9_ t1 t3 t4 t8 t10 t11 t12 t13 t14) (rv_ 1 (.int .i64 ((i + 1 : Nat) : Int)) (fun a ee => execAd8 (p := i) (q := 1) rfl (ee _) rfl (by omega)) (rf_ [(14, .int .i64 ((i + 1 : Nat) : Int))] (h8_ t1 t3 t4 t8 t10 t11 t12 t13) ?_))
                  rintro a A ⟨t14, -⟩ ⟨t1, t3, t4, t8, t10, t11, t12, t13, -⟩
                  exact ⟨⟨i + 1, v97, fc + 1, catT fc fp fun _ => p52 i, jj, lti, hj, hlt2, hf2, hfc2, hfb2, A, t1, t3, t4, t8, t10, t11, t12, t13, t14, BB, FF2⟩, by show m52 - (intOf (a.eval (.tmp 14))).toNat < m52 - (intOf (Act.eval _ (.tmp 14))).toNat; rw [t14, esi]; show m52 - (i + 1) < m52 - i; omega⟩
              · rw [decide_eq_false lti] at t56
                refine wp_cond_false t56 ?_
                refine wp_exit ?_
                first | with_reducible refine exit_in ?_ | with_reducible refine exit_then (exit_in ?_) | with_reducible refine exit_then (exit_then (exit_in ?_)) | refine exit_in ?_ | refine exit_then (exit_in ?_) | refine exit_then (exit_then (exit_in ?_))
                clear t56 esi
                obtain rfl : i = m52 := by omega
                clear hlt hj t11 t13 t14
                have hfr : tgL fc fp = frs (esL n nu ln t) (tgL m tg) := by rw [hf]; exact frs_eq hp2 (by rw [hp1, al_list (nu := nu) n])
                have hfl : fc = (frs (esL n nu ln t) (tgL m tg)).length := by rw [← hfr, len_tgL]
                have TF := own_tgs FF hfb
                refine wp_seq ?_
                refine wp_seq ?_
                by_cases hfull : ((m50 + fc : Nat) : Int) > r
                · refine wi_ A (h6_ t1 t3 t4 t8 t10 t12) (rv_ 1 (.int .i64 ((m50 : Nat) : Int)) (fun a ee => execLenTs (len := m50) rfl (ee _) TA.shp) (rv_ 3 (.int .i64 ((fc : Nat) : Int)) (fun a ee => execLenTs (len := fc) rfl (ee _) TF.shp) (rv_ 4 (.int .i64 ((m50 + fc : Nat) : Int)) (fun a ee => execAd8 (p := m50) (q := fc) rfl (ee _) (ee _) (by omega)) (rv_ 6 (.bool true) (fun a ee => execDec (exIgtr3 (p := ((m50 + fc : Nat) : Int)) (q := r) rfl (ee _) (ee _)) (decide_eq_true hfull)) (rf_ [(104, .bool true)] (h1_ t8) ?_)))))
                  rintro a A ⟨t104, -⟩ ⟨t8, -⟩
                  refine wp_cond_true t104 ?_
                  clear t104
                  refine wp_seq ?_
                  clear FF
                  replace Fg8 := on9 Fg8 BB
                  have BV := BW.trans (BB.mono BW.size)
                  clear BB
                  have BB := BV
                  clear BV
                  refine wi_ A (h1_ t8) (rv_ 0 (.agg (wC 0 (.slice none 0 0))) (fun a ee => execBdW0 rfl) (rs_ 1 (fun a ee => ?_)))
                  refine stepS rfl rfl (execStWn rfl (ee _) (ee _) Fg8 rfl) ⟨_, ⟨_, rfl, rfl⟩, fun X17 hX => ?_⟩
                  obtain ⟨BB, Fg8s⟩ : Below V.heap.size V X17 ∧ (X17.heap[g8]? = some (.cells (wC 0 (.slice none 0 0)) 24)) := by subst hX; exact ⟨below4 BB FGg8 _, setRow_heap _ _ _ _ _ _ Fg8⟩
                  clear Fg8 hX ee a
                  refine rf_ [(9, .int .i64 ((160 : Nat) : Int))] (h1_ t8) ?_
                  rintro a A ⟨t9, -⟩ ⟨t8, -⟩
                  rw [show wAdd (nw, esL n nu ln t) ep (tgL m tg) r = ((0, []), 160) from (if_pos hA_).trans ((if_pos hB_).trans (if_neg (fun h_ => by have q_ : ((wLen (esL n nu ln t) + (frs (esL n nu ln t) (tgL m tg)).length : Nat) : Int) ≤ r := h_; rw [← hfl, ← hm1] at q_; omega)))]
                  refine wp_ret ?_
                  repeat (first | with_reducible refine ret_in ?_ | with_reducible refine ret_then ?_)
                  refine bodyPost_ret (results_cell_tmp1 Try.results15 _ _ g8 24 _ (0, 0) _ t8 Fg8s Try.underlying24 rfl (sizeW _ _)) A.2 ⟨⟨.slice none 0 0, 0, fun _ => 0, fun _ => undef, fun _ => 0, fun _ _ _ => 0, ?_, rfl, NwE.zero _ _ _ _ _ _⟩, BB⟩
                  show Ending.returned (.tuple #[.agg (wC 0 (.slice none 0 0)), a.eval (.tmp 9)]) = _
                  rw [t9]
                · refine wi_ A (h6_ t1 t3 t4 t8 t10 t12) (rv_ 1 (.int .i64 ((m50 : Nat) : Int)) (fun a ee => execLenTs (len := m50) rfl (ee _) TA.shp) (rv_ 3 (.int .i64 ((fc : Nat) : Int)) (fun a ee => execLenTs (len := fc) rfl (ee _) TF.shp) (rv_ 4 (.int .i64 ((m50 + fc : Nat) : Int)) (fun a ee => execAd8 (p := m50) (q := fc) rfl (ee _) (ee _) (by omega)) (rv_ 6 (.bool false) (fun a ee => execDec (exIgtr3 (p := ((m50 + fc : Nat) : Int)) (q := r) rfl (ee _) (ee _)) (decide_eq_false hfull)) (rf_ [(104, .bool false)] (h4_ t1 t4 t8 t12) ?_)))))
                  rintro a A ⟨t104, -⟩ ⟨t1, t4, t8, t12, -⟩
                  refine wp_cond_false t104 ?_
                  refine wp_skip ?_
                  clear t104
                  have hO : wAdd (nw, esL n nu ln t) ep (tgL m tg) r = ((nw, putW (esL n nu ln t) ep (frs (esL n nu ln t) (tgL m tg))), 0) := (if_pos hA_).trans ((if_pos hB_).trans (if_pos (by show ((wLen (esL n nu ln t) + (frs (esL n nu ln t) (tgL m tg)).length : Nat) : Int) ≤ r; rw [← hfl, ← hm1]; omega)))
                  rw [hO, ← hfr]
                  clear hO TF
                  have BZ2 := BB.size
                  replace hE := (hE.on BB)
                  replace hT := (hT.on BB)
                  replace Fg4 := (on9 Fg4 BB)
                  replace Fg8 := (on9 Fg8 BB)
                  replace FGg8 := FGg8
                  replace TA := (TA.on BB)
                  replace TB := (TB.on BB)
                  replace BW := BW.trans (BB.mono BW.size)
                  clear BB
                  have BB : Below XL10.heap.size XL10 XL10 := Below.refl _ _
                  refine wp_seq ?_
                  obtain ⟨g15, egg15⟩ : ∃ z_ : Nat, XL10.heap.size = z_ := ⟨_, rfl⟩
                  refine wi_ A (h4_ t1 t4 t8 t12) (rv_ 0 (.pointer (some ⟨g4, 0, none⟩)) (fun a ee => execFldW0 rfl (ee _)) (rv_ 1 (.int .i64 nw) (fun a ee => execLd2 rfl (ee _) (wC_0 (on9 Fg4 BB))) (rv_ 2 (.agg (wC nw (.slice none 0 0))) (fun a ee => execBdW1 rfl (ee _)) (rs_ 3 (fun a ee => ?_)))))
                  refine stepV rfl rfl (execAllW rfl) ⟨.pointer (some ⟨g15, 0, none⟩), ⟨_, rfl, by subst egg15; rfl⟩, fun X18_1 hX => ?_⟩
                  have bQ : Below XL10.heap.size XL10 X18_1 := by subst hX egg15; exact (belNew XL10 _)
                  have Fg15 : (X18_1.heap[g15]? = some (.cells (wC 0 (.slice none 0 0)) 24)) := by subst hX egg15; exact heapNew XL10 _
                  have FGg15 : (XL10.heap.size ≤ g15) := by subst hX egg15; exact (BB).size
                  replace BB := BB.trans (bQ.mono BB.size)
                  clear bQ hX egg15 ee a
                  refine rs_ 4 (fun a ee => ?_)
                  refine stepS rfl rfl (execStWn rfl (ee _) (ee _) Fg15 rfl) ⟨_, ⟨_, rfl, rfl⟩, fun X18 hX => ?_⟩
                  obtain ⟨BB, Fg15s⟩ : Below XL10.heap.size XL10 X18 ∧ (X18.heap[g15]? = some (.cells (wC nw (.slice none 0 0)) 24)) := by subst hX; exact ⟨below4 BB FGg15 _, setRow_heap _ _ _ _ _ _ Fg15⟩
                  clear Fg15 hX ee a
                  refine rf_ [(15, .pointer (some ⟨g15, 0, none⟩))] (h4_ t1 t4 t8 t12) ?_
                  rintro a A ⟨t15, -⟩ ⟨t1, t4, t8, t12, -⟩
                  have hfS : ∃ a c, fv = .slice a fc c := (own_tgs FF hfb).shp
                  refine wp_seq ?_
                  refine wi_ A (h5_ t1 t4 t8 t12 t15) (rv_ 1 (.int .i64 ((fc : Nat) : Int)) (fun a ee => execLenTs (len := fc) rfl (ee _) hfS) (rv_ 2 (.bool (decide (tgL fc fp = []))) (fun a ee => execDec (execEqN (p := fc) (q := 0) rfl (ee _) rfl) (decide_eq_decide.2 ⟨fun h_ => by rw [h_]; rfl, fun h_ => by have q_ := congrArg List.length h_; rw [len_tgL] at q_; exact q_⟩)) (rf_ [(16, .bool (decide (tgL fc fp = [])))] (h5_ t1 t4 t8 t12 t15) ?_)))
                  rintro a A ⟨t16, -⟩ ⟨t1, t4, t8, t12, t15, -⟩
                  refine wp_seq ?_
                  refine wp_seq ?_
                  refine wi_ A (h6_ t1 t4 t8 t12 t15 t16) (rf_ [(17, .int .i64 ((0 : Nat) : Int))] (h6_ t1 t4 t8 t12 t15 t16) ?_)
                  rintro a A ⟨t17, -⟩ ⟨t1, t4, t8, t12, t15, t16, -⟩
                  have FE : (NwE X6.heap.size X18 (.slice none 0 0) 0 (fun _ => 0) (fun _ => undef) (fun _ => 0) (fun _ _ _ => 0)) := NwE.zero _ _ _ _ _ _
                  have FR : X18.ownsRow XL10.heap.size 47 2 (.slice none 0 0) 0 (epV (fun _ => 0) (fun _ => undef) 0) := World.ownsRow_nil _ _ _ _
                  have Fo := Fg15s
                  clear Fg15s
                  refine wp_block ?_
                  refine wp_loop (fun a W => ∃ (i : Nat) (ev2 : Value) (k : Nat) (nv : Nat → Int) (uw : Nat → Value) (lm : Nat → Nat) (sg : Nat → Nat → Nat → Nat) (pb : Bool), i ≤ n ∧ PI (esL n nu ln t) ep (tgL fc fp) i pb (esL k nv lm sg) ∧ (k ≤ 2 * i) ∧ (pb = false → ∀ j_, j_ < k → ∀ b_, (uw j_).ownBlock = some b_ → XL10.heap.size ≤ b_) ∧ (a.tmps.size = 183 ∧ a.defers = []) ∧ a.eval (.tmp 1) = .int .i64 ep ∧ a.eval (.tmp 4) = .pointer (some ⟨g4, 0, none⟩) ∧ a.eval (.tmp 8) = .pointer (some ⟨g8, 0, none⟩) ∧ a.eval (.tmp 12) = fv ∧ a.eval (.tmp 15) = .pointer (some ⟨g15, 0, none⟩) ∧ a.eval (.tmp 16) = .bool pb ∧ a.eval (.tmp 17) = .int .i64 ((i : Nat) : Int) ∧ Below XL10.heap.size XL10 W ∧ (W.heap[g15]? = some (.cells (wC nw ev2) 24)) ∧ (NwE X6.heap.size W ev2 k nv uw lm sg) ∧ (W.ownsRow XL10.heap.size 47 2 ev2 (k) (epV (nv) (uw) (k)))) (fun a _ => n - (intOf (a.eval (.tmp 17))).toNat) ⟨0, .slice none 0 0, 0, fun _ => 0, fun _ => undef, fun _ => 0, fun _ _ _ => 0, decide (tgL fc fp = []), Nat.zero_le _, PI.begin, Nat.le_refl _, fun _ j_ h_ => absurd h_ (Nat.not_lt_zero j_), A, t1, t4, t8, t12, t15, t16, t17, BB, Fo, FE, FR⟩ ?_
                  clear A t1 t4 t8 t12 t15 t16 t17 BB Fo FE FR a
                  rintro a XL ⟨i, ev2, k, nv, uw, lm, sg, pb, hi, hPI, hk, hge, A, t1, t4, t8, t12, t15, t16, t17, BB, Fo, FE, FR⟩
                  have esi := t17
                  have hfc4 : fc ≤ 4096 := by omega
                  refine wp_seq ?_
                  refine wp_seq ?_
                  refine wi_ A (h7_ t1 t4 t8 t12 t15 t16 t17) (rv_ 1 (.pointer (some ⟨g4, 1, none⟩)) (fun a ee => execFldW1 rfl (ee _)) (rv_ 2 (ev) (fun a ee => execLdEs rfl (ee _) (wC_1 (on9 Fg4 BB))) (rv_ 3 (.int .i64 ((n : Nat) : Int)) (fun a ee => execLenEs (len := n) rfl (ee _) hE.shp) (rv_ 4 (.bool true) (fun a ee => execDec (execLeN (p := i) (q := n) rfl (ee _) (ee _)) (decide_eq_true (by omega))) (rf_ [(116, .bool true)] (h7_ t1 t4 t8 t12 t15 t16 t17) ?_)))))
                  rintro a A ⟨t116, -⟩ ⟨t1, t4, t8, t12, t15, t16, t17, -⟩
                  refine wp_cond_true t116 ?_
                  refine wp_skip ?_
                  clear t116
                  refine wp_seq ?_
                  refine wp_block ?_
                  refine wp_join (fun a W => ∃ (ev2 : Value) (k : Nat) (nv : Nat → Int) (uw : Nat → Value) (lm : Nat → Nat) (sg : Nat → Nat → Nat → Nat) (pb : Bool), (a.tmps.size = 183 ∧ a.defers = []) ∧ a.eval (.tmp 1) = .int .i64 ep ∧ a.eval (.tmp 4) = .pointer (some ⟨g4, 0, none⟩) ∧ a.eval (.tmp 8) = .pointer (some ⟨g8, 0, none⟩) ∧ a.eval (.tmp 12) = fv ∧ a.eval (.tmp 15) = .pointer (some ⟨g15, 0, none⟩) ∧ a.eval (.tmp 16) = .bool pb ∧ a.eval (.tmp 17) = .int .i64 ((i : Nat) : Int) ∧ Below XL10.heap.size XL10 W ∧ (W.heap[g15]? = some (.cells (wC nw ev2) 24)) ∧ (NwE X6.heap.size W ev2 k nv uw lm sg) ∧ (W.ownsRow XL10.heap.size 47 2 ev2 (k) (epV (nv) (uw) (k))) ∧ (PI (esL n nu ln t) ep (tgL fc fp) i pb (esL k nv lm sg)) ∧ (k ≤ 2 * i + 1) ∧ (pb = false → ∀ j_, j_ < k → ∀ b_, (uw j_).ownBlock = some b_ → XL10.heap.size ≤ b_) ∧ (pb = false → i < n ∧ ¬ ep < nu i)) ?_ ?_
                  · refine wp_seq ?_
                    cases pb with
                    | true =>
                      refine wi_ A (h7_ t1 t4 t8 t12 t15 t16 t17) (rv_ 1 (.bool false) (fun a ee => execNot8 (b := true) rfl (ee _)) (rf_ [(137, .bool false)] (h7_ t1 t4 t8 t12 t15 t16 t17) ?_))
                      rintro a A ⟨t137, -⟩ ⟨t1, t4, t8, t12, t15, t16, t17, -⟩
                      refine wp_cond_false t137 ?_
                      refine wp_skip ?_
                      clear t137
                      exact ⟨rfl, ev2, k, nv, uw, lm, sg, true, A, t1, t4, t8, t12, t15, t16, t17, BB, Fo, FE, FR, hPI, by omega, (fun h_ => by cases h_), (fun h_ => by cases h_)⟩
                    | false =>
                      by_cases hin : i = n
                      · refine wi_ A (h7_ t1 t4 t8 t12 t15 t16 t17) (rv_ 1 (.bool true) (fun a ee => execNot8 (b := false) rfl (ee _)) (rv_ 4 (.pointer (some ⟨g4, 1, none⟩)) (fun a ee => execFldW1 rfl (ee _)) (rv_ 5 (ev) (fun a ee => execLdEs rfl (ee _) (wC_1 (on9 Fg4 BB))) (rv_ 6 (.int .i64 ((n : Nat) : Int)) (fun a ee => execLenEs (len := n) rfl (ee _) hE.shp) (rv_ 7 (.bool true) (fun a ee => execDec (execEqN (p := i) (q := n) rfl (ee _) (ee _)) (decide_eq_true (by omega))) (rf_ [(137, .bool true)] (h7_ t1 t4 t8 t12 t15 t16 t17) ?_))))))
                        rintro a A ⟨t137, -⟩ ⟨t1, t4, t8, t12, t15, t16, t17, -⟩
                        refine wp_cond_true t137 ?_
                        clear t137
                        refine wp_seq ?_
                        have FC := ownE_below FF BB
                        obtain ⟨g143, egg143⟩ : ∃ z_ : Nat, XL.heap.size = z_ := ⟨_, rfl⟩
                        refine wi_ A (h7_ t1 t4 t8 t12 t15 t16 t17) (rv_ 0 (.pointer (some ⟨g15, 1, none⟩)) (fun a ee => execFldW1 rfl (ee _)) (rv_ 1 (ev2) (fun a ee => execLdEs rfl (ee _) (wC_1 Fo)) (rv_ 4 (.agg (epC ep fv)) (fun a ee => execBdEp rfl (ee _) (ee _) (ownE_shp FC)) (rs_ 5 (fun a ee => ?_)))))
                        refine stepV rfl rfl (execBsEp rfl (ee _) (ownE_shp FC)) ⟨.slice (some ⟨g143, 0, none⟩) 1 1, ⟨_, rfl, by subst egg143; rfl⟩, fun X24_1 hX => ?_⟩
                        have bQ : Below XL.heap.size XL X24_1 := by subst hX egg143; exact (belNew XL _)
                        have Fg143 : (X24_1.heap[g143]? = some (.cells (epC ep fv) 47)) := by subst hX egg143; exact heapNew XL _
                        replace Fo := (on9 Fo bQ)
                        replace FE := (FE.on bQ)
                        replace FR := (ownE_below FR bQ)
                        replace FC := (ownE_below FC bQ)
                        replace BB := BB.trans (bQ.mono BB.size)
                        clear bQ hX egg143 ee a
                        refine rs_ 6 (fun a ee => ?_)
                        refine stepAppE rfl rfl rfl (ee _) (ee _) FR Fg143 (slc_one (ownE_shp FC)) (by omega) (BB).size fun v144 X24_2 own' gr => ⟨_, ⟨_, rfl, rfl⟩, eqw ?_⟩
                        obtain ⟨BB, Fo, FE2, FR2⟩ : Below XL10.heap.size XL10 X24_2 ∧ (X24_2.heap[g15]? = some (.cells (wC nw ev2) 24)) ∧ (NwE X6.heap.size X24_2 v144 (k + 1) (up nv k ep) (up uw k fv) (up lm k fc) (up sg k fp)) ∧ (X24_2.ownsRow XL10.heap.size 47 2 v144 (k + 1) (epV (up nv k ep) (up uw k fv) (k + 1))) := ⟨(BB).grown gr (BB).size (fun k hk => (FR.lt k hk).1), heapE_over FR gr Fo (by decide), (FE).pushD FC (fun j_ hj_ b_ hb_ q_ => Nat.lt_irrefl _ (Nat.lt_of_lt_of_le (FF.lt b_ q_).2 (hge rfl j_ hj_ b_ hb_))) hfb hep (ownE_base own' BZ2) gr, own'⟩
                        clear FE FR FC Fg143 ee a
                        refine rv_ 7 (.pointer (some ⟨g15, 1, none⟩)) (fun a ee => execFldW1 rfl (ee _)) (rs_ 8 (fun a ee => ?_))
                        refine stepS rfl rfl (execStEs rfl (ee _) (ee _) (ownE_shp FE2.row) (wC_1 Fo) (frozen4 Fo)) ⟨_, ⟨_, rfl, rfl⟩, fun X24 hX => ?_⟩
                        obtain ⟨BB, FE2, FR2, Fo2⟩ : Below XL10.heap.size XL10 X24 ∧ (NwE X6.heap.size X24 v144 (k + 1) (up nv k ep) (up uw k fv) (up lm k fc) (up sg k fp)) ∧ (X24.ownsRow XL10.heap.size 47 2 v144 (k + 1) (epV (up nv k ep) (up uw k fv) (k + 1))) ∧ (X24.heap[g15]? = some (.cells (wC nw v144) 24)) := by subst hX; exact ⟨(BB).setCell FGg15 _, (FE2).setC Fo (by decide) (by decide), ownE_setC FR2 Fo (by decide), wC_set Fo⟩
                        clear Fo hX ee a
                        refine rf_ [] (h7_ t1 t4 t8 t12 t15 t16 t17) ?_
                        rintro a A - ⟨t1, t4, t8, t12, t15, t16, t17, -⟩
                        refine wi_ A (h7_ t1 t4 t8 t12 t15 t16 t17) (rf_ [(16, .bool true)] (h6_ t1 t4 t8 t12 t15 t17) ?_)
                        rintro a A ⟨t16, -⟩ ⟨t1, t4, t8, t12, t15, t17, -⟩
                        exact ⟨rfl, v144, k + 1, up nv k ep, up uw k fv, up lm k fc, up sg k fp, true, A, t1, t4, t8, t12, t15, t16, t17, BB, Fo2, FE2, FR2, by rw [esL_up]; exact hPI.last (by rw [hin]; exact esL_end), by omega, (fun h_ => by cases h_), (fun h_ => by cases h_)⟩
                      · have lti : i < n := by omega
                        obtain ⟨eb, eo, ec, ee_, heb, hec⟩ := hE.at (show 0 < n by omega)
                        have cE : ∀ X, Below XL10.heap.size XL10 X → X.cell? ⟨eb, eo + i * 2 + 1, none⟩ = some (tw i) := fun X hX => by rw [cell_below hX heb]; exact (hec i lti).2
                        have cN : ∀ X, Below XL10.heap.size XL10 X → X.cell? ⟨eb, eo + i * 2 + 0, none⟩ = some (.int .i64 (nu i)) := fun X hX => by rw [cell_below hX heb]; exact (hec i lti).1
                        by_cases hgt : nu i > ep
                        · refine wi_ A (h7_ t1 t4 t8 t12 t15 t16 t17) (rv_ 1 (.bool true) (fun a ee => execNot8 (b := false) rfl (ee _)) (rv_ 4 (.pointer (some ⟨g4, 1, none⟩)) (fun a ee => execFldW1 rfl (ee _)) (rv_ 5 (ev) (fun a ee => execLdEs rfl (ee _) (wC_1 (on9 Fg4 BB))) (rv_ 6 (.int .i64 ((n : Nat) : Int)) (fun a ee => execLenEs (len := n) rfl (ee _) hE.shp) (rv_ 7 (.bool false) (fun a ee => execDec (execEqN (p := i) (q := n) rfl (ee _) (ee _)) (decide_eq_false (by omega))) (rv_ 9 (.pointer (some ⟨g4, 1, none⟩)) (fun a ee => execFldW1 rfl (ee _)) (rv_ 10 (ev) (fun a ee => execLdEs rfl (ee _) (wC_1 (on9 Fg4 BB))) (rv_ 12 (.pointer (some ⟨eb, eo + i * 2, none⟩)) (fun a ee => execIdxEs (k := i) rfl ((ee _).trans ee_) (ee _) lti) (rv_ 13 (.pointer (some ⟨eb, eo + i * 2 + 0, none⟩)) (fun a ee => execFldE0 rfl (ee _)) (rv_ 14 (.int .i64 (nu i)) (fun a ee => execLd2 rfl (ee _) (cN XL BB)) (rv_ 16 (.bool true) (fun a ee => execDec (exIgtr2 (p := (nu i)) (q := ep) rfl (ee _) (ee _)) (decide_eq_true hgt)) (rf_ [(137, .bool true)] (h7_ t1 t4 t8 t12 t15 t16 t17) ?_))))))))))))
                          rintro a A ⟨t137, -⟩ ⟨t1, t4, t8, t12, t15, t16, t17, -⟩
                          refine wp_cond_true t137 ?_
                          clear t137
                          refine wp_seq ?_
                          have FC := ownE_below FF BB
                          obtain ⟨g143, egg143⟩ : ∃ z_ : Nat, XL.heap.size = z_ := ⟨_, rfl⟩
                          refine wi_ A (h7_ t1 t4 t8 t12 t15 t16 t17) (rv_ 0 (.pointer (some ⟨g15, 1, none⟩)) (fun a ee => execFldW1 rfl (ee _)) (rv_ 1 (ev2) (fun a ee => execLdEs rfl (ee _) (wC_1 Fo)) (rv_ 4 (.agg (epC ep fv)) (fun a ee => execBdEp rfl (ee _) (ee _) (ownE_shp FC)) (rs_ 5 (fun a ee => ?_)))))
                          refine stepV rfl rfl (execBsEp rfl (ee _) (ownE_shp FC)) ⟨.slice (some ⟨g143, 0, none⟩) 1 1, ⟨_, rfl, by subst egg143; rfl⟩, fun X24_1 hX => ?_⟩
                          have bQ : Below XL.heap.size XL X24_1 := by subst hX egg143; exact (belNew XL _)
                          have Fg143 : (X24_1.heap[g143]? = some (.cells (epC ep fv) 47)) := by subst hX egg143; exact heapNew XL _
                          replace Fo := (on9 Fo bQ)
                          replace FE := (FE.on bQ)
                          replace FR := (ownE_below FR bQ)
                          replace FC := (ownE_below FC bQ)
                          replace BB := BB.trans (bQ.mono BB.size)
                          clear bQ hX egg143 ee a
                          refine rs_ 6 (fun a ee => ?_)
                          refine stepAppE rfl rfl rfl (ee _) (ee _) FR Fg143 (slc_one (ownE_shp FC)) (by omega) (BB).size fun v144 X24_2 own' gr => ⟨_, ⟨_, rfl, rfl⟩, eqw ?_⟩
                          obtain ⟨BB, Fo, FE2, FR2⟩ : Below XL10.heap.size XL10 X24_2 ∧ (X24_2.heap[g15]? = some (.cells (wC nw ev2) 24)) ∧ (NwE X6.heap.size X24_2 v144 (k + 1) (up nv k ep) (up uw k fv) (up lm k fc) (up sg k fp)) ∧ (X24_2.ownsRow XL10.heap.size 47 2 v144 (k + 1) (epV (up nv k ep) (up uw k fv) (k + 1))) := ⟨(BB).grown gr (BB).size (fun k hk => (FR.lt k hk).1), heapE_over FR gr Fo (by decide), (FE).pushD FC (fun j_ hj_ b_ hb_ q_ => Nat.lt_irrefl _ (Nat.lt_of_lt_of_le (FF.lt b_ q_).2 (hge rfl j_ hj_ b_ hb_))) hfb hep (ownE_base own' BZ2) gr, own'⟩
                          clear FE FR FC Fg143 ee a
                          refine rv_ 7 (.pointer (some ⟨g15, 1, none⟩)) (fun a ee => execFldW1 rfl (ee _)) (rs_ 8 (fun a ee => ?_))
                          refine stepS rfl rfl (execStEs rfl (ee _) (ee _) (ownE_shp FE2.row) (wC_1 Fo) (frozen4 Fo)) ⟨_, ⟨_, rfl, rfl⟩, fun X24 hX => ?_⟩
                          obtain ⟨BB, FE2, FR2, Fo2⟩ : Below XL10.heap.size XL10 X24 ∧ (NwE X6.heap.size X24 v144 (k + 1) (up nv k ep) (up uw k fv) (up lm k fc) (up sg k fp)) ∧ (X24.ownsRow XL10.heap.size 47 2 v144 (k + 1) (epV (up nv k ep) (up uw k fv) (k + 1))) ∧ (X24.heap[g15]? = some (.cells (wC nw v144) 24)) := by subst hX; exact ⟨(BB).setCell FGg15 _, (FE2).setC Fo (by decide) (by decide), ownE_setC FR2 Fo (by decide), wC_set Fo⟩
                          clear Fo hX ee a
                          refine rf_ [] (h7_ t1 t4 t8 t12 t15 t16 t17) ?_
                          rintro a A - ⟨t1, t4, t8, t12, t15, t16, t17, -⟩
                          refine wi_ A (h7_ t1 t4 t8 t12 t15 t16 t17) (rf_ [(16, .bool true)] (h6_ t1 t4 t8 t12 t15 t17) ?_)
                          rintro a A ⟨t16, -⟩ ⟨t1, t4, t8, t12, t15, t17, -⟩
                          exact ⟨rfl, v144, k + 1, up nv k ep, up uw k fv, up lm k fc, up sg k fp, true, A, t1, t4, t8, t12, t15, t16, t17, BB, Fo2, FE2, FR2, by rw [esL_up]; exact hPI.ahead (esL_drop lti) (show ep < nu i by omega), by omega, (fun h_ => by cases h_), (fun h_ => by cases h_)⟩
                        · refine wi_ A (h7_ t1 t4 t8 t12 t15 t16 t17) (rv_ 1 (.bool true) (fun a ee => execNot8 (b := false) rfl (ee _)) (rv_ 4 (.pointer (some ⟨g4, 1, none⟩)) (fun a ee => execFldW1 rfl (ee _)) (rv_ 5 (ev) (fun a ee => execLdEs rfl (ee _) (wC_1 (on9 Fg4 BB))) (rv_ 6 (.int .i64 ((n : Nat) : Int)) (fun a ee => execLenEs (len := n) rfl (ee _) hE.shp) (rv_ 7 (.bool false) (fun a ee => execDec (execEqN (p := i) (q := n) rfl (ee _) (ee _)) (decide_eq_false (by omega))) (rv_ 9 (.pointer (some ⟨g4, 1, none⟩)) (fun a ee => execFldW1 rfl (ee _)) (rv_ 10 (ev) (fun a ee => execLdEs rfl (ee _) (wC_1 (on9 Fg4 BB))) (rv_ 12 (.pointer (some ⟨eb, eo + i * 2, none⟩)) (fun a ee => execIdxEs (k := i) rfl ((ee _).trans ee_) (ee _) lti) (rv_ 13 (.pointer (some ⟨eb, eo + i * 2 + 0, none⟩)) (fun a ee => execFldE0 rfl (ee _)) (rv_ 14 (.int .i64 (nu i)) (fun a ee => execLd2 rfl (ee _) (cN XL BB)) (rv_ 16 (.bool false) (fun a ee => execDec (exIgtr2 (p := (nu i)) (q := ep) rfl (ee _) (ee _)) (decide_eq_false hgt)) (rf_ [(137, .bool false)] (h7_ t1 t4 t8 t12 t15 t16 t17) ?_))))))))))))
                          rintro a A ⟨t137, -⟩ ⟨t1, t4, t8, t12, t15, t16, t17, -⟩
                          refine wp_cond_false t137 ?_
                          refine wp_skip ?_
                          clear t137
                          exact ⟨rfl, ev2, k, nv, uw, lm, sg, false, A, t1, t4, t8, t12, t15, t16, t17, BB, Fo, FE, FR, hPI, by omega, hge, (fun _ => ⟨lti, by omega⟩)⟩
                  · clear hPI hk hge A BB t1 t4 t8 t12 t15 t16 t17 Fo FE FR a
                    rintro a XJ ⟨ev2, k, nv, uw, lm, sg, pb, A, t1, t4, t8, t12, t15, t16, t17, BB, Fo, FE, FR, hPI, hk, hge, hno⟩
                    refine wp_seq ?_
                    refine wp_seq ?_
                    by_cases hin : i = n
                    · refine wi_ A (h7_ t1 t4 t8 t12 t15 t16 t17) (rv_ 1 (.pointer (some ⟨g4, 1, none⟩)) (fun a ee => execFldW1 rfl (ee _)) (rv_ 2 (ev) (fun a ee => execLdEs rfl (ee _) (wC_1 (on9 Fg4 BB))) (rv_ 3 (.int .i64 ((n : Nat) : Int)) (fun a ee => execLenEs (len := n) rfl (ee _) hE.shp) (rv_ 4 (.bool true) (fun a ee => execDec (execEqN (p := i) (q := n) rfl (ee _) (ee _)) (decide_eq_true (by omega))) (rf_ [(150, .bool true)] (h3_ t8 t15 t16) ?_)))))
                      rintro a A ⟨t150, -⟩ ⟨t8, t15, t16, -⟩
                      refine wp_cond_true t150 ?_
                      clear t150
                      refine wp_exit ?_
                      repeat (first | with_reducible refine exit_then ?_ | with_reducible refine exit_past (by decide) ?_)
                      refine exit_in ?_
                      have hpb : pb = true := by cases pb with | true => rfl | false => exact absurd (hno rfl).1 (by omega)
                      subst hpb
                      have hend := hPI.done (by rw [hin]; exact esL_end)
                      clear t16 esi
                      replace FE := FE.base BZ
                      clear FR
                      replace Fg8 := on9 Fg8 BB
                      have BV := BW.trans (BB.mono BW.size)
                      clear BB
                      have BB := BV
                      clear BV
                      refine wp_seq ?_
                      refine wi_ A (h2_ t8 t15) (rv_ 0 (.agg (wC nw ev2)) (fun a ee => execLdWn rfl (ee _) Fo) (rs_ 1 (fun a ee => ?_)))
                      refine stepS rfl rfl (execStWn rfl (ee _) (ee _) Fg8 (slc_one (ownE_shp FE.row))) ⟨_, ⟨_, rfl, rfl⟩, fun X35 hX => ?_⟩
                      obtain ⟨BB, FE, Fr⟩ : Below V.heap.size V X35 ∧ (NwE V.heap.size X35 ev2 k nv uw lm sg) ∧ (X35.heap[g8]? = some (.cells (wC nw ev2) 24)) := by subst hX; exact ⟨below4 BB FGg8 _, (FE).setW Fg8 (by decide) (by decide), setRow_heap _ _ _ _ _ _ Fg8⟩
                      clear Fg8 Fo hX ee a
                      refine rf_ [(9, .int .i64 ((0 : Nat) : Int))] (h1_ t8) ?_
                      rintro a A ⟨t9, -⟩ ⟨t8, -⟩
                      refine wp_ret ?_
                      refine bodyPost_ret (results_cell_tmp1 Try.results15 _ _ g8 24 _ (0, 0) _ t8 Fr Try.underlying24 rfl (sizeW _ _)) A.2 ⟨⟨ev2, k, nv, uw, lm, sg, ?_, hend, FE⟩, BB⟩
                      show Ending.returned (.tuple #[.agg (wC nw ev2), a.eval (.tmp 9)]) = _
                      rw [t9]
                    · refine wi_ A (h7_ t1 t4 t8 t12 t15 t16 t17) (rv_ 1 (.pointer (some ⟨g4, 1, none⟩)) (fun a ee => execFldW1 rfl (ee _)) (rv_ 2 (ev) (fun a ee => execLdEs rfl (ee _) (wC_1 (on9 Fg4 BB))) (rv_ 3 (.int .i64 ((n : Nat) : Int)) (fun a ee => execLenEs (len := n) rfl (ee _) hE.shp) (rv_ 4 (.bool false) (fun a ee => execDec (execEqN (p := i) (q := n) rfl (ee _) (ee _)) (decide_eq_false (by omega))) (rf_ [(150, .bool false)] (h7_ t1 t4 t8 t12 t15 t16 t17) ?_)))))
                      rintro a A ⟨t150, -⟩ ⟨t1, t4, t8, t12, t15, t16, t17, -⟩
                      refine wp_cond_false t150 ?_
                      refine wp_skip ?_
                      clear t150
                      have lti : i < n := by omega
                      have hTe := hE.lists i lti
                      have hln := hl i lti
                      have hln4 : ln i ≤ 4096 := by
                        have q1 : alN ln (i + 1) ≤ alN ln n := al_mono lti
                        have q2 : alN ln (i + 1) = alN ln i + ln i := rfl
                        omega
                      have hnui := hE.nums i lti
                      obtain ⟨eb, eo, ec, ee_, heb, hec⟩ := hE.at (show 0 < n by omega)
                      have cE : ∀ X, Below XL10.heap.size XL10 X → X.cell? ⟨eb, eo + i * 2 + 1, none⟩ = some (tw i) := fun X hX => by rw [cell_below hX heb]; exact (hec i lti).2
                      have cN : ∀ X, Below XL10.heap.size XL10 X → X.cell? ⟨eb, eo + i * 2 + 0, none⟩ = some (.int .i64 (nu i)) := fun X hX => by rw [cell_below hX heb]; exact (hec i lti).1
                      refine wp_seq ?_
                      obtain ⟨g18, egg18⟩ : ∃ z_ : Nat, XJ.heap.size = z_ := ⟨_, rfl⟩
                      refine wi_ A (h7_ t1 t4 t8 t12 t15 t16 t17) (rv_ 0 (.pointer (some ⟨g4, 1, none⟩)) (fun a ee => execFldW1 rfl (ee _)) (rv_ 1 (ev) (fun a ee => execLdEs rfl (ee _) (wC_1 (on9 Fg4 BB))) (rv_ 3 (.pointer (some ⟨eb, eo + i * 2, none⟩)) (fun a ee => execIdxEs (k := i) rfl ((ee _).trans ee_) (ee _) lti) (rv_ 4 (.agg (epC (nu i) (tw i))) (fun a ee => execLdEp rfl (ee _) (cN XJ BB) (cE XJ BB)) (rs_ 5 (fun a ee => ?_))))))
                      refine stepV rfl rfl (execAllEp rfl) ⟨.pointer (some ⟨g18, 0, none⟩), ⟨_, rfl, by subst egg18; rfl⟩, fun X27_1 hX => ?_⟩
                      have bQ : Below XJ.heap.size XJ X27_1 := by subst hX egg18; exact (belNew XJ _)
                      have Fg18 : (X27_1.heap[g18]? = some (.cells (epC 0 (.slice none 0 0)) 47)) := by subst hX egg18; exact heapNew XJ _
                      have FGe : (XL10.heap.size ≤ g18) := by subst hX egg18; exact (BB).size
                      have FD : (ev2.ownBlock ≠ some g18) := by subst hX egg18; exact fun q_ => Nat.lt_irrefl _ (FE.lt.1 _ q_)
                      replace Fo := (on9 Fo bQ)
                      replace FE := (FE.on bQ)
                      replace FR := (ownE_below FR bQ)
                      replace BB := BB.trans (bQ.mono BB.size)
                      clear bQ hX egg18 ee a
                      refine rs_ 6 (fun a ee => ?_)
                      refine stepS rfl rfl (execStEp rfl (ee _) (ee _) Fg18 (by obtain ⟨_, _, e_⟩ := hTe.shp; rw [e_]; rfl)) ⟨_, ⟨_, rfl, rfl⟩, fun X27 hX => ?_⟩
                      obtain ⟨BB, Fo, FE, FR, Fe⟩ : Below XL10.heap.size XL10 X27 ∧ (X27.heap[g15]? = some (.cells (wC nw ev2) 24)) ∧ (NwE X6.heap.size X27 ev2 k nv uw lm sg) ∧ (X27.ownsRow XL10.heap.size 47 2 ev2 (k) (epV (nv) (uw) (k))) ∧ (X27.heap[g18]? = some (.cells (epC (nu i) (tw i)) 47)) := by subst hX; exact ⟨below4 BB FGe _, (by rw [setRow_other _ _ _ _ (ne_type Fg18 Fo (by decide))]; exact Fo), (FE).setE Fg18 FD, ownE_setN FR FD, setRow_heap _ _ _ _ _ _ Fg18⟩
                      clear Fg18 hX ee a
                      refine rf_ [(18, .pointer (some ⟨g18, 0, none⟩))] (h7_ t1 t4 t8 t12 t15 t16 t17) ?_
                      rintro a A ⟨t18, -⟩ ⟨t1, t4, t8, t12, t15, t16, t17, -⟩
                      clear FGe FD
                      refine wp_seq ?_
                      refine wi_ A (h8_ t1 t4 t8 t12 t15 t16 t17 t18) (rf_ [(19, .slice none 0 0)] (h8_ t1 t4 t8 t12 t15 t16 t17 t18) ?_)
                      rintro a A ⟨t19, -⟩ ⟨t1, t4, t8, t12, t15, t16, t17, t18, -⟩
                      have hlo : ∀ j_, j_ < k → ∀ b_, (uw j_).ownBlock = some b_ → b_ < X27.heap.size := FE.lt.2
                      have hCB : XL10.heap.size ≤ X27.heap.size := BB.size
                      refine wp_seq ?_
                      refine wi_ A (h9_ t1 t4 t8 t12 t15 t16 t17 t18 t19) (rv_ 1 (.pointer (some ⟨g18, 0 + 1, none⟩)) (fun a ee => execFldE1 rfl (ee _)) (rv_ 2 (tw i) (fun a ee => execLdTs rfl (ee _) (epC_1 Fe)) (rs_ 3 (fun a ee => ?_))))
                      refine stepAppT (n := 0) (m := ln i) (t := fun _ _ => 0) (p := t i) rfl rfl rfl (ee _) (ee _) (own_none16 X27 X27.heap.size _) (hTe.on BB) (by omega) (Nat.le_refl _) fun v159 X29 own' gr => ⟨_, ⟨_, rfl, rfl⟩, eqw ?_⟩
                      have bQ : Below X27.heap.size X27 X29 := (Below.refl X27.heap.size X27).grown gr (Nat.le_refl _) (fun k hk => by cases hk)
                      have FC : (X29.ownsRow X27.heap.size 36 16 v159 (ln i) (tgV (t i) (ln i))) := (by rw [Nat.zero_add, cat0] at own'; exact own')
                      have FZ : (X27.heap.size ≤ X29.heap.size) := gr.size
                      replace Fo := (on9 Fo bQ)
                      replace FE := (FE.on bQ)
                      replace FR := (ownE_below FR bQ)
                      replace Fe := (on9 Fe bQ)
                      replace BB := BB.trans (bQ.mono BB.size)
                      clear bQ ee a
                      refine rf_ [(19, v159)] (h8_ t1 t4 t8 t12 t15 t16 t17 t18) ?_
                      rintro a A ⟨t19, -⟩ ⟨t1, t4, t8, t12, t15, t16, t17, t18, -⟩
                      refine wp_join (fun a W => ∃ (lv : Value) (lc : Nat) (lt : Nat → Nat → Nat) (pb4 : Bool), (a.tmps.size = 183 ∧ a.defers = []) ∧ a.eval (.tmp 1) = .int .i64 ep ∧ a.eval (.tmp 4) = .pointer (some ⟨g4, 0, none⟩) ∧ a.eval (.tmp 8) = .pointer (some ⟨g8, 0, none⟩) ∧ a.eval (.tmp 12) = fv ∧ a.eval (.tmp 15) = .pointer (some ⟨g15, 0, none⟩) ∧ a.eval (.tmp 16) = .bool pb4 ∧ a.eval (.tmp 17) = .int .i64 ((i : Nat) : Int) ∧ a.eval (.tmp 18) = .pointer (some ⟨g18, 0, none⟩) ∧ a.eval (.tmp 19) = lv ∧ Below XL10.heap.size XL10 W ∧ (W.heap[g15]? = some (.cells (wC nw ev2) 24)) ∧ (NwE X6.heap.size W ev2 k nv uw lm sg) ∧ (W.ownsRow XL10.heap.size 47 2 ev2 (k) (epV (nv) (uw) (k))) ∧ (W.heap[g18]? = some (.cells (epC (nu i) (tw i)) 47)) ∧ (W.ownsRow X27.heap.size 36 16 lv (lc) (tgV (lt) (lc))) ∧ (∀ j_, j_ < lc → ∀ i_, i_ < 16 → lt j_ i_ < 256) ∧ (PI (esL n nu ln t) ep (tgL fc fp) (i + 1) pb4 (esL k nv lm sg ++ [(nu i, tgL lc lt)])) ∧ (pb4 = false → ∀ j_, j_ < k → ∀ b_, (uw j_).ownBlock = some b_ → XL10.heap.size ≤ b_)) ?_ ?_
                      · refine wp_seq ?_
                        cases pb with
                        | true =>
                          by_cases heq : nu i = ep
                          · refine wi_ A (h9_ t1 t4 t8 t12 t15 t16 t17 t18 t19) (rv_ 0 (.pointer (some ⟨g18, 0 + 0, none⟩)) (fun a ee => execFldE0 rfl (ee _)) (rv_ 1 (.int .i64 (nu i)) (fun a ee => execLd2 rfl (ee _) (epC_0 Fe)) (rv_ 3 (.bool true) (fun a ee => execDec (exIeql2 (p := (nu i)) (q := ep) rfl (ee _) (ee _)) (decide_eq_true heq)) (rv_ 6 (.bool false) (fun a ee => execNot8 (b := true) rfl (ee _)) (rf_ [(167, .bool false)] (h9_ t1 t4 t8 t12 t15 t16 t17 t18 t19) ?_)))))
                            rintro a A ⟨t167, -⟩ ⟨t1, t4, t8, t12, t15, t16, t17, t18, t19, -⟩
                            refine wp_cond_false t167 ?_
                            refine wp_skip ?_
                            clear t167
                            exact ⟨rfl, v159, ln i, t i, true, A, t1, t4, t8, t12, t15, t16, t17, t18, t19, BB, Fo, FE, FR, Fe, FC, hTe.byt, hPI.next (esL_drop lti), (fun h_ => by cases h_)⟩
                          · refine wi_ A (h9_ t1 t4 t8 t12 t15 t16 t17 t18 t19) (rv_ 0 (.pointer (some ⟨g18, 0 + 0, none⟩)) (fun a ee => execFldE0 rfl (ee _)) (rv_ 1 (.int .i64 (nu i)) (fun a ee => execLd2 rfl (ee _) (epC_0 Fe)) (rv_ 3 (.bool false) (fun a ee => execDec (exIeql2 (p := (nu i)) (q := ep) rfl (ee _) (ee _)) (decide_eq_false heq)) (rf_ [(167, .bool false)] (h9_ t1 t4 t8 t12 t15 t16 t17 t18 t19) ?_))))
                            rintro a A ⟨t167, -⟩ ⟨t1, t4, t8, t12, t15, t16, t17, t18, t19, -⟩
                            refine wp_cond_false t167 ?_
                            refine wp_skip ?_
                            clear t167
                            exact ⟨rfl, v159, ln i, t i, true, A, t1, t4, t8, t12, t15, t16, t17, t18, t19, BB, Fo, FE, FR, Fe, FC, hTe.byt, hPI.next (esL_drop lti), (fun h_ => by cases h_)⟩
                        | false =>
                          by_cases heq : nu i = ep
                          · refine wi_ A (h9_ t1 t4 t8 t12 t15 t16 t17 t18 t19) (rv_ 0 (.pointer (some ⟨g18, 0 + 0, none⟩)) (fun a ee => execFldE0 rfl (ee _)) (rv_ 1 (.int .i64 (nu i)) (fun a ee => execLd2 rfl (ee _) (epC_0 Fe)) (rv_ 3 (.bool true) (fun a ee => execDec (exIeql2 (p := (nu i)) (q := ep) rfl (ee _) (ee _)) (decide_eq_true heq)) (rv_ 6 (.bool true) (fun a ee => execNot8 (b := false) rfl (ee _)) (rf_ [(167, .bool true)] (h9_ t1 t4 t8 t12 t15 t16 t17 t18 t19) ?_)))))
                            rintro a A ⟨t167, -⟩ ⟨t1, t4, t8, t12, t15, t16, t17, t18, t19, -⟩
                            refine wp_cond_true t167 ?_
                            clear t167
                            refine wp_seq ?_
                            refine wi_ A (h9_ t1 t4 t8 t12 t15 t16 t17 t18 t19) (rs_ 2 (fun a ee => ?_))
                            refine stepAppT (n := ln i) (m := fc) (t := t i) (p := fp) rfl rfl rfl (ee _) (ee _) FC ((own_tgs FF hfb).on BB) (by omega) FZ fun v170 X31 own' gr => ⟨_, ⟨_, rfl, rfl⟩, eqw ?_⟩
                            obtain ⟨BB, Fo, FE, FR, Fe, FZ, FC2⟩ : Below XL10.heap.size XL10 X31 ∧ (X31.heap[g15]? = some (.cells (wC nw ev2) 24)) ∧ (NwE X6.heap.size X31 ev2 k nv uw lm sg) ∧ (X31.ownsRow XL10.heap.size 47 2 ev2 (k) (epV (nv) (uw) (k))) ∧ (X31.heap[g18]? = some (.cells (epC (nu i) (tw i)) 47)) ∧ (X27.heap.size ≤ X31.heap.size) ∧ (X31.ownsRow X27.heap.size 36 16 v170 (ln i + fc) (tgV (catT (ln i) (t i) fp) (ln i + fc))) := ⟨(BB).grown gr (BB).size (fun k hk => Nat.le_trans hCB (FC.lt k hk).1), heapE_over FC gr Fo (by decide), (FE).overL FC hlo gr, ownE_over FR FC gr (by decide), heapE_over FC gr Fe (by decide), Nat.le_trans FZ gr.size, own'⟩
                            clear FC ee a
                            refine rf_ [(19, v170)] (h8_ t1 t4 t8 t12 t15 t16 t17 t18) ?_
                            rintro a A ⟨t19, -⟩ ⟨t1, t4, t8, t12, t15, t16, t17, t18, -⟩
                            have hcb : ∀ j_, j_ < ln i + fc → ∀ i_, i_ < 16 → catT (ln i) (t i) fp j_ i_ < 256 := cat_byt hTe.byt hfb
                            refine wp_seq ?_
                            refine wi_ A (h9_ t1 t4 t8 t12 t15 t16 t17 t18 t19) (rc_ 1 (rsorted (ln i + fc) (catT (ln i) (t i) fp) _ X31 (own_tgs FC2 hcb) (by omega)) fun e X32 hh => ?_)
                            obtain ⟨⟨v172, m172, p172, he, hk, hq⟩, hb⟩ := hh
                            refine ⟨_, he, ?_⟩
                            have bQ : Below X31.heap.size X31 X32 := hb
                            have FC3 : (X32.ownsRow X27.heap.size 36 16 v172 (m172) (tgV (p172) (m172))) := ownE_base hk FZ
                            have FCp : (tgL m172 p172 = srt (tgL (ln i + fc) (catT (ln i) (t i) fp)) ∧ ∀ j, j < m172 → ∀ i, i < 16 → p172 j i < 256) := hq
                            replace Fo := (on9 Fo bQ)
                            replace FE := (FE.on bQ)
                            replace FR := (ownE_below FR bQ)
                            replace Fe := (on9 Fe bQ)
                            replace FZ := (Nat.le_trans FZ (bQ).size)
                            replace FC2 := (ownE_below FC2 bQ)
                            replace BB := BB.trans (bQ.mono BB.size)
                            clear bQ
                            refine rf_ [(19, v172)] (h8_ t1 t4 t8 t12 t15 t16 t17 t18) ?_
                            rintro a A ⟨t19, -⟩ ⟨t1, t4, t8, t12, t15, t16, t17, t18, -⟩
                            obtain ⟨hs1, hs2⟩ := FCp
                            clear FC2
                            refine wi_ A (h9_ t1 t4 t8 t12 t15 t16 t17 t18 t19) (rf_ [(16, .bool true)] (h8_ t1 t4 t8 t12 t15 t17 t18 t19) ?_)
                            rintro a A ⟨t16, -⟩ ⟨t1, t4, t8, t12, t15, t17, t18, t19, -⟩
                            exact ⟨rfl, v172, m172, p172, true, A, t1, t4, t8, t12, t15, t16, t17, t18, t19, BB, Fo, FE, FR, Fe, FC3, hs2, by rw [hs1, tgL_cat]; exact hPI.into (esL_drop lti) heq, (fun h_ => by cases h_)⟩
                          · refine wi_ A (h9_ t1 t4 t8 t12 t15 t16 t17 t18 t19) (rv_ 0 (.pointer (some ⟨g18, 0 + 0, none⟩)) (fun a ee => execFldE0 rfl (ee _)) (rv_ 1 (.int .i64 (nu i)) (fun a ee => execLd2 rfl (ee _) (epC_0 Fe)) (rv_ 3 (.bool false) (fun a ee => execDec (exIeql2 (p := (nu i)) (q := ep) rfl (ee _) (ee _)) (decide_eq_false heq)) (rf_ [(167, .bool false)] (h9_ t1 t4 t8 t12 t15 t16 t17 t18 t19) ?_))))
                            rintro a A ⟨t167, -⟩ ⟨t1, t4, t8, t12, t15, t16, t17, t18, t19, -⟩
                            refine wp_cond_false t167 ?_
                            refine wp_skip ?_
                            clear t167
                            exact ⟨rfl, v159, ln i, t i, false, A, t1, t4, t8, t12, t15, t16, t17, t18, t19, BB, Fo, FE, FR, Fe, FC, hTe.byt, hPI.past (esL_drop lti) (show ¬ ep < nu i from (hno rfl).2) heq, (fun _ => hge rfl)⟩
                      · clear A BB t1 t4 t8 t12 t15 t16 t17 t18 t19 Fo FE FR Fe FC FZ a
                        rintro a XK ⟨lv, lc, lt, pb4, A, t1, t4, t8, t12, t15, t16, t17, t18, t19, BB, Fo, FE, FR, Fe, FC, hlb, hPI2, hge2⟩
                        have hlvg : ∀ b_, lv.ownBlock = some b_ → XL10.heap.size ≤ b_ := fun b_ hb_ => Nat.le_trans hCB (FC.lt b_ hb_).1
                        obtain ⟨g179, egg179⟩ : ∃ z_ : Nat, XK.heap.size = z_ := ⟨_, rfl⟩
                        refine wi_ A (h9_ t1 t4 t8 t12 t15 t16 t17 t18 t19) (rv_ 0 (.pointer (some ⟨g15, 1, none⟩)) (fun a ee => execFldW1 rfl (ee _)) (rv_ 1 (ev2) (fun a ee => execLdEs rfl (ee _) (wC_1 Fo)) (rv_ 2 (.pointer (some ⟨g18, 0 + 0, none⟩)) (fun a ee => execFldE0 rfl (ee _)) (rv_ 3 (.int .i64 (nu i)) (fun a ee => execLd2 rfl (ee _) (epC_0 Fe)) (rv_ 5 (.agg (epC (nu i) lv)) (fun a ee => execBdEp rfl (ee _) (ee _) (ownE_shp FC)) (rs_ 6 (fun a ee => ?_)))))))
                        refine stepV rfl rfl (execBsEp rfl (ee _) (ownE_shp FC)) ⟨.slice (some ⟨g179, 0, none⟩) 1 1, ⟨_, rfl, by subst egg179; rfl⟩, fun X34_1 hX => ?_⟩
                        have bQ : Below XK.heap.size XK X34_1 := by subst hX egg179; exact (belNew XK _)
                        have Fg179 : (X34_1.heap[g179]? = some (.cells (epC (nu i) lv) 47)) := by subst hX egg179; exact heapNew XK _
                        replace Fo := (on9 Fo bQ)
                        replace FE := (FE.on bQ)
                        replace FR := (ownE_below FR bQ)
                        replace Fe := (on9 Fe bQ)
                        replace FC := (ownE_below FC bQ)
                        replace BB := BB.trans (bQ.mono BB.size)
                        clear bQ hX egg179 ee a
                        refine rs_ 7 (fun a ee => ?_)
                        refine stepAppE rfl rfl rfl (ee _) (ee _) FR Fg179 (slc_one (ownE_shp FC)) (by omega) (BB).size fun v180 X34_2 own' gr => ⟨_, ⟨_, rfl, rfl⟩, eqw ?_⟩
                        obtain ⟨BB, Fo, FE2, FR2⟩ : Below XL10.heap.size XL10 X34_2 ∧ (X34_2.heap[g15]? = some (.cells (wC nw ev2) 24)) ∧ (NwE X6.heap.size X34_2 v180 (k + 1) (up nv k (nu i)) (up uw k lv) (up lm k lc) (up sg k lt)) ∧ (X34_2.ownsRow XL10.heap.size 47 2 v180 (k + 1) (epV (up nv k (nu i)) (up uw k lv) (k + 1))) := ⟨(BB).grown gr (BB).size (fun k hk => (FR.lt k hk).1), heapE_over FR gr Fo (by decide), (FE).push FC hlo (Nat.le_trans BZ2 hCB) hlb hnui (ownE_base own' BZ2) gr, own'⟩
                        clear FE FR Fe FC Fg179 ee a
                        refine rv_ 8 (.pointer (some ⟨g15, 1, none⟩)) (fun a ee => execFldW1 rfl (ee _)) (rs_ 9 (fun a ee => ?_))
                        refine stepS rfl rfl (execStEs rfl (ee _) (ee _) (ownE_shp FE2.row) (wC_1 Fo) (frozen4 Fo)) ⟨_, ⟨_, rfl, rfl⟩, fun X34 hX => ?_⟩
                        obtain ⟨BB, FE2, FR2, Fo2⟩ : Below XL10.heap.size XL10 X34 ∧ (NwE X6.heap.size X34 v180 (k + 1) (up nv k (nu i)) (up uw k lv) (up lm k lc) (up sg k lt)) ∧ (X34.ownsRow XL10.heap.size 47 2 v180 (k + 1) (epV (up nv k (nu i)) (up uw k lv) (k + 1))) ∧ (X34.heap[g15]? = some (.cells (wC nw v180) 24)) := by subst hX; exact ⟨(BB).setCell FGg15 _, (FE2).setC Fo (by decide) (by decide), ownE_setC FR2 Fo (by decide), wC_set Fo⟩
                        clear Fo hX ee a
                        refine rf_ [] (h7_ t1 t4 t8 t12 t15 t16 t17) ?_
                        rintro a A - ⟨t1, t4, t8, t12, t15, t16, t17, -⟩
                        refine wi_ A (h7_ t1 t4 t8 t12 t15 t16 t17) (rv_ 1 (.int .i64 ((i + 1 : Nat) : Int)) (fun a ee => execAd8 (p := i) (q := 1) rfl (ee _) rfl (by omega)) (rf_ [(17, .int .i64 ((i + 1 : Nat) : Int))] (h6_ t1 t4 t8 t12 t15 t16) ?_))
                        rintro a A ⟨t17, -⟩ ⟨t1, t4, t8, t12, t15, t16, -⟩
                        exact ⟨⟨i + 1, v180, k + 1, up nv k (nu i), up uw k lv, up lm k lc, up sg k lt, pb4, lti, by rw [esL_up]; exact hPI2, by omega, fun h_ => up_ge (hge2 h_) hlvg, A, t1, t4, t8, t12, t15, t16, t17, BB, Fo2, FE2, FR2⟩, by show n - (intOf (a.eval (.tmp 17))).toNat < n - (intOf (Act.eval _ (.tmp 17))).toNat; rw [t17, esi]; show n - (i + 1) < n - i; omega⟩
end Go.Proofs.Ytijibdapooalcab.Win
