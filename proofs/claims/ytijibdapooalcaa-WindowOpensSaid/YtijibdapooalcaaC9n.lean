import Derived.Test.YtijibdapooalcaaC9m
namespace Go.Proofs.Ytijibdapooalcaa.Win
open Go.RowKit Gf8 Aes By8 Cel Cf
/- The reference's Open. Written by tools/mkC9n.py. -/

/-- A window that is answered, in memory of its own, and an error's number. -/
def OpP (V : World) (o : Wn × Nat) (e : Ending) (w' : World) : Prop := ∃ ev n nu tw ln t, e = .returned (.tuple #[.agg (wC o.1.1 ev), .int .i64 ((o.2 : Nat) : Int)]) ∧ esL n nu ln t = o.1.2 ∧ NwE V.heap.size w' ev n nu tw ln t
theorem fil_y {l : List Ep} {x : Ep} {m : Int} (h : m < x.1) : (l ++ [x]).filter (fun x => decide (m < x.1)) = l.filter (fun x => decide (m < x.1)) ++ [x] := by
  rw [List.filter_append]
  congr 1
  exact List.filter_cons_of_pos (decide_eq_true h)
theorem fil_n {l : List Ep} {x : Ep} {m : Int} (h : ¬ m < x.1) : (l ++ [x]).filter (fun x => decide (m < x.1)) = l.filter (fun x => decide (m < x.1)) := by
  rw [List.filter_append, List.filter_cons_of_neg (by rw [decide_eq_true_iff]; exact h), List.filter_nil, List.append_nil]
theorem cat0 {s p : Nat → Nat → Nat} : catT 0 s p = p := funext fun k => by
  unfold catT
  rw [if_neg (Nat.not_lt_zero _), Nat.sub_zero]
set_option maxRecDepth 100000 in
set_option maxHeartbeats 4000000 in
/-- The reference's Open. -/
theorem ropen16 (nw ep s : Int) (ev : Value) (n : Nat) (nu : Nat → Int) (tw : Nat → Value) (ln : Nat → Nat) (t : Nat → Nat → Nat → Nat) (V : World) (hE : Eps V ev n nu tw ln t) (hn : n < 9223372036854775808) (hl : ∀ j, j < n → ln j ≤ 8796093022208) (hnw : I64 nw) (hs : I64 s) (hep : I64 ep) (h32 : n * 32 ≤ 140737488351232) :
    Calls Try.prog 16 #[.agg (wC nw ev), .int .i64 ep, .int .i64 s] V fun e w' => OpP V (wOpen (nw, esL n nu ln t) ep s) e w' ∧ Below V.heap.size V w' := by
  go_enter Try.func16, Try.ntmps16
  refine wo_ 79 [(0, .agg (wC nw ev)), (1, .int .i64 ep), (2, .int .i64 s)] ?_
  rintro a A ⟨t0, t1, t2, -⟩
  have BW : Below V.heap.size V V := Below.refl _ _
  have BB := BW
  refine wp_seq ?_
  obtain ⟨g3, egg3⟩ : ∃ z_ : Nat, V.heap.size = z_ := ⟨_, rfl⟩
  refine wi_ A (h3_ t0 t1 t2) (rs_ 0 (fun a ee => ?_))
  refine stepV rfl rfl (execBoxW rfl (ee _)) ⟨.pointer (some ⟨g3, 0, none⟩), ⟨_, rfl, by subst egg3; rfl⟩, fun X0_1 hX => ?_⟩
  have bQ : Below V.heap.size V X0_1 := by subst hX egg3; exact (belNew V _)
  have Fg3 : (X0_1.heap[g3]? = some (.cells (wC nw ev) 25)) := by subst hX egg3; exact heapNew V _
  replace BB := BB.trans (bQ.mono BB.size)
  clear bQ hX egg3 ee a
  obtain ⟨g6, egg6⟩ : ∃ z_ : Nat, X0_1.heap.size = z_ := ⟨_, rfl⟩
  refine rs_ 1 (fun a ee => ?_)
  refine stepV rfl rfl (execAllW rfl) ⟨.pointer (some ⟨g6, 0, none⟩), ⟨_, rfl, by subst egg6; rfl⟩, fun X0 hX => ?_⟩
  have bQ : Below X0_1.heap.size X0_1 X0 := by subst hX egg6; exact (belNew X0_1 _)
  have Fg6 : (X0.heap[g6]? = some (.cells (wC 0 (.slice none 0 0)) 25)) := by subst hX egg6; exact heapNew X0_1 _
  have FGg6 : (V.heap.size ≤ g6) := by subst hX egg6; exact (BB).size
  replace Fg3 := (on9 Fg3 bQ)
  replace BB := BB.trans (bQ.mono BB.size)
  clear bQ hX egg6 ee a
  refine rf_ [(3, .pointer (some ⟨g3, 0, none⟩)), (6, .pointer (some ⟨g6, 0, none⟩))] (h2_ t1 t2) ?_
  rintro a A ⟨t3, t6, -⟩ ⟨t1, t2, -⟩
  refine wp_seq ?_
  refine wp_seq ?_
  by_cases h1 : s < 1
  · refine wi_ A (h4_ t1 t2 t3 t6) (rv_ 1 (.bool true) (fun a ee => execDec (exIlss3 (p := s) (q := 1) rfl (ee _) rfl) (decide_eq_true h1)) (rf_ [(25, .bool true)] (h4_ t1 t2 t3 t6) ?_))
    rintro a A ⟨t25, -⟩ ⟨t1, t2, t3, t6, -⟩
    refine wp_cond_true t25 ?_
    clear t25
    refine wp_seq ?_
    clear Fg3 t3
    refine wi_ A (h3_ t1 t2 t6) (rv_ 0 (.agg (wC 0 (.slice none 0 0))) (fun a ee => execBdW0 rfl) (rs_ 1 (fun a ee => ?_)))
    refine stepS rfl rfl (execStWn rfl (ee _) (ee _) Fg6 rfl) ⟨_, ⟨_, rfl, rfl⟩, fun X2 hX => ?_⟩
    obtain ⟨BB, Fg6s⟩ : Below V.heap.size V X2 ∧ (X2.heap[g6]? = some (.cells (wC 0 (.slice none 0 0)) 25)) := by subst hX; exact ⟨below4 BB FGg6 _, setRow_heap _ _ _ _ _ _ Fg6⟩
    clear Fg6 hX ee a
    refine rf_ [(7, .int .i64 ((2 : Nat) : Int))] (h1_ t6) ?_
    rintro a A ⟨t7, -⟩ ⟨t6, -⟩
    rw [show wOpen (nw, esL n nu ln t) ep s = ((0, []), 2) from if_neg (fun h_ => by have := h_.1; omega)]
    refine wp_ret ?_
    repeat (first | with_reducible refine ret_in ?_ | with_reducible refine ret_then ?_)
    refine bodyPost_ret (results_cell_tmp1 Try.results16 _ _ g6 25 _ (0, 0) _ t6 Fg6s Try.underlying25 rfl (sizeW _ _)) A.2 ⟨⟨.slice none 0 0, 0, fun _ => 0, fun _ => undef, fun _ => 0, fun _ _ _ => 0, ?_, rfl, NwE.zero _ _ _ _ _ _⟩, BB⟩
    show Ending.returned (.tuple #[.agg (wC 0 (.slice none 0 0)), a.eval (.tmp 7)]) = _
    rw [t7]
  · by_cases h2 : s > 8
    · refine wi_ A (h4_ t1 t2 t3 t6) (rv_ 1 (.bool false) (fun a ee => execDec (exIlss3 (p := s) (q := 1) rfl (ee _) rfl) (decide_eq_false h1)) (rv_ 4 (.bool true) (fun a ee => execDec (exIgtr3 (p := s) (q := 8) rfl (ee _) rfl) (decide_eq_true h2)) (rf_ [(25, .bool true)] (h4_ t1 t2 t3 t6) ?_)))
      rintro a A ⟨t25, -⟩ ⟨t1, t2, t3, t6, -⟩
      refine wp_cond_true t25 ?_
      clear t25
      refine wp_seq ?_
      clear Fg3 t3
      refine wi_ A (h3_ t1 t2 t6) (rv_ 0 (.agg (wC 0 (.slice none 0 0))) (fun a ee => execBdW0 rfl) (rs_ 1 (fun a ee => ?_)))
      refine stepS rfl rfl (execStWn rfl (ee _) (ee _) Fg6 rfl) ⟨_, ⟨_, rfl, rfl⟩, fun X2 hX => ?_⟩
      obtain ⟨BB, Fg6s⟩ : Below V.heap.size V X2 ∧ (X2.heap[g6]? = some (.cells (wC 0 (.slice none 0 0)) 25)) := by subst hX; exact ⟨below4 BB FGg6 _, setRow_heap _ _ _ _ _ _ Fg6⟩
      clear Fg6 hX ee a
      refine rf_ [(7, .int .i64 ((2 : Nat) : Int))] (h1_ t6) ?_
      rintro a A ⟨t7, -⟩ ⟨t6, -⟩
      rw [show wOpen (nw, esL n nu ln t) ep s = ((0, []), 2) from if_neg (fun h_ => by have := h_.2.1; omega)]
      refine wp_ret ?_
      repeat (first | with_reducible refine ret_in ?_ | with_reducible refine ret_then ?_)
      refine bodyPost_ret (results_cell_tmp1 Try.results16 _ _ g6 25 _ (0, 0) _ t6 Fg6s Try.underlying25 rfl (sizeW _ _)) A.2 ⟨⟨.slice none 0 0, 0, fun _ => 0, fun _ => undef, fun _ => 0, fun _ _ _ => 0, ?_, rfl, NwE.zero _ _ _ _ _ _⟩, BB⟩
      show Ending.returned (.tuple #[.agg (wC 0 (.slice none 0 0)), a.eval (.tmp 7)]) = _
      rw [t7]
    · by_cases h3 : ep < 0
      · refine wi_ A (h4_ t1 t2 t3 t6) (rv_ 1 (.bool false) (fun a ee => execDec (exIlss3 (p := s) (q := 1) rfl (ee _) rfl) (decide_eq_false h1)) (rv_ 4 (.bool false) (fun a ee => execDec (exIgtr3 (p := s) (q := 8) rfl (ee _) rfl) (decide_eq_false h2)) (rv_ 8 (.bool true) (fun a ee => execDec (exIlss2 (p := ep) (q := 0) rfl (ee _) rfl) (decide_eq_true h3)) (rf_ [(25, .bool true)] (h4_ t1 t2 t3 t6) ?_))))
        rintro a A ⟨t25, -⟩ ⟨t1, t2, t3, t6, -⟩
        refine wp_cond_true t25 ?_
        clear t25
        refine wp_seq ?_
        clear Fg3 t3
        refine wi_ A (h3_ t1 t2 t6) (rv_ 0 (.agg (wC 0 (.slice none 0 0))) (fun a ee => execBdW0 rfl) (rs_ 1 (fun a ee => ?_)))
        refine stepS rfl rfl (execStWn rfl (ee _) (ee _) Fg6 rfl) ⟨_, ⟨_, rfl, rfl⟩, fun X2 hX => ?_⟩
        obtain ⟨BB, Fg6s⟩ : Below V.heap.size V X2 ∧ (X2.heap[g6]? = some (.cells (wC 0 (.slice none 0 0)) 25)) := by subst hX; exact ⟨below4 BB FGg6 _, setRow_heap _ _ _ _ _ _ Fg6⟩
        clear Fg6 hX ee a
        refine rf_ [(7, .int .i64 ((2 : Nat) : Int))] (h1_ t6) ?_
        rintro a A ⟨t7, -⟩ ⟨t6, -⟩
        rw [show wOpen (nw, esL n nu ln t) ep s = ((0, []), 2) from if_neg (fun h_ => by have := h_.2.2.1; omega)]
        refine wp_ret ?_
        repeat (first | with_reducible refine ret_in ?_ | with_reducible refine ret_then ?_)
        refine bodyPost_ret (results_cell_tmp1 Try.results16 _ _ g6 25 _ (0, 0) _ t6 Fg6s Try.underlying25 rfl (sizeW _ _)) A.2 ⟨⟨.slice none 0 0, 0, fun _ => 0, fun _ => undef, fun _ => 0, fun _ _ _ => 0, ?_, rfl, NwE.zero _ _ _ _ _ _⟩, BB⟩
        show Ending.returned (.tuple #[.agg (wC 0 (.slice none 0 0)), a.eval (.tmp 7)]) = _
        rw [t7]
      · by_cases h4 : ep > 4611686018427387904
        · refine wi_ A (h4_ t1 t2 t3 t6) (rv_ 1 (.bool false) (fun a ee => execDec (exIlss3 (p := s) (q := 1) rfl (ee _) rfl) (decide_eq_false h1)) (rv_ 4 (.bool false) (fun a ee => execDec (exIgtr3 (p := s) (q := 8) rfl (ee _) rfl) (decide_eq_false h2)) (rv_ 8 (.bool false) (fun a ee => execDec (exIlss2 (p := ep) (q := 0) rfl (ee _) rfl) (decide_eq_false h3)) (rv_ 12 (.bool true) (fun a ee => execDec (exIgtr2 (p := ep) (q := 4611686018427387904) rfl (ee _) rfl) (decide_eq_true h4)) (rf_ [(25, .bool true)] (h4_ t1 t2 t3 t6) ?_)))))
          rintro a A ⟨t25, -⟩ ⟨t1, t2, t3, t6, -⟩
          refine wp_cond_true t25 ?_
          clear t25
          refine wp_seq ?_
          clear Fg3 t3
          refine wi_ A (h3_ t1 t2 t6) (rv_ 0 (.agg (wC 0 (.slice none 0 0))) (fun a ee => execBdW0 rfl) (rs_ 1 (fun a ee => ?_)))
          refine stepS rfl rfl (execStWn rfl (ee _) (ee _) Fg6 rfl) ⟨_, ⟨_, rfl, rfl⟩, fun X2 hX => ?_⟩
          obtain ⟨BB, Fg6s⟩ : Below V.heap.size V X2 ∧ (X2.heap[g6]? = some (.cells (wC 0 (.slice none 0 0)) 25)) := by subst hX; exact ⟨below4 BB FGg6 _, setRow_heap _ _ _ _ _ _ Fg6⟩
          clear Fg6 hX ee a
          refine rf_ [(7, .int .i64 ((2 : Nat) : Int))] (h1_ t6) ?_
          rintro a A ⟨t7, -⟩ ⟨t6, -⟩
          rw [show wOpen (nw, esL n nu ln t) ep s = ((0, []), 2) from if_neg (fun h_ => by have := h_.2.2.2; omega)]
          refine wp_ret ?_
          repeat (first | with_reducible refine ret_in ?_ | with_reducible refine ret_then ?_)
          refine bodyPost_ret (results_cell_tmp1 Try.results16 _ _ g6 25 _ (0, 0) _ t6 Fg6s Try.underlying25 rfl (sizeW _ _)) A.2 ⟨⟨.slice none 0 0, 0, fun _ => 0, fun _ => undef, fun _ => 0, fun _ _ _ => 0, ?_, rfl, NwE.zero _ _ _ _ _ _⟩, BB⟩
          show Ending.returned (.tuple #[.agg (wC 0 (.slice none 0 0)), a.eval (.tmp 7)]) = _
          rw [t7]
        · refine wi_ A (h4_ t1 t2 t3 t6) (rv_ 1 (.bool false) (fun a ee => execDec (exIlss3 (p := s) (q := 1) rfl (ee _) rfl) (decide_eq_false h1)) (rv_ 4 (.bool false) (fun a ee => execDec (exIgtr3 (p := s) (q := 8) rfl (ee _) rfl) (decide_eq_false h2)) (rv_ 8 (.bool false) (fun a ee => execDec (exIlss2 (p := ep) (q := 0) rfl (ee _) rfl) (decide_eq_false h3)) (rv_ 12 (.bool false) (fun a ee => execDec (exIgtr2 (p := ep) (q := 4611686018427387904) rfl (ee _) rfl) (decide_eq_false h4)) (rf_ [(25, .bool false)] (h4_ t1 t2 t3 t6) ?_)))))
          rintro a A ⟨t25, -⟩ ⟨t1, t2, t3, t6, -⟩
          refine wp_cond_false t25 ?_
          refine wp_skip ?_
          clear t25
          have hA_ : opA ep s := ⟨by omega, by omega, by omega, by omega⟩
          refine wp_seq ?_
          refine wp_seq ?_
          by_cases e1 : nw ≥ ep + s
          · refine wi_ A (h4_ t1 t2 t3 t6) (rv_ 0 (.pointer (some ⟨g3, 0, none⟩)) (fun a ee => execFldW0 rfl (ee _)) (rv_ 1 (.int .i64 nw) (fun a ee => execLd2 rfl (ee _) (wC_0 Fg3)) (rv_ 4 (.int .i64 (ep + s)) (fun a ee => execAdI2 (z := (ep + s)) rfl (ee _) (ee _) rfl (by omega) (by omega)) (rv_ 5 (.bool true) (fun a ee => execDec (exIgeq2 (p := nw) (q := (ep + s)) rfl (ee _) (ee _)) (decide_eq_true e1)) (rf_ [(39, .bool true)] (h4_ t1 t2 t3 t6) ?_)))))
            rintro a A ⟨t39, -⟩ ⟨t1, t2, t3, t6, -⟩
            refine wp_cond_true t39 ?_
            clear t39
            refine wp_seq ?_
            clear Fg3 t3
            refine wi_ A (h3_ t1 t2 t6) (rv_ 0 (.agg (wC 0 (.slice none 0 0))) (fun a ee => execBdW0 rfl) (rs_ 1 (fun a ee => ?_)))
            refine stepS rfl rfl (execStWn rfl (ee _) (ee _) Fg6 rfl) ⟨_, ⟨_, rfl, rfl⟩, fun X4 hX => ?_⟩
            obtain ⟨BB, Fg6s⟩ : Below V.heap.size V X4 ∧ (X4.heap[g6]? = some (.cells (wC 0 (.slice none 0 0)) 25)) := by subst hX; exact ⟨below4 BB FGg6 _, setRow_heap _ _ _ _ _ _ Fg6⟩
            clear Fg6 hX ee a
            refine rf_ [(7, .int .i64 ((161 : Nat) : Int))] (h1_ t6) ?_
            rintro a A ⟨t7, -⟩ ⟨t6, -⟩
            rw [show wOpen (nw, esL n nu ln t) ep s = ((0, []), 161) from (if_pos hA_).trans (if_pos (Or.inl (by omega)))]
            refine wp_ret ?_
            repeat (first | with_reducible refine ret_in ?_ | with_reducible refine ret_then ?_)
            refine bodyPost_ret (results_cell_tmp1 Try.results16 _ _ g6 25 _ (0, 0) _ t6 Fg6s Try.underlying25 rfl (sizeW _ _)) A.2 ⟨⟨.slice none 0 0, 0, fun _ => 0, fun _ => undef, fun _ => 0, fun _ _ _ => 0, ?_, rfl, NwE.zero _ _ _ _ _ _⟩, BB⟩
            show Ending.returned (.tuple #[.agg (wC 0 (.slice none 0 0)), a.eval (.tmp 7)]) = _
            rw [t7]
          · by_cases e2 : nw < ep - 1024
            · refine wi_ A (h4_ t1 t2 t3 t6) (rv_ 0 (.pointer (some ⟨g3, 0, none⟩)) (fun a ee => execFldW0 rfl (ee _)) (rv_ 1 (.int .i64 nw) (fun a ee => execLd2 rfl (ee _) (wC_0 Fg3)) (rv_ 4 (.int .i64 (ep + s)) (fun a ee => execAdI2 (z := (ep + s)) rfl (ee _) (ee _) rfl (by omega) (by omega)) (rv_ 5 (.bool false) (fun a ee => execDec (exIgeq2 (p := nw) (q := (ep + s)) rfl (ee _) (ee _)) (decide_eq_false e1)) (rv_ 7 (.pointer (some ⟨g3, 0, none⟩)) (fun a ee => execFldW0 rfl (ee _)) (rv_ 8 (.int .i64 nw) (fun a ee => execLd2 rfl (ee _) (wC_0 Fg3)) (rv_ 10 (.int .i64 (ep - 1024)) (fun a ee => execSub2 (z := (ep - 1024)) rfl (ee _) rfl rfl (by omega) (by omega)) (rv_ 11 (.bool true) (fun a ee => execDec (exIlss2 (p := nw) (q := (ep - 1024)) rfl (ee _) (ee _)) (decide_eq_true e2)) (rf_ [(39, .bool true)] (h4_ t1 t2 t3 t6) ?_)))))))))
              rintro a A ⟨t39, -⟩ ⟨t1, t2, t3, t6, -⟩
              refine wp_cond_true t39 ?_
              clear t39
              refine wp_seq ?_
              clear Fg3 t3
              refine wi_ A (h3_ t1 t2 t6) (rv_ 0 (.agg (wC 0 (.slice none 0 0))) (fun a ee => execBdW0 rfl) (rs_ 1 (fun a ee => ?_)))
              refine stepS rfl rfl (execStWn rfl (ee _) (ee _) Fg6 rfl) ⟨_, ⟨_, rfl, rfl⟩, fun X4 hX => ?_⟩
              obtain ⟨BB, Fg6s⟩ : Below V.heap.size V X4 ∧ (X4.heap[g6]? = some (.cells (wC 0 (.slice none 0 0)) 25)) := by subst hX; exact ⟨below4 BB FGg6 _, setRow_heap _ _ _ _ _ _ Fg6⟩
              clear Fg6 hX ee a
              refine rf_ [(7, .int .i64 ((161 : Nat) : Int))] (h1_ t6) ?_
              rintro a A ⟨t7, -⟩ ⟨t6, -⟩
              rw [show wOpen (nw, esL n nu ln t) ep s = ((0, []), 161) from (if_pos hA_).trans (if_pos (Or.inr (by omega)))]
              refine wp_ret ?_
              repeat (first | with_reducible refine ret_in ?_ | with_reducible refine ret_then ?_)
              refine bodyPost_ret (results_cell_tmp1 Try.results16 _ _ g6 25 _ (0, 0) _ t6 Fg6s Try.underlying25 rfl (sizeW _ _)) A.2 ⟨⟨.slice none 0 0, 0, fun _ => 0, fun _ => undef, fun _ => 0, fun _ _ _ => 0, ?_, rfl, NwE.zero _ _ _ _ _ _⟩, BB⟩
              show Ending.returned (.tuple #[.agg (wC 0 (.slice none 0 0)), a.eval (.tmp 7)]) = _
              rw [t7]
            · refine wi_ A (h4_ t1 t2 t3 t6) (rv_ 0 (.pointer (some ⟨g3, 0, none⟩)) (fun a ee => execFldW0 rfl (ee _)) (rv_ 1 (.int .i64 nw) (fun a ee => execLd2 rfl (ee _) (wC_0 Fg3)) (rv_ 4 (.int .i64 (ep + s)) (fun a ee => execAdI2 (z := (ep + s)) rfl (ee _) (ee _) rfl (by omega) (by omega)) (rv_ 5 (.bool false) (fun a ee => execDec (exIgeq2 (p := nw) (q := (ep + s)) rfl (ee _) (ee _)) (decide_eq_false e1)) (rv_ 7 (.pointer (some ⟨g3, 0, none⟩)) (fun a ee => execFldW0 rfl (ee _)) (rv_ 8 (.int .i64 nw) (fun a ee => execLd2 rfl (ee _) (wC_0 Fg3)) (rv_ 10 (.int .i64 (ep - 1024)) (fun a ee => execSub2 (z := (ep - 1024)) rfl (ee _) rfl rfl (by omega) (by omega)) (rv_ 11 (.bool false) (fun a ee => execDec (exIlss2 (p := nw) (q := (ep - 1024)) rfl (ee _) (ee _)) (decide_eq_false e2)) (rf_ [(39, .bool false)] (h4_ t1 t2 t3 t6) ?_)))))))))
              rintro a A ⟨t39, -⟩ ⟨t1, t2, t3, t6, -⟩
              refine wp_cond_false t39 ?_
              refine wp_skip ?_
              clear t39
              have hO : wOpen (nw, esL n nu ln t) ep s = (opW (nw, esL n nu ln t) ep s, 0) := (if_pos hA_).trans (if_neg (fun h_ => by rcases h_ with h_ | h_ <;> omega))
              rw [hO]
              obtain ⟨M, eM⟩ : ∃ M, max nw ep = M := ⟨_, rfl⟩
              have hM1 : 0 ≤ M := by omega
              have hM2 : M < 4611686018427388000 := by omega
              replace hE := (hE.on BB)
              replace BW := BW.trans (BB.mono BW.size)
              clear BB
              have BB : Below X0.heap.size X0 X0 := Below.refl _ _
              refine wp_seq ?_
              obtain ⟨g8, egg8⟩ : ∃ z_ : Nat, X0.heap.size = z_ := ⟨_, rfl⟩
              refine wi_ A (h4_ t1 t2 t3 t6) (rv_ 0 (.pointer (some ⟨g3, 0, none⟩)) (fun a ee => execFldW0 rfl (ee _)) (rv_ 1 (.int .i64 nw) (fun a ee => execLd2 rfl (ee _) (wC_0 (on9 Fg3 BB))) (rv_ 3 (.int .i64 (max nw ep)) (fun a ee => execMax2 rfl (ee _) (ee _)) (rv_ 4 (.agg (wC (max nw ep) (.slice none 0 0))) (fun a ee => execBdW1 rfl (ee _)) (rs_ 5 (fun a ee => ?_))))))
              refine stepV rfl rfl (execAllW rfl) ⟨.pointer (some ⟨g8, 0, none⟩), ⟨_, rfl, by subst egg8; rfl⟩, fun X5_1 hX => ?_⟩
              have bQ : Below X0.heap.size X0 X5_1 := by subst hX egg8; exact (belNew X0 _)
              have Fg8 : (X5_1.heap[g8]? = some (.cells (wC 0 (.slice none 0 0)) 25)) := by subst hX egg8; exact heapNew X0 _
              have FGg8 : (X0.heap.size ≤ g8) := by subst hX egg8; exact (BB).size
              replace BB := BB.trans (bQ.mono BB.size)
              clear bQ hX egg8 ee a
              refine rs_ 6 (fun a ee => ?_)
              refine stepS rfl rfl (execStWn rfl (ee _) (ee _) Fg8 rfl) ⟨_, ⟨_, rfl, rfl⟩, fun X5 hX => ?_⟩
              obtain ⟨BB, Fg8s⟩ : Below X0.heap.size X0 X5 ∧ (X5.heap[g8]? = some (.cells (wC (max nw ep) (.slice none 0 0)) 25)) := by subst hX; exact ⟨below4 BB FGg8 _, setRow_heap _ _ _ _ _ _ Fg8⟩
              clear Fg8 hX ee a
              refine rf_ [(8, .pointer (some ⟨g8, 0, none⟩))] (h3_ t2 t3 t6) ?_
              rintro a A ⟨t8, -⟩ ⟨t2, t3, t6, -⟩
              rw [eM] at Fg8s
              refine wp_seq ?_
              refine wp_seq ?_
              refine wi_ A (h4_ t2 t3 t6 t8) (rf_ [(9, .int .i64 ((0 : Nat) : Int))] (h4_ t2 t3 t6 t8) ?_)
              rintro a A ⟨t9, -⟩ ⟨t2, t3, t6, t8, -⟩
              have FE : (NwE X0.heap.size X5 (.slice none 0 0) 0 (fun _ => 0) (fun _ => undef) (fun _ => 0) (fun _ _ _ => 0)) := NwE.zero _ _ _ _ _ _
              have Fo := Fg8s
              clear Fg8s
              refine wp_block ?_
              refine wp_loop (fun a W => ∃ (i : Nat) (ev2 : Value) (k : Nat) (nv : Nat → Int) (uw : Nat → Value) (lm : Nat → Nat) (sg : Nat → Nat → Nat → Nat), i ≤ n ∧ (esL k nv lm sg = (esL i nu ln t).filter fun x => decide (M - s < x.1)) ∧ (k ≤ i) ∧ (a.tmps.size = 79 ∧ a.defers = []) ∧ a.eval (.tmp 2) = .int .i64 s ∧ a.eval (.tmp 3) = .pointer (some ⟨g3, 0, none⟩) ∧ a.eval (.tmp 6) = .pointer (some ⟨g6, 0, none⟩) ∧ a.eval (.tmp 8) = .pointer (some ⟨g8, 0, none⟩) ∧ a.eval (.tmp 9) = .int .i64 ((i : Nat) : Int) ∧ Below X0.heap.size X0 W ∧ (W.heap[g8]? = some (.cells (wC M ev2) 25)) ∧ (NwE X0.heap.size W ev2 k nv uw lm sg)) (fun a _ => n - (intOf (a.eval (.tmp 9))).toNat) ⟨0, .slice none 0 0, 0, fun _ => 0, fun _ => undef, fun _ => 0, fun _ _ _ => 0, Nat.zero_le _, rfl, Nat.le_refl _, A, t2, t3, t6, t8, t9, BB, Fo, FE⟩ ?_
              clear A t2 t3 t6 t8 t9 BB Fo FE a
              rintro a XL7 ⟨i, ev2, k, nv, uw, lm, sg, hi, hf, hk, A, t2, t3, t6, t8, t9, BB, Fo, FE⟩
              have esi := t9
              refine wp_seq ?_
              refine wp_seq ?_
              refine wi_ A (h5_ t2 t3 t6 t8 t9) (rv_ 1 (.pointer (some ⟨g3, 1, none⟩)) (fun a ee => execFldW1 rfl (ee _)) (rv_ 2 (ev) (fun a ee => execLdEs rfl (ee _) (wC_1 (on9 Fg3 BB))) (rv_ 3 (.int .i64 ((n : Nat) : Int)) (fun a ee => execLenEs (len := n) rfl (ee _) hE.shp) (rv_ 4 (.bool (decide (i < n))) (fun a ee => execLtW (p := i) (q := n) rfl (ee _) (ee _)) (rf_ [(50, .bool (decide (i < n)))] (h5_ t2 t3 t6 t8 t9) ?_)))))
              rintro a A ⟨t50, -⟩ ⟨t2, t3, t6, t8, t9, -⟩
              by_cases lti : i < n
              · rw [decide_eq_true lti] at t50
                refine wp_cond_true t50 ?_
                refine wp_skip ?_
                clear t50
                refine wp_seq ?_
                refine wp_block ?_
                have hTe := hE.lists i lti
                have hln := hl i lti
                have hnui := hE.nums i lti
                obtain ⟨eb, eo, ec, ee_, heb, hec⟩ := hE.at (show 0 < n by omega)
                have cE : ∀ X, Below X0.heap.size X0 X → X.cell? ⟨eb, eo + i * 2 + 1, none⟩ = some (tw i) := fun X hX => by rw [cell_below hX heb]; exact (hec i lti).2
                have cN : ∀ X, Below X0.heap.size X0 X → X.cell? ⟨eb, eo + i * 2 + 0, none⟩ = some (.int .i64 (nu i)) := fun X hX => by rw [cell_below hX heb]; exact (hec i lti).1
                refine wp_seq ?_
                obtain ⟨g10, egg10⟩ : ∃ z_ : Nat, XL7.heap.size = z_ := ⟨_, rfl⟩
                refine wi_ A (h5_ t2 t3 t6 t8 t9) (rv_ 0 (.pointer (some ⟨g3, 1, none⟩)) (fun a ee => execFldW1 rfl (ee _)) (rv_ 1 (ev) (fun a ee => execLdEs rfl (ee _) (wC_1 (on9 Fg3 BB))) (rv_ 3 (.pointer (some ⟨eb, eo + i * 2, none⟩)) (fun a ee => execIdxEs (k := i) rfl ((ee _).trans ee_) (ee _) (by omega)) (rv_ 4 (.agg (epC (nu i) (tw i))) (fun a ee => execLdEp rfl (ee _) (cN XL7 BB) (cE XL7 BB)) (rs_ 5 (fun a ee => ?_))))))
                refine stepV rfl rfl (execAllEp rfl) ⟨.pointer (some ⟨g10, 0, none⟩), ⟨_, rfl, by subst egg10; rfl⟩, fun X9_1 hX => ?_⟩
                have bQ : Below XL7.heap.size XL7 X9_1 := by subst hX egg10; exact (belNew XL7 _)
                have Fg10 : (X9_1.heap[g10]? = some (.cells (epC 0 (.slice none 0 0)) 52)) := by subst hX egg10; exact heapNew XL7 _
                have FGe : (X0.heap.size ≤ g10) := by subst hX egg10; exact (BB).size
                have FD : (ev2.ownBlock ≠ some g10) := by subst hX egg10; exact fun q_ => Nat.lt_irrefl _ (FE.lt.1 _ q_)
                replace Fo := (on9 Fo bQ)
                replace FE := (FE.on bQ)
                replace BB := BB.trans (bQ.mono BB.size)
                clear bQ hX egg10 ee a
                refine rs_ 6 (fun a ee => ?_)
                refine stepS rfl rfl (execStEp rfl (ee _) (ee _) Fg10 (by obtain ⟨_, _, e_⟩ := hTe.shp; rw [e_]; rfl)) ⟨_, ⟨_, rfl, rfl⟩, fun X9 hX => ?_⟩
                obtain ⟨BB, Fo, FE, Fe⟩ : Below X0.heap.size X0 X9 ∧ (X9.heap[g8]? = some (.cells (wC M ev2) 25)) ∧ (NwE X0.heap.size X9 ev2 k nv uw lm sg) ∧ (X9.heap[g10]? = some (.cells (epC (nu i) (tw i)) 52)) := by subst hX; exact ⟨below4 BB FGe _, (by rw [setRow_other _ _ _ _ (ne_type Fg10 Fo (by decide))]; exact Fo), (FE).setE Fg10 FD, setRow_heap _ _ _ _ _ _ Fg10⟩
                clear Fg10 hX ee a
                refine rf_ [(10, .pointer (some ⟨g10, 0, none⟩))] (h5_ t2 t3 t6 t8 t9) ?_
                rintro a A ⟨t10, -⟩ ⟨t2, t3, t6, t8, t9, -⟩
                clear FGe FD
                refine wp_seq ?_
                by_cases hkp : nu i > M - s
                · refine wi_ A (h6_ t2 t3 t6 t8 t9 t10) (rv_ 0 (.pointer (some ⟨g10, 0 + 0, none⟩)) (fun a ee => execFldE0 rfl (ee _)) (rv_ 1 (.int .i64 (nu i)) (fun a ee => execLd2 rfl (ee _) (epC_0 Fe)) (rv_ 2 (.pointer (some ⟨g8, 0, none⟩)) (fun a ee => execFldW0 rfl (ee _)) (rv_ 3 (.int .i64 M) (fun a ee => execLd2 rfl (ee _) (wC_0 Fo)) (rv_ 5 (.int .i64 (M - s)) (fun a ee => execSub2 (z := (M - s)) rfl (ee _) (ee _) rfl (by omega) (by omega)) (rv_ 6 (.bool true) (fun a ee => execDec (exIgtr2 (p := (nu i)) (q := (M - s)) rfl (ee _) (ee _)) (decide_eq_true hkp)) (rf_ [(64, .bool true)] (h6_ t2 t3 t6 t8 t9 t10) ?_)))))))
                  rintro a A ⟨t64, -⟩ ⟨t2, t3, t6, t8, t9, t10, -⟩
                  refine wp_cond_true t64 ?_
                  clear t64
                  refine wp_seq ?_
                  refine wi_ A (h6_ t2 t3 t6 t8 t9 t10) (rf_ [(11, .slice none 0 0)] (h6_ t2 t3 t6 t8 t9 t10) ?_)
                  rintro a A ⟨t11, -⟩ ⟨t2, t3, t6, t8, t9, t10, -⟩
                  have hlo : ∀ j_, j_ < k → ∀ b_, (uw j_).ownBlock = some b_ → b_ < X9.heap.size := FE.lt.2
                  have hCB : X0.heap.size ≤ X9.heap.size := BB.size
                  refine wp_seq ?_
                  refine wi_ A (h7_ t2 t3 t6 t8 t9 t10 t11) (rv_ 1 (.pointer (some ⟨g10, 0 + 1, none⟩)) (fun a ee => execFldE1 rfl (ee _)) (rv_ 2 (tw i) (fun a ee => execLdTs rfl (ee _) (epC_1 Fe)) (rs_ 3 (fun a ee => ?_))))
                  refine stepAppT (n := 0) (m := ln i) (t := fun _ _ => 0) (p := t i) rfl rfl rfl (ee _) (ee _) (own_none16 X9 X9.heap.size _) (hTe.on BB) (by omega) (Nat.le_refl _) fun v68 X12 own' gr => ⟨_, ⟨_, rfl, rfl⟩, eqw ?_⟩
                  have bQ : Below X9.heap.size X9 X12 := (Below.refl X9.heap.size X9).grown gr (Nat.le_refl _) (fun k hk => by cases hk)
                  have FC : (X12.ownsRow X9.heap.size 34 16 v68 (ln i) (tgV (t i) (ln i))) := (by rw [Nat.zero_add, cat0] at own'; exact own')
                  replace Fo := (on9 Fo bQ)
                  replace FE := (FE.on bQ)
                  replace Fe := (on9 Fe bQ)
                  replace BB := BB.trans (bQ.mono BB.size)
                  clear bQ ee a
                  refine rf_ [(11, v68)] (h6_ t2 t3 t6 t8 t9 t10) ?_
                  rintro a A ⟨t11, -⟩ ⟨t2, t3, t6, t8, t9, t10, -⟩
                  obtain ⟨g75, egg75⟩ : ∃ z_ : Nat, X12.heap.size = z_ := ⟨_, rfl⟩
                  refine wi_ A (h7_ t2 t3 t6 t8 t9 t10 t11) (rv_ 0 (.pointer (some ⟨g8, 1, none⟩)) (fun a ee => execFldW1 rfl (ee _)) (rv_ 1 (ev2) (fun a ee => execLdEs rfl (ee _) (wC_1 Fo)) (rv_ 2 (.pointer (some ⟨g10, 0 + 0, none⟩)) (fun a ee => execFldE0 rfl (ee _)) (rv_ 3 (.int .i64 (nu i)) (fun a ee => execLd2 rfl (ee _) (epC_0 Fe)) (rv_ 5 (.agg (epC (nu i) v68)) (fun a ee => execBdEp rfl (ee _) (ee _) (ownE_shp FC)) (rs_ 6 (fun a ee => ?_)))))))
                  refine stepV rfl rfl (execBsEp rfl (ee _) (ownE_shp FC)) ⟨.slice (some ⟨g75, 0, none⟩) 1 1, ⟨_, rfl, by subst egg75; rfl⟩, fun X13_1 hX => ?_⟩
                  have bQ : Below X12.heap.size X12 X13_1 := by subst hX egg75; exact (belNew X12 _)
                  have Fg75 : (X13_1.heap[g75]? = some (.cells (epC (nu i) v68) 52)) := by subst hX egg75; exact heapNew X12 _
                  replace Fo := (on9 Fo bQ)
                  replace FE := (FE.on bQ)
                  replace Fe := (on9 Fe bQ)
                  replace FC := (ownE_below FC bQ)
                  replace BB := BB.trans (bQ.mono BB.size)
                  clear bQ hX egg75 ee a
                  refine rs_ 7 (fun a ee => ?_)
                  refine stepAppE rfl rfl rfl (ee _) (ee _) FE.row Fg75 (slc_one (ownE_shp FC)) (by omega) (BB).size fun v76 X13_2 own' gr => ⟨_, ⟨_, rfl, rfl⟩, eqw ?_⟩
                  obtain ⟨BB, Fo, FE2⟩ : Below X0.heap.size X0 X13_2 ∧ (X13_2.heap[g8]? = some (.cells (wC M ev2) 25)) ∧ (NwE X0.heap.size X13_2 v76 (k + 1) (up nv k (nu i)) (up uw k v68) (up lm k (ln i)) (up sg k (t i))) := ⟨(BB).grown gr (BB).size (fun k hk => (FE.row.lt k hk).1), heapE_over FE.row gr Fo (by decide), (FE).push FC hlo hCB hTe.byt hnui own' gr⟩
                  clear FE Fe FC Fg75 ee a
                  refine rv_ 8 (.pointer (some ⟨g8, 1, none⟩)) (fun a ee => execFldW1 rfl (ee _)) (rs_ 9 (fun a ee => ?_))
                  refine stepS rfl rfl (execStEs rfl (ee _) (ee _) (ownE_shp FE2.row) (wC_1 Fo) (frozen4 Fo)) ⟨_, ⟨_, rfl, rfl⟩, fun X13 hX => ?_⟩
                  obtain ⟨BB, FE2, Fo2⟩ : Below X0.heap.size X0 X13 ∧ (NwE X0.heap.size X13 v76 (k + 1) (up nv k (nu i)) (up uw k v68) (up lm k (ln i)) (up sg k (t i))) ∧ (X13.heap[g8]? = some (.cells (wC M v76) 25)) := by subst hX; exact ⟨(BB).setCell FGg8 _, (FE2).setC Fo (by decide) (by decide), wC_set Fo⟩
                  clear Fo hX ee a
                  refine rf_ [] (h5_ t2 t3 t6 t8 t9) ?_
                  rintro a A - ⟨t2, t3, t6, t8, t9, -⟩
                  have hf2 : esL (k + 1) (up nv k (nu i)) (up lm k (ln i)) (up sg k (t i)) = (esL (i + 1) nu ln t).filter fun x => decide (M - s < x.1) := by rw [esL_up, hf, esL_succ, fil_y (show M - s < nu i by omega)]
                  have hk2 : k + 1 ≤ i + 1 := by omega
                  refine wi_ A (h5_ t2 t3 t6 t8 t9) (rv_ 1 (.int .i64 ((i + 1 : Nat) : Int)) (fun a ee => execAd8 (p := i) (q := 1) rfl (ee _) rfl (by omega)) (rf_ [(9, .int .i64 ((i + 1 : Nat) : Int))] (h4_ t2 t3 t6 t8) ?_))
                  rintro a A ⟨t9, -⟩ ⟨t2, t3, t6, t8, -⟩
                  exact ⟨⟨i + 1, v76, k + 1, up nv k (nu i), up uw k v68, up lm k (ln i), up sg k (t i), lti, hf2, hk2, A, t2, t3, t6, t8, t9, BB, Fo2, FE2⟩, by show n - (intOf (a.eval (.tmp 9))).toNat < n - (intOf (Act.eval _ (.tmp 9))).toNat; rw [t9, esi]; show n - (i + 1) < n - i; omega⟩
                · refine wi_ A (h6_ t2 t3 t6 t8 t9 t10) (rv_ 0 (.pointer (some ⟨g10, 0 + 0, none⟩)) (fun a ee => execFldE0 rfl (ee _)) (rv_ 1 (.int .i64 (nu i)) (fun a ee => execLd2 rfl (ee _) (epC_0 Fe)) (rv_ 2 (.pointer (some ⟨g8, 0, none⟩)) (fun a ee => execFldW0 rfl (ee _)) (rv_ 3 (.int .i64 M) (fun a ee => execLd2 rfl (ee _) (wC_0 Fo)) (rv_ 5 (.int .i64 (M - s)) (fun a ee => execSub2 (z := (M - s)) rfl (ee _) (ee _) rfl (by omega) (by omega)) (rv_ 6 (.bool false) (fun a ee => execDec (exIgtr2 (p := (nu i)) (q := (M - s)) rfl (ee _) (ee _)) (decide_eq_false hkp)) (rf_ [(64, .bool false)] (h6_ t2 t3 t6 t8 t9 t10) ?_)))))))
                  rintro a A ⟨t64, -⟩ ⟨t2, t3, t6, t8, t9, t10, -⟩
                  refine wp_cond_false t64 ?_
                  refine wp_skip ?_
                  clear t64 t10 Fe
                  have hf2 : esL k nv lm sg = (esL (i + 1) nu ln t).filter fun x => decide (M - s < x.1) := by rw [hf, esL_succ, fil_n (show ¬ M - s < nu i by omega)]
                  have hk2 : k ≤ i + 1 := by omega
                  refine wi_ A (h5_ t2 t3 t6 t8 t9) (rv_ 1 (.int .i64 ((i + 1 : Nat) : Int)) (fun a ee => execAd8 (p := i) (q := 1) rfl (ee _) rfl (by omega)) (rf_ [(9, .int .i64 ((i + 1 : Nat) : Int))] (h4_ t2 t3 t6 t8) ?_))
                  rintro a A ⟨t9, -⟩ ⟨t2, t3, t6, t8, -⟩
                  exact ⟨⟨i + 1, ev2, k, nv, uw, lm, sg, lti, hf2, hk2, A, t2, t3, t6, t8, t9, BB, Fo, FE⟩, by show n - (intOf (a.eval (.tmp 9))).toNat < n - (intOf (Act.eval _ (.tmp 9))).toNat; rw [t9, esi]; show n - (i + 1) < n - i; omega⟩
              · rw [decide_eq_false lti] at t50
                refine wp_cond_false t50 ?_
                refine wp_exit ?_
                first | with_reducible refine exit_in ?_ | with_reducible refine exit_then (exit_in ?_) | with_reducible refine exit_then (exit_then (exit_in ?_)) | refine exit_in ?_ | refine exit_then (exit_in ?_) | refine exit_then (exit_then (exit_in ?_))
                clear t50 esi
                obtain rfl : i = n := by omega
                clear t2 t3 t9
                replace Fg6 := on9 Fg6 BB
                have BV := BW.trans (BB.mono BW.size)
                replace FE := FE.base BW.size
                clear BB
                have BB := BV
                clear BV
                refine wp_seq ?_
                refine wi_ A (h2_ t6 t8) (rv_ 0 (.agg (wC M ev2)) (fun a ee => execLdWn rfl (ee _) Fo) (rs_ 1 (fun a ee => ?_)))
                refine stepS rfl rfl (execStWn rfl (ee _) (ee _) Fg6 (slc_one (ownE_shp FE.row))) ⟨_, ⟨_, rfl, rfl⟩, fun X14 hX => ?_⟩
                obtain ⟨BB, FE, Fr⟩ : Below V.heap.size V X14 ∧ (NwE V.heap.size X14 ev2 k nv uw lm sg) ∧ (X14.heap[g6]? = some (.cells (wC M ev2) 25)) := by subst hX; exact ⟨below4 BB FGg6 _, (FE).setW Fg6 (by decide) (by decide), setRow_heap _ _ _ _ _ _ Fg6⟩
                clear Fg6 Fo hX ee a
                refine rf_ [(7, .int .i64 ((0 : Nat) : Int))] (h1_ t6) ?_
                rintro a A ⟨t7, -⟩ ⟨t6, -⟩
                refine wp_ret ?_
                refine bodyPost_ret (results_cell_tmp1 Try.results16 _ _ g6 25 _ (0, 0) _ t6 Fr Try.underlying25 rfl (sizeW _ _)) A.2 ⟨⟨ev2, k, nv, uw, lm, sg, ?_, by rw [hf, ← eM]; rfl, FE⟩, BB⟩
                show Ending.returned (.tuple #[.agg (wC M ev2), a.eval (.tmp 7)]) = _
                rw [t7]
                rw [← eM]
                rfl
end Go.Proofs.Ytijibdapooalcaa.Win
