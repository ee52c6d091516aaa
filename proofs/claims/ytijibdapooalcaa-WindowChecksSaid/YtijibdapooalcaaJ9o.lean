import Derived.Test.YtijibdapooalcaaJ9n
import Derived.Test.YtijibdapooalcaaJ9h
namespace Go.Proofs.Ytijibdapooalcaa.Win
open Go.RowKit Gf8 Aes By8 Cel Cf
/- The program's Add; what the package keeps. Written by tools/mkJ9o.py. -/

theorem up_self {α : Type} {f : Nat → α} {k : Nat} : up f k (f k) = f := funext fun j => by
  by_cases e : j = k
  · subst e; exact up_at _ _ _
  · exact up_ne _ _ e
theorem sub_all {n j : Nat} {nu : Nat → Int} {ln : Nat → Nat} {t : Nat → Nat → Nat → Nat} (hj : j < n) : List.Sublist (tgL (ln j) (t j)) (wAll (esL n nu ln t)) := by
  obtain ⟨l, r, e⟩ := List.append_of_mem (in_esL (nu := nu) (ln := ln) (t := t) hj)
  unfold wAll
  rw [e, List.flatMap_append, List.flatMap_cons]
  exact (List.sublist_append_left _ _).trans (List.sublist_append_right _ _)
theorem ln_le_all {n j : Nat} {nu : Nat → Int} {ln : Nat → Nat} {t : Nat → Nat → Nat → Nat} (hj : j < n) : ln j ≤ wLen (esL n nu ln t) := by
  have := (sub_all (nu := nu) (t := t) hj (ln := ln)).length_le
  rw [len_tgL] at this
  exact this
theorem nodup_put {n j k : Nat} {nu : Nat → Int} {ln : Nat → Nat} {t : Nat → Nat → Nat → Nat} {q : Nat → Nat → Nat} (hn : (wAll (esL n nu ln t)).Nodup) (hj : j < n) (hq : (tgL k q).Nodup) (hd : ∀ x, x ∈ tgL k q → x ∉ wAll (esL n nu ln t)) : (tgL (ln j) (t j) ++ tgL k q).Nodup :=
  List.nodup_append.2 ⟨(sub_all hj).nodup hn, hq, fun _ ha b hb e => hd b hb ((sub_all hj).mem (e ▸ ha))⟩
set_option maxRecDepth 100000 in
set_option maxHeartbeats 4000000 in
/-- The program's Add. -/
theorem padd16 (nw ep r : Int) (ev : Value) (n : Nat) (nu : Nat → Int) (tw : Nat → Value) (ln : Nat → Nat) (t : Nat → Nat → Nat → Nat) (V : World) (hE : Eps V ev n nu tw ln t) (hn : n < 9223372036854775808) (hl : ∀ j, j < n → ln j ≤ 8796093022208) (hnw : I64 nw) (hep : I64 ep) (v : Value) (m : Nat) (tg : Nat → Nat → Nat) (hTg : Tgs V v m tg) (hm : m * 16 ≤ 140737488351232) :
    Calls Try.prog 20 #[.agg (wC nw ev), .int .i64 ep, v, .int .i64 r] V fun e w' => OpP V (wAdd (nw, esL n nu ln t) ep (tgL m tg) r) e w' ∧ Below V.heap.size V w' := by
  go_enter Try.func20, Try.ntmps20
  refine wo_ 78 [(0, .agg (wC nw ev)), (1, .int .i64 ep), (2, v), (3, .int .i64 r)] ?_
  rintro a A ⟨t0, t1, t2, t3, -⟩
  have BW : Below V.heap.size V V := Below.refl _ _
  have BB := BW
  refine wp_seq ?_
  obtain ⟨g4, egg4⟩ : ∃ z_ : Nat, V.heap.size = z_ := ⟨_, rfl⟩
  refine wi_ A (h4_ t0 t1 t2 t3) (rs_ 0 (fun a ee => ?_))
  refine stepV rfl rfl (execBoxW rfl (ee _)) ⟨.pointer (some ⟨g4, 0, none⟩), ⟨_, rfl, by subst egg4; rfl⟩, fun X0_1 hX => ?_⟩
  have bQ : Below V.heap.size V X0_1 := by subst hX egg4; exact (belNew V _)
  have Fg4 : (X0_1.heap[g4]? = some (.cells (wC nw ev) 25)) := by subst hX egg4; exact heapNew V _
  replace BB := BB.trans (bQ.mono BB.size)
  clear bQ hX egg4 ee a
  obtain ⟨g8, egg8⟩ : ∃ z_ : Nat, X0_1.heap.size = z_ := ⟨_, rfl⟩
  refine rs_ 1 (fun a ee => ?_)
  refine stepV rfl rfl (execAllW rfl) ⟨.pointer (some ⟨g8, 0, none⟩), ⟨_, rfl, by subst egg8; rfl⟩, fun X0 hX => ?_⟩
  have bQ : Below X0_1.heap.size X0_1 X0 := by subst hX egg8; exact (belNew X0_1 _)
  have Fg8 : (X0.heap[g8]? = some (.cells (wC 0 (.slice none 0 0)) 25)) := by subst hX egg8; exact heapNew X0_1 _
  have FGg8 : (V.heap.size ≤ g8) := by subst hX egg8; exact (BB).size
  replace Fg4 := (on9 Fg4 bQ)
  replace BB := BB.trans (bQ.mono BB.size)
  clear bQ hX egg8 ee a
  refine rf_ [(4, .pointer (some ⟨g4, 0, none⟩)), (8, .pointer (some ⟨g8, 0, none⟩))] (h3_ t1 t2 t3) ?_
  rintro a A ⟨t4, t8, -⟩ ⟨t1, t2, t3, -⟩
  refine wp_seq ?_
  refine wp_seq ?_
  by_cases h1 : ¬ (0 ≤ r ∧ r ≤ 4096)
  · refine wi_ A (h5_ t1 t2 t3 t4 t8) (rc_ 1 (proom_f r X0 h1) (cb_ fun X1 bQ => ?_))
    replace Fg4 := (on9 Fg4 bQ)
    replace Fg8 := (on9 Fg8 bQ)
    replace BB := BB.trans (bQ.mono BB.size)
    clear bQ
    refine rv_ 2 (.bool true) (fun a ee => execNot8 (b := false) rfl (ee _)) (rf_ [(21, .bool true)] (h5_ t1 t2 t3 t4 t8) ?_)
    rintro a A ⟨t21, -⟩ ⟨t1, t2, t3, t4, t8, -⟩
    refine wp_cond_true t21 ?_
    clear t21
    refine wp_seq ?_
    clear Fg4 t4
    refine wi_ A (h4_ t1 t2 t3 t8) (rv_ 0 (.agg (wC 0 (.slice none 0 0))) (fun a ee => execBdW0 rfl) (rs_ 1 (fun a ee => ?_)))
    refine stepS rfl rfl (execStWn rfl (ee _) (ee _) Fg8 rfl) ⟨_, ⟨_, rfl, rfl⟩, fun X2 hX => ?_⟩
    obtain ⟨BB, Fg8s⟩ : Below V.heap.size V X2 ∧ (X2.heap[g8]? = some (.cells (wC 0 (.slice none 0 0)) 25)) := by subst hX; exact ⟨below4 BB FGg8 _, setRow_heap _ _ _ _ _ _ Fg8⟩
    clear Fg8 hX ee a
    refine rf_ [(9, .int .i64 ((2 : Nat) : Int))] (h1_ t8) ?_
    rintro a A ⟨t9, -⟩ ⟨t8, -⟩
    rw [show wAdd (nw, esL n nu ln t) ep (tgL m tg) r = ((0, []), 2) from if_neg (fun h_ => h1 ⟨h_.1, h_.2.1⟩)]
    refine wp_ret ?_
    repeat (first | with_reducible refine ret_in ?_ | with_reducible refine ret_then ?_)
    refine bodyPost_ret (results_cell_tmp1 Try.results20 _ _ g8 25 _ (0, 0) _ t8 Fg8s Try.underlying25 rfl (sizeW _ _)) A.2 ⟨⟨.slice none 0 0, 0, fun _ => 0, fun _ => undef, fun _ => 0, fun _ _ _ => 0, ?_, rfl, NwE.zero _ _ _ _ _ _⟩, BB⟩
    show Ending.returned (.tuple #[.agg (wC 0 (.slice none 0 0)), a.eval (.tmp 9)]) = _
    rw [t9]
  · have h1 := Classical.not_not.1 h1
    by_cases h2 : ¬ Rgt (nw, esL n nu ln t) 8 4096
    · have hck : wChk (nw, esL n nu ln t) 8 4096 ≠ 0 := by unfold wChk; rw [if_neg h2]; decide
      refine wi_ A (h5_ t1 t2 t3 t4 t8) (rc_ 1 (proom_t r X0 h1) (cb_ fun X1_1 bQ => ?_))
      replace Fg4 := (on9 Fg4 bQ)
      replace Fg8 := (on9 Fg8 bQ)
      replace BB := BB.trans (bQ.mono BB.size)
      clear bQ
      refine rv_ 2 (.bool false) (fun a ee => execNot8 (b := true) rfl (ee _)) (rv_ 4 (.agg (wC nw ev)) (fun a ee => execLdWn rfl (ee _) Fg4) (rc_ 5 (pcheck nw 8 4096 ev n nu tw ln t X1_1 (hE.on BB) hn hl hnw) (cb_ fun X1 bQ => ?_)))
      replace Fg4 := (on9 Fg4 bQ)
      replace Fg8 := (on9 Fg8 bQ)
      replace BB := BB.trans (bQ.mono BB.size)
      clear bQ
      refine rv_ 6 (.bool true) (fun a ee => execDec (execNeE (p := wChk (nw, esL n nu ln t) 8 4096) (q := 0) rfl (ee _) rfl) (decide_eq_true hck)) (rf_ [(21, .bool true)] (h5_ t1 t2 t3 t4 t8) ?_)
      rintro a A ⟨t21, -⟩ ⟨t1, t2, t3, t4, t8, -⟩
      refine wp_cond_true t21 ?_
      clear t21
      refine wp_seq ?_
      clear Fg4 t4
      refine wi_ A (h4_ t1 t2 t3 t8) (rv_ 0 (.agg (wC 0 (.slice none 0 0))) (fun a ee => execBdW0 rfl) (rs_ 1 (fun a ee => ?_)))
      refine stepS rfl rfl (execStWn rfl (ee _) (ee _) Fg8 rfl) ⟨_, ⟨_, rfl, rfl⟩, fun X2 hX => ?_⟩
      obtain ⟨BB, Fg8s⟩ : Below V.heap.size V X2 ∧ (X2.heap[g8]? = some (.cells (wC 0 (.slice none 0 0)) 25)) := by subst hX; exact ⟨below4 BB FGg8 _, setRow_heap _ _ _ _ _ _ Fg8⟩
      clear Fg8 hX ee a
      refine rf_ [(9, .int .i64 ((2 : Nat) : Int))] (h1_ t8) ?_
      rintro a A ⟨t9, -⟩ ⟨t8, -⟩
      rw [show wAdd (nw, esL n nu ln t) ep (tgL m tg) r = ((0, []), 2) from if_neg (fun h_ => h2 h_.2.2)]
      refine wp_ret ?_
      repeat (first | with_reducible refine ret_in ?_ | with_reducible refine ret_then ?_)
      refine bodyPost_ret (results_cell_tmp1 Try.results20 _ _ g8 25 _ (0, 0) _ t8 Fg8s Try.underlying25 rfl (sizeW _ _)) A.2 ⟨⟨.slice none 0 0, 0, fun _ => 0, fun _ => undef, fun _ => 0, fun _ _ _ => 0, ?_, rfl, NwE.zero _ _ _ _ _ _⟩, BB⟩
      show Ending.returned (.tuple #[.agg (wC 0 (.slice none 0 0)), a.eval (.tmp 9)]) = _
      rw [t9]
    · have h2 := Classical.not_not.1 h2
      have hck : wChk (nw, esL n nu ln t) 8 4096 = 0 := if_pos h2
      refine wi_ A (h5_ t1 t2 t3 t4 t8) (rc_ 1 (proom_t r X0 h1) (cb_ fun X1_1 bQ => ?_))
      replace Fg4 := (on9 Fg4 bQ)
      replace Fg8 := (on9 Fg8 bQ)
      replace BB := BB.trans (bQ.mono BB.size)
      clear bQ
      refine rv_ 2 (.bool false) (fun a ee => execNot8 (b := true) rfl (ee _)) (rv_ 4 (.agg (wC nw ev)) (fun a ee => execLdWn rfl (ee _) Fg4) (rc_ 5 (pcheck nw 8 4096 ev n nu tw ln t X1_1 (hE.on BB) hn hl hnw) (cb_ fun X1 bQ => ?_)))
      replace Fg4 := (on9 Fg4 bQ)
      replace Fg8 := (on9 Fg8 bQ)
      replace BB := BB.trans (bQ.mono BB.size)
      clear bQ
      refine rv_ 6 (.bool false) (fun a ee => execDec (execNeE (p := wChk (nw, esL n nu ln t) 8 4096) (q := 0) rfl (ee _) rfl) (decide_eq_false (fun q_ => q_ hck))) (rf_ [(21, .bool false)] (h5_ t1 t2 t3 t4 t8) ?_)
      rintro a A ⟨t21, -⟩ ⟨t1, t2, t3, t4, t8, -⟩
      refine wp_cond_false t21 ?_
      refine wp_skip ?_
      clear t21
      have hA_ : adA (nw, esL n nu ln t) r := ⟨h1.1, h1.2, h2⟩
      have hnw0 : 0 ≤ nw := h2.2.2.2.2.1
      have hnw1 : nw ≤ 4611686018427387904 := h2.2.2.2.2.2.1
      refine wp_seq ?_
      refine wp_seq ?_
      by_cases e1 : ep < 0
      · refine wi_ A (h5_ t1 t2 t3 t4 t8) (rv_ 1 (.bool true) (fun a ee => execDec (exIlss2 (p := ep) (q := 0) rfl (ee _) rfl) (decide_eq_true e1)) (rf_ [(37, .bool true)] (h5_ t1 t2 t3 t4 t8) ?_))
        rintro a A ⟨t37, -⟩ ⟨t1, t2, t3, t4, t8, -⟩
        refine wp_cond_true t37 ?_
        clear t37
        refine wp_seq ?_
        clear Fg4 t4
        refine wi_ A (h4_ t1 t2 t3 t8) (rv_ 0 (.agg (wC 0 (.slice none 0 0))) (fun a ee => execBdW0 rfl) (rs_ 1 (fun a ee => ?_)))
        refine stepS rfl rfl (execStWn rfl (ee _) (ee _) Fg8 rfl) ⟨_, ⟨_, rfl, rfl⟩, fun X4 hX => ?_⟩
        obtain ⟨BB, Fg8s⟩ : Below V.heap.size V X4 ∧ (X4.heap[g8]? = some (.cells (wC 0 (.slice none 0 0)) 25)) := by subst hX; exact ⟨below4 BB FGg8 _, setRow_heap _ _ _ _ _ _ Fg8⟩
        clear Fg8 hX ee a
        refine rf_ [(9, .int .i64 ((161 : Nat) : Int))] (h1_ t8) ?_
        rintro a A ⟨t9, -⟩ ⟨t8, -⟩
        rw [show wAdd (nw, esL n nu ln t) ep (tgL m tg) r = ((0, []), 161) from (if_pos hA_).trans (if_neg (fun h_ => by have q_ : 0 ≤ ep := h_.1; omega))]
        refine wp_ret ?_
        repeat (first | with_reducible refine ret_in ?_ | with_reducible refine ret_then ?_)
        refine bodyPost_ret (results_cell_tmp1 Try.results20 _ _ g8 25 _ (0, 0) _ t8 Fg8s Try.underlying25 rfl (sizeW _ _)) A.2 ⟨⟨.slice none 0 0, 0, fun _ => 0, fun _ => undef, fun _ => 0, fun _ _ _ => 0, ?_, rfl, NwE.zero _ _ _ _ _ _⟩, BB⟩
        show Ending.returned (.tuple #[.agg (wC 0 (.slice none 0 0)), a.eval (.tmp 9)]) = _
        rw [t9]
      · by_cases e2 : ep > nw
        · refine wi_ A (h5_ t1 t2 t3 t4 t8) (rv_ 1 (.bool false) (fun a ee => execDec (exIlss2 (p := ep) (q := 0) rfl (ee _) rfl) (decide_eq_false e1)) (rv_ 4 (.pointer (some ⟨g4, 0, none⟩)) (fun a ee => execFldW0 rfl (ee _)) (rv_ 5 (.int .i64 nw) (fun a ee => execLd2 rfl (ee _) (wC_0 Fg4)) (rv_ 6 (.bool true) (fun a ee => execDec (exIgtr2 (p := ep) (q := nw) rfl (ee _) (ee _)) (decide_eq_true e2)) (rf_ [(37, .bool true)] (h5_ t1 t2 t3 t4 t8) ?_)))))
          rintro a A ⟨t37, -⟩ ⟨t1, t2, t3, t4, t8, -⟩
          refine wp_cond_true t37 ?_
          clear t37
          refine wp_seq ?_
          clear Fg4 t4
          refine wi_ A (h4_ t1 t2 t3 t8) (rv_ 0 (.agg (wC 0 (.slice none 0 0))) (fun a ee => execBdW0 rfl) (rs_ 1 (fun a ee => ?_)))
          refine stepS rfl rfl (execStWn rfl (ee _) (ee _) Fg8 rfl) ⟨_, ⟨_, rfl, rfl⟩, fun X4 hX => ?_⟩
          obtain ⟨BB, Fg8s⟩ : Below V.heap.size V X4 ∧ (X4.heap[g8]? = some (.cells (wC 0 (.slice none 0 0)) 25)) := by subst hX; exact ⟨below4 BB FGg8 _, setRow_heap _ _ _ _ _ _ Fg8⟩
          clear Fg8 hX ee a
          refine rf_ [(9, .int .i64 ((161 : Nat) : Int))] (h1_ t8) ?_
          rintro a A ⟨t9, -⟩ ⟨t8, -⟩
          rw [show wAdd (nw, esL n nu ln t) ep (tgL m tg) r = ((0, []), 161) from (if_pos hA_).trans (if_neg (fun h_ => by have q_ : ep ≤ nw := h_.2.1; omega))]
          refine wp_ret ?_
          repeat (first | with_reducible refine ret_in ?_ | with_reducible refine ret_then ?_)
          refine bodyPost_ret (results_cell_tmp1 Try.results20 _ _ g8 25 _ (0, 0) _ t8 Fg8s Try.underlying25 rfl (sizeW _ _)) A.2 ⟨⟨.slice none 0 0, 0, fun _ => 0, fun _ => undef, fun _ => 0, fun _ _ _ => 0, ?_, rfl, NwE.zero _ _ _ _ _ _⟩, BB⟩
          show Ending.returned (.tuple #[.agg (wC 0 (.slice none 0 0)), a.eval (.tmp 9)]) = _
          rw [t9]
        · by_cases e3 : ep ≤ nw - 8
          · refine wi_ A (h5_ t1 t2 t3 t4 t8) (rv_ 1 (.bool false) (fun a ee => execDec (exIlss2 (p := ep) (q := 0) rfl (ee _) rfl) (decide_eq_false e1)) (rv_ 4 (.pointer (some ⟨g4, 0, none⟩)) (fun a ee => execFldW0 rfl (ee _)) (rv_ 5 (.int .i64 nw) (fun a ee => execLd2 rfl (ee _) (wC_0 Fg4)) (rv_ 6 (.bool false) (fun a ee => execDec (exIgtr2 (p := ep) (q := nw) rfl (ee _) (ee _)) (decide_eq_false e2)) (rv_ 10 (.pointer (some ⟨g4, 0, none⟩)) (fun a ee => execFldW0 rfl (ee _)) (rv_ 11 (.int .i64 nw) (fun a ee => execLd2 rfl (ee _) (wC_0 Fg4)) (rv_ 12 (.int .i64 (nw - 8)) (fun a ee => execSub2 (z := (nw - 8)) rfl (ee _) rfl rfl (by omega) (by omega)) (rv_ 13 (.bool true) (fun a ee => execDec (exIleq2 (p := ep) (q := (nw - 8)) rfl (ee _) (ee _)) (decide_eq_true e3)) (rf_ [(37, .bool true)] (h5_ t1 t2 t3 t4 t8) ?_)))))))))
            rintro a A ⟨t37, -⟩ ⟨t1, t2, t3, t4, t8, -⟩
            refine wp_cond_true t37 ?_
            clear t37
            refine wp_seq ?_
            clear Fg4 t4
            refine wi_ A (h4_ t1 t2 t3 t8) (rv_ 0 (.agg (wC 0 (.slice none 0 0))) (fun a ee => execBdW0 rfl) (rs_ 1 (fun a ee => ?_)))
            refine stepS rfl rfl (execStWn rfl (ee _) (ee _) Fg8 rfl) ⟨_, ⟨_, rfl, rfl⟩, fun X4 hX => ?_⟩
            obtain ⟨BB, Fg8s⟩ : Below V.heap.size V X4 ∧ (X4.heap[g8]? = some (.cells (wC 0 (.slice none 0 0)) 25)) := by subst hX; exact ⟨below4 BB FGg8 _, setRow_heap _ _ _ _ _ _ Fg8⟩
            clear Fg8 hX ee a
            refine rf_ [(9, .int .i64 ((161 : Nat) : Int))] (h1_ t8) ?_
            rintro a A ⟨t9, -⟩ ⟨t8, -⟩
            rw [show wAdd (nw, esL n nu ln t) ep (tgL m tg) r = ((0, []), 161) from (if_pos hA_).trans (if_neg (fun h_ => by have q_ : nw - 8 < ep := h_.2.2; omega))]
            refine wp_ret ?_
            repeat (first | with_reducible refine ret_in ?_ | with_reducible refine ret_then ?_)
            refine bodyPost_ret (results_cell_tmp1 Try.results20 _ _ g8 25 _ (0, 0) _ t8 Fg8s Try.underlying25 rfl (sizeW _ _)) A.2 ⟨⟨.slice none 0 0, 0, fun _ => 0, fun _ => undef, fun _ => 0, fun _ _ _ => 0, ?_, rfl, NwE.zero _ _ _ _ _ _⟩, BB⟩
            show Ending.returned (.tuple #[.agg (wC 0 (.slice none 0 0)), a.eval (.tmp 9)]) = _
            rw [t9]
          · refine wi_ A (h5_ t1 t2 t3 t4 t8) (rv_ 1 (.bool false) (fun a ee => execDec (exIlss2 (p := ep) (q := 0) rfl (ee _) rfl) (decide_eq_false e1)) (rv_ 4 (.pointer (some ⟨g4, 0, none⟩)) (fun a ee => execFldW0 rfl (ee _)) (rv_ 5 (.int .i64 nw) (fun a ee => execLd2 rfl (ee _) (wC_0 Fg4)) (rv_ 6 (.bool false) (fun a ee => execDec (exIgtr2 (p := ep) (q := nw) rfl (ee _) (ee _)) (decide_eq_false e2)) (rv_ 10 (.pointer (some ⟨g4, 0, none⟩)) (fun a ee => execFldW0 rfl (ee _)) (rv_ 11 (.int .i64 nw) (fun a ee => execLd2 rfl (ee _) (wC_0 Fg4)) (rv_ 12 (.int .i64 (nw - 8)) (fun a ee => execSub2 (z := (nw - 8)) rfl (ee _) rfl rfl (by omega) (by omega)) (rv_ 13 (.bool false) (fun a ee => execDec (exIleq2 (p := ep) (q := (nw - 8)) rfl (ee _) (ee _)) (decide_eq_false e3)) (rf_ [(37, .bool false)] (h5_ t1 t2 t3 t4 t8) ?_)))))))))
            rintro a A ⟨t37, -⟩ ⟨t1, t2, t3, t4, t8, -⟩
            refine wp_cond_false t37 ?_
            refine wp_skip ?_
            clear t37
            have hB_ : adB (nw, esL n nu ln t) ep := ⟨by show 0 ≤ ep; omega, by show ep ≤ nw; omega, by show nw - 8 < ep; omega⟩
            replace hE := (hE.on BB)
            replace hTg := (hTg.on BB)
            replace BW := BW.trans (BB.mono BW.size)
            clear BB
            have BB : Below X1.heap.size X1 X1 := Below.refl _ _
            have hRs : RsOk nw 8 n nu := ⟨fun j_ hj_ => by have q_ := (each_iff (P := fun x => OkE nw 8 x)).1 h2.2.2.2.2.2.2.2.1 j_ hj_; exact ⟨q_.1, q_.2.1, q_.2.2.1⟩, rise_iff.1 h2.2.2.2.2.2.2.2.2.1⟩
            have hn8 : n ≤ 8 := few hRs.2 (fun j_ hj_ => ⟨(hRs.1 j_ hj_).2.1, (hRs.1 j_ hj_).2.2⟩) (Int.le_refl _)
            have hal := al_few n hl
            have hlen := al_len (nu := nu) (t := t) n (ln := ln)
            have hsum := sW_fit (nu := nu) (t := t) n (ln := ln) (by omega)
            have h4k : ((wLen (esL n nu ln t) : Nat) : Int) ≤ 4096 := h2.2.2.2.2.2.2.1
            have hln4 : ∀ j, j < n → ln j ≤ 4096 := fun j_ hj_ => by have q_ := ln_le_all (nu := nu) (t := t) hj_ (ln := ln); omega
            have hnd : (wAll (esL n nu ln t)).Nodup := h2.2.2.2.2.2.2.2.2.2
            refine wp_seq ?_
            refine wi_ A (h5_ t1 t2 t3 t4 t8) (rv_ 0 (.agg (wC nw ev)) (fun a ee => execLdWn rfl (ee _) (on9 Fg4 BB)) (rc_ 2 (pnewTags nw ev n nu tw ln t X1 (hE.on BB) hn hl v m tg (hTg.on BB) hm) fun e X5 hh => ?_))
            obtain ⟨⟨rf, kf, qf, he, hk, hk2⟩, hb⟩ := hh
            refine ⟨_, he, ?_⟩
            have bQ : Below X1.heap.size X1 X5 := hb
            have FT : (X5.ownsRow X1.heap.size 34 16 rf (kf) (tgV (qf) (kf))) := ownE_base hk (BB).size
            have FQ : ((∀ j, j < kf → ∀ i, i < 16 → qf j i < 256) ∧ (tgL kf qf).Nodup ∧ (∀ x, x ∈ tgL kf qf ↔ x ∈ tgL m tg ∧ x ∉ wAll (esL n nu ln t)) ∧ kf ≤ m) := hk2
            replace BB := BB.trans (bQ.mono BB.size)
            clear bQ
            refine rf_ [(10, rf)] (h4_ t1 t3 t4 t8) ?_
            rintro a A ⟨t10, -⟩ ⟨t1, t3, t4, t8, -⟩
            obtain ⟨hqb, hqn, hqm, hkm⟩ := FQ
            have hfr : srt (tgL kf qf) = frs (esL n nu ln t) (tgL m tg) := inc_uniq inc_srt inc_frs fun x => by rw [mem_srt, hqm x, mem_frs]
            have hfl : (frs (esL n nu ln t) (tgL m tg)).length = kf := by rw [← hfr, srt_len.2 hqn, len_tgL]
            refine wp_seq ?_
            refine wp_seq ?_
            by_cases h5 : ((wLen (esL n nu ln t) + kf : Nat) : Int) > r
            · refine wi_ A (h5_ t1 t3 t4 t8 t10) (rv_ 0 (.agg (wC nw ev)) (fun a ee => execLdWn rfl (ee _) (on9 Fg4 BB)) (rc_ 1 (plen16 nw ev n nu tw ln t X5 (hE.on BB) hn) (cb_ fun X6 bQ => ?_)))
              replace FT := (own_below FT bQ)
              replace BB := BB.trans (bQ.mono BB.size)
              clear bQ
              refine rv_ 3 (.int .i64 ((kf : Nat) : Int)) (fun a ee => execLenTs (len := kf) rfl (ee _) (own_tgs FT hqb).shp) (rv_ 4 (.int .i64 ((wLen (esL n nu ln t) + kf : Nat) : Int)) (fun a ee => execAd8 (p := wLen (esL n nu ln t)) (q := kf) rfl ((ee _).trans (by rw [hsum]; rfl)) (ee _) (by omega)) (rv_ 6 (.bool true) (fun a ee => execDec (exIgtr3 (p := ((wLen (esL n nu ln t) + kf : Nat) : Int)) (q := r) rfl (ee _) (ee _)) (decide_eq_true h5)) (rf_ [(48, .bool true)] (h1_ t8) ?_)))
              rintro a A ⟨t48, -⟩ ⟨t8, -⟩
              refine wp_cond_true t48 ?_
              clear t48
              refine wp_seq ?_
              replace Fg8 := on9 Fg8 BB
              have BV := BW.trans (BB.mono BW.size)
              clear BB FT
              have BB := BV
              clear BV
              refine wi_ A (h1_ t8) (rv_ 0 (.agg (wC 0 (.slice none 0 0))) (fun a ee => execBdW0 rfl) (rs_ 1 (fun a ee => ?_)))
              refine stepS rfl rfl (execStWn rfl (ee _) (ee _) Fg8 rfl) ⟨_, ⟨_, rfl, rfl⟩, fun X7 hX => ?_⟩
              obtain ⟨BB, Fg8s⟩ : Below V.heap.size V X7 ∧ (X7.heap[g8]? = some (.cells (wC 0 (.slice none 0 0)) 25)) := by subst hX; exact ⟨below4 BB FGg8 _, setRow_heap _ _ _ _ _ _ Fg8⟩
              clear Fg8 hX ee a
              refine rf_ [(9, .int .i64 ((160 : Nat) : Int))] (h1_ t8) ?_
              rintro a A ⟨t9, -⟩ ⟨t8, -⟩
              rw [show wAdd (nw, esL n nu ln t) ep (tgL m tg) r = ((0, []), 160) from (if_pos hA_).trans ((if_pos hB_).trans (if_neg (fun h_ => by have q_ : ((wLen (esL n nu ln t) + (frs (esL n nu ln t) (tgL m tg)).length : Nat) : Int) ≤ r := h_; rw [hfl] at q_; omega)))]
              refine wp_ret ?_
              repeat (first | with_reducible refine ret_in ?_ | with_reducible refine ret_then ?_)
              refine bodyPost_ret (results_cell_tmp1 Try.results20 _ _ g8 25 _ (0, 0) _ t8 Fg8s Try.underlying25 rfl (sizeW _ _)) A.2 ⟨⟨.slice none 0 0, 0, fun _ => 0, fun _ => undef, fun _ => 0, fun _ _ _ => 0, ?_, rfl, NwE.zero _ _ _ _ _ _⟩, BB⟩
              show Ending.returned (.tuple #[.agg (wC 0 (.slice none 0 0)), a.eval (.tmp 9)]) = _
              rw [t9]
            · refine wi_ A (h5_ t1 t3 t4 t8 t10) (rv_ 0 (.agg (wC nw ev)) (fun a ee => execLdWn rfl (ee _) (on9 Fg4 BB)) (rc_ 1 (plen16 nw ev n nu tw ln t X5 (hE.on BB) hn) (cb_ fun X6 bQ => ?_)))
              replace FT := (own_below FT bQ)
              replace BB := BB.trans (bQ.mono BB.size)
              clear bQ
              refine rv_ 3 (.int .i64 ((kf : Nat) : Int)) (fun a ee => execLenTs (len := kf) rfl (ee _) (own_tgs FT hqb).shp) (rv_ 4 (.int .i64 ((wLen (esL n nu ln t) + kf : Nat) : Int)) (fun a ee => execAd8 (p := wLen (esL n nu ln t)) (q := kf) rfl ((ee _).trans (by rw [hsum]; rfl)) (ee _) (by omega)) (rv_ 6 (.bool false) (fun a ee => execDec (exIgtr3 (p := ((wLen (esL n nu ln t) + kf : Nat) : Int)) (q := r) rfl (ee _) (ee _)) (decide_eq_false h5)) (rf_ [(48, .bool false)] (h4_ t1 t4 t8 t10) ?_)))
              rintro a A ⟨t48, -⟩ ⟨t1, t4, t8, t10, -⟩
              refine wp_cond_false t48 ?_
              refine wp_skip ?_
              clear t48
              have hO : wAdd (nw, esL n nu ln t) ep (tgL m tg) r = ((nw, putW (esL n nu ln t) ep (frs (esL n nu ln t) (tgL m tg))), 0) := (if_pos hA_).trans ((if_pos hB_).trans (if_pos (by show ((wLen (esL n nu ln t) + (frs (esL n nu ln t) (tgL m tg)).length : Nat) : Int) ≤ r; rw [hfl]; omega)))
              rw [hO]
              refine wp_seq ?_
              obtain ⟨g11, egg11⟩ : ∃ z_ : Nat, X6.heap.size = z_ := ⟨_, rfl⟩
              refine wi_ A (h4_ t1 t4 t8 t10) (rv_ 0 (.pointer (some ⟨g4, 0, none⟩)) (fun a ee => execFldW0 rfl (ee _)) (rv_ 1 (.int .i64 nw) (fun a ee => execLd2 rfl (ee _) (wC_0 (on9 Fg4 BB))) (rv_ 2 (.agg (wC nw (.slice none 0 0))) (fun a ee => execBdW1 rfl (ee _)) (rs_ 3 (fun a ee => ?_)))))
              refine stepV rfl rfl (execAllW rfl) ⟨.pointer (some ⟨g11, 0, none⟩), ⟨_, rfl, by subst egg11; rfl⟩, fun X8_1 hX => ?_⟩
              have bQ : Below X6.heap.size X6 X8_1 := by subst hX egg11; exact (belNew X6 _)
              have Fg11 : (X8_1.heap[g11]? = some (.cells (wC 0 (.slice none 0 0)) 25)) := by subst hX egg11; exact heapNew X6 _
              have FGg11 : (X1.heap.size ≤ g11) := by subst hX egg11; exact (BB).size
              replace FT := (own_below FT bQ)
              replace BB := BB.trans (bQ.mono BB.size)
              clear bQ hX egg11 ee a
              refine rs_ 4 (fun a ee => ?_)
              refine stepS rfl rfl (execStWn rfl (ee _) (ee _) Fg11 rfl) ⟨_, ⟨_, rfl, rfl⟩, fun X8 hX => ?_⟩
              obtain ⟨BB, FT, Fg11s⟩ : Below X1.heap.size X1 X8 ∧ (X8.ownsRow X1.heap.size 34 16 rf (kf) (tgV (qf) (kf))) ∧ (X8.heap[g11]? = some (.cells (wC nw (.slice none 0 0)) 25)) := by subst hX; exact ⟨below4 BB FGg11 _, ownE_setT FT Fg11 (by decide), setRow_heap _ _ _ _ _ _ Fg11⟩
              clear Fg11 hX ee a
              refine rf_ [(11, .pointer (some ⟨g11, 0, none⟩))] (h4_ t1 t4 t8 t10) ?_
              rintro a A ⟨t11, -⟩ ⟨t1, t4, t8, t10, -⟩
              refine wp_seq ?_
              refine wp_seq ?_
              refine wi_ A (h5_ t1 t4 t8 t10 t11) (rv_ 0 (.pointer (some ⟨g4, 1, none⟩)) (fun a ee => execFldW1 rfl (ee _)) (rv_ 1 (ev) (fun a ee => execLdEs rfl (ee _) (wC_1 (on9 Fg4 BB))) (rv_ 2 (.int .i64 ((n : Nat) : Int)) (fun a ee => execLenEs (len := n) rfl (ee _) hE.shp) (rf_ [(54, ev), (55, .int .i64 ((n : Nat) : Int)), (56, .int .i64 ((0 : Nat) : Int))] (h4_ t1 t8 t10 t11) ?_))))
              rintro a A ⟨t54, t55, t56, -⟩ ⟨t1, t8, t10, t11, -⟩
              have FE : (NwE X1.heap.size X8 (.slice none 0 0) 0 nu (fun _ => undef) ln t) := NwE.zero _ _ _ _ _ _
              have Fo := Fg11s
              clear Fg11s
              refine wp_block ?_
              refine wp_loop (fun a W => ∃ (i : Nat) (ev2 : Value) (uw : Nat → Value), i ≤ n ∧ (a.tmps.size = 78 ∧ a.defers = []) ∧ a.eval (.tmp 1) = .int .i64 ep ∧ a.eval (.tmp 8) = .pointer (some ⟨g8, 0, none⟩) ∧ a.eval (.tmp 10) = rf ∧ a.eval (.tmp 11) = .pointer (some ⟨g11, 0, none⟩) ∧ a.eval (.tmp 54) = ev ∧ a.eval (.tmp 55) = .int .i64 ((n : Nat) : Int) ∧ a.eval (.tmp 56) = .int .i64 ((i : Nat) : Int) ∧ Below X1.heap.size X1 W ∧ (W.heap[g11]? = some (.cells (wC nw ev2) 25)) ∧ (NwE X1.heap.size W ev2 i nu uw ln t) ∧ (W.ownsRow X1.heap.size 34 16 rf (kf) (tgV (qf) (kf)))) (fun a _ => n - (intOf (a.eval (.tmp 56))).toNat) ⟨0, .slice none 0 0, fun _ => undef, Nat.zero_le _, A, t1, t8, t10, t11, t54, t55, t56, BB, Fo, FE, FT⟩ ?_
              clear A t1 t8 t10 t11 t54 t55 t56 BB Fo FE FT a
              rintro a XL10 ⟨i, ev2, uw, hi, A, t1, t8, t10, t11, t54, t55, t56, BB, Fo, FE, FT⟩
              have esi := t56
              refine wp_seq ?_
              refine wi_ A (h7_ t1 t8 t10 t11 t54 t55 t56) (rv_ 0 (.bool (decide (i < n))) (fun a ee => execLtW (p := i) (q := n) rfl (ee _) (ee _)) (rf_ [(57, .bool (decide (i < n)))] (h7_ t1 t8 t10 t11 t54 t55 t56) ?_))
              rintro a A ⟨t57, -⟩ ⟨t1, t8, t10, t11, t54, t55, t56, -⟩
              refine wp_seq ?_
              by_cases lti : i < n
              · rw [decide_eq_true lti] at t57
                refine wp_cond_true t57 ?_
                refine wp_skip ?_
                clear t57
                refine wp_seq ?_
                refine wp_block ?_
                have hTe := hE.lists i lti
                have hln := hl i lti
                have hln16 : ln i * 16 ≤ 140737488355328 := by omega
                have hnui := hE.nums i lti
                obtain ⟨eb, eo, ec, ee_, heb, hec⟩ := hE.at (show 0 < n by omega)
                have cE : ∀ X, Below X1.heap.size X1 X → X.cell? ⟨eb, eo + i * 2 + 1, none⟩ = some (tw i) := fun X hX => by rw [cell_below hX heb]; exact (hec i lti).2
                have cN : ∀ X, Below X1.heap.size X1 X → X.cell? ⟨eb, eo + i * 2 + 0, none⟩ = some (.int .i64 (nu i)) := fun X hX => by rw [cell_below hX heb]; exact (hec i lti).1
                refine wp_seq ?_
                obtain ⟨g13, egg13⟩ : ∃ z_ : Nat, XL10.heap.size = z_ := ⟨_, rfl⟩
                refine wi_ A (h7_ t1 t8 t10 t11 t54 t55 t56) (rv_ 0 (.pointer (some ⟨eb, eo + i * 2, none⟩)) (fun a ee => execIdxEs (k := i) rfl ((ee _).trans ee_) (ee _) (by omega)) (rv_ 1 (.agg (epC (nu i) (tw i))) (fun a ee => execLdEp rfl (ee _) (cN XL10 BB) (cE XL10 BB)) (rs_ 2 (fun a ee => ?_))))
                refine stepV rfl rfl (execAllEp rfl) ⟨.pointer (some ⟨g13, 0, none⟩), ⟨_, rfl, by subst egg13; rfl⟩, fun X11_1 hX => ?_⟩
                have bQ : Below XL10.heap.size XL10 X11_1 := by subst hX egg13; exact (belNew XL10 _)
                have Fg13 : (X11_1.heap[g13]? = some (.cells (epC 0 (.slice none 0 0)) 52)) := by subst hX egg13; exact heapNew XL10 _
                have FGe : (X1.heap.size ≤ g13) := by subst hX egg13; exact (BB).size
                have FD : (ev2.ownBlock ≠ some g13) := by subst hX egg13; exact fun q_ => Nat.lt_irrefl _ (FE.lt.1 _ q_)
                replace Fo := (on9 Fo bQ)
                replace FE := (FE.on bQ)
                replace FT := (own_below FT bQ)
                replace BB := BB.trans (bQ.mono BB.size)
                clear bQ hX egg13 ee a
                refine rs_ 3 (fun a ee => ?_)
                refine stepS rfl rfl (execStEp rfl (ee _) (ee _) Fg13 (by obtain ⟨_, _, e_⟩ := hTe.shp; rw [e_]; rfl)) ⟨_, ⟨_, rfl, rfl⟩, fun X11 hX => ?_⟩
                obtain ⟨BB, Fo, FE, FT, Fe⟩ : Below X1.heap.size X1 X11 ∧ (X11.heap[g11]? = some (.cells (wC nw ev2) 25)) ∧ (NwE X1.heap.size X11 ev2 i nu uw ln t) ∧ (X11.ownsRow X1.heap.size 34 16 rf (kf) (tgV (qf) (kf))) ∧ (X11.heap[g13]? = some (.cells (epC (nu i) (tw i)) 52)) := by subst hX; exact ⟨below4 BB FGe _, (by rw [setRow_other _ _ _ _ (ne_type Fg13 Fo (by decide))]; exact Fo), (FE).setE Fg13 FD, ownE_setT FT Fg13 (by decide), setRow_heap _ _ _ _ _ _ Fg13⟩
                clear Fg13 hX ee a
                refine rf_ [(13, .pointer (some ⟨g13, 0, none⟩))] (h7_ t1 t8 t10 t11 t54 t55 t56) ?_
                rintro a A ⟨t13, -⟩ ⟨t1, t8, t10, t11, t54, t55, t56, -⟩
                clear FGe FD
                have hlo : ∀ j_, j_ < i → ∀ b_, (uw j_).ownBlock = some b_ → b_ < X11.heap.size := FE.lt.2
                have hCB : X1.heap.size ≤ X11.heap.size := BB.size
                have FZ : X11.heap.size ≤ X11.heap.size := Nat.le_refl _
                refine wj_ [0, 1, 2, 3, 4, 5, 6, 7] [3, 4, 5, 7] [1, 2] [5, 7] A (h8_ t1 t8 t10 t11 t54 t55 t56 t13) (fun X12_0 bD => ?_)
                refine dw_ 0 (.pointer (some ⟨g11, 1, none⟩)) (fun a X ee => execFldW1 rfl (ee _)) (dv_ 1 (ev2) (fun a X ee hb => execLdEs rfl (ee _) (wC_1 (on9 Fo hb))) (dv_ 2 (.agg (epC (nu i) (tw i))) (fun a X ee hb => execLdEp rfl (ee _) (epC_0 (on9 Fe hb)) (epC_1 (on9 Fe hb))) (dc_ 3 (pcopyOf (nu i) (tw i) (ln i) (t i) X12_0 (hTe.on (BB.trans (bD.mono BB.size))) hln16) fun e X12_1 hh => ?_)))
                obtain ⟨⟨v63, he, hk⟩, hb⟩ := hh
                refine ⟨_, he, ?_⟩
                have bQ : Below X12_0.heap.size X12_0 X12_1 := hb
                have FC : (X12_1.ownsRow X11.heap.size 34 16 v63 (ln i) (tgV (t i) (ln i))) := ownE_base hk (Nat.le_trans FZ (bD).size)
                replace bD := bD.trans (bQ.mono bD.size)
                clear bQ
                refine ⟨Or.inr bD, ?_⟩
                obtain ⟨g64, egg64⟩ : ∃ z_ : Nat, X12_1.heap.size = z_ := ⟨_, rfl⟩
                refine ds_ 4 (fun a ee => ?_)
                refine stepV rfl rfl (execBsEp rfl (ee _) (ownE_shp FC)) ⟨.slice (some ⟨g64, 0, none⟩) 1 1, ⟨_, rfl, by subst egg64; rfl⟩, fun X12_2 hX => ?_⟩
                have bQ : Below X12_1.heap.size X12_1 X12_2 := by subst hX egg64; exact (belNew X12_1 _)
                have Fg64 : (X12_2.heap[g64]? = some (.cells (epC (nu i) v63) 52)) := by subst hX egg64; exact heapNew X12_1 _
                replace FC := (ownE_below FC bQ)
                replace bD := bD.trans (bQ.mono bD.size)
                clear bQ hX egg64 ee a
                refine ⟨Or.inr bD, ?_⟩
                refine ds_ 5 (fun a ee => ?_)
                refine stepAppE rfl rfl rfl (ee _) (ee _) (FE.on bD).row Fg64 (slc_one (ownE_shp FC)) (by omega) ((BB.trans (bD.mono BB.size))).size fun v65 X12_3 own' gr => ⟨_, ⟨_, rfl, rfl⟩, eqw ?_⟩
                obtain ⟨BB, Fo, FT, FE2⟩ : Below X1.heap.size X1 X12_3 ∧ (X12_3.heap[g11]? = some (.cells (wC nw ev2) 25)) ∧ (X12_3.ownsRow X1.heap.size 34 16 rf (kf) (tgV (qf) (kf))) ∧ (NwE X1.heap.size X12_3 v65 (i + 1) (up nu i (nu i)) (up uw i v63) (up ln i (ln i)) (up t i (t i))) := ⟨((BB.trans (bD.mono BB.size))).grown gr ((BB.trans (bD.mono BB.size))).size (fun k hk => ((FE.on bD).row.lt k hk).1), heapE_over (FE.on bD).row gr (on9 Fo bD) (by decide), ownE_over (own_below FT bD) (FE.on bD).row gr (by decide), ((FE.on bD)).push FC hlo hCB hTe.byt hnui own' gr⟩
                clear bD FE Fg64 Fe FC FZ ee a
                refine ⟨Or.inl rfl, ?_⟩
                refine dw_ 6 (.pointer (some ⟨g11, 1, none⟩)) (fun a X ee => execFldW1 rfl (ee _)) (ds_ 7 (fun a ee => ?_))
                refine stepS rfl rfl (execStEs rfl (ee _) (ee _) (ownE_shp FE2.row) (wC_1 Fo) (frozen4 Fo)) ⟨_, ⟨_, rfl, rfl⟩, fun X12 hX => ?_⟩
                obtain ⟨BB, FT, FE2, Fo2⟩ : Below X1.heap.size X1 X12 ∧ (X12.ownsRow X1.heap.size 34 16 rf (kf) (tgV (qf) (kf))) ∧ (NwE X1.heap.size X12 v65 (i + 1) (up nu i (nu i)) (up uw i v63) (up ln i (ln i)) (up t i (t i))) ∧ (X12.heap[g11]? = some (.cells (wC nw v65) 25)) := by subst hX; exact ⟨(BB).setCell FGg11 _, ownE_setC FT Fo (by decide), (FE2).setC Fo (by decide) (by decide), wC_set Fo⟩
                clear Fo hX ee a
                refine ⟨Or.inl rfl, ?_⟩
                refine dz_ [] (h7_ t1 t8 t10 t11 t54 t55 t56) ?_
                rintro a A - ⟨t1, t8, t10, t11, t54, t55, t56, -⟩
                rw [up_self, up_self, up_self] at FE2
                refine wi_ A (h7_ t1 t8 t10 t11 t54 t55 t56) (rv_ 0 (.int .i64 ((i + 1 : Nat) : Int)) (fun a ee => execAd8 (p := i) (q := 1) rfl (ee _) rfl (by omega)) (rf_ [(56, .int .i64 ((i + 1 : Nat) : Int))] (h6_ t1 t8 t10 t11 t54 t55) ?_))
                rintro a A ⟨t56, -⟩ ⟨t1, t8, t10, t11, t54, t55, -⟩
                exact ⟨⟨i + 1, v65, up uw i v63, lti, A, t1, t8, t10, t11, t54, t55, t56, BB, Fo2, FE2, FT⟩, by show n - (intOf (a.eval (.tmp 56))).toNat < n - (intOf (Act.eval _ (.tmp 56))).toNat; rw [t56, esi]; show n - (i + 1) < n - i; omega⟩
              · rw [decide_eq_false lti] at t57
                refine wp_cond_false t57 ?_
                refine wp_exit ?_
                first | with_reducible refine exit_in ?_ | with_reducible refine exit_then (exit_in ?_) | with_reducible refine exit_then (exit_then (exit_in ?_)) | refine exit_in ?_ | refine exit_then (exit_in ?_) | refine exit_then (exit_then (exit_in ?_))
                clear t57 esi
                have ein : i = n := by omega
                rw [ein] at FE
                clear t54 t55 t56
                refine wp_seq ?_
                refine wp_seq ?_
                by_cases hk0 : 0 < kf
                · refine wi_ A (h4_ t1 t8 t10 t11) (rv_ 1 (.int .i64 ((kf : Nat) : Int)) (fun a ee => execLenTs (len := kf) rfl (ee _) (own_tgs FT hqb).shp) (rv_ 2 (.bool true) (fun a ee => execDec (execGtN (p := kf) (q := 0) rfl (ee _) rfl) (decide_eq_true (by omega))) (rf_ [(70, .bool true)] (h4_ t1 t8 t10 t11) ?_)))
                  rintro a A ⟨t70, -⟩ ⟨t1, t8, t10, t11, -⟩
                  refine wp_cond_true t70 ?_
                  clear t70
                  refine wi_ A (h4_ t1 t8 t10 t11) (rv_ 0 (.pointer (some ⟨g11, 1, none⟩)) (fun a ee => execFldW1 rfl (ee _)) (rv_ 1 (ev2) (fun a ee => execLdEs rfl (ee _) (wC_1 Fo)) (rc_ 4 (pput ev2 rf ep n kf nu uw ln t qf X1.heap.size XL10 FE FT hqb (by omega) (by omega) hln4 hn8 hep hqn (fun j_ hj_ => nodup_put hnd hj_ hqn (fun x hx => ((hqm x).1 hx).2)) (BB).size) fun e_ X15_1 hh => ?_)))
                  obtain ⟨r75, n2, nu2, tw2, ln2, t2, he, hk, hes, hkb⟩ := hh
                  refine ⟨_, he, ?_⟩
                  obtain ⟨BB, Fo, FE2, FXs⟩ : Below X1.heap.size X1 X15_1 ∧ (X15_1.heap[g11]? = some (.cells (wC nw ev2) 25)) ∧ (NwE X1.heap.size X15_1 r75 (n2) (nu2) (tw2) (ln2) (t2)) ∧ (esL n2 nu2 ln2 t2 = putE (esL n nu ln t) ep (srt (tgL kf qf))) := ⟨(BB).trans hkb.bel, hkb.kp _ _ _ (by decide) (by decide) Fo, hk, hes⟩
                  clear FE FT
                  refine rv_ 5 (.pointer (some ⟨g11, 1, none⟩)) (fun a ee => execFldW1 rfl (ee _)) (rs_ 6 (fun a ee => ?_))
                  refine stepS rfl rfl (execStEs rfl (ee _) (ee _) (ownE_shp FE2.row) (wC_1 Fo) (frozen4 Fo)) ⟨_, ⟨_, rfl, rfl⟩, fun X15 hX => ?_⟩
                  obtain ⟨BB, FE2, Fo2⟩ : Below X1.heap.size X1 X15 ∧ (NwE X1.heap.size X15 r75 (n2) (nu2) (tw2) (ln2) (t2)) ∧ (X15.heap[g11]? = some (.cells (wC nw r75) 25)) := by subst hX; exact ⟨(BB).setCell FGg11 _, (FE2).setC Fo (by decide) (by decide), wC_set Fo⟩
                  clear Fo hX ee a
                  refine rf_ [] (h2_ t8 t11) ?_
                  rintro a A - ⟨t8, t11, -⟩
                  replace Fg8 := on9 Fg8 BB
                  have BV := BW.trans (BB.mono BW.size)
                  replace FE2 := FE2.base BW.size
                  clear BB
                  have BB := BV
                  clear BV
                  refine wp_seq ?_
                  refine wi_ A (h2_ t8 t11) (rv_ 0 (.agg (wC nw r75)) (fun a ee => execLdWn rfl (ee _) Fo2) (rs_ 1 (fun a ee => ?_)))
                  refine stepS rfl rfl (execStWn rfl (ee _) (ee _) Fg8 (slc_one (ownE_shp FE2.row))) ⟨_, ⟨_, rfl, rfl⟩, fun X16 hX => ?_⟩
                  obtain ⟨BB, FE2, Fr⟩ : Below V.heap.size V X16 ∧ (NwE V.heap.size X16 r75 n2 nu2 tw2 ln2 t2) ∧ (X16.heap[g8]? = some (.cells (wC nw r75) 25)) := by subst hX; exact ⟨below4 BB FGg8 _, (FE2).setW Fg8 (by decide) (by decide), setRow_heap _ _ _ _ _ _ Fg8⟩
                  clear Fg8 Fo2 hX ee a
                  refine rf_ [(9, .int .i64 ((0 : Nat) : Int))] (h1_ t8) ?_
                  rintro a A ⟨t9, -⟩ ⟨t8, -⟩
                  refine wp_ret ?_
                  refine bodyPost_ret (results_cell_tmp1 Try.results20 _ _ g8 25 _ (0, 0) _ t8 Fr Try.underlying25 rfl (sizeW _ _)) A.2 ⟨⟨r75, _, _, _, _, _, ?_, by rw [FXs, hfr, putW, if_neg (fun q_ => by rw [q_] at hfl; have : kf = 0 := hfl.symm; omega)], FE2⟩, BB⟩
                  show Ending.returned (.tuple #[.agg (wC nw r75), a.eval (.tmp 9)]) = _
                  rw [t9]
                · refine wi_ A (h4_ t1 t8 t10 t11) (rv_ 1 (.int .i64 ((kf : Nat) : Int)) (fun a ee => execLenTs (len := kf) rfl (ee _) (own_tgs FT hqb).shp) (rv_ 2 (.bool false) (fun a ee => execDec (execGtN (p := kf) (q := 0) rfl (ee _) rfl) (decide_eq_false (by omega))) (rf_ [(70, .bool false)] (h4_ t1 t8 t10 t11) ?_)))
                  rintro a A ⟨t70, -⟩ ⟨t1, t8, t10, t11, -⟩
                  refine wp_cond_false t70 ?_
                  refine wp_skip ?_
                  clear t70
                  replace Fg8 := on9 Fg8 BB
                  have BV := BW.trans (BB.mono BW.size)
                  replace FE := FE.base BW.size
                  clear BB
                  have BB := BV
                  clear BV
                  refine wp_seq ?_
                  refine wi_ A (h2_ t8 t11) (rv_ 0 (.agg (wC nw ev2)) (fun a ee => execLdWn rfl (ee _) Fo) (rs_ 1 (fun a ee => ?_)))
                  refine stepS rfl rfl (execStWn rfl (ee _) (ee _) Fg8 (slc_one (ownE_shp FE.row))) ⟨_, ⟨_, rfl, rfl⟩, fun X16 hX => ?_⟩
                  obtain ⟨BB, FE, Fr⟩ : Below V.heap.size V X16 ∧ (NwE V.heap.size X16 ev2 n nu uw ln t) ∧ (X16.heap[g8]? = some (.cells (wC nw ev2) 25)) := by subst hX; exact ⟨below4 BB FGg8 _, (FE).setW Fg8 (by decide) (by decide), setRow_heap _ _ _ _ _ _ Fg8⟩
                  clear Fg8 Fo hX ee a
                  refine rf_ [(9, .int .i64 ((0 : Nat) : Int))] (h1_ t8) ?_
                  rintro a A ⟨t9, -⟩ ⟨t8, -⟩
                  refine wp_ret ?_
                  refine bodyPost_ret (results_cell_tmp1 Try.results20 _ _ g8 25 _ (0, 0) _ t8 Fr Try.underlying25 rfl (sizeW _ _)) A.2 ⟨⟨ev2, _, _, _, _, _, ?_, by rw [putW, if_pos (List.eq_nil_of_length_eq_zero (by rw [hfl]; omega))], FE⟩, BB⟩
                  show Ending.returned (.tuple #[.agg (wC nw ev2), a.eval (.tmp 9)]) = _
                  rw [t9]
theorem impl16 : Impl where
  check nw s r ev n nu tw ln t V h _ _ := pcheck nw s r ev n nu tw ln t V h.eps h.n63 h.ln43 h.num
  len nw ev n nu tw ln t V h := plen16 nw ev n nu tw ln t V h.eps h.n63
  has nw ev n nu tw ln t f V hf h := phas16 nw ev n nu tw ln t V h.eps h.n63 h.ln43 f hf
  open_ nw ep s ev n nu tw ln t V h hs hep := popen16 nw ep s ev n nu tw ln t V h.eps h.n63 h.ln43 h.num hs hep h.n32
  add nw ep r ev n nu tw ln t V v m tg h hep _ hT hm := padd16 nw ep r ev n nu tw ln t V h.eps h.n63 h.ln43 h.num hep v m tg hT hm
end Go.Proofs.Ytijibdapooalcaa.Win
