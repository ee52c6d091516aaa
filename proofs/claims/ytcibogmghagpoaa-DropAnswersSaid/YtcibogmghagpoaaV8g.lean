import Derived.Test.YtcibogmghagpoaaV8f
namespace Go.Proofs.Ytcibogmghagpoaa.Dro
open Go.RowKit Gf8 Aes By8 Cel Cf Tap Drw
/- Stage 28: DropAnswers. Written by tools/mkV8g.py. -/

theorem ans28 (I : Impl) (n i : Nat) (ln : Nat → Nat) (c : Nat → Nat → Nat) (v : Value) (V : World) (hv : SliceN V v (xL n ln c i) (xF n ln c i)) (hz : ∀ l c, v = .slice none l c → c = 0) :
    Calls Try.prog 13 #[v] V fun e w' => (∃ r, e = .returned (.tuple #[.int .i64 ((kdF n ln c i : Nat) : Int), r, .int .i64 ((0 : Nat) : Int)]) ∧ SliceN w' r (xL n ln c i - 1) (anF (xF n ln c i))) ∧ Below V.heap.size V w' := by
  have hl := xL_le (n := n) (ln := ln) (c := c) (i := i)
  refine (I.answer _ _ v V hv hz (by omega)).mono ?_
  rintro e w' ⟨⟨r, he, hk⟩, hb⟩
  rw [show anH (xL n ln c i) (xF n ln c i) = kdF n ln c i from (if_pos an_x).trans (if_pos rfl), show anE (xL n ln c i) (xF n ln c i) = 0 from if_pos an_x] at he
  rw [show anN (xL n ln c i) (xF n ln c i) = xL n ln c i - 1 from if_pos an_x] at hk
  exact ⟨⟨r, he, own_slice hk fun j hj => hv.bytes (1 + j) (by omega)⟩, hb⟩
/-- A one, and a message. -/
def mtF (p : Nat → Nat) (j : Nat) : Nat := if j = 0 then 1 else p (8 + (j - 1))
theorem mt_at {p : Nat → Nat} (j : Nat) : p (8 + j) = mtF p (1 + j) := by
  unfold mtF
  rw [if_neg (by omega), Nat.add_sub_cancel_left]
theorem mt_lt {p : Nat → Nat} {l : Nat} (h : ∀ j, j < l → p j < 256) (j : Nat) (hj : j < 1 + (l - 8)) : mtF p j < 256 := by
  unfold mtF
  split
  · omega
  · exact h _ (by omega)
theorem x_met2 {n : Nat} {ln : Nat → Nat} {c : Nat → Nat → Nat} {i k j : Nat} (h : kdF n ln c k = 1) (h2 : paF n ln c k = i) : xF n ln c k j = mtF (c i) j := by
  unfold xF mtF
  rw [h, h2]
set_option maxRecDepth 100000 in
set_option maxHeartbeats 4000000 in
/-- DropAnswers. -/
theorem answers28 (I : Impl) (n : Nat) (cv : Value) (xv : Nat → Value) (ln : Nat → Nat) (c : Nat → Nat → Nat) (V : World) (hL : Ls V cv n xv ln c) :
    Calls Try.prog 7 #[cv] V fun e w' => e = .returned (.bool true) ∧ Below V.heap.size V w' := by
  go_enter Try.func7, Try.ntmps7
  refine wo_ 136 [(0, cv)] ?_
  rintro a A ⟨t0, -⟩
  have BW : Below V.heap.size V V := Below.refl _ _
  have BB := BW
  refine wp_seq ?_
  refine wi_ A (h1_ t0) (rf_ [] (h1_ t0) ?_)
  rintro a A - ⟨t0, -⟩
  refine wp_seq ?_
  refine wp_seq ?_
  refine wi_ A (h1_ t0) (rc_ 0 (awake28 I V) (cb_ fun X1 bQ => ?_))
  replace BB := BB.trans (bQ.mono BB.size)
  clear bQ
  refine rv_ 1 (.bool false) (fun a ee => execNot8 (b := true) rfl (ee _)) (rf_ [(13, .bool false)] (h1_ t0) ?_)
  rintro a A ⟨t13, -⟩ ⟨t0, -⟩
  refine wp_cond_false t13 ?_
  refine wp_skip ?_
  clear t13
  refine wp_seq ?_
  refine wp_seq ?_
  refine wi_ A (h1_ t0) (rc_ 1 (great28 n _ xv ln c X1 (hL.on BB)) fun e X3 hh => ?_)
  obtain ⟨⟨b15, he, hk⟩, hb⟩ := hh
  refine ⟨_, he, ?_⟩
  have bQ : Below X1.heap.size X1 X3 := hb
  have FG : (b15 = false → n ≤ 2048 ∧ ∀ i, i < n → ln i ≤ 1048576) := hk
  replace BB := BB.trans (bQ.mono BB.size)
  clear bQ
  refine rf_ [(15, .bool b15)] (h1_ t0) ?_
  rintro a A ⟨t15, -⟩ ⟨t0, -⟩
  cases b15
  · refine wp_cond_false t15 ?_
    refine wp_skip ?_
    clear t15
    obtain ⟨hn, hln⟩ := FG rfl
    clear FG
    refine wp_seq ?_
    refine wi_ A (h1_ t0) (rc_ 1 (I.exchange n cv xv ln c X3 (hL.on BB) (by omega) (fun i hi => Nat.le_trans (hln i hi) (by omega))) fun e X5 hh => ?_)
    obtain ⟨⟨v17, y17, he, hk⟩, hb⟩ := hh
    refine ⟨_, he, ?_⟩
    have bQ : Below X3.heap.size X3 X5 := hb
    have FA : (Ls X5 v17 n y17 (xL n ln c) (xF n ln c)) := hk.ls (fun t _ => by have := xL_le (n := n) (ln := ln) (c := c) (i := t); omega)
    replace BB := BB.trans (bQ.mono BB.size)
    clear bQ
    refine rf_ [(3, v17)] (h1_ t0) ?_
    rintro a A ⟨t3, -⟩ ⟨t0, -⟩
    refine wp_seq ?_
    refine wp_seq ?_
    refine wi_ A (h2_ t0 t3) (rv_ 1 (.int .i64 ((n : Nat) : Int)) (fun a ee => execLenLL rfl (ee _) (FA).shp) (rv_ 3 (.int .i64 ((n : Nat) : Int)) (fun a ee => execLenLL rfl (ee _) (hL.on BB).shp) (rv_ 4 (.bool false) (fun a ee => execDec (execNeN (p := n) (q := n) rfl (ee _) (ee _)) (decide_eq_false (by omega))) (rf_ [(22, .bool false)] (h2_ t0 t3) ?_))))
    rintro a A ⟨t22, -⟩ ⟨t0, t3, -⟩
    refine wp_cond_false t22 ?_
    refine wp_skip ?_
    clear t22
    refine wp_seq ?_
    refine wp_seq ?_
    refine wi_ A (h2_ t0 t3) (rv_ 1 (.int .i64 ((n : Nat) : Int)) (fun a ee => execLenLL rfl (ee _) (hL.on BB).shp) (rf_ [(23, cv), (24, .int .i64 ((n : Nat) : Int)), (25, .int .i64 ((0 : Nat) : Int))] (h2_ t0 t3) ?_))
    rintro a A ⟨t23, t24, t25, -⟩ ⟨t0, t3, -⟩
    refine wp_block ?_
    refine wp_loop (fun a W => ∃ (i : Nat), i ≤ n ∧ (a.tmps.size = 136 ∧ a.defers = []) ∧ a.eval (.tmp 0) = cv ∧ a.eval (.tmp 3) = v17 ∧ a.eval (.tmp 23) = cv ∧ a.eval (.tmp 24) = .int .i64 ((n : Nat) : Int) ∧ a.eval (.tmp 25) = .int .i64 ((i : Nat) : Int) ∧ Below V.heap.size V W ∧ (Ls W v17 n y17 (xL n ln c) (xF n ln c))) (fun a _ => n - (intOf (a.eval (.tmp 25))).toNat) ⟨0, Nat.zero_le _, A, t0, t3, t23, t24, t25, BB, FA⟩ ?_
    clear A t0 t3 t23 t24 t25 BB FA a
    rintro a XL9 ⟨i, hi, A, t0, t3, t23, t24, t25, BB, FA⟩
    have esi := t25
    refine wp_seq ?_
    refine wi_ A (h5_ t0 t3 t23 t24 t25) (rv_ 0 (.bool (decide (i < n))) (fun a ee => execLtW (p := i) (q := n) rfl (ee _) (ee _)) (rf_ [(26, .bool (decide (i < n)))] (h5_ t0 t3 t23 t24 t25) ?_))
    rintro a A ⟨t26, -⟩ ⟨t0, t3, t23, t24, t25, -⟩
    refine wp_seq ?_
    by_cases lti : i < n
    · rw [decide_eq_true lti] at t26
      refine wp_cond_true t26 ?_
      refine wp_skip ?_
      clear t26
      refine wp_seq ?_
      refine wp_block ?_
      have hxl := xL_le (n := n) (ln := ln) (c := c) (i := i)
      have hkd := kd_le (n := n) (ln := ln) (c := c) (i := i)
      refine wp_seq ?_
      refine wi_ A (h5_ t0 t3 t23 t24 t25) (rv_ 1 (.pointer (some ⟨adB cv, adO cv + i, none⟩)) (fun a ee => execIdxLs (k := i) (hL.on BB) rfl (ee _) (ee _) lti) (rv_ 2 (xv i) (fun a ee => execLdLs (k := i) (hL.on BB) rfl (ee _) lti) (rf_ [(4, .int .i64 ((i : Nat) : Int)), (5, xv i)] (h5_ t0 t3 t23 t24 t25) ?_)))
      rintro a A ⟨t4, t5, -⟩ ⟨t0, t3, t23, t24, t25, -⟩
      refine wp_seq ?_
      refine wi_ A (h7_ t0 t3 t23 t24 t25 t4 t5) (rv_ 2 (.pointer (some ⟨adB v17, adO v17 + i, none⟩)) (fun a ee => execIdxLs (k := i) (FA) rfl (ee _) (ee _) lti) (rv_ 3 (y17 i) (fun a ee => execLdLs (k := i) (FA) rfl (ee _) lti) (rc_ 4 (ans28 I n i ln c _ XL9 (FA.cell i lti) (FA.nil i lti)) fun e X11 hh => ?_)))
      obtain ⟨⟨v35, he, hk⟩, hb⟩ := hh
      refine ⟨_, he, ?_⟩
      have bQ : Below XL9.heap.size XL9 X11 := hb
      have FM : (SliceN X11 v35 (xL n ln c i - 1) (anF (xF n ln c i))) := hk
      replace FA := (FA.on bQ)
      replace BB := BB.trans (bQ.mono BB.size)
      clear bQ
      refine rf_ [(6, .int .i64 ((kdF n ln c i : Nat) : Int)), (7, v35), (8, .int .i64 ((0 : Nat) : Int))] (h7_ t0 t3 t23 t24 t25 t4 t5) ?_
      rintro a A ⟨t6, t7, t8, -⟩ ⟨t0, t3, t23, t24, t25, t4, t5, -⟩
      cases hr : rgt (ln i)
      · have hk3 : kdF n ln c i = 3 := by unfold kdF; rw [hr]; rfl
        have hl1 : xL n ln c i = 1 := if_neg (by omega)
        have hnr : ¬ (8 ≤ ln i ∧ ln i ≤ 48) := fun h => by rw [rgt_iff.2 h] at hr; cases hr
        by_cases hs8 : ln i < 8
        · refine wp_seq ?_
          refine wp_seq ?_
          refine wi_ A (h10_ t0 t3 t23 t24 t25 t4 t5 t6 t7 t8) (rv_ 1 (.bool false) (fun a ee => execDec (execNeE (p := 0) (q := 0) rfl (ee _) rfl) (decide_eq_false (by omega))) (rv_ 5 (.pointer (some ⟨adB v17, adO v17 + i, none⟩)) (fun a ee => execIdxLs (k := i) (FA) rfl (ee _) (ee _) lti) (rv_ 6 (y17 i) (fun a ee => execLdLs (k := i) (FA) rfl (ee _) lti) (rv_ 7 (.int .i64 (((xL n ln c) i : Nat) : Int)) (fun a ee => execLenV (len := (xL n ln c) i) rfl (ee _) (shp (((FA).cell i lti)))) (rv_ 8 (.bool false) (fun a ee => execDec (execGtN (p := (xL n ln c) i) (q := 48) rfl (ee _) rfl) (decide_eq_false (by omega))) (rv_ 12 (.bool false) (fun a ee => execDec (execLtW (p := kdF n ln c i) (q := 0) rfl (ee _) rfl) (decide_eq_false (by omega))) (rv_ 16 (.bool false) (fun a ee => execDec (execGtN (p := kdF n ln c i) (q := 3) rfl (ee _) rfl) (decide_eq_false (by omega))) (rv_ 20 (.bool true) (fun a ee => execDec (execNeN (p := kdF n ln c i) (q := 1) rfl (ee _) rfl) (decide_eq_true (by omega))) (rv_ 23 (.int .i64 ((xL n ln c i - 1 : Nat) : Int)) (fun a ee => execLenV (len := xL n ln c i - 1) rfl (ee _) (shp (FM))) (rv_ 24 (.bool false) (fun a ee => execDec (execNeN (p := xL n ln c i - 1) (q := 0) rfl (ee _) rfl) (decide_eq_false (by omega))) (rf_ [(65, .bool false)] (h9_ t0 t3 t23 t24 t25 t4 t5 t6 t7) ?_)))))))))))
          rintro a A ⟨t65, -⟩ ⟨t0, t3, t23, t24, t25, t4, t5, t6, t7, -⟩
          refine wp_cond_false t65 ?_
          refine wp_skip ?_
          clear t65
          refine wp_seq ?_
          refine wp_seq ?_
          refine wi_ A (h9_ t0 t3 t23 t24 t25 t4 t5 t6 t7) (rv_ 1 (.bool true) (fun a ee => execDec (execEqN (p := kdF n ln c i) (q := 3) rfl (ee _) rfl) (decide_eq_true (by omega))) (rv_ 3 (.int .i64 ((ln i : Nat) : Int)) (fun a ee => execLenV (len := ln i) rfl (ee _) (shp (((hL.on BB).cell i lti)))) (rv_ 4 (.bool true) (fun a ee => execDec (execLtW (p := ln i) (q := 8) rfl (ee _) rfl) (decide_eq_true (by omega))) (rv_ 10 (.bool false) (fun a ee => execDc (execNeB rfl (ee _) (ee _)) rfl) (rf_ [(76, .bool false)] (h9_ t0 t3 t23 t24 t25 t4 t5 t6 t7) ?_)))))
          rintro a A ⟨t76, -⟩ ⟨t0, t3, t23, t24, t25, t4, t5, t6, t7, -⟩
          refine wp_cond_false t76 ?_
          refine wp_skip ?_
          clear t76
          refine wp_seq ?_
          refine wp_seq ?_
          refine wi_ A (h9_ t0 t3 t23 t24 t25 t4 t5 t6 t7) (rv_ 1 (.bool true) (fun a ee => execDec (execEqN (p := kdF n ln c i) (q := 3) rfl (ee _) rfl) (decide_eq_true (by omega))) (rf_ [(78, .bool true)] (h9_ t0 t3 t23 t24 t25 t4 t5 t6 t7) ?_))
          rintro a A ⟨t78, -⟩ ⟨t0, t3, t23, t24, t25, t4, t5, t6, t7, -⟩
          refine wp_cond_true t78 ?_
          clear t78
          refine wp_exit ?_
          repeat (first | with_reducible refine exit_then ?_)
          refine exit_in ?_
          clear FM
          refine wi_ A (h9_ t0 t3 t23 t24 t25 t4 t5 t6 t7) (rv_ 0 (.int .i64 ((i + 1 : Nat) : Int)) (fun a ee => execAd8 (p := i) (q := 1) rfl (ee _) rfl (by omega)) (rf_ [(25, .int .i64 ((i + 1 : Nat) : Int))] (h4_ t0 t3 t23 t24) ?_))
          rintro a A ⟨t25, -⟩ ⟨t0, t3, t23, t24, -⟩
          exact ⟨⟨i + 1, lti, A, t0, t3, t23, t24, t25, BB, FA⟩, by show n - (intOf (a.eval (.tmp 25))).toNat < n - (intOf (Act.eval _ (.tmp 25))).toNat; rw [t25, esi]; show n - (i + 1) < n - i; omega⟩
        · refine wp_seq ?_
          refine wp_seq ?_
          refine wi_ A (h10_ t0 t3 t23 t24 t25 t4 t5 t6 t7 t8) (rv_ 1 (.bool false) (fun a ee => execDec (execNeE (p := 0) (q := 0) rfl (ee _) rfl) (decide_eq_false (by omega))) (rv_ 5 (.pointer (some ⟨adB v17, adO v17 + i, none⟩)) (fun a ee => execIdxLs (k := i) (FA) rfl (ee _) (ee _) lti) (rv_ 6 (y17 i) (fun a ee => execLdLs (k := i) (FA) rfl (ee _) lti) (rv_ 7 (.int .i64 (((xL n ln c) i : Nat) : Int)) (fun a ee => execLenV (len := (xL n ln c) i) rfl (ee _) (shp (((FA).cell i lti)))) (rv_ 8 (.bool false) (fun a ee => execDec (execGtN (p := (xL n ln c) i) (q := 48) rfl (ee _) rfl) (decide_eq_false (by omega))) (rv_ 12 (.bool false) (fun a ee => execDec (execLtW (p := kdF n ln c i) (q := 0) rfl (ee _) rfl) (decide_eq_false (by omega))) (rv_ 16 (.bool false) (fun a ee => execDec (execGtN (p := kdF n ln c i) (q := 3) rfl (ee _) rfl) (decide_eq_false (by omega))) (rv_ 20 (.bool true) (fun a ee => execDec (execNeN (p := kdF n ln c i) (q := 1) rfl (ee _) rfl) (decide_eq_true (by omega))) (rv_ 23 (.int .i64 ((xL n ln c i - 1 : Nat) : Int)) (fun a ee => execLenV (len := xL n ln c i - 1) rfl (ee _) (shp (FM))) (rv_ 24 (.bool false) (fun a ee => execDec (execNeN (p := xL n ln c i - 1) (q := 0) rfl (ee _) rfl) (decide_eq_false (by omega))) (rf_ [(65, .bool false)] (h9_ t0 t3 t23 t24 t25 t4 t5 t6 t7) ?_)))))))))))
          rintro a A ⟨t65, -⟩ ⟨t0, t3, t23, t24, t25, t4, t5, t6, t7, -⟩
          refine wp_cond_false t65 ?_
          refine wp_skip ?_
          clear t65
          refine wp_seq ?_
          refine wp_seq ?_
          refine wi_ A (h9_ t0 t3 t23 t24 t25 t4 t5 t6 t7) (rv_ 1 (.bool true) (fun a ee => execDec (execEqN (p := kdF n ln c i) (q := 3) rfl (ee _) rfl) (decide_eq_true (by omega))) (rv_ 3 (.int .i64 ((ln i : Nat) : Int)) (fun a ee => execLenV (len := ln i) rfl (ee _) (shp (((hL.on BB).cell i lti)))) (rv_ 4 (.bool false) (fun a ee => execDec (execLtW (p := ln i) (q := 8) rfl (ee _) rfl) (decide_eq_false (by omega))) (rv_ 7 (.int .i64 ((ln i : Nat) : Int)) (fun a ee => execLenV (len := ln i) rfl (ee _) (shp (((hL.on BB).cell i lti)))) (rv_ 8 (.bool true) (fun a ee => execDec (execGtN (p := ln i) (q := 48) rfl (ee _) rfl) (decide_eq_true (by omega))) (rv_ 10 (.bool false) (fun a ee => execDc (execNeB rfl (ee _) (ee _)) rfl) (rf_ [(76, .bool false)] (h9_ t0 t3 t23 t24 t25 t4 t5 t6 t7) ?_)))))))
          rintro a A ⟨t76, -⟩ ⟨t0, t3, t23, t24, t25, t4, t5, t6, t7, -⟩
          refine wp_cond_false t76 ?_
          refine wp_skip ?_
          clear t76
          refine wp_seq ?_
          refine wp_seq ?_
          refine wi_ A (h9_ t0 t3 t23 t24 t25 t4 t5 t6 t7) (rv_ 1 (.bool true) (fun a ee => execDec (execEqN (p := kdF n ln c i) (q := 3) rfl (ee _) rfl) (decide_eq_true (by omega))) (rf_ [(78, .bool true)] (h9_ t0 t3 t23 t24 t25 t4 t5 t6 t7) ?_))
          rintro a A ⟨t78, -⟩ ⟨t0, t3, t23, t24, t25, t4, t5, t6, t7, -⟩
          refine wp_cond_true t78 ?_
          clear t78
          refine wp_exit ?_
          repeat (first | with_reducible refine exit_then ?_)
          refine exit_in ?_
          clear FM
          refine wi_ A (h9_ t0 t3 t23 t24 t25 t4 t5 t6 t7) (rv_ 0 (.int .i64 ((i + 1 : Nat) : Int)) (fun a ee => execAd8 (p := i) (q := 1) rfl (ee _) rfl (by omega)) (rf_ [(25, .int .i64 ((i + 1 : Nat) : Int))] (h4_ t0 t3 t23 t24) ?_))
          rintro a A ⟨t25, -⟩ ⟨t0, t3, t23, t24, -⟩
          exact ⟨⟨i + 1, lti, A, t0, t3, t23, t24, t25, BB, FA⟩, by show n - (intOf (a.eval (.tmp 25))).toNat < n - (intOf (Act.eval _ (.tmp 25))).toNat; rw [t25, esi]; show n - (i + 1) < n - i; omega⟩
      · have h8 := rgt_iff.1 hr
        have hk2 : kdF n ln c i ≤ 2 := by unfold kdF; rw [hr]; exact Nat.min_le_right _ _
        by_cases hk1 : kdF n ln c i = 1
        · refine wp_seq ?_
          refine wp_seq ?_
          refine wi_ A (h10_ t0 t3 t23 t24 t25 t4 t5 t6 t7 t8) (rv_ 1 (.bool false) (fun a ee => execDec (execNeE (p := 0) (q := 0) rfl (ee _) rfl) (decide_eq_false (by omega))) (rv_ 5 (.pointer (some ⟨adB v17, adO v17 + i, none⟩)) (fun a ee => execIdxLs (k := i) (FA) rfl (ee _) (ee _) lti) (rv_ 6 (y17 i) (fun a ee => execLdLs (k := i) (FA) rfl (ee _) lti) (rv_ 7 (.int .i64 (((xL n ln c) i : Nat) : Int)) (fun a ee => execLenV (len := (xL n ln c) i) rfl (ee _) (shp (((FA).cell i lti)))) (rv_ 8 (.bool false) (fun a ee => execDec (execGtN (p := (xL n ln c) i) (q := 48) rfl (ee _) rfl) (decide_eq_false (by omega))) (rv_ 12 (.bool false) (fun a ee => execDec (execLtW (p := kdF n ln c i) (q := 0) rfl (ee _) rfl) (decide_eq_false (by omega))) (rv_ 16 (.bool false) (fun a ee => execDec (execGtN (p := kdF n ln c i) (q := 3) rfl (ee _) rfl) (decide_eq_false (by omega))) (rv_ 20 (.bool false) (fun a ee => execDec (execNeN (p := kdF n ln c i) (q := 1) rfl (ee _) rfl) (decide_eq_false (by omega))) (rf_ [(65, .bool false)] (h9_ t0 t3 t23 t24 t25 t4 t5 t6 t7) ?_)))))))))
          rintro a A ⟨t65, -⟩ ⟨t0, t3, t23, t24, t25, t4, t5, t6, t7, -⟩
          refine wp_cond_false t65 ?_
          refine wp_skip ?_
          clear t65
          refine wp_seq ?_
          refine wp_seq ?_
          refine wi_ A (h9_ t0 t3 t23 t24 t25 t4 t5 t6 t7) (rv_ 1 (.bool false) (fun a ee => execDec (execEqN (p := kdF n ln c i) (q := 3) rfl (ee _) rfl) (decide_eq_false (by omega))) (rv_ 3 (.int .i64 ((ln i : Nat) : Int)) (fun a ee => execLenV (len := ln i) rfl (ee _) (shp (((hL.on BB).cell i lti)))) (rv_ 4 (.bool false) (fun a ee => execDec (execLtW (p := ln i) (q := 8) rfl (ee _) rfl) (decide_eq_false (by omega))) (rv_ 7 (.int .i64 ((ln i : Nat) : Int)) (fun a ee => execLenV (len := ln i) rfl (ee _) (shp (((hL.on BB).cell i lti)))) (rv_ 8 (.bool false) (fun a ee => execDec (execGtN (p := ln i) (q := 48) rfl (ee _) rfl) (decide_eq_false (by omega))) (rv_ 10 (.bool false) (fun a ee => execDc (execNeB rfl (ee _) (ee _)) rfl) (rf_ [(76, .bool false)] (h9_ t0 t3 t23 t24 t25 t4 t5 t6 t7) ?_)))))))
          rintro a A ⟨t76, -⟩ ⟨t0, t3, t23, t24, t25, t4, t5, t6, t7, -⟩
          refine wp_cond_false t76 ?_
          refine wp_skip ?_
          clear t76
          refine wp_seq ?_
          refine wp_seq ?_
          refine wi_ A (h9_ t0 t3 t23 t24 t25 t4 t5 t6 t7) (rv_ 1 (.bool false) (fun a ee => execDec (execEqN (p := kdF n ln c i) (q := 3) rfl (ee _) rfl) (decide_eq_false (by omega))) (rf_ [(78, .bool false)] (h9_ t0 t3 t23 t24 t25 t4 t5 t6 t7) ?_))
          rintro a A ⟨t78, -⟩ ⟨t0, t3, t23, t24, t25, t4, t5, t6, t7, -⟩
          refine wp_cond_false t78 ?_
          refine wp_skip ?_
          clear t78
          refine wp_seq ?_
          refine wi_ A (h9_ t0 t3 t23 t24 t25 t4 t5 t6 t7) (rf_ [(9, .int .i64 ((0 : Nat) : Int))] (h9_ t0 t3 t23 t24 t25 t4 t5 t6 t7) ?_)
          rintro a A ⟨t9, -⟩ ⟨t0, t3, t23, t24, t25, t4, t5, t6, t7, -⟩
          refine wp_seq ?_
          refine wp_seq ?_
          refine wi_ A (h10_ t0 t3 t23 t24 t25 t4 t5 t6 t7 t9) (rv_ 1 (.int .i64 ((n : Nat) : Int)) (fun a ee => execLenLL rfl (ee _) (hL.on BB).shp) (rf_ [(79, cv), (80, .int .i64 ((n : Nat) : Int)), (81, .int .i64 ((0 : Nat) : Int))] (h10_ t0 t3 t23 t24 t25 t4 t5 t6 t7 t9) ?_))
          rintro a A ⟨t79, t80, t81, -⟩ ⟨t0, t3, t23, t24, t25, t4, t5, t6, t7, t9, -⟩
          refine wp_block ?_
          refine wp_loop (fun a W => ∃ (k : Nat), k ≤ n ∧ (a.tmps.size = 136 ∧ a.defers = []) ∧ a.eval (.tmp 0) = cv ∧ a.eval (.tmp 3) = v17 ∧ a.eval (.tmp 23) = cv ∧ a.eval (.tmp 24) = .int .i64 ((n : Nat) : Int) ∧ a.eval (.tmp 25) = .int .i64 ((i : Nat) : Int) ∧ a.eval (.tmp 4) = .int .i64 ((i : Nat) : Int) ∧ a.eval (.tmp 5) = xv i ∧ a.eval (.tmp 6) = .int .i64 ((kdF n ln c i : Nat) : Int) ∧ a.eval (.tmp 7) = v35 ∧ a.eval (.tmp 79) = cv ∧ a.eval (.tmp 80) = .int .i64 ((n : Nat) : Int) ∧ a.eval (.tmp 9) = .int .i64 ((cnt (otQ ln c i) k : Nat) : Int) ∧ a.eval (.tmp 81) = .int .i64 ((k : Nat) : Int) ∧ Below V.heap.size V W ∧ (Ls W v17 n y17 (xL n ln c) (xF n ln c)) ∧ (SliceN W v35 (xL n ln c i - 1) (anF (xF n ln c i)))) (fun a _ => n - (intOf (a.eval (.tmp 81))).toNat) ⟨0, Nat.zero_le _, A, t0, t3, t23, t24, t25, t4, t5, t6, t7, t79, t80, t9, t81, BB, FA, FM⟩ ?_
          clear A t0 t3 t23 t24 t25 t4 t5 t6 t7 t79 t80 t9 t81 BB FA FM a
          rintro a XL19 ⟨k, hk, A, t0, t3, t23, t24, t25, t4, t5, t6, t7, t79, t80, t9, t81, BB, FA, FM⟩
          have esk := t81
          refine wp_seq ?_
          refine wi_ A (h13_ t0 t3 t23 t24 t25 t4 t5 t6 t7 t79 t80 t9 t81) (rv_ 0 (.bool (decide (k < n))) (fun a ee => execLtW (p := k) (q := n) rfl (ee _) (ee _)) (rf_ [(82, .bool (decide (k < n)))] (h13_ t0 t3 t23 t24 t25 t4 t5 t6 t7 t79 t80 t9 t81) ?_))
          rintro a A ⟨t82, -⟩ ⟨t0, t3, t23, t24, t25, t4, t5, t6, t7, t79, t80, t9, t81, -⟩
          refine wp_seq ?_
          by_cases ltk : k < n
          · rw [decide_eq_true ltk] at t82
            refine wp_cond_true t82 ?_
            refine wp_skip ?_
            clear t82
            refine wp_seq ?_
            refine wp_block ?_
            refine wp_seq ?_
            refine wi_ A (h13_ t0 t3 t23 t24 t25 t4 t5 t6 t7 t79 t80 t9 t81) (rv_ 1 (.pointer (some ⟨adB cv, adO cv + k, none⟩)) (fun a ee => execIdxLs (k := k) (hL.on BB) rfl (ee _) (ee _) ltk) (rv_ 2 (xv k) (fun a ee => execLdLs (k := k) (hL.on BB) rfl (ee _) ltk) (rf_ [(10, .int .i64 ((k : Nat) : Int)), (11, xv k)] (h13_ t0 t3 t23 t24 t25 t4 t5 t6 t7 t79 t80 t9 t81) ?_)))
            rintro a A ⟨t10, t11, -⟩ ⟨t0, t3, t23, t24, t25, t4, t5, t6, t7, t79, t80, t9, t81, -⟩
            refine wp_seq ?_
            refine wp_seq ?_
            by_cases h1 : k = i
            · have hot : otQ ln c i k = false := ot_A h1
              refine wj_ [0, 1, 2, 3, 4, 5, 6, 7, 8, 9, 10, 11, 12, 13, 14, 15, 16, 17, 18, 19, 20] [] [] [] A (h15_ t0 t3 t23 t24 t25 t4 t5 t6 t7 t79 t80 t9 t81 t10 t11) (fun X21 bD => ?_)
              refine dw_ 2 (.bool true) (fun a X ee => execDec (execEqN (p := k) (q := i) rfl (ee _) (ee _)) (decide_eq_true (by omega))) (dz_ [(106, .bool true)] (h15_ t0 t3 t23 t24 t25 t4 t5 t6 t7 t79 t80 t9 t81 t10 t11) ?_)
              rintro a A ⟨t106, -⟩ ⟨t0, t3, t23, t24, t25, t4, t5, t6, t7, t79, t80, t9, t81, t10, t11, -⟩
              replace FA := (FA.on bD)
              replace FM := (FM.on bD)
              replace BB := BB.trans (bD.mono BB.size)
              clear bD
              refine wp_cond_true t106 ?_
              clear t106
              refine wp_exit ?_
              repeat (first | with_reducible refine exit_then ?_)
              refine exit_in ?_
              have en : cnt (otQ ln c i) (k + 1) = cnt (otQ ln c i) k := by rw [cnt_succ, hot]; rfl
              rw [← en] at t9
              refine wi_ A (h15_ t0 t3 t23 t24 t25 t4 t5 t6 t7 t79 t80 t9 t81 t10 t11) (rv_ 0 (.int .i64 ((k + 1 : Nat) : Int)) (fun a ee => execAd8 (p := k) (q := 1) rfl (ee _) rfl (by omega)) (rf_ [(81, .int .i64 ((k + 1 : Nat) : Int))] (h12_ t0 t3 t23 t24 t25 t4 t5 t6 t7 t79 t80 t9) ?_))
              rintro a A ⟨t81, -⟩ ⟨t0, t3, t23, t24, t25, t4, t5, t6, t7, t79, t80, t9, -⟩
              exact ⟨⟨k + 1, ltk, A, t0, t3, t23, t24, t25, t4, t5, t6, t7, t79, t80, t9, t81, BB, FA, FM⟩, by show n - (intOf (a.eval (.tmp 81))).toNat < n - (intOf (Act.eval _ (.tmp 81))).toNat; rw [t81, esk]; show n - (k + 1) < n - k; omega⟩
            by_cases h2 : ln k < 8
            · have hot : otQ ln c i k = false := ot_B (decide_eq_false (by omega))
              refine wj_ [0, 1, 2, 3, 4, 5, 6, 7, 8, 9, 10, 11, 12, 13, 14, 15, 16, 17, 18, 19, 20] [] [5] [] A (h15_ t0 t3 t23 t24 t25 t4 t5 t6 t7 t79 t80 t9 t81 t10 t11) (fun X21 bD => ?_)
              refine dw_ 2 (.bool false) (fun a X ee => execDec (execEqN (p := k) (q := i) rfl (ee _) (ee _)) (decide_eq_false (by omega))) (dv_ 5 (.int .i64 ((ln k : Nat) : Int)) (fun a X ee hb => execLenV (len := ln k) rfl (ee _) (shp (((hL.on (BB.trans (hb.mono BB.size))).cell k ltk)))) (dw_ 6 (.bool true) (fun a X ee => execDec (execLtW (p := ln k) (q := 8) rfl (ee _) rfl) (decide_eq_true (by omega))) (dz_ [(106, .bool true)] (h15_ t0 t3 t23 t24 t25 t4 t5 t6 t7 t79 t80 t9 t81 t10 t11) ?_)))
              rintro a A ⟨t106, -⟩ ⟨t0, t3, t23, t24, t25, t4, t5, t6, t7, t79, t80, t9, t81, t10, t11, -⟩
              replace FA := (FA.on bD)
              replace FM := (FM.on bD)
              replace BB := BB.trans (bD.mono BB.size)
              clear bD
              refine wp_cond_true t106 ?_
              clear t106
              refine wp_exit ?_
              repeat (first | with_reducible refine exit_then ?_)
              refine exit_in ?_
              have en : cnt (otQ ln c i) (k + 1) = cnt (otQ ln c i) k := by rw [cnt_succ, hot]; rfl
              rw [← en] at t9
              refine wi_ A (h15_ t0 t3 t23 t24 t25 t4 t5 t6 t7 t79 t80 t9 t81 t10 t11) (rv_ 0 (.int .i64 ((k + 1 : Nat) : Int)) (fun a ee => execAd8 (p := k) (q := 1) rfl (ee _) rfl (by omega)) (rf_ [(81, .int .i64 ((k + 1 : Nat) : Int))] (h12_ t0 t3 t23 t24 t25 t4 t5 t6 t7 t79 t80 t9) ?_))
              rintro a A ⟨t81, -⟩ ⟨t0, t3, t23, t24, t25, t4, t5, t6, t7, t79, t80, t9, -⟩
              exact ⟨⟨k + 1, ltk, A, t0, t3, t23, t24, t25, t4, t5, t6, t7, t79, t80, t9, t81, BB, FA, FM⟩, by show n - (intOf (a.eval (.tmp 81))).toNat < n - (intOf (Act.eval _ (.tmp 81))).toNat; rw [t81, esk]; show n - (k + 1) < n - k; omega⟩
            by_cases h3 : 48 < ln k
            · have hot : otQ ln c i k = false := ot_B (decide_eq_false (by omega))
              refine wj_ [0, 1, 2, 3, 4, 5, 6, 7, 8, 9, 10, 11, 12, 13, 14, 15, 16, 17, 18, 19, 20] [] [5, 10] [] A (h15_ t0 t3 t23 t24 t25 t4 t5 t6 t7 t79 t80 t9 t81 t10 t11) (fun X21 bD => ?_)
              refine dw_ 2 (.bool false) (fun a X ee => execDec (execEqN (p := k) (q := i) rfl (ee _) (ee _)) (decide_eq_false (by omega))) (dv_ 5 (.int .i64 ((ln k : Nat) : Int)) (fun a X ee hb => execLenV (len := ln k) rfl (ee _) (shp (((hL.on (BB.trans (hb.mono BB.size))).cell k ltk)))) (dw_ 6 (.bool false) (fun a X ee => execDec (execLtW (p := ln k) (q := 8) rfl (ee _) rfl) (decide_eq_false (by omega))) (dv_ 10 (.int .i64 ((ln k : Nat) : Int)) (fun a X ee hb => execLenV (len := ln k) rfl (ee _) (shp (((hL.on (BB.trans (hb.mono BB.size))).cell k ltk)))) (dw_ 11 (.bool true) (fun a X ee => execDec (execGtN (p := ln k) (q := 48) rfl (ee _) rfl) (decide_eq_true (by omega))) (dz_ [(106, .bool true)] (h15_ t0 t3 t23 t24 t25 t4 t5 t6 t7 t79 t80 t9 t81 t10 t11) ?_)))))
              rintro a A ⟨t106, -⟩ ⟨t0, t3, t23, t24, t25, t4, t5, t6, t7, t79, t80, t9, t81, t10, t11, -⟩
              replace FA := (FA.on bD)
              replace FM := (FM.on bD)
              replace BB := BB.trans (bD.mono BB.size)
              clear bD
              refine wp_cond_true t106 ?_
              clear t106
              refine wp_exit ?_
              repeat (first | with_reducible refine exit_then ?_)
              refine exit_in ?_
              have en : cnt (otQ ln c i) (k + 1) = cnt (otQ ln c i) k := by rw [cnt_succ, hot]; rfl
              rw [← en] at t9
              refine wi_ A (h15_ t0 t3 t23 t24 t25 t4 t5 t6 t7 t79 t80 t9 t81 t10 t11) (rv_ 0 (.int .i64 ((k + 1 : Nat) : Int)) (fun a ee => execAd8 (p := k) (q := 1) rfl (ee _) rfl (by omega)) (rf_ [(81, .int .i64 ((k + 1 : Nat) : Int))] (h12_ t0 t3 t23 t24 t25 t4 t5 t6 t7 t79 t80 t9) ?_))
              rintro a A ⟨t81, -⟩ ⟨t0, t3, t23, t24, t25, t4, t5, t6, t7, t79, t80, t9, -⟩
              exact ⟨⟨k + 1, ltk, A, t0, t3, t23, t24, t25, t4, t5, t6, t7, t79, t80, t9, t81, BB, FA, FM⟩, by show n - (intOf (a.eval (.tmp 81))).toNat < n - (intOf (Act.eval _ (.tmp 81))).toNat; rw [t81, esk]; show n - (k + 1) < n - k; omega⟩
            by_cases hs : strN (c k) 8 = strN (c i) 8
            · have hot : otQ ln c i k = true := ot_D h1 (decide_eq_true (by omega)) (((str_iff (fun j hj => (hL.cell k ltk).bytes j (by omega)) (fun j hj => (hL.cell i lti).bytes j (by omega))).1 hs).2)
              refine wj_ [0, 1, 2, 3, 4, 5, 6, 7, 8, 9, 10, 11, 12, 13, 14, 15, 16, 17, 18, 19, 20] [18] [5, 10, 15, 17] [] A (h15_ t0 t3 t23 t24 t25 t4 t5 t6 t7 t79 t80 t9 t81 t10 t11) (fun X21_0 bD => ?_)
              refine dw_ 2 (.bool false) (fun a X ee => execDec (execEqN (p := k) (q := i) rfl (ee _) (ee _)) (decide_eq_false (by omega))) (dv_ 5 (.int .i64 ((ln k : Nat) : Int)) (fun a X ee hb => execLenV (len := ln k) rfl (ee _) (shp (((hL.on (BB.trans (hb.mono BB.size))).cell k ltk)))) (dw_ 6 (.bool false) (fun a X ee => execDec (execLtW (p := ln k) (q := 8) rfl (ee _) rfl) (decide_eq_false (by omega))) (dv_ 10 (.int .i64 ((ln k : Nat) : Int)) (fun a X ee hb => execLenV (len := ln k) rfl (ee _) (shp (((hL.on (BB.trans (hb.mono BB.size))).cell k ltk)))) (dw_ 11 (.bool false) (fun a X ee => execDec (execGtN (p := ln k) (q := 48) rfl (ee _) rfl) (decide_eq_false (by omega))) (dv_ 15 (cutH (xv k) 8) (fun a X ee hb => execCutH (k := 8) (((hL.on (BB.trans (hb.mono BB.size))).cell k ltk)) rfl (ee _) rfl (by omega)) (dv_ 17 (cutH (xv i) 8) (fun a X ee hb => execCutH (k := 8) (((hL.on (BB.trans (hb.mono BB.size))).cell i lti)) rfl (ee _) rfl (by omega)) (dc_ 18 ((decide_eq_true hs ▸ same28 (c k) (c i) 8 8 _ _ X21_0 (cutH_is ((hL.on (BB.trans (bD.mono BB.size))).cell k ltk) (by omega)) (cutH_is ((hL.on (BB.trans (bD.mono BB.size))).cell i lti) (by omega)))) (cb_ fun X21 bQ => ?_))))))))
              replace bD := bD.trans (bQ.mono bD.size)
              clear bQ
              refine ⟨Or.inr bD, ?_⟩
              refine dw_ 19 (.bool false) (fun a X ee => execNot8 (b := true) rfl (ee _)) (dz_ [(106, .bool false)] (h15_ t0 t3 t23 t24 t25 t4 t5 t6 t7 t79 t80 t9 t81 t10 t11) ?_)
              rintro a A ⟨t106, -⟩ ⟨t0, t3, t23, t24, t25, t4, t5, t6, t7, t79, t80, t9, t81, t10, t11, -⟩
              replace FA := (FA.on bD)
              replace FM := (FM.on bD)
              replace BB := BB.trans (bD.mono BB.size)
              clear bD
              refine wp_cond_false t106 ?_
              refine wp_skip ?_
              clear t106
              have en : cnt (otQ ln c i) (k + 1) = cnt (otQ ln c i) k + 1 := by rw [cnt_succ, hot]; rfl
              have hcl := cnt_le (p := otQ ln c i) (n := k)
              refine wp_seq ?_
              refine wi_ A (h15_ t0 t3 t23 t24 t25 t4 t5 t6 t7 t79 t80 t9 t81 t10 t11) (rv_ 1 (.int .i64 ((cnt (otQ ln c i) k + 1 : Nat) : Int)) (fun a ee => execAd8 (p := cnt (otQ ln c i) k) (q := 1) rfl (ee _) rfl (by omega)) (rf_ [(9, .int .i64 ((cnt (otQ ln c i) k + 1 : Nat) : Int))] (h14_ t0 t3 t23 t24 t25 t4 t5 t6 t7 t79 t80 t81 t10 t11) ?_))
              rintro a A ⟨t9, -⟩ ⟨t0, t3, t23, t24, t25, t4, t5, t6, t7, t79, t80, t81, t10, t11, -⟩
              rw [← en] at t9
              obtain ⟨mb1, mb2, mb3⟩ := met_back lti hk1 ltk hot
              have es1 : strN (anF (xF n ln c i)) (xL n ln c i - 1) = strN (fun j => c k (8 + j)) (ln k - 8) := by rw [show xL n ln c i = 1 + (ln k - 8) by rw [← mb3]; exact if_pos hk1, Nat.add_sub_cancel_left]; exact strN_congr (fun j _ => by rw [← mb3]; exact (x_met j).symm)
              have es2 : strN (xF n ln c k) (xL n ln c k) = strN (mtF (c i)) (1 + (ln i - 8)) := by rw [show xL n ln c k = 1 + (ln i - 8) by rw [← mb2]; exact if_pos mb1]; exact strN_congr (fun j _ => x_met2 mb1 mb2)
              have FL := hL.on BB
              have BW := BB
              clear BB
              refine wp_seq ?_
              refine wj_ [0, 1, 2, 3, 4, 5, 6, 7, 8, 9, 10, 11, 12, 14, 15, 13, 16, 17, 18, 19, 20] [6, 13, 16, 17] [5, 11, 12, 15] [] A (h15_ t0 t3 t23 t24 t25 t4 t5 t6 t7 t79 t80 t81 t9 t10 t11) (fun X23_0 bD => ?_)
              refine dw_ 1 (.bool true) (fun a X ee => execDec (execEqN (p := kdF n ln c i) (q := 1) rfl (ee _) rfl) (decide_eq_true (by omega))) (dv_ 5 (cutL (xv k) 8) (fun a X ee hb => execCutL (k := 8) (((FL.on hb).cell k ltk)) rfl (ee _) rfl (by omega)) (dc_ 6 ((decide_eq_true es1 ▸ same28 _ _ _ _ _ _ X23_0 (FM.on bD) (cutL_is (((FL.on bD).cell k ltk)) (by omega)))) (cb_ fun X23_1 bQ => ?_)))
              replace bD := bD.trans (bQ.mono bD.size)
              clear bQ
              refine ⟨Or.inr bD, ?_⟩
              obtain ⟨g122, egg122⟩ : ∃ z_ : Nat, X23_1.heap.size = z_ := ⟨_, rfl⟩
              refine dw_ 7 (.bool false) (fun a X ee => execNot8 (b := true) rfl (ee _)) (dv_ 11 (.pointer (some ⟨adB v17, adO v17 + k, none⟩)) (fun a X ee hb => execIdxLs (k := k) (FA.on hb) rfl (ee _) (ee _) ltk) (dv_ 12 (y17 k) (fun a X ee hb => execLdLs (k := k) (FA.on hb) rfl (ee _) ltk) (dv_ 15 (cutL (xv i) 8) (fun a X ee hb => execCutL (k := 8) (((FL.on hb).cell i lti)) rfl (ee _) rfl (by omega)) (ds_ 13 (fun a ee => ?_)))))
              refine stepV rfl (wy rfl rfl rfl (ee _)) (execBsU (z := ((1 : Nat) : Int)) rfl) ⟨.slice (some ⟨g122, 0, none⟩) 1 1, ⟨_, rfl, by subst egg122; rfl⟩, fun X23_2 hX => ?_⟩
              have bQ : Below X23_1.heap.size X23_1 X23_2 := by subst hX egg122; exact (belNew X23_1 _)
              have FO : (X23_2.ownsRow X21.heap.size 5 1 (.slice (some ⟨g122, 0, none⟩) 1 1) 1 (bytesL 1 (mtF (c i)))) := by subst hX egg122; exact own_lit (heapNew X23_1 _) (bD).size rfl (fun j hj => by obtain rfl : j = 0 := (by omega); rfl)
              replace bD := bD.trans (bQ.mono bD.size)
              clear bQ hX egg122 ee a
              refine ⟨Or.inr bD, ?_⟩
              refine ds_ 16 (fun a ee => ?_)
              refine stepAppN (p := mtF (c i)) rfl (wy rfl rfl rfl (ee _)) rfl (ee _) (ee _) FO (slice_cg (cutL_is (((FL.on bD).cell i lti)) (by omega)) (fun j _ => mt_at j)) (cutL_nil ((FL.on bD).cell i lti) (by omega)) (by omega) (bD).size fun v125 X23_3 own' gr => ⟨_, ⟨_, rfl, rfl⟩, eqw ?_⟩
              obtain ⟨bD, FO2⟩ : Below X21.heap.size X21 X23_3 ∧ (X23_3.ownsRow X21.heap.size 5 1 v125 (1 + (ln i - 8)) (bytesL (1 + (ln i - 8)) (mtF (c i)))) := ⟨(bD).grown gr (bD).size (fun k hk => (FO.lt k hk).1), own'⟩
              clear FO ee a
              refine ⟨Or.inr bD, ?_⟩
              refine dc_ 17 ((decide_eq_true es2 ▸ same28 _ _ _ _ _ _ X23_3 ((FA.on bD).cell k ltk) (own_slice FO2 (mt_lt (FL.cell i lti).bytes)))) (cb_ fun X23 bQ => ?_)
              replace FO2 := (ownsRow_below FO2 bQ)
              replace bD := bD.trans (bQ.mono bD.size)
              clear bQ
              refine ⟨Or.inr bD, ?_⟩
              refine dw_ 18 (.bool false) (fun a X ee => execNot8 (b := true) rfl (ee _)) (dz_ [(129, .bool false)] (h13_ t0 t3 t23 t24 t25 t4 t5 t6 t7 t79 t80 t9 t81) ?_)
              rintro a A ⟨t129, -⟩ ⟨t0, t3, t23, t24, t25, t4, t5, t6, t7, t79, t80, t9, t81, -⟩
              replace FL := (FL.on bD)
              replace FA := (FA.on bD)
              replace FM := (FM.on bD)
              have ZX23 := bD.size
              replace BW := BW.trans (bD.mono BW.size)
              clear bD
              clear FO2 FL
              have BB := BW
              refine wp_cond_false t129 ?_
              refine wp_skip ?_
              clear t129
              refine wi_ A (h13_ t0 t3 t23 t24 t25 t4 t5 t6 t7 t79 t80 t9 t81) (rv_ 0 (.int .i64 ((k + 1 : Nat) : Int)) (fun a ee => execAd8 (p := k) (q := 1) rfl (ee _) rfl (by omega)) (rf_ [(81, .int .i64 ((k + 1 : Nat) : Int))] (h12_ t0 t3 t23 t24 t25 t4 t5 t6 t7 t79 t80 t9) ?_))
              rintro a A ⟨t81, -⟩ ⟨t0, t3, t23, t24, t25, t4, t5, t6, t7, t79, t80, t9, -⟩
              exact ⟨⟨k + 1, ltk, A, t0, t3, t23, t24, t25, t4, t5, t6, t7, t79, t80, t9, t81, BB, FA, FM⟩, by show n - (intOf (a.eval (.tmp 81))).toNat < n - (intOf (Act.eval _ (.tmp 81))).toNat; rw [t81, esk]; show n - (k + 1) < n - k; omega⟩
            · have hot : otQ ln c i k = false := ot_C (fun j hj => (hL.cell k ltk).bytes j (by omega)) (fun j hj => (hL.cell i lti).bytes j (by omega)) hs
              refine wj_ [0, 1, 2, 3, 4, 5, 6, 7, 8, 9, 10, 11, 12, 13, 14, 15, 16, 17, 18, 19, 20] [18] [5, 10, 15, 17] [] A (h15_ t0 t3 t23 t24 t25 t4 t5 t6 t7 t79 t80 t9 t81 t10 t11) (fun X21_0 bD => ?_)
              refine dw_ 2 (.bool false) (fun a X ee => execDec (execEqN (p := k) (q := i) rfl (ee _) (ee _)) (decide_eq_false (by omega))) (dv_ 5 (.int .i64 ((ln k : Nat) : Int)) (fun a X ee hb => execLenV (len := ln k) rfl (ee _) (shp (((hL.on (BB.trans (hb.mono BB.size))).cell k ltk)))) (dw_ 6 (.bool false) (fun a X ee => execDec (execLtW (p := ln k) (q := 8) rfl (ee _) rfl) (decide_eq_false (by omega))) (dv_ 10 (.int .i64 ((ln k : Nat) : Int)) (fun a X ee hb => execLenV (len := ln k) rfl (ee _) (shp (((hL.on (BB.trans (hb.mono BB.size))).cell k ltk)))) (dw_ 11 (.bool false) (fun a X ee => execDec (execGtN (p := ln k) (q := 48) rfl (ee _) rfl) (decide_eq_false (by omega))) (dv_ 15 (cutH (xv k) 8) (fun a X ee hb => execCutH (k := 8) (((hL.on (BB.trans (hb.mono BB.size))).cell k ltk)) rfl (ee _) rfl (by omega)) (dv_ 17 (cutH (xv i) 8) (fun a X ee hb => execCutH (k := 8) (((hL.on (BB.trans (hb.mono BB.size))).cell i lti)) rfl (ee _) rfl (by omega)) (dc_ 18 ((decide_eq_false hs ▸ same28 (c k) (c i) 8 8 _ _ X21_0 (cutH_is ((hL.on (BB.trans (bD.mono BB.size))).cell k ltk) (by omega)) (cutH_is ((hL.on (BB.trans (bD.mono BB.size))).cell i lti) (by omega)))) (cb_ fun X21 bQ => ?_))))))))
              replace bD := bD.trans (bQ.mono bD.size)
              clear bQ
              refine ⟨Or.inr bD, ?_⟩
              refine dw_ 19 (.bool true) (fun a X ee => execNot8 (b := false) rfl (ee _)) (dz_ [(106, .bool true)] (h15_ t0 t3 t23 t24 t25 t4 t5 t6 t7 t79 t80 t9 t81 t10 t11) ?_)
              rintro a A ⟨t106, -⟩ ⟨t0, t3, t23, t24, t25, t4, t5, t6, t7, t79, t80, t9, t81, t10, t11, -⟩
              replace FA := (FA.on bD)
              replace FM := (FM.on bD)
              replace BB := BB.trans (bD.mono BB.size)
              clear bD
              refine wp_cond_true t106 ?_
              clear t106
              refine wp_exit ?_
              repeat (first | with_reducible refine exit_then ?_)
              refine exit_in ?_
              have en : cnt (otQ ln c i) (k + 1) = cnt (otQ ln c i) k := by rw [cnt_succ, hot]; rfl
              rw [← en] at t9
              refine wi_ A (h15_ t0 t3 t23 t24 t25 t4 t5 t6 t7 t79 t80 t9 t81 t10 t11) (rv_ 0 (.int .i64 ((k + 1 : Nat) : Int)) (fun a ee => execAd8 (p := k) (q := 1) rfl (ee _) rfl (by omega)) (rf_ [(81, .int .i64 ((k + 1 : Nat) : Int))] (h12_ t0 t3 t23 t24 t25 t4 t5 t6 t7 t79 t80 t9) ?_))
              rintro a A ⟨t81, -⟩ ⟨t0, t3, t23, t24, t25, t4, t5, t6, t7, t79, t80, t9, -⟩
              exact ⟨⟨k + 1, ltk, A, t0, t3, t23, t24, t25, t4, t5, t6, t7, t79, t80, t9, t81, BB, FA, FM⟩, by show n - (intOf (a.eval (.tmp 81))).toNat < n - (intOf (Act.eval _ (.tmp 81))).toNat; rw [t81, esk]; show n - (k + 1) < n - k; omega⟩
          · rw [decide_eq_false ltk] at t82
            refine wp_cond_false t82 ?_
            refine wp_exit ?_
            first | with_reducible refine exit_in ?_ | with_reducible refine exit_then (exit_in ?_) | with_reducible refine exit_then (exit_then (exit_in ?_)) | refine exit_in ?_ | refine exit_then (exit_in ?_) | refine exit_then (exit_then (exit_in ?_))
            clear t82 esk
            have ekn : k = n := (by omega)
            rw [ekn] at t9
            have hkc : kdF n ln c i = min (cnt (otQ ln c i) n) 2 := by unfold kdF; rw [hr]; rfl
            refine wp_seq ?_
            refine wi_ A (h13_ t0 t3 t23 t24 t25 t4 t5 t6 t7 t79 t80 t9 t81) (rv_ 2 (.int .i64 ((min (cnt (otQ ln c i) n) 2 : Nat) : Int)) (fun a ee => execMinI (p := cnt (otQ ln c i) n) (q := 2) rfl (ee _) rfl) (rv_ 3 (.bool false) (fun a ee => execDec (execNeN (p := kdF n ln c i) (q := min (cnt (otQ ln c i) n) 2) rfl (ee _) (ee _)) (decide_eq_false (by omega))) (rf_ [(134, .bool false)] (h5_ t0 t3 t23 t24 t25) ?_)))
            rintro a A ⟨t134, -⟩ ⟨t0, t3, t23, t24, t25, -⟩
            refine wp_cond_false t134 ?_
            refine wp_skip ?_
            clear t134
            clear FM
            refine wi_ A (h5_ t0 t3 t23 t24 t25) (rv_ 0 (.int .i64 ((i + 1 : Nat) : Int)) (fun a ee => execAd8 (p := i) (q := 1) rfl (ee _) rfl (by omega)) (rf_ [(25, .int .i64 ((i + 1 : Nat) : Int))] (h4_ t0 t3 t23 t24) ?_))
            rintro a A ⟨t25, -⟩ ⟨t0, t3, t23, t24, -⟩
            exact ⟨⟨i + 1, lti, A, t0, t3, t23, t24, t25, BB, FA⟩, by show n - (intOf (a.eval (.tmp 25))).toNat < n - (intOf (Act.eval _ (.tmp 25))).toNat; rw [t25, esi]; show n - (i + 1) < n - i; omega⟩
        · have hl1 : xL n ln c i = 1 := if_neg hk1
          refine wp_seq ?_
          refine wp_seq ?_
          refine wi_ A (h10_ t0 t3 t23 t24 t25 t4 t5 t6 t7 t8) (rv_ 1 (.bool false) (fun a ee => execDec (execNeE (p := 0) (q := 0) rfl (ee _) rfl) (decide_eq_false (by omega))) (rv_ 5 (.pointer (some ⟨adB v17, adO v17 + i, none⟩)) (fun a ee => execIdxLs (k := i) (FA) rfl (ee _) (ee _) lti) (rv_ 6 (y17 i) (fun a ee => execLdLs (k := i) (FA) rfl (ee _) lti) (rv_ 7 (.int .i64 (((xL n ln c) i : Nat) : Int)) (fun a ee => execLenV (len := (xL n ln c) i) rfl (ee _) (shp (((FA).cell i lti)))) (rv_ 8 (.bool false) (fun a ee => execDec (execGtN (p := (xL n ln c) i) (q := 48) rfl (ee _) rfl) (decide_eq_false (by omega))) (rv_ 12 (.bool false) (fun a ee => execDec (execLtW (p := kdF n ln c i) (q := 0) rfl (ee _) rfl) (decide_eq_false (by omega))) (rv_ 16 (.bool false) (fun a ee => execDec (execGtN (p := kdF n ln c i) (q := 3) rfl (ee _) rfl) (decide_eq_false (by omega))) (rv_ 20 (.bool true) (fun a ee => execDec (execNeN (p := kdF n ln c i) (q := 1) rfl (ee _) rfl) (decide_eq_true (by omega))) (rv_ 23 (.int .i64 ((xL n ln c i - 1 : Nat) : Int)) (fun a ee => execLenV (len := xL n ln c i - 1) rfl (ee _) (shp (FM))) (rv_ 24 (.bool false) (fun a ee => execDec (execNeN (p := xL n ln c i - 1) (q := 0) rfl (ee _) rfl) (decide_eq_false (by omega))) (rf_ [(65, .bool false)] (h9_ t0 t3 t23 t24 t25 t4 t5 t6 t7) ?_)))))))))))
          rintro a A ⟨t65, -⟩ ⟨t0, t3, t23, t24, t25, t4, t5, t6, t7, -⟩
          refine wp_cond_false t65 ?_
          refine wp_skip ?_
          clear t65
          refine wp_seq ?_
          refine wp_seq ?_
          refine wi_ A (h9_ t0 t3 t23 t24 t25 t4 t5 t6 t7) (rv_ 1 (.bool false) (fun a ee => execDec (execEqN (p := kdF n ln c i) (q := 3) rfl (ee _) rfl) (decide_eq_false (by omega))) (rv_ 3 (.int .i64 ((ln i : Nat) : Int)) (fun a ee => execLenV (len := ln i) rfl (ee _) (shp (((hL.on BB).cell i lti)))) (rv_ 4 (.bool false) (fun a ee => execDec (execLtW (p := ln i) (q := 8) rfl (ee _) rfl) (decide_eq_false (by omega))) (rv_ 7 (.int .i64 ((ln i : Nat) : Int)) (fun a ee => execLenV (len := ln i) rfl (ee _) (shp (((hL.on BB).cell i lti)))) (rv_ 8 (.bool false) (fun a ee => execDec (execGtN (p := ln i) (q := 48) rfl (ee _) rfl) (decide_eq_false (by omega))) (rv_ 10 (.bool false) (fun a ee => execDc (execNeB rfl (ee _) (ee _)) rfl) (rf_ [(76, .bool false)] (h9_ t0 t3 t23 t24 t25 t4 t5 t6 t7) ?_)))))))
          rintro a A ⟨t76, -⟩ ⟨t0, t3, t23, t24, t25, t4, t5, t6, t7, -⟩
          refine wp_cond_false t76 ?_
          refine wp_skip ?_
          clear t76
          refine wp_seq ?_
          refine wp_seq ?_
          refine wi_ A (h9_ t0 t3 t23 t24 t25 t4 t5 t6 t7) (rv_ 1 (.bool false) (fun a ee => execDec (execEqN (p := kdF n ln c i) (q := 3) rfl (ee _) rfl) (decide_eq_false (by omega))) (rf_ [(78, .bool false)] (h9_ t0 t3 t23 t24 t25 t4 t5 t6 t7) ?_))
          rintro a A ⟨t78, -⟩ ⟨t0, t3, t23, t24, t25, t4, t5, t6, t7, -⟩
          refine wp_cond_false t78 ?_
          refine wp_skip ?_
          clear t78
          refine wp_seq ?_
          refine wi_ A (h9_ t0 t3 t23 t24 t25 t4 t5 t6 t7) (rf_ [(9, .int .i64 ((0 : Nat) : Int))] (h9_ t0 t3 t23 t24 t25 t4 t5 t6 t7) ?_)
          rintro a A ⟨t9, -⟩ ⟨t0, t3, t23, t24, t25, t4, t5, t6, t7, -⟩
          refine wp_seq ?_
          refine wp_seq ?_
          refine wi_ A (h10_ t0 t3 t23 t24 t25 t4 t5 t6 t7 t9) (rv_ 1 (.int .i64 ((n : Nat) : Int)) (fun a ee => execLenLL rfl (ee _) (hL.on BB).shp) (rf_ [(79, cv), (80, .int .i64 ((n : Nat) : Int)), (81, .int .i64 ((0 : Nat) : Int))] (h10_ t0 t3 t23 t24 t25 t4 t5 t6 t7 t9) ?_))
          rintro a A ⟨t79, t80, t81, -⟩ ⟨t0, t3, t23, t24, t25, t4, t5, t6, t7, t9, -⟩
          refine wp_block ?_
          refine wp_loop (fun a W => ∃ (k : Nat), k ≤ n ∧ (a.tmps.size = 136 ∧ a.defers = []) ∧ a.eval (.tmp 0) = cv ∧ a.eval (.tmp 3) = v17 ∧ a.eval (.tmp 23) = cv ∧ a.eval (.tmp 24) = .int .i64 ((n : Nat) : Int) ∧ a.eval (.tmp 25) = .int .i64 ((i : Nat) : Int) ∧ a.eval (.tmp 4) = .int .i64 ((i : Nat) : Int) ∧ a.eval (.tmp 5) = xv i ∧ a.eval (.tmp 6) = .int .i64 ((kdF n ln c i : Nat) : Int) ∧ a.eval (.tmp 7) = v35 ∧ a.eval (.tmp 79) = cv ∧ a.eval (.tmp 80) = .int .i64 ((n : Nat) : Int) ∧ a.eval (.tmp 9) = .int .i64 ((cnt (otQ ln c i) k : Nat) : Int) ∧ a.eval (.tmp 81) = .int .i64 ((k : Nat) : Int) ∧ Below V.heap.size V W ∧ (Ls W v17 n y17 (xL n ln c) (xF n ln c)) ∧ (SliceN W v35 (xL n ln c i - 1) (anF (xF n ln c i)))) (fun a _ => n - (intOf (a.eval (.tmp 81))).toNat) ⟨0, Nat.zero_le _, A, t0, t3, t23, t24, t25, t4, t5, t6, t7, t79, t80, t9, t81, BB, FA, FM⟩ ?_
          clear A t0 t3 t23 t24 t25 t4 t5 t6 t7 t79 t80 t9 t81 BB FA FM a
          rintro a XL19 ⟨k, hk, A, t0, t3, t23, t24, t25, t4, t5, t6, t7, t79, t80, t9, t81, BB, FA, FM⟩
          have esk := t81
          refine wp_seq ?_
          refine wi_ A (h13_ t0 t3 t23 t24 t25 t4 t5 t6 t7 t79 t80 t9 t81) (rv_ 0 (.bool (decide (k < n))) (fun a ee => execLtW (p := k) (q := n) rfl (ee _) (ee _)) (rf_ [(82, .bool (decide (k < n)))] (h13_ t0 t3 t23 t24 t25 t4 t5 t6 t7 t79 t80 t9 t81) ?_))
          rintro a A ⟨t82, -⟩ ⟨t0, t3, t23, t24, t25, t4, t5, t6, t7, t79, t80, t9, t81, -⟩
          refine wp_seq ?_
          by_cases ltk : k < n
          · rw [decide_eq_true ltk] at t82
            refine wp_cond_true t82 ?_
            refine wp_skip ?_
            clear t82
            refine wp_seq ?_
            refine wp_block ?_
            refine wp_seq ?_
            refine wi_ A (h13_ t0 t3 t23 t24 t25 t4 t5 t6 t7 t79 t80 t9 t81) (rv_ 1 (.pointer (some ⟨adB cv, adO cv + k, none⟩)) (fun a ee => execIdxLs (k := k) (hL.on BB) rfl (ee _) (ee _) ltk) (rv_ 2 (xv k) (fun a ee => execLdLs (k := k) (hL.on BB) rfl (ee _) ltk) (rf_ [(10, .int .i64 ((k : Nat) : Int)), (11, xv k)] (h13_ t0 t3 t23 t24 t25 t4 t5 t6 t7 t79 t80 t9 t81) ?_)))
            rintro a A ⟨t10, t11, -⟩ ⟨t0, t3, t23, t24, t25, t4, t5, t6, t7, t79, t80, t9, t81, -⟩
            refine wp_seq ?_
            refine wp_seq ?_
            by_cases h1 : k = i
            · have hot : otQ ln c i k = false := ot_A h1
              refine wj_ [0, 1, 2, 3, 4, 5, 6, 7, 8, 9, 10, 11, 12, 13, 14, 15, 16, 17, 18, 19, 20] [] [] [] A (h15_ t0 t3 t23 t24 t25 t4 t5 t6 t7 t79 t80 t9 t81 t10 t11) (fun X21 bD => ?_)
              refine dw_ 2 (.bool true) (fun a X ee => execDec (execEqN (p := k) (q := i) rfl (ee _) (ee _)) (decide_eq_true (by omega))) (dz_ [(106, .bool true)] (h15_ t0 t3 t23 t24 t25 t4 t5 t6 t7 t79 t80 t9 t81 t10 t11) ?_)
              rintro a A ⟨t106, -⟩ ⟨t0, t3, t23, t24, t25, t4, t5, t6, t7, t79, t80, t9, t81, t10, t11, -⟩
              replace FA := (FA.on bD)
              replace FM := (FM.on bD)
              replace BB := BB.trans (bD.mono BB.size)
              clear bD
              refine wp_cond_true t106 ?_
              clear t106
              refine wp_exit ?_
              repeat (first | with_reducible refine exit_then ?_)
              refine exit_in ?_
              have en : cnt (otQ ln c i) (k + 1) = cnt (otQ ln c i) k := by rw [cnt_succ, hot]; rfl
              rw [← en] at t9
              refine wi_ A (h15_ t0 t3 t23 t24 t25 t4 t5 t6 t7 t79 t80 t9 t81 t10 t11) (rv_ 0 (.int .i64 ((k + 1 : Nat) : Int)) (fun a ee => execAd8 (p := k) (q := 1) rfl (ee _) rfl (by omega)) (rf_ [(81, .int .i64 ((k + 1 : Nat) : Int))] (h12_ t0 t3 t23 t24 t25 t4 t5 t6 t7 t79 t80 t9) ?_))
              rintro a A ⟨t81, -⟩ ⟨t0, t3, t23, t24, t25, t4, t5, t6, t7, t79, t80, t9, -⟩
              exact ⟨⟨k + 1, ltk, A, t0, t3, t23, t24, t25, t4, t5, t6, t7, t79, t80, t9, t81, BB, FA, FM⟩, by show n - (intOf (a.eval (.tmp 81))).toNat < n - (intOf (Act.eval _ (.tmp 81))).toNat; rw [t81, esk]; show n - (k + 1) < n - k; omega⟩
            by_cases h2 : ln k < 8
            · have hot : otQ ln c i k = false := ot_B (decide_eq_false (by omega))
              refine wj_ [0, 1, 2, 3, 4, 5, 6, 7, 8, 9, 10, 11, 12, 13, 14, 15, 16, 17, 18, 19, 20] [] [5] [] A (h15_ t0 t3 t23 t24 t25 t4 t5 t6 t7 t79 t80 t9 t81 t10 t11) (fun X21 bD => ?_)
              refine dw_ 2 (.bool false) (fun a X ee => execDec (execEqN (p := k) (q := i) rfl (ee _) (ee _)) (decide_eq_false (by omega))) (dv_ 5 (.int .i64 ((ln k : Nat) : Int)) (fun a X ee hb => execLenV (len := ln k) rfl (ee _) (shp (((hL.on (BB.trans (hb.mono BB.size))).cell k ltk)))) (dw_ 6 (.bool true) (fun a X ee => execDec (execLtW (p := ln k) (q := 8) rfl (ee _) rfl) (decide_eq_true (by omega))) (dz_ [(106, .bool true)] (h15_ t0 t3 t23 t24 t25 t4 t5 t6 t7 t79 t80 t9 t81 t10 t11) ?_)))
              rintro a A ⟨t106, -⟩ ⟨t0, t3, t23, t24, t25, t4, t5, t6, t7, t79, t80, t9, t81, t10, t11, -⟩
              replace FA := (FA.on bD)
              replace FM := (FM.on bD)
              replace BB := BB.trans (bD.mono BB.size)
              clear bD
              refine wp_cond_true t106 ?_
              clear t106
              refine wp_exit ?_
              repeat (first | with_reducible refine exit_then ?_)
              refine exit_in ?_
              have en : cnt (otQ ln c i) (k + 1) = cnt (otQ ln c i) k := by rw [cnt_succ, hot]; rfl
              rw [← en] at t9
              refine wi_ A (h15_ t0 t3 t23 t24 t25 t4 t5 t6 t7 t79 t80 t9 t81 t10 t11) (rv_ 0 (.int .i64 ((k + 1 : Nat) : Int)) (fun a ee => execAd8 (p := k) (q := 1) rfl (ee _) rfl (by omega)) (rf_ [(81, .int .i64 ((k + 1 : Nat) : Int))] (h12_ t0 t3 t23 t24 t25 t4 t5 t6 t7 t79 t80 t9) ?_))
              rintro a A ⟨t81, -⟩ ⟨t0, t3, t23, t24, t25, t4, t5, t6, t7, t79, t80, t9, -⟩
              exact ⟨⟨k + 1, ltk, A, t0, t3, t23, t24, t25, t4, t5, t6, t7, t79, t80, t9, t81, BB, FA, FM⟩, by show n - (intOf (a.eval (.tmp 81))).toNat < n - (intOf (Act.eval _ (.tmp 81))).toNat; rw [t81, esk]; show n - (k + 1) < n - k; omega⟩
            by_cases h3 : 48 < ln k
            · have hot : otQ ln c i k = false := ot_B (decide_eq_false (by omega))
              refine wj_ [0, 1, 2, 3, 4, 5, 6, 7, 8, 9, 10, 11, 12, 13, 14, 15, 16, 17, 18, 19, 20] [] [5, 10] [] A (h15_ t0 t3 t23 t24 t25 t4 t5 t6 t7 t79 t80 t9 t81 t10 t11) (fun X21 bD => ?_)
              refine dw_ 2 (.bool false) (fun a X ee => execDec (execEqN (p := k) (q := i) rfl (ee _) (ee _)) (decide_eq_false (by omega))) (dv_ 5 (.int .i64 ((ln k : Nat) : Int)) (fun a X ee hb => execLenV (len := ln k) rfl (ee _) (shp (((hL.on (BB.trans (hb.mono BB.size))).cell k ltk)))) (dw_ 6 (.bool false) (fun a X ee => execDec (execLtW (p := ln k) (q := 8) rfl (ee _) rfl) (decide_eq_false (by omega))) (dv_ 10 (.int .i64 ((ln k : Nat) : Int)) (fun a X ee hb => execLenV (len := ln k) rfl (ee _) (shp (((hL.on (BB.trans (hb.mono BB.size))).cell k ltk)))) (dw_ 11 (.bool true) (fun a X ee => execDec (execGtN (p := ln k) (q := 48) rfl (ee _) rfl) (decide_eq_true (by omega))) (dz_ [(106, .bool true)] (h15_ t0 t3 t23 t24 t25 t4 t5 t6 t7 t79 t80 t9 t81 t10 t11) ?_)))))
              rintro a A ⟨t106, -⟩ ⟨t0, t3, t23, t24, t25, t4, t5, t6, t7, t79, t80, t9, t81, t10, t11, -⟩
              replace FA := (FA.on bD)
              replace FM := (FM.on bD)
              replace BB := BB.trans (bD.mono BB.size)
              clear bD
              refine wp_cond_true t106 ?_
              clear t106
              refine wp_exit ?_
              repeat (first | with_reducible refine exit_then ?_)
              refine exit_in ?_
              have en : cnt (otQ ln c i) (k + 1) = cnt (otQ ln c i) k := by rw [cnt_succ, hot]; rfl
              rw [← en] at t9
              refine wi_ A (h15_ t0 t3 t23 t24 t25 t4 t5 t6 t7 t79 t80 t9 t81 t10 t11) (rv_ 0 (.int .i64 ((k + 1 : Nat) : Int)) (fun a ee => execAd8 (p := k) (q := 1) rfl (ee _) rfl (by omega)) (rf_ [(81, .int .i64 ((k + 1 : Nat) : Int))] (h12_ t0 t3 t23 t24 t25 t4 t5 t6 t7 t79 t80 t9) ?_))
              rintro a A ⟨t81, -⟩ ⟨t0, t3, t23, t24, t25, t4, t5, t6, t7, t79, t80, t9, -⟩
              exact ⟨⟨k + 1, ltk, A, t0, t3, t23, t24, t25, t4, t5, t6, t7, t79, t80, t9, t81, BB, FA, FM⟩, by show n - (intOf (a.eval (.tmp 81))).toNat < n - (intOf (Act.eval _ (.tmp 81))).toNat; rw [t81, esk]; show n - (k + 1) < n - k; omega⟩
            by_cases hs : strN (c k) 8 = strN (c i) 8
            · have hot : otQ ln c i k = true := ot_D h1 (decide_eq_true (by omega)) (((str_iff (fun j hj => (hL.cell k ltk).bytes j (by omega)) (fun j hj => (hL.cell i lti).bytes j (by omega))).1 hs).2)
              refine wj_ [0, 1, 2, 3, 4, 5, 6, 7, 8, 9, 10, 11, 12, 13, 14, 15, 16, 17, 18, 19, 20] [18] [5, 10, 15, 17] [] A (h15_ t0 t3 t23 t24 t25 t4 t5 t6 t7 t79 t80 t9 t81 t10 t11) (fun X21_0 bD => ?_)
              refine dw_ 2 (.bool false) (fun a X ee => execDec (execEqN (p := k) (q := i) rfl (ee _) (ee _)) (decide_eq_false (by omega))) (dv_ 5 (.int .i64 ((ln k : Nat) : Int)) (fun a X ee hb => execLenV (len := ln k) rfl (ee _) (shp (((hL.on (BB.trans (hb.mono BB.size))).cell k ltk)))) (dw_ 6 (.bool false) (fun a X ee => execDec (execLtW (p := ln k) (q := 8) rfl (ee _) rfl) (decide_eq_false (by omega))) (dv_ 10 (.int .i64 ((ln k : Nat) : Int)) (fun a X ee hb => execLenV (len := ln k) rfl (ee _) (shp (((hL.on (BB.trans (hb.mono BB.size))).cell k ltk)))) (dw_ 11 (.bool false) (fun a X ee => execDec (execGtN (p := ln k) (q := 48) rfl (ee _) rfl) (decide_eq_false (by omega))) (dv_ 15 (cutH (xv k) 8) (fun a X ee hb => execCutH (k := 8) (((hL.on (BB.trans (hb.mono BB.size))).cell k ltk)) rfl (ee _) rfl (by omega)) (dv_ 17 (cutH (xv i) 8) (fun a X ee hb => execCutH (k := 8) (((hL.on (BB.trans (hb.mono BB.size))).cell i lti)) rfl (ee _) rfl (by omega)) (dc_ 18 ((decide_eq_true hs ▸ same28 (c k) (c i) 8 8 _ _ X21_0 (cutH_is ((hL.on (BB.trans (bD.mono BB.size))).cell k ltk) (by omega)) (cutH_is ((hL.on (BB.trans (bD.mono BB.size))).cell i lti) (by omega)))) (cb_ fun X21 bQ => ?_))))))))
              replace bD := bD.trans (bQ.mono bD.size)
              clear bQ
              refine ⟨Or.inr bD, ?_⟩
              refine dw_ 19 (.bool false) (fun a X ee => execNot8 (b := true) rfl (ee _)) (dz_ [(106, .bool false)] (h15_ t0 t3 t23 t24 t25 t4 t5 t6 t7 t79 t80 t9 t81 t10 t11) ?_)
              rintro a A ⟨t106, -⟩ ⟨t0, t3, t23, t24, t25, t4, t5, t6, t7, t79, t80, t9, t81, t10, t11, -⟩
              replace FA := (FA.on bD)
              replace FM := (FM.on bD)
              replace BB := BB.trans (bD.mono BB.size)
              clear bD
              refine wp_cond_false t106 ?_
              refine wp_skip ?_
              clear t106
              have en : cnt (otQ ln c i) (k + 1) = cnt (otQ ln c i) k + 1 := by rw [cnt_succ, hot]; rfl
              have hcl := cnt_le (p := otQ ln c i) (n := k)
              refine wp_seq ?_
              refine wi_ A (h15_ t0 t3 t23 t24 t25 t4 t5 t6 t7 t79 t80 t9 t81 t10 t11) (rv_ 1 (.int .i64 ((cnt (otQ ln c i) k + 1 : Nat) : Int)) (fun a ee => execAd8 (p := cnt (otQ ln c i) k) (q := 1) rfl (ee _) rfl (by omega)) (rf_ [(9, .int .i64 ((cnt (otQ ln c i) k + 1 : Nat) : Int))] (h14_ t0 t3 t23 t24 t25 t4 t5 t6 t7 t79 t80 t81 t10 t11) ?_))
              rintro a A ⟨t9, -⟩ ⟨t0, t3, t23, t24, t25, t4, t5, t6, t7, t79, t80, t81, t10, t11, -⟩
              rw [← en] at t9
              refine wp_seq ?_
              refine wj_ [0, 1, 2, 3, 4, 5, 6, 7, 8, 9, 10, 11, 12, 13, 14, 15, 16, 17, 18, 19, 20] [] [] [] A (h15_ t0 t3 t23 t24 t25 t4 t5 t6 t7 t79 t80 t81 t9 t10 t11) (fun X23 bD => ?_)
              refine dw_ 1 (.bool false) (fun a X ee => execDec (execEqN (p := kdF n ln c i) (q := 1) rfl (ee _) rfl) (decide_eq_false (by omega))) (dz_ [(129, .bool false)] (h13_ t0 t3 t23 t24 t25 t4 t5 t6 t7 t79 t80 t9 t81) ?_)
              rintro a A ⟨t129, -⟩ ⟨t0, t3, t23, t24, t25, t4, t5, t6, t7, t79, t80, t9, t81, -⟩
              replace FA := (FA.on bD)
              replace FM := (FM.on bD)
              replace BB := BB.trans (bD.mono BB.size)
              clear bD
              refine wp_cond_false t129 ?_
              refine wp_skip ?_
              clear t129
              refine wi_ A (h13_ t0 t3 t23 t24 t25 t4 t5 t6 t7 t79 t80 t9 t81) (rv_ 0 (.int .i64 ((k + 1 : Nat) : Int)) (fun a ee => execAd8 (p := k) (q := 1) rfl (ee _) rfl (by omega)) (rf_ [(81, .int .i64 ((k + 1 : Nat) : Int))] (h12_ t0 t3 t23 t24 t25 t4 t5 t6 t7 t79 t80 t9) ?_))
              rintro a A ⟨t81, -⟩ ⟨t0, t3, t23, t24, t25, t4, t5, t6, t7, t79, t80, t9, -⟩
              exact ⟨⟨k + 1, ltk, A, t0, t3, t23, t24, t25, t4, t5, t6, t7, t79, t80, t9, t81, BB, FA, FM⟩, by show n - (intOf (a.eval (.tmp 81))).toNat < n - (intOf (Act.eval _ (.tmp 81))).toNat; rw [t81, esk]; show n - (k + 1) < n - k; omega⟩
            · have hot : otQ ln c i k = false := ot_C (fun j hj => (hL.cell k ltk).bytes j (by omega)) (fun j hj => (hL.cell i lti).bytes j (by omega)) hs
              refine wj_ [0, 1, 2, 3, 4, 5, 6, 7, 8, 9, 10, 11, 12, 13, 14, 15, 16, 17, 18, 19, 20] [18] [5, 10, 15, 17] [] A (h15_ t0 t3 t23 t24 t25 t4 t5 t6 t7 t79 t80 t9 t81 t10 t11) (fun X21_0 bD => ?_)
              refine dw_ 2 (.bool false) (fun a X ee => execDec (execEqN (p := k) (q := i) rfl (ee _) (ee _)) (decide_eq_false (by omega))) (dv_ 5 (.int .i64 ((ln k : Nat) : Int)) (fun a X ee hb => execLenV (len := ln k) rfl (ee _) (shp (((hL.on (BB.trans (hb.mono BB.size))).cell k ltk)))) (dw_ 6 (.bool false) (fun a X ee => execDec (execLtW (p := ln k) (q := 8) rfl (ee _) rfl) (decide_eq_false (by omega))) (dv_ 10 (.int .i64 ((ln k : Nat) : Int)) (fun a X ee hb => execLenV (len := ln k) rfl (ee _) (shp (((hL.on (BB.trans (hb.mono BB.size))).cell k ltk)))) (dw_ 11 (.bool false) (fun a X ee => execDec (execGtN (p := ln k) (q := 48) rfl (ee _) rfl) (decide_eq_false (by omega))) (dv_ 15 (cutH (xv k) 8) (fun a X ee hb => execCutH (k := 8) (((hL.on (BB.trans (hb.mono BB.size))).cell k ltk)) rfl (ee _) rfl (by omega)) (dv_ 17 (cutH (xv i) 8) (fun a X ee hb => execCutH (k := 8) (((hL.on (BB.trans (hb.mono BB.size))).cell i lti)) rfl (ee _) rfl (by omega)) (dc_ 18 ((decide_eq_false hs ▸ same28 (c k) (c i) 8 8 _ _ X21_0 (cutH_is ((hL.on (BB.trans (bD.mono BB.size))).cell k ltk) (by omega)) (cutH_is ((hL.on (BB.trans (bD.mono BB.size))).cell i lti) (by omega)))) (cb_ fun X21 bQ => ?_))))))))
              replace bD := bD.trans (bQ.mono bD.size)
              clear bQ
              refine ⟨Or.inr bD, ?_⟩
              refine dw_ 19 (.bool true) (fun a X ee => execNot8 (b := false) rfl (ee _)) (dz_ [(106, .bool true)] (h15_ t0 t3 t23 t24 t25 t4 t5 t6 t7 t79 t80 t9 t81 t10 t11) ?_)
              rintro a A ⟨t106, -⟩ ⟨t0, t3, t23, t24, t25, t4, t5, t6, t7, t79, t80, t9, t81, t10, t11, -⟩
              replace FA := (FA.on bD)
              replace FM := (FM.on bD)
              replace BB := BB.trans (bD.mono BB.size)
              clear bD
              refine wp_cond_true t106 ?_
              clear t106
              refine wp_exit ?_
              repeat (first | with_reducible refine exit_then ?_)
              refine exit_in ?_
              have en : cnt (otQ ln c i) (k + 1) = cnt (otQ ln c i) k := by rw [cnt_succ, hot]; rfl
              rw [← en] at t9
              refine wi_ A (h15_ t0 t3 t23 t24 t25 t4 t5 t6 t7 t79 t80 t9 t81 t10 t11) (rv_ 0 (.int .i64 ((k + 1 : Nat) : Int)) (fun a ee => execAd8 (p := k) (q := 1) rfl (ee _) rfl (by omega)) (rf_ [(81, .int .i64 ((k + 1 : Nat) : Int))] (h12_ t0 t3 t23 t24 t25 t4 t5 t6 t7 t79 t80 t9) ?_))
              rintro a A ⟨t81, -⟩ ⟨t0, t3, t23, t24, t25, t4, t5, t6, t7, t79, t80, t9, -⟩
              exact ⟨⟨k + 1, ltk, A, t0, t3, t23, t24, t25, t4, t5, t6, t7, t79, t80, t9, t81, BB, FA, FM⟩, by show n - (intOf (a.eval (.tmp 81))).toNat < n - (intOf (Act.eval _ (.tmp 81))).toNat; rw [t81, esk]; show n - (k + 1) < n - k; omega⟩
          · rw [decide_eq_false ltk] at t82
            refine wp_cond_false t82 ?_
            refine wp_exit ?_
            first | with_reducible refine exit_in ?_ | with_reducible refine exit_then (exit_in ?_) | with_reducible refine exit_then (exit_then (exit_in ?_)) | refine exit_in ?_ | refine exit_then (exit_in ?_) | refine exit_then (exit_then (exit_in ?_))
            clear t82 esk
            have ekn : k = n := (by omega)
            rw [ekn] at t9
            have hkc : kdF n ln c i = min (cnt (otQ ln c i) n) 2 := by unfold kdF; rw [hr]; rfl
            refine wp_seq ?_
            refine wi_ A (h13_ t0 t3 t23 t24 t25 t4 t5 t6 t7 t79 t80 t9 t81) (rv_ 2 (.int .i64 ((min (cnt (otQ ln c i) n) 2 : Nat) : Int)) (fun a ee => execMinI (p := cnt (otQ ln c i) n) (q := 2) rfl (ee _) rfl) (rv_ 3 (.bool false) (fun a ee => execDec (execNeN (p := kdF n ln c i) (q := min (cnt (otQ ln c i) n) 2) rfl (ee _) (ee _)) (decide_eq_false (by omega))) (rf_ [(134, .bool false)] (h5_ t0 t3 t23 t24 t25) ?_)))
            rintro a A ⟨t134, -⟩ ⟨t0, t3, t23, t24, t25, -⟩
            refine wp_cond_false t134 ?_
            refine wp_skip ?_
            clear t134
            clear FM
            refine wi_ A (h5_ t0 t3 t23 t24 t25) (rv_ 0 (.int .i64 ((i + 1 : Nat) : Int)) (fun a ee => execAd8 (p := i) (q := 1) rfl (ee _) rfl (by omega)) (rf_ [(25, .int .i64 ((i + 1 : Nat) : Int))] (h4_ t0 t3 t23 t24) ?_))
            rintro a A ⟨t25, -⟩ ⟨t0, t3, t23, t24, -⟩
            exact ⟨⟨i + 1, lti, A, t0, t3, t23, t24, t25, BB, FA⟩, by show n - (intOf (a.eval (.tmp 25))).toNat < n - (intOf (Act.eval _ (.tmp 25))).toNat; rw [t25, esi]; show n - (i + 1) < n - i; omega⟩
    · rw [decide_eq_false lti] at t26
      refine wp_cond_false t26 ?_
      refine wp_exit ?_
      first | with_reducible refine exit_in ?_ | with_reducible refine exit_then (exit_in ?_) | with_reducible refine exit_then (exit_then (exit_in ?_)) | refine exit_in ?_ | refine exit_then (exit_in ?_) | refine exit_then (exit_then (exit_in ?_))
      clear t26 esi
      refine wp_seq ?_
      refine wi_ A (h5_ t0 t3 t23 t24 t25) (rg_ [(2, .bool true)] ?_)
      rintro a A ⟨t2, -⟩
      refine wp_ret ?_
      repeat (first | with_reducible refine ret_in ?_ | with_reducible refine ret_then ?_)
      refine bodyPost_ret (results_tmp rfl _ _ _) A.2 ⟨?_, BB⟩
      show Ending.returned (a.eval (.tmp 2)) = _
      rw [t2]
  · refine wp_cond_true t15 ?_
    clear t15
    refine wp_seq ?_
    refine wi_ A (h1_ t0) (rg_ [(2, .bool true)] ?_)
    rintro a A ⟨t2, -⟩
    refine wp_ret ?_
    repeat (first | with_reducible refine ret_in ?_ | with_reducible refine ret_then ?_)
    refine bodyPost_ret (results_tmp rfl _ _ _) A.2 ⟨?_, BB⟩
    show Ending.returned (a.eval (.tmp 2)) = _
    rw [t2]
end Go.Proofs.Ytcibogmghagpoaa.Dro
