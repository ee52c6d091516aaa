import Derived.Test.YtijibdapooalcaaC9t
namespace Go.Proofs.Ytijibdapooalcaa.Win
open Go.RowKit Gf8 Aes By8 Cel Cf
/- WindowLives over what the package keeps. Written by tools/mkC9u.py. -/

set_option maxRecDepth 100000 in
set_option maxHeartbeats 4000000 in
/-- WindowLives. -/
theorem lives16 (I : Impl) (sp0 rm0 : Int) (sv : Value) (n : Nat) (pb : Nat → Bool) (ep : Nat → Int) (tw : Nat → Value) (m : Nat → Nat) (tg : Nat → Nat → Nat → Nat) (V : World) (hS : Stps V sv n pb ep tw m tg) :
    Calls Try.prog 7 #[.int .i64 sp0, .int .i64 rm0, sv] V fun e w' => e = .returned (.bool true) ∧ Below V.heap.size V w' := by
  go_enter Try.func7, Try.ntmps7
  have hn63 : n < 9223372036854775808 := by obtain ⟨_, c_, _, q1, q2, _⟩ := hS.shape; omega
  refine wo_ 116 [(0, .int .i64 sp0), (1, .int .i64 rm0), (2, sv)] ?_
  rintro a A ⟨t0, t1, t2, -⟩
  have BW : Below V.heap.size V V := Below.refl _ _
  have BB := BW
  refine wp_seq ?_
  refine wi_ A (h3_ t0 t1 t2) (rf_ [] (h3_ t0 t1 t2) ?_)
  rintro a A - ⟨t0, t1, t2, -⟩
  refine wp_seq ?_
  refine wp_seq ?_
  refine wi_ A (h3_ t0 t1 t2) (rc_ 0 (alive16 I V) (cb_ fun X1 bQ => ?_))
  replace BB := BB.trans (bQ.mono BB.size)
  clear bQ
  refine rv_ 1 (.bool false) (fun a ee => execNot8 (b := true) rfl (ee _)) (rf_ [(16, .bool false)] (h3_ t0 t1 t2) ?_)
  rintro a A ⟨t16, -⟩ ⟨t0, t1, t2, -⟩
  refine wp_cond_false t16 ?_
  refine wp_skip ?_
  clear t16
  refine wp_join (fun a W => ∃ (s : Int), (a.tmps.size = 116 ∧ a.defers = []) ∧ a.eval (.tmp 0) = .int .i64 s ∧ a.eval (.tmp 1) = .int .i64 rm0 ∧ a.eval (.tmp 2) = sv ∧ Below V.heap.size V W ∧ (1 ≤ s ∧ s ≤ 8)) ?_ ?_
  · refine wp_seq ?_
    by_cases c1 : sp0 < 1
    · refine wi_ A (h3_ t0 t1 t2) (rv_ 1 (.bool true) (fun a ee => execDec (exIlss3 (p := sp0) (q := 1) rfl (ee _) rfl) (decide_eq_true c1)) (rf_ [(22, .bool true)] (h3_ t0 t1 t2) ?_))
      rintro a A ⟨t22, -⟩ ⟨t0, t1, t2, -⟩
      refine wp_cond_true t22 ?_
      clear t22
      have q_ := anN_le (p := sp0) (k := 7) (by decide)
      refine wi_ A (h3_ t0 t1 t2) (rv_ 1 (.int .i64 ((anN sp0 7 : Nat) : Int)) (fun a ee => execAnd (k := 7) rfl (ee _) (by decide)) (rv_ 2 (.int .i64 ((1 + anN sp0 7 : Nat) : Int)) (fun a ee => execAd8 (p := 1) (q := anN sp0 7) rfl rfl (ee _) (by omega)) (rf_ [(0, .int .i64 ((1 + anN sp0 7 : Nat) : Int))] (h2_ t1 t2) ?_)))
      rintro a A ⟨t0, -⟩ ⟨t1, t2, -⟩
      exact ⟨rfl, (((1 + anN sp0 7) : Nat) : Int), A, t0, t1, t2, BB, ⟨by omega, by omega⟩⟩
    · by_cases c2 : sp0 > 8
      · refine wi_ A (h3_ t0 t1 t2) (rv_ 1 (.bool false) (fun a ee => execDec (exIlss3 (p := sp0) (q := 1) rfl (ee _) rfl) (decide_eq_false c1)) (rv_ 4 (.bool true) (fun a ee => execDec (exIgtr3 (p := sp0) (q := 8) rfl (ee _) rfl) (decide_eq_true c2)) (rf_ [(22, .bool true)] (h3_ t0 t1 t2) ?_)))
        rintro a A ⟨t22, -⟩ ⟨t0, t1, t2, -⟩
        refine wp_cond_true t22 ?_
        clear t22
        have q_ := anN_le (p := sp0) (k := 7) (by decide)
        refine wi_ A (h3_ t0 t1 t2) (rv_ 1 (.int .i64 ((anN sp0 7 : Nat) : Int)) (fun a ee => execAnd (k := 7) rfl (ee _) (by decide)) (rv_ 2 (.int .i64 ((1 + anN sp0 7 : Nat) : Int)) (fun a ee => execAd8 (p := 1) (q := anN sp0 7) rfl rfl (ee _) (by omega)) (rf_ [(0, .int .i64 ((1 + anN sp0 7 : Nat) : Int))] (h2_ t1 t2) ?_)))
        rintro a A ⟨t0, -⟩ ⟨t1, t2, -⟩
        exact ⟨rfl, (((1 + anN sp0 7) : Nat) : Int), A, t0, t1, t2, BB, ⟨by omega, by omega⟩⟩
      · refine wi_ A (h3_ t0 t1 t2) (rv_ 1 (.bool false) (fun a ee => execDec (exIlss3 (p := sp0) (q := 1) rfl (ee _) rfl) (decide_eq_false c1)) (rv_ 4 (.bool false) (fun a ee => execDec (exIgtr3 (p := sp0) (q := 8) rfl (ee _) rfl) (decide_eq_false c2)) (rf_ [(22, .bool false)] (h3_ t0 t1 t2) ?_)))
        rintro a A ⟨t22, -⟩ ⟨t0, t1, t2, -⟩
        refine wp_cond_false t22 ?_
        refine wp_skip ?_
        clear t22
        exact ⟨rfl, sp0, A, t0, t1, t2, BB, ⟨by omega, by omega⟩⟩
  · clear A BB t0 t1 t2 a
    rintro a XA ⟨s, A, t0, t1, t2, BB, hs_⟩
    refine wp_join (fun a W => ∃ (r : Int), (a.tmps.size = 116 ∧ a.defers = []) ∧ a.eval (.tmp 0) = .int .i64 s ∧ a.eval (.tmp 1) = .int .i64 r ∧ a.eval (.tmp 2) = sv ∧ Below V.heap.size V W ∧ (0 ≤ r ∧ r ≤ 4096)) ?_ ?_
    · refine wp_seq ?_
      by_cases c1 : rm0 < 0
      · refine wi_ A (h3_ t0 t1 t2) (rv_ 1 (.bool true) (fun a ee => execDec (exIlss3 (p := rm0) (q := 0) rfl (ee _) rfl) (decide_eq_true c1)) (rf_ [(31, .bool true)] (h3_ t0 t1 t2) ?_))
        rintro a A ⟨t31, -⟩ ⟨t0, t1, t2, -⟩
        refine wp_cond_true t31 ?_
        clear t31
        have q_ := anN_le (p := rm0) (k := 63) (by decide)
        refine wi_ A (h3_ t0 t1 t2) (rv_ 1 (.int .i64 ((anN rm0 63 : Nat) : Int)) (fun a ee => execAnd (k := 63) rfl (ee _) (by decide)) (rf_ [(1, .int .i64 ((anN rm0 63 : Nat) : Int))] (h2_ t0 t2) ?_))
        rintro a A ⟨t1, -⟩ ⟨t0, t2, -⟩
        exact ⟨rfl, (((anN rm0 63) : Nat) : Int), A, t0, t1, t2, BB, ⟨by omega, by omega⟩⟩
      · by_cases c2 : rm0 > 4096
        · refine wi_ A (h3_ t0 t1 t2) (rv_ 1 (.bool false) (fun a ee => execDec (exIlss3 (p := rm0) (q := 0) rfl (ee _) rfl) (decide_eq_false c1)) (rv_ 4 (.bool true) (fun a ee => execDec (exIgtr3 (p := rm0) (q := 4096) rfl (ee _) rfl) (decide_eq_true c2)) (rf_ [(31, .bool true)] (h3_ t0 t1 t2) ?_)))
          rintro a A ⟨t31, -⟩ ⟨t0, t1, t2, -⟩
          refine wp_cond_true t31 ?_
          clear t31
          have q_ := anN_le (p := rm0) (k := 63) (by decide)
          refine wi_ A (h3_ t0 t1 t2) (rv_ 1 (.int .i64 ((anN rm0 63 : Nat) : Int)) (fun a ee => execAnd (k := 63) rfl (ee _) (by decide)) (rf_ [(1, .int .i64 ((anN rm0 63 : Nat) : Int))] (h2_ t0 t2) ?_))
          rintro a A ⟨t1, -⟩ ⟨t0, t2, -⟩
          exact ⟨rfl, (((anN rm0 63) : Nat) : Int), A, t0, t1, t2, BB, ⟨by omega, by omega⟩⟩
        · refine wi_ A (h3_ t0 t1 t2) (rv_ 1 (.bool false) (fun a ee => execDec (exIlss3 (p := rm0) (q := 0) rfl (ee _) rfl) (decide_eq_false c1)) (rv_ 4 (.bool false) (fun a ee => execDec (exIgtr3 (p := rm0) (q := 4096) rfl (ee _) rfl) (decide_eq_false c2)) (rf_ [(31, .bool false)] (h3_ t0 t1 t2) ?_)))
          rintro a A ⟨t31, -⟩ ⟨t0, t1, t2, -⟩
          refine wp_cond_false t31 ?_
          refine wp_skip ?_
          clear t31
          exact ⟨rfl, rm0, A, t0, t1, t2, BB, ⟨by omega, by omega⟩⟩
    · clear A BB t0 t1 t2 a
      rintro a XB ⟨r, A, t0, t1, t2, BB, hr_⟩
      have hs : I64 s := ⟨by omega, by omega⟩
      have hr : I64 r := ⟨by omega, by omega⟩
      refine wp_seq ?_
      obtain ⟨g7, egg7⟩ : ∃ z_ : Nat, XB.heap.size = z_ := ⟨_, rfl⟩
      refine wi_ A (h3_ t0 t1 t2) (rs_ 0 (fun a ee => ?_))
      refine stepV rfl rfl (execAllW rfl) ⟨.pointer (some ⟨g7, 0, none⟩), ⟨_, rfl, by subst egg7; rfl⟩, fun X7_1 hX => ?_⟩
      have bQ : Below XB.heap.size XB X7_1 := by subst hX egg7; exact (belNew XB _)
      have Fg7 : (X7_1.heap[g7]? = some (.cells (wC 0 (.slice none 0 0)) 25)) := by subst hX egg7; exact heapNew XB _
      have FGg7 : (V.heap.size ≤ g7) := by subst hX egg7; exact (BB).size
      replace BB := BB.trans (bQ.mono BB.size)
      clear bQ hX egg7 ee a
      obtain ⟨g8, egg8⟩ : ∃ z_ : Nat, X7_1.heap.size = z_ := ⟨_, rfl⟩
      refine rs_ 1 (fun a ee => ?_)
      refine stepV rfl rfl (execAllW rfl) ⟨.pointer (some ⟨g8, 0, none⟩), ⟨_, rfl, by subst egg8; rfl⟩, fun X7 hX => ?_⟩
      have bQ : Below X7_1.heap.size X7_1 X7 := by subst hX egg8; exact (belNew X7_1 _)
      have Fg8 : (X7.heap[g8]? = some (.cells (wC 0 (.slice none 0 0)) 25)) := by subst hX egg8; exact heapNew X7_1 _
      have FGg8 : (V.heap.size ≤ g8) := by subst hX egg8; exact (BB).size
      have FNg7g8 : (g7 ≠ g8) := by subst hX egg8; exact ne16 Fg7
      replace Fg7 := (on9 Fg7 bQ)
      replace BB := BB.trans (bQ.mono BB.size)
      clear bQ hX egg8 ee a
      refine rf_ [(7, .pointer (some ⟨g7, 0, none⟩)), (8, .pointer (some ⟨g8, 0, none⟩))] (h3_ t0 t1 t2) ?_
      rintro a A ⟨t7, t8, -⟩ ⟨t0, t1, t2, -⟩
      refine wp_seq ?_
      refine wp_seq ?_
      refine wi_ A (h5_ t0 t1 t2 t7 t8) (rf_ [(9, .int .i64 ((0 : Nat) : Int))] (h5_ t0 t1 t2 t7 t8) ?_)
      rintro a A ⟨t9, -⟩ ⟨t0, t1, t2, t7, t8, -⟩
      have Fw1 := Fg7
      have Fw2 := Fg8
      clear Fg7 Fg8
      have FA : (NwE V.heap.size X7 (.slice none 0 0) 0 (fun _ => 0) (fun _ => undef) (fun _ => 0) (fun _ _ _ => 0)) := NwE.zero _ _ _ _ _ _
      have FB : (NwE V.heap.size X7 (.slice none 0 0) 0 (fun _ => 0) (fun _ => undef) (fun _ => 0) (fun _ _ _ => 0)) := NwE.zero _ _ _ _ _ _
      refine wp_block ?_
      refine wp_loop (fun a W => ∃ (i : Nat) (z : Int) (es : List Ep) (ev1 : Value) (n1 : Nat) (nu1 : Nat → Int) (tw1 : Nat → Value) (ln1 : Nat → Nat) (tt1 : Nat → Nat → Nat → Nat) (ev2 : Value) (n2 : Nat) (nu2 : Nat → Int) (tw2 : Nat → Value) (ln2 : Nat → Nat) (tt2 : Nat → Nat → Nat → Nat), i ≤ n ∧ (esL n1 nu1 ln1 tt1 = es) ∧ (esL n2 nu2 ln2 tt2 = es) ∧ (Rgt (z, es) s r) ∧ (a.tmps.size = 116 ∧ a.defers = []) ∧ a.eval (.tmp 0) = .int .i64 s ∧ a.eval (.tmp 1) = .int .i64 r ∧ a.eval (.tmp 2) = sv ∧ a.eval (.tmp 7) = .pointer (some ⟨g7, 0, none⟩) ∧ a.eval (.tmp 8) = .pointer (some ⟨g8, 0, none⟩) ∧ a.eval (.tmp 9) = .int .i64 ((i : Nat) : Int) ∧ Below V.heap.size V W ∧ (W.heap[g7]? = some (.cells (wC z ev1) 25)) ∧ (W.heap[g8]? = some (.cells (wC z ev2) 25)) ∧ (NwE V.heap.size W ev1 n1 nu1 tw1 ln1 tt1) ∧ (NwE V.heap.size W ev2 n2 nu2 tw2 ln2 tt2)) (fun a _ => n - (intOf (a.eval (.tmp 9))).toNat) ⟨0, 0, [], .slice none 0 0, 0, fun _ => 0, fun _ => undef, fun _ => 0, fun _ _ _ => 0, .slice none 0 0, 0, fun _ => 0, fun _ => undef, fun _ => 0, fun _ _ _ => 0, Nat.zero_le _, rfl, rfl, rgt_zero hs_ hr_, A, t0, t1, t2, t7, t8, t9, BB, Fw1, Fw2, FA, FB⟩ ?_
      clear A t0 t1 t2 t7 t8 t9 BB Fw1 Fw2 FA FB a
      rintro a XL ⟨i, z, es, ev1, n1, nu1, tw1, ln1, tt1, ev2, n2, nu2, tw2, ln2, tt2, hi, hq1, hq2, hR, A, t0, t1, t2, t7, t8, t9, BB, Fw1, Fw2, FA, FB⟩
      have esi := t9
      refine wp_seq ?_
      refine wp_seq ?_
      by_cases lti : i < n
      · by_cases l5 : i < 500
        · refine wi_ A (h6_ t0 t1 t2 t7 t8 t9) (rv_ 2 (.int .i64 ((n : Nat) : Int)) (fun a ee => execLenSt (len := n) rfl (ee _) hS.shp) (rv_ 3 (.bool true) (fun a ee => execDec (execLtW (p := i) (q := n) rfl (ee _) (ee _)) (decide_eq_true (by omega))) (rv_ 6 (.bool true) (fun a ee => execDec (execLtW (p := i) (q := 500) rfl (ee _) rfl) (decide_eq_true (by omega))) (rf_ [(41, .bool true)] (h6_ t0 t1 t2 t7 t8 t9) ?_))))
          rintro a A ⟨t41, -⟩ ⟨t0, t1, t2, t7, t8, t9, -⟩
          refine wp_cond_true t41 ?_
          refine wp_skip ?_
          clear t41
          refine wp_seq ?_
          refine wp_block ?_
          have hTe := hS.lists i lti
          have hepi := hS.nums i lti
          have hmi := hS.m16 i lti
          have hz1 : 0 ≤ z := hR.2.2.2.2.1
          have hz2 : z ≤ 4611686018427387904 := hR.2.2.2.2.2.1
          obtain ⟨sb, so, sc, se_, hsb, hsc⟩ := hS.at (show 0 < n by omega)
          have c0 : ∀ X, Below V.heap.size V X → X.cell? ⟨sb, so + i * 3 + 0, none⟩ = some (.bool (pb i)) := fun X hX => by rw [cell_below hX hsb]; exact (hsc i lti).1
          have c1 : ∀ X, Below V.heap.size V X → X.cell? ⟨sb, so + i * 3 + 1, none⟩ = some (.int .i64 (ep i)) := fun X hX => by rw [cell_below hX hsb]; exact (hsc i lti).2.1
          have c2 : ∀ X, Below V.heap.size V X → X.cell? ⟨sb, so + i * 3 + 2, none⟩ = some (tw i) := fun X hX => by rw [cell_below hX hsb]; exact (hsc i lti).2.2
          refine wp_seq ?_
          obtain ⟨g10, egg10⟩ : ∃ z_ : Nat, XL.heap.size = z_ := ⟨_, rfl⟩
          refine wi_ A (h6_ t0 t1 t2 t7 t8 t9) (rv_ 2 (.pointer (some ⟨sb, so + i * 3, none⟩)) (fun a ee => execIdxSp (k := i) rfl ((ee _).trans se_) (ee _) lti) (rv_ 3 (.agg (spC (pb i) (ep i) (tw i))) (fun a ee => execLdSp rfl (ee _) (c0 XL BB) (c1 XL BB) (c2 XL BB)) (rs_ 4 (fun a ee => ?_))))
          refine stepV rfl rfl (execAllSp rfl) ⟨.pointer (some ⟨g10, 0, none⟩), ⟨_, rfl, by subst egg10; rfl⟩, fun X11_1 hX => ?_⟩
          have bQ : Below XL.heap.size XL X11_1 := by subst hX egg10; exact (belNew XL _)
          have F10 : (X11_1.heap[g10]? = some (.cells (spC false 0 (.slice none 0 0)) 49)) := by subst hX egg10; exact heapNew XL _
          have FG10 : (V.heap.size ≤ g10) := by subst hX egg10; exact (BB).size
          replace Fw1 := (on9 Fw1 bQ)
          replace Fw2 := (on9 Fw2 bQ)
          replace FA := (FA.on bQ)
          replace FB := (FB.on bQ)
          replace BB := BB.trans (bQ.mono BB.size)
          clear bQ hX egg10 ee a
          refine rs_ 5 (fun a ee => ?_)
          refine stepS rfl rfl (execStSp rfl (ee _) (ee _) F10 (by obtain ⟨_, _, e_⟩ := hTe.shp; rw [e_]; rfl)) ⟨_, ⟨_, rfl, rfl⟩, fun X11 hX => ?_⟩
          obtain ⟨BB, Fw1, Fw2, FA, FB, Fs⟩ : Below V.heap.size V X11 ∧ (X11.heap[g7]? = some (.cells (wC z ev1) 25)) ∧ (X11.heap[g8]? = some (.cells (wC z ev2) 25)) ∧ (NwE V.heap.size X11 ev1 n1 nu1 tw1 ln1 tt1) ∧ (NwE V.heap.size X11 ev2 n2 nu2 tw2 ln2 tt2) ∧ (X11.heap[g10]? = some (.cells (spC (pb i) (ep i) (tw i)) 49)) := by subst hX; exact ⟨below4 BB FG10 _, (by rw [setRow_other _ _ _ _ (ne_type F10 Fw1 (by decide))]; exact Fw1), (by rw [setRow_other _ _ _ _ (ne_type F10 Fw2 (by decide))]; exact Fw2), (FA).setW F10 (by decide) (by decide), (FB).setW F10 (by decide) (by decide), setRow_heap _ _ _ _ _ _ F10⟩
          clear F10 hX ee a
          refine rf_ [(10, .pointer (some ⟨g10, 0, none⟩))] (h6_ t0 t1 t2 t7 t8 t9) ?_
          rintro a A ⟨t10, -⟩ ⟨t0, t1, t2, t7, t8, t9, -⟩
          clear FG10
          obtain ⟨o, eo⟩ : ∃ o, wOpen (z, es) (ep i) s = o := ⟨_, rfl⟩
          have eo1 : wOpen (z, esL n1 nu1 ln1 tt1) (ep i) s = o := by rw [hq1]; exact eo
          have hR1 : Rgt (z, esL n1 nu1 ln1 tt1) s r := by rw [hq1]; exact hR
          have eo2 : wOpen (z, esL n2 nu2 ln2 tt2) (ep i) s = o := by rw [hq2]; exact eo
          have hR2 : Rgt (z, esL n2 nu2 ln2 tt2) s r := by rw [hq2]; exact hR
          refine wp_seq ?_
          refine wi_ A (h7_ t0 t1 t2 t7 t8 t9 t10) (rv_ 0 (.agg (wC z ev1)) (fun a ee => execLdWn rfl (ee _) Fw1) (rv_ 1 (.pointer (some ⟨g10, 1, none⟩)) (fun a ee => execFldS1 rfl (ee _)) (rv_ 2 (.int .i64 (ep i)) (fun a ee => execLd2 rfl (ee _) (row_at Fs rfl)) (rc_ 4 (eo1 ▸ I.open_ z (ep i) s ev1 n1 nu1 tw1 ln1 tt1 X11 (wd_right FA.eps hR1) hs hepi) fun e X12_1 hh => ?_))))
          obtain ⟨⟨ev53, n53, nu53, tw53, ln53, tt53, he, hq, hk⟩, hb⟩ := hh
          refine ⟨_, he, ?_⟩
          have bQ : Below X11.heap.size X11 X12_1 := hb
          have FW53 : (NwE V.heap.size X12_1 ev53 n53 nu53 tw53 ln53 tt53) := hk.base (BB).size
          have FQ53 : (esL n53 nu53 ln53 tt53 = o.1.2) := hq
          replace Fw1 := (on9 Fw1 bQ)
          replace Fw2 := (on9 Fw2 bQ)
          replace FA := (FA.on bQ)
          replace FB := (FB.on bQ)
          replace Fs := (on9 Fs bQ)
          replace BB := BB.trans (bQ.mono BB.size)
          clear bQ
          obtain ⟨g11, egg11⟩ : ∃ z_ : Nat, X12_1.heap.size = z_ := ⟨_, rfl⟩
          refine rs_ 8 (fun a ee => ?_)
          refine stepV rfl rfl (execAllW rfl) ⟨.pointer (some ⟨g11, 0, none⟩), ⟨_, rfl, by subst egg11; rfl⟩, fun X12_2 hX => ?_⟩
          have bQ : Below X12_1.heap.size X12_1 X12_2 := by subst hX egg11; exact (belNew X12_1 _)
          have Fg11 : (X12_2.heap[g11]? = some (.cells (wC 0 (.slice none 0 0)) 25)) := by subst hX egg11; exact heapNew X12_1 _
          have FGg11 : (V.heap.size ≤ g11) := by subst hX egg11; exact (BB).size
          have FNg7g11 : (g7 ≠ g11) := by subst hX egg11; exact ne16 Fw1
          have FNg8g11 : (g8 ≠ g11) := by subst hX egg11; exact ne16 Fw2
          replace Fw1 := (on9 Fw1 bQ)
          replace Fw2 := (on9 Fw2 bQ)
          replace FA := (FA.on bQ)
          replace FB := (FB.on bQ)
          replace Fs := (on9 Fs bQ)
          replace FW53 := (FW53.on bQ)
          replace BB := BB.trans (bQ.mono BB.size)
          clear bQ hX egg11 ee a
          refine rs_ 9 (fun a ee => ?_)
          refine stepS rfl rfl (execStWn rfl (ee _) (ee _) Fg11 (slc_one (ownE_shp FW53.row))) ⟨_, ⟨_, rfl, rfl⟩, fun X12 hX => ?_⟩
          obtain ⟨BB, Fw1, Fw2, FA, FB, Fs, FW53, Fx⟩ : Below V.heap.size V X12 ∧ (X12.heap[g7]? = some (.cells (wC z ev1) 25)) ∧ (X12.heap[g8]? = some (.cells (wC z ev2) 25)) ∧ (NwE V.heap.size X12 ev1 n1 nu1 tw1 ln1 tt1) ∧ (NwE V.heap.size X12 ev2 n2 nu2 tw2 ln2 tt2) ∧ (X12.heap[g10]? = some (.cells (spC (pb i) (ep i) (tw i)) 49)) ∧ (NwE V.heap.size X12 ev53 n53 nu53 tw53 ln53 tt53) ∧ (X12.heap[g11]? = some (.cells (wC o.1.1 ev53) 25)) := by subst hX; exact ⟨below4 BB FGg11 _, (by rw [setRow_other _ _ _ _ FNg7g11]; exact Fw1), (by rw [setRow_other _ _ _ _ FNg8g11]; exact Fw2), (FA).setW Fg11 (by decide) (by decide), (FB).setW Fg11 (by decide) (by decide), (by rw [setRow_other _ _ _ _ (ne_type Fg11 Fs (by decide))]; exact Fs), (FW53).setW Fg11 (by decide) (by decide), setRow_heap _ _ _ _ _ _ Fg11⟩
          clear Fg11 hX ee a
          refine rf_ [(11, .pointer (some ⟨g11, 0, none⟩)), (12, .int .i64 ((o.2 : Nat) : Int))] (h7_ t0 t1 t2 t7 t8 t9 t10) ?_
          rintro a A ⟨t11, t12, -⟩ ⟨t0, t1, t2, t7, t8, t9, t10, -⟩
          refine wp_seq ?_
          refine wi_ A (h9_ t0 t1 t2 t7 t8 t9 t10 t11 t12) (rv_ 0 (.agg (wC z ev2)) (fun a ee => execLdWn rfl (ee _) Fw2) (rv_ 1 (.pointer (some ⟨g10, 1, none⟩)) (fun a ee => execFldS1 rfl (ee _)) (rv_ 2 (.int .i64 (ep i)) (fun a ee => execLd2 rfl (ee _) (row_at Fs rfl)) (rc_ 4 (eo2 ▸ ropenW z (ep i) s ev2 n2 nu2 tw2 ln2 tt2 X12 (wd_right FB.eps hR2) hs hepi) fun e X13_1 hh => ?_))))
          obtain ⟨⟨ev61, n61, nu61, tw61, ln61, tt61, he, hq, hk⟩, hb⟩ := hh
          refine ⟨_, he, ?_⟩
          have bQ : Below X12.heap.size X12 X13_1 := hb
          have FW61 : (NwE V.heap.size X13_1 ev61 n61 nu61 tw61 ln61 tt61) := hk.base (BB).size
          have FQ61 : (esL n61 nu61 ln61 tt61 = o.1.2) := hq
          replace Fw1 := (on9 Fw1 bQ)
          replace Fw2 := (on9 Fw2 bQ)
          replace FA := (FA.on bQ)
          replace FB := (FB.on bQ)
          replace Fs := (on9 Fs bQ)
          replace FW53 := (FW53.on bQ)
          replace Fx := (on9 Fx bQ)
          replace BB := BB.trans (bQ.mono BB.size)
          clear bQ
          obtain ⟨g13, egg13⟩ : ∃ z_ : Nat, X13_1.heap.size = z_ := ⟨_, rfl⟩
          refine rs_ 8 (fun a ee => ?_)
          refine stepV rfl rfl (execAllW rfl) ⟨.pointer (some ⟨g13, 0, none⟩), ⟨_, rfl, by subst egg13; rfl⟩, fun X13_2 hX => ?_⟩
          have bQ : Below X13_1.heap.size X13_1 X13_2 := by subst hX egg13; exact (belNew X13_1 _)
          have Fg13 : (X13_2.heap[g13]? = some (.cells (wC 0 (.slice none 0 0)) 25)) := by subst hX egg13; exact heapNew X13_1 _
          have FGg13 : (V.heap.size ≤ g13) := by subst hX egg13; exact (BB).size
          have FNg7g13 : (g7 ≠ g13) := by subst hX egg13; exact ne16 Fw1
          have FNg8g13 : (g8 ≠ g13) := by subst hX egg13; exact ne16 Fw2
          have FNg11g13 : (g11 ≠ g13) := by subst hX egg13; exact ne16 Fx
          replace Fw1 := (on9 Fw1 bQ)
          replace Fw2 := (on9 Fw2 bQ)
          replace FA := (FA.on bQ)
          replace FB := (FB.on bQ)
          replace Fs := (on9 Fs bQ)
          replace FW53 := (FW53.on bQ)
          replace Fx := (on9 Fx bQ)
          replace FW61 := (FW61.on bQ)
          replace BB := BB.trans (bQ.mono BB.size)
          clear bQ hX egg13 ee a
          refine rs_ 9 (fun a ee => ?_)
          refine stepS rfl rfl (execStWn rfl (ee _) (ee _) Fg13 (slc_one (ownE_shp FW61.row))) ⟨_, ⟨_, rfl, rfl⟩, fun X13 hX => ?_⟩
          obtain ⟨BB, Fw1, Fw2, FA, FB, Fs, FW53, Fx, FW61, Fy⟩ : Below V.heap.size V X13 ∧ (X13.heap[g7]? = some (.cells (wC z ev1) 25)) ∧ (X13.heap[g8]? = some (.cells (wC z ev2) 25)) ∧ (NwE V.heap.size X13 ev1 n1 nu1 tw1 ln1 tt1) ∧ (NwE V.heap.size X13 ev2 n2 nu2 tw2 ln2 tt2) ∧ (X13.heap[g10]? = some (.cells (spC (pb i) (ep i) (tw i)) 49)) ∧ (NwE V.heap.size X13 ev53 n53 nu53 tw53 ln53 tt53) ∧ (X13.heap[g11]? = some (.cells (wC o.1.1 ev53) 25)) ∧ (NwE V.heap.size X13 ev61 n61 nu61 tw61 ln61 tt61) ∧ (X13.heap[g13]? = some (.cells (wC o.1.1 ev61) 25)) := by subst hX; exact ⟨below4 BB FGg13 _, (by rw [setRow_other _ _ _ _ FNg7g13]; exact Fw1), (by rw [setRow_other _ _ _ _ FNg8g13]; exact Fw2), (FA).setW Fg13 (by decide) (by decide), (FB).setW Fg13 (by decide) (by decide), (by rw [setRow_other _ _ _ _ (ne_type Fg13 Fs (by decide))]; exact Fs), (FW53).setW Fg13 (by decide) (by decide), (by rw [setRow_other _ _ _ _ FNg11g13]; exact Fx), (FW61).setW Fg13 (by decide) (by decide), setRow_heap _ _ _ _ _ _ Fg13⟩
          clear Fg13 hX ee a
          refine rf_ [(13, .pointer (some ⟨g13, 0, none⟩)), (14, .int .i64 ((o.2 : Nat) : Int))] (h9_ t0 t1 t2 t7 t8 t9 t10 t11 t12) ?_
          rintro a A ⟨t13, t14, -⟩ ⟨t0, t1, t2, t7, t8, t9, t10, t11, t12, -⟩
          refine wp_join (fun a W => ∃ (o2 : Wn × Nat) (ev3 : Value) (n3 : Nat) (nu3 : Nat → Int) (tw3 : Nat → Value) (ln3 : Nat → Nat) (tt3 : Nat → Nat → Nat → Nat) (ev4 : Value) (n4 : Nat) (nu4 : Nat → Int) (tw4 : Nat → Value) (ln4 : Nat → Nat) (tt4 : Nat → Nat → Nat → Nat), (a.tmps.size = 116 ∧ a.defers = []) ∧ a.eval (.tmp 0) = .int .i64 s ∧ a.eval (.tmp 1) = .int .i64 r ∧ a.eval (.tmp 2) = sv ∧ a.eval (.tmp 7) = .pointer (some ⟨g7, 0, none⟩) ∧ a.eval (.tmp 8) = .pointer (some ⟨g8, 0, none⟩) ∧ a.eval (.tmp 9) = .int .i64 ((i : Nat) : Int) ∧ a.eval (.tmp 11) = .pointer (some ⟨g11, 0, none⟩) ∧ a.eval (.tmp 12) = .int .i64 ((o2.2 : Nat) : Int) ∧ a.eval (.tmp 13) = .pointer (some ⟨g13, 0, none⟩) ∧ a.eval (.tmp 14) = .int .i64 ((o2.2 : Nat) : Int) ∧ Below V.heap.size V W ∧ (W.heap[g7]? = some (.cells (wC z ev1) 25)) ∧ (W.heap[g8]? = some (.cells (wC z ev2) 25)) ∧ (NwE V.heap.size W ev1 n1 nu1 tw1 ln1 tt1) ∧ (NwE V.heap.size W ev2 n2 nu2 tw2 ln2 tt2) ∧ (W.heap[g11]? = some (.cells (wC o2.1.1 ev3) 25)) ∧ (W.heap[g13]? = some (.cells (wC o2.1.1 ev4) 25)) ∧ (NwE V.heap.size W ev3 n3 nu3 tw3 ln3 tt3) ∧ (NwE V.heap.size W ev4 n4 nu4 tw4 ln4 tt4) ∧ (esL n3 nu3 ln3 tt3 = o2.1.2) ∧ (esL n4 nu4 ln4 tt4 = o2.1.2) ∧ (o2.2 = 0 → Rgt o2.1 s r)) ?_ ?_
          · refine wp_seq ?_
            cases hp : pb i with
            | false =>
              refine wi_ A (h11_ t0 t1 t2 t7 t8 t9 t10 t11 t12 t13 t14) (rv_ 0 (.pointer (some ⟨g10, 0, none⟩)) (fun a ee => execFldS0 rfl (ee _)) (rv_ 1 (.bool false) (fun a ee => execLdBo rfl (ee _) (by rw [← hp]; exact row_at Fs rfl)) (rf_ [(74, .bool false)] (h11_ t0 t1 t2 t7 t8 t9 t10 t11 t12 t13 t14) ?_)))
              rintro a A ⟨t74, -⟩ ⟨t0, t1, t2, t7, t8, t9, t10, t11, t12, t13, t14, -⟩
              refine wp_cond_false t74 ?_
              refine wp_skip ?_
              clear t74
              exact ⟨rfl, o, ev53, n53, nu53, tw53, ln53, tt53, ev61, n61, nu61, tw61, ln61, tt61, A, t0, t1, t2, t7, t8, t9, t11, t12, t13, t14, BB, Fw1, Fw2, FA, FB, Fx, Fy, FW53, FW61, FQ53, FQ61, (fun h_ => by rw [← eo]; exact open_rgt hR (by rw [eo]; exact h_))⟩
            | true =>
              by_cases hg : ep i > z - s
              · refine wi_ A (h11_ t0 t1 t2 t7 t8 t9 t10 t11 t12 t13 t14) (rv_ 0 (.pointer (some ⟨g10, 0, none⟩)) (fun a ee => execFldS0 rfl (ee _)) (rv_ 1 (.bool true) (fun a ee => execLdBo rfl (ee _) (by rw [← hp]; exact row_at Fs rfl)) (rv_ 3 (.pointer (some ⟨g10, 1, none⟩)) (fun a ee => execFldS1 rfl (ee _)) (rv_ 4 (.int .i64 (ep i)) (fun a ee => execLd2 rfl (ee _) (row_at Fs rfl)) (rv_ 5 (.pointer (some ⟨g8, 0, none⟩)) (fun a ee => execFldW0 rfl (ee _)) (rv_ 6 (.int .i64 z) (fun a ee => execLd2 rfl (ee _) (wC_0 Fw2)) (rv_ 8 (.int .i64 (z - s)) (fun a ee => execSub2 (z := (z - s)) rfl (ee _) (ee _) rfl (by omega) (by omega)) (rv_ 9 (.bool true) (fun a ee => execDec (exIgtr2 (p := (ep i)) (q := (z - s)) rfl (ee _) (ee _)) (decide_eq_true hg)) (rf_ [(74, .bool true)] (h11_ t0 t1 t2 t7 t8 t9 t10 t11 t12 t13 t14) ?_)))))))))
                rintro a A ⟨t74, -⟩ ⟨t0, t1, t2, t7, t8, t9, t10, t11, t12, t13, t14, -⟩
                refine wp_cond_true t74 ?_
                clear t74
                obtain ⟨p, ep_⟩ : ∃ p, wAdd (z, es) (ep i) (tgL (m i) (tg i)) r = p := ⟨_, rfl⟩
                have ep1 : wAdd (z, esL n1 nu1 ln1 tt1) (ep i) (tgL (m i) (tg i)) r = p := by rw [hq1]; exact ep_
                have ep2 : wAdd (z, esL n2 nu2 ln2 tt2) (ep i) (tgL (m i) (tg i)) r = p := by rw [hq2]; exact ep_
                refine wp_seq ?_
                refine wi_ A (h11_ t0 t1 t2 t7 t8 t9 t10 t11 t12 t13 t14) (rv_ 0 (.agg (wC z ev1)) (fun a ee => execLdWn rfl (ee _) Fw1) (rv_ 1 (.pointer (some ⟨g10, 1, none⟩)) (fun a ee => execFldS1 rfl (ee _)) (rv_ 2 (.int .i64 (ep i)) (fun a ee => execLd2 rfl (ee _) (row_at Fs rfl)) (rv_ 3 (.pointer (some ⟨g10, 2, none⟩)) (fun a ee => execFldS2 rfl (ee _)) (rv_ 4 (tw i) (fun a ee => execLdTs rfl (ee _) (row_at Fs rfl)) (rc_ 6 (ep1 ▸ I.add z (ep i) r ev1 n1 nu1 tw1 ln1 tt1 X13 (tw i) (m i) (tg i) (wd_right FA.eps hR1) hepi hr (hTe.on BB) hmi) fun e X15_1 hh => ?_))))))
                obtain ⟨⟨ev82, n82, nu82, tw82, ln82, tt82, he, hq, hk⟩, hb⟩ := hh
                refine ⟨_, he, ?_⟩
                have bQ : Below X13.heap.size X13 X15_1 := hb
                have FW82 : (NwE V.heap.size X15_1 ev82 n82 nu82 tw82 ln82 tt82) := hk.base (BB).size
                have FQ82 : (esL n82 nu82 ln82 tt82 = p.1.2) := hq
                replace Fw1 := (on9 Fw1 bQ)
                replace Fw2 := (on9 Fw2 bQ)
                replace FA := (FA.on bQ)
                replace FB := (FB.on bQ)
                replace Fs := (on9 Fs bQ)
                replace FW53 := (FW53.on bQ)
                replace Fx := (on9 Fx bQ)
                replace FW61 := (FW61.on bQ)
                replace Fy := (on9 Fy bQ)
                replace BB := BB.trans (bQ.mono BB.size)
                clear bQ
                refine rs_ 10 (fun a ee => ?_)
                refine stepS rfl rfl (execStWn rfl (ee _) (ee _) Fx (slc_one (ownE_shp FW82.row))) ⟨_, ⟨_, rfl, rfl⟩, fun X15 hX => ?_⟩
                obtain ⟨BB, Fw1, Fw2, FA, FB, Fs, FW61, Fy, FW82, Fx2⟩ : Below V.heap.size V X15 ∧ (X15.heap[g7]? = some (.cells (wC z ev1) 25)) ∧ (X15.heap[g8]? = some (.cells (wC z ev2) 25)) ∧ (NwE V.heap.size X15 ev1 n1 nu1 tw1 ln1 tt1) ∧ (NwE V.heap.size X15 ev2 n2 nu2 tw2 ln2 tt2) ∧ (X15.heap[g10]? = some (.cells (spC (pb i) (ep i) (tw i)) 49)) ∧ (NwE V.heap.size X15 ev61 n61 nu61 tw61 ln61 tt61) ∧ (X15.heap[g13]? = some (.cells (wC o.1.1 ev61) 25)) ∧ (NwE V.heap.size X15 ev82 n82 nu82 tw82 ln82 tt82) ∧ (X15.heap[g11]? = some (.cells (wC p.1.1 ev82) 25)) := by subst hX; exact ⟨below4 BB FGg11 _, (by rw [setRow_other _ _ _ _ FNg7g11]; exact Fw1), (by rw [setRow_other _ _ _ _ FNg8g11]; exact Fw2), (FA).setW Fx (by decide) (by decide), (FB).setW Fx (by decide) (by decide), (by rw [setRow_other _ _ _ _ (ne_type Fx Fs (by decide))]; exact Fs), (FW61).setW Fx (by decide) (by decide), (by rw [setRow_other _ _ _ _ (Ne.symm FNg11g13)]; exact Fy), (FW82).setW Fx (by decide) (by decide), setRow_heap _ _ _ _ _ _ Fx⟩
                clear FW53 Fx hX ee a
                refine rf_ [(12, .int .i64 ((p.2 : Nat) : Int))] (h10_ t0 t1 t2 t7 t8 t9 t10 t11 t13 t14) ?_
                rintro a A ⟨t12, -⟩ ⟨t0, t1, t2, t7, t8, t9, t10, t11, t13, t14, -⟩
                refine wi_ A (h11_ t0 t1 t2 t7 t8 t9 t10 t11 t12 t13 t14) (rv_ 0 (.agg (wC z ev2)) (fun a ee => execLdWn rfl (ee _) Fw2) (rv_ 1 (.pointer (some ⟨g10, 1, none⟩)) (fun a ee => execFldS1 rfl (ee _)) (rv_ 2 (.int .i64 (ep i)) (fun a ee => execLd2 rfl (ee _) (row_at Fs rfl)) (rv_ 3 (.pointer (some ⟨g10, 2, none⟩)) (fun a ee => execFldS2 rfl (ee _)) (rv_ 4 (tw i) (fun a ee => execLdTs rfl (ee _) (row_at Fs rfl)) (rc_ 6 (ep2 ▸ raddW z (ep i) r ev2 n2 nu2 tw2 ln2 tt2 X15 (tw i) (m i) (tg i) (wd_right FB.eps hR2) hepi hr (hTe.on BB) hmi) fun e X16_1 hh => ?_))))))
                obtain ⟨⟨ev92, n92, nu92, tw92, ln92, tt92, he, hq, hk⟩, hb⟩ := hh
                refine ⟨_, he, ?_⟩
                have bQ : Below X15.heap.size X15 X16_1 := hb
                have FW92 : (NwE V.heap.size X16_1 ev92 n92 nu92 tw92 ln92 tt92) := hk.base (BB).size
                have FQ92 : (esL n92 nu92 ln92 tt92 = p.1.2) := hq
                replace Fw1 := (on9 Fw1 bQ)
                replace Fw2 := (on9 Fw2 bQ)
                replace FA := (FA.on bQ)
                replace FB := (FB.on bQ)
                replace Fs := (on9 Fs bQ)
                replace FW61 := (FW61.on bQ)
                replace Fy := (on9 Fy bQ)
                replace FW82 := (FW82.on bQ)
                replace Fx2 := (on9 Fx2 bQ)
                replace BB := BB.trans (bQ.mono BB.size)
                clear bQ
                refine rs_ 10 (fun a ee => ?_)
                refine stepS rfl rfl (execStWn rfl (ee _) (ee _) Fy (slc_one (ownE_shp FW92.row))) ⟨_, ⟨_, rfl, rfl⟩, fun X16 hX => ?_⟩
                obtain ⟨BB, Fw1, Fw2, FA, FB, Fs, FW82, Fx2, FW92, Fy2⟩ : Below V.heap.size V X16 ∧ (X16.heap[g7]? = some (.cells (wC z ev1) 25)) ∧ (X16.heap[g8]? = some (.cells (wC z ev2) 25)) ∧ (NwE V.heap.size X16 ev1 n1 nu1 tw1 ln1 tt1) ∧ (NwE V.heap.size X16 ev2 n2 nu2 tw2 ln2 tt2) ∧ (X16.heap[g10]? = some (.cells (spC (pb i) (ep i) (tw i)) 49)) ∧ (NwE V.heap.size X16 ev82 n82 nu82 tw82 ln82 tt82) ∧ (X16.heap[g11]? = some (.cells (wC p.1.1 ev82) 25)) ∧ (NwE V.heap.size X16 ev92 n92 nu92 tw92 ln92 tt92) ∧ (X16.heap[g13]? = some (.cells (wC p.1.1 ev92) 25)) := by subst hX; exact ⟨below4 BB FGg13 _, (by rw [setRow_other _ _ _ _ FNg7g13]; exact Fw1), (by rw [setRow_other _ _ _ _ FNg8g13]; exact Fw2), (FA).setW Fy (by decide) (by decide), (FB).setW Fy (by decide) (by decide), (by rw [setRow_other _ _ _ _ (ne_type Fy Fs (by decide))]; exact Fs), (FW82).setW Fy (by decide) (by decide), (by rw [setRow_other _ _ _ _ FNg11g13]; exact Fx2), (FW92).setW Fy (by decide) (by decide), setRow_heap _ _ _ _ _ _ Fy⟩
                clear FW61 Fy hX ee a
                refine rf_ [(14, .int .i64 ((p.2 : Nat) : Int))] (h10_ t0 t1 t2 t7 t8 t9 t10 t11 t12 t13) ?_
                rintro a A ⟨t14, -⟩ ⟨t0, t1, t2, t7, t8, t9, t10, t11, t12, t13, -⟩
                exact ⟨rfl, p, ev82, n82, nu82, tw82, ln82, tt82, ev92, n92, nu92, tw92, ln92, tt92, A, t0, t1, t2, t7, t8, t9, t11, t12, t13, t14, BB, Fw1, Fw2, FA, FB, Fx2, Fy2, FW82, FW92, FQ82, FQ92, (fun h_ => by rw [← ep_]; exact add_rgt hR (by rw [ep_]; exact h_) (show z - s < ep i by omega))⟩
              · refine wi_ A (h11_ t0 t1 t2 t7 t8 t9 t10 t11 t12 t13 t14) (rv_ 0 (.pointer (some ⟨g10, 0, none⟩)) (fun a ee => execFldS0 rfl (ee _)) (rv_ 1 (.bool true) (fun a ee => execLdBo rfl (ee _) (by rw [← hp]; exact row_at Fs rfl)) (rv_ 3 (.pointer (some ⟨g10, 1, none⟩)) (fun a ee => execFldS1 rfl (ee _)) (rv_ 4 (.int .i64 (ep i)) (fun a ee => execLd2 rfl (ee _) (row_at Fs rfl)) (rv_ 5 (.pointer (some ⟨g8, 0, none⟩)) (fun a ee => execFldW0 rfl (ee _)) (rv_ 6 (.int .i64 z) (fun a ee => execLd2 rfl (ee _) (wC_0 Fw2)) (rv_ 8 (.int .i64 (z - s)) (fun a ee => execSub2 (z := (z - s)) rfl (ee _) (ee _) rfl (by omega) (by omega)) (rv_ 9 (.bool false) (fun a ee => execDec (exIgtr2 (p := (ep i)) (q := (z - s)) rfl (ee _) (ee _)) (decide_eq_false hg)) (rf_ [(74, .bool false)] (h11_ t0 t1 t2 t7 t8 t9 t10 t11 t12 t13 t14) ?_)))))))))
                rintro a A ⟨t74, -⟩ ⟨t0, t1, t2, t7, t8, t9, t10, t11, t12, t13, t14, -⟩
                refine wp_cond_false t74 ?_
                refine wp_skip ?_
                clear t74
                exact ⟨rfl, o, ev53, n53, nu53, tw53, ln53, tt53, ev61, n61, nu61, tw61, ln61, tt61, A, t0, t1, t2, t7, t8, t9, t11, t12, t13, t14, BB, Fw1, Fw2, FA, FB, Fx, Fy, FW53, FW61, FQ53, FQ61, (fun h_ => by rw [← eo]; exact open_rgt hR (by rw [eo]; exact h_))⟩
          · clear A BB t0 t1 t2 t7 t8 t9 t10 t11 t12 t13 t14 Fw1 Fw2 FA FB Fs FW53 Fx FW61 Fy a
            rintro a XC ⟨o2, ev3, n3, nu3, tw3, ln3, tt3, ev4, n4, nu4, tw4, ln4, tt4, A, t0, t1, t2, t7, t8, t9, t11, t12, t13, t14, BB, Fw1, Fw2, FA, FB, Fx, Fy, FX, FY, hx, hy, hok⟩
            refine wp_seq ?_
            refine wp_seq ?_
            refine wi_ A (h10_ t0 t1 t2 t7 t8 t9 t11 t12 t13 t14) (rv_ 2 (.bool false) (fun a ee => execDec (execNeN (p := o2.2) (q := o2.2) rfl (ee _) (ee _)) (decide_eq_false (by omega))) (rv_ 4 (.agg (wC o2.1.1 ev3)) (fun a ee => execLdWn rfl (ee _) Fx) (rv_ 5 (.agg (wC o2.1.1 ev4)) (fun a ee => execLdWn rfl (ee _) Fy) (rc_ 6 (same16w o2.1.1 XC FX.eps FY.eps (hx.trans hy.symm)) (cb_ fun X17 bQ => ?_)))))
            replace Fw1 := (on9 Fw1 bQ)
            replace Fw2 := (on9 Fw2 bQ)
            replace FA := (FA.on bQ)
            replace FB := (FB.on bQ)
            replace Fx := (on9 Fx bQ)
            replace Fy := (on9 Fy bQ)
            replace FX := (FX.on bQ)
            replace FY := (FY.on bQ)
            replace BB := BB.trans (bQ.mono BB.size)
            clear bQ
            refine rv_ 7 (.bool false) (fun a ee => execNot8 (b := true) rfl (ee _)) (rf_ [(103, .bool false)] (h10_ t0 t1 t2 t7 t8 t9 t11 t12 t13 t14) ?_)
            rintro a A ⟨t103, -⟩ ⟨t0, t1, t2, t7, t8, t9, t11, t12, t13, t14, -⟩
            refine wp_cond_false t103 ?_
            refine wp_skip ?_
            clear t103
            refine wp_join (fun a W => ∃ (z : Int) (es : List Ep) (ev1 : Value) (n1 : Nat) (nu1 : Nat → Int) (tw1 : Nat → Value) (ln1 : Nat → Nat) (tt1 : Nat → Nat → Nat → Nat) (ev2 : Value) (n2 : Nat) (nu2 : Nat → Int) (tw2 : Nat → Value) (ln2 : Nat → Nat) (tt2 : Nat → Nat → Nat → Nat), (a.tmps.size = 116 ∧ a.defers = []) ∧ a.eval (.tmp 0) = .int .i64 s ∧ a.eval (.tmp 1) = .int .i64 r ∧ a.eval (.tmp 2) = sv ∧ a.eval (.tmp 7) = .pointer (some ⟨g7, 0, none⟩) ∧ a.eval (.tmp 8) = .pointer (some ⟨g8, 0, none⟩) ∧ a.eval (.tmp 9) = .int .i64 ((i : Nat) : Int) ∧ Below V.heap.size V W ∧ (W.heap[g7]? = some (.cells (wC z ev1) 25)) ∧ (W.heap[g8]? = some (.cells (wC z ev2) 25)) ∧ (NwE V.heap.size W ev1 n1 nu1 tw1 ln1 tt1) ∧ (NwE V.heap.size W ev2 n2 nu2 tw2 ln2 tt2) ∧ (esL n1 nu1 ln1 tt1 = es) ∧ (esL n2 nu2 ln2 tt2 = es) ∧ (Rgt (z, es) s r)) ?_ ?_
            · refine wp_seq ?_
              by_cases h0 : o2.2 = 0
              · refine wi_ A (h10_ t0 t1 t2 t7 t8 t9 t11 t12 t13 t14) (rv_ 1 (.bool true) (fun a ee => execDec (execEqN (p := o2.2) (q := 0) rfl (ee _) rfl) (decide_eq_true (by omega))) (rf_ [(105, .bool true)] (h10_ t0 t1 t2 t7 t8 t9 t11 t12 t13 t14) ?_))
                rintro a A ⟨t105, -⟩ ⟨t0, t1, t2, t7, t8, t9, t11, t12, t13, t14, -⟩
                refine wp_cond_true t105 ?_
                clear t105
                refine wp_region_stB (σ := Unit) 116 [(0, 106), (1, 107)] (fun l_ s X => Below V.heap.size V X ∧ (l_ 2 = false → (X.heap[g7]? = some (.cells (wC z ev1) 25))) ∧ (l_ 3 = false → (X.heap[g8]? = some (.cells (wC z ev2) 25))) ∧ (l_ 2 = false → (NwE V.heap.size X ev1 n1 nu1 tw1 ln1 tt1)) ∧ (l_ 3 = false → (NwE V.heap.size X ev2 n2 nu2 tw2 ln2 tt2)) ∧ ((X.heap[g11]? = some (.cells (wC o2.1.1 ev3) 25))) ∧ ((X.heap[g13]? = some (.cells (wC o2.1.1 ev4) 25))) ∧ ((NwE V.heap.size X ev3 n3 nu3 tw3 ln3 tt3)) ∧ ((NwE V.heap.size X ev4 n4 nu4 tw4 ln4 tt4)) ∧ ((V.heap.size ≤ g7)) ∧ ((V.heap.size ≤ g8)) ∧ ((g7 ≠ g8)) ∧ ((esL n53 nu53 ln53 tt53 = o.1.2)) ∧ ((V.heap.size ≤ g11)) ∧ ((g7 ≠ g11)) ∧ ((g8 ≠ g11)) ∧ ((esL n61 nu61 ln61 tt61 = o.1.2)) ∧ ((V.heap.size ≤ g13)) ∧ ((g7 ≠ g13)) ∧ ((g8 ≠ g13)) ∧ ((g11 ≠ g13)) ∧ (l_ 2 = true → (X.heap[g7]? = some (.cells (wC o2.1.1 ev3) 25))) ∧ (l_ 3 = true → (X.heap[g8]? = some (.cells (wC o2.1.1 ev4) 25)))) (fun s => fun i_ => match i_ with | 0 => .agg (wC o2.1.1 ev3) | 1 => .agg (wC o2.1.1 ev4) | 2 => undef | 3 => undef | _ => undef) () (by kernel_rfl) (by kernel_rfl) A.1 (by kernel_rfl) (by decide) (by decide) ⟨(BB.drew), (fun _ => (on9 Fw1 (Below.refl _ _).drew)), (fun _ => (on9 Fw2 (Below.refl _ _).drew)), (fun _ => (FA.on (Below.refl _ _).drew)), (fun _ => (FB.on (Below.refl _ _).drew)), ((on9 Fx (Below.refl _ _).drew)), ((on9 Fy (Below.refl _ _).drew)), ((FX.on (Below.refl _ _).drew)), ((FY.on (Below.refl _ _).drew)), (FGg7), (FGg8), (FNg7g8), (FQ53), (FGg11), (FNg7g11), (FNg8g11), (FQ61), (FGg13), (FNg7g13), (FNg8g13), (FNg11g13), (fun q0_ => by cases q0_), (fun q0_ => by cases q0_)⟩ ?_ ?_
                · intro i_ hi_ l_ s a X hl_ hf hdep hl2 hcl hno hT
                  have up : ∀ j x, x ≠ j → updB l_ j x = l_ x := fun j x hj => by unfold updB; simp [hj]
                  match i_, hi_ with
                  | 0, _ => exact stepV rfl rfl (execLdWn rfl ((hf 11 (by decide)).trans t11) hT.2.2.2.2.2.1) ⟨s, ⟨_, rfl, rfl⟩, ⟨hT.1, (fun q0_ => (hT.2.1 (by rw [up 0 2 (by decide)] at q0_; exact q0_))), (fun q0_ => (hT.2.2.1 (by rw [up 0 3 (by decide)] at q0_; exact q0_))), (fun q0_ => (hT.2.2.2.1 (by rw [up 0 2 (by decide)] at q0_; exact q0_))), (fun q0_ => (hT.2.2.2.2.1 (by rw [up 0 3 (by decide)] at q0_; exact q0_))), (hT.2.2.2.2.2.1), (hT.2.2.2.2.2.2.1), (hT.2.2.2.2.2.2.2.1), (hT.2.2.2.2.2.2.2.2.1), (hT.2.2.2.2.2.2.2.2.2.1), (hT.2.2.2.2.2.2.2.2.2.2.1), (hT.2.2.2.2.2.2.2.2.2.2.2.1), (hT.2.2.2.2.2.2.2.2.2.2.2.2.1), (hT.2.2.2.2.2.2.2.2.2.2.2.2.2.1), (hT.2.2.2.2.2.2.2.2.2.2.2.2.2.2.1), (hT.2.2.2.2.2.2.2.2.2.2.2.2.2.2.2.1), (hT.2.2.2.2.2.2.2.2.2.2.2.2.2.2.2.2.1), (hT.2.2.2.2.2.2.2.2.2.2.2.2.2.2.2.2.2.1), (hT.2.2.2.2.2.2.2.2.2.2.2.2.2.2.2.2.2.2.1), (hT.2.2.2.2.2.2.2.2.2.2.2.2.2.2.2.2.2.2.2.1), (hT.2.2.2.2.2.2.2.2.2.2.2.2.2.2.2.2.2.2.2.2.1), (fun q0_ => absurd (hl_.symm.trans (hcl 2 _ rfl ((up 0 2 (by decide)).symm.trans q0_) 0 rfl)) (by decide)), (fun q0_ => absurd (hl_.symm.trans (hcl 3 _ rfl ((up 0 3 (by decide)).symm.trans q0_) 0 rfl)) (by decide))⟩, fun _ _ _ => rfl⟩
                  | 1, _ => exact stepV rfl rfl (execLdWn rfl ((hf 13 (by decide)).trans t13) hT.2.2.2.2.2.2.1) ⟨s, ⟨_, rfl, rfl⟩, ⟨hT.1, (fun q0_ => (hT.2.1 (by rw [up 1 2 (by decide)] at q0_; exact q0_))), (fun q0_ => (hT.2.2.1 (by rw [up 1 3 (by decide)] at q0_; exact q0_))), (fun q0_ => (hT.2.2.2.1 (by rw [up 1 2 (by decide)] at q0_; exact q0_))), (fun q0_ => (hT.2.2.2.2.1 (by rw [up 1 3 (by decide)] at q0_; exact q0_))), (hT.2.2.2.2.2.1), (hT.2.2.2.2.2.2.1), (hT.2.2.2.2.2.2.2.1), (hT.2.2.2.2.2.2.2.2.1), (hT.2.2.2.2.2.2.2.2.2.1), (hT.2.2.2.2.2.2.2.2.2.2.1), (hT.2.2.2.2.2.2.2.2.2.2.2.1), (hT.2.2.2.2.2.2.2.2.2.2.2.2.1), (hT.2.2.2.2.2.2.2.2.2.2.2.2.2.1), (hT.2.2.2.2.2.2.2.2.2.2.2.2.2.2.1), (hT.2.2.2.2.2.2.2.2.2.2.2.2.2.2.2.1), (hT.2.2.2.2.2.2.2.2.2.2.2.2.2.2.2.2.1), (hT.2.2.2.2.2.2.2.2.2.2.2.2.2.2.2.2.2.1), (hT.2.2.2.2.2.2.2.2.2.2.2.2.2.2.2.2.2.2.1), (hT.2.2.2.2.2.2.2.2.2.2.2.2.2.2.2.2.2.2.2.1), (hT.2.2.2.2.2.2.2.2.2.2.2.2.2.2.2.2.2.2.2.2.1), (fun q0_ => (hT.2.2.2.2.2.2.2.2.2.2.2.2.2.2.2.2.2.2.2.2.2.1 (by rw [up 1 2 (by decide)] at q0_; exact q0_))), (fun q0_ => absurd (hl_.symm.trans (hcl 3 _ rfl ((up 1 3 (by decide)).symm.trans q0_) 1 rfl)) (by decide))⟩, fun _ _ _ => rfl⟩
                  | 2, _ =>
                    refine stepS rfl rfl (execStWn rfl ((hf 7 (by decide)).trans t7) (hdep _ rfl 0 rfl _ rfl _ rfl) (hT.2.1 hl_) (slc_one (ownE_shp hT.2.2.2.2.2.2.2.1.row))) ⟨s, ⟨_, rfl, rfl⟩, ⟨below4 hT.1 hT.2.2.2.2.2.2.2.2.2.1 _, (fun q0_ => absurd q0_ (by unfold updB; simp)), (fun q0_ => (by rw [setRow_other _ _ _ _ (Ne.symm hT.2.2.2.2.2.2.2.2.2.2.2.1)]; exact (hT.2.2.1 (by rw [up 2 3 (by decide)] at q0_; exact q0_)))), (fun q0_ => absurd q0_ (by unfold updB; simp)), (fun q0_ => ((hT.2.2.2.2.1 (by rw [up 2 3 (by decide)] at q0_; exact q0_))).setW (hT.2.1 hl_) (by decide) (by decide)), ((by rw [setRow_other _ _ _ _ (Ne.symm hT.2.2.2.2.2.2.2.2.2.2.2.2.2.2.1)]; exact hT.2.2.2.2.2.1)), ((by rw [setRow_other _ _ _ _ (Ne.symm hT.2.2.2.2.2.2.2.2.2.2.2.2.2.2.2.2.2.2.1)]; exact hT.2.2.2.2.2.2.1)), ((hT.2.2.2.2.2.2.2.1).setW (hT.2.1 hl_) (by decide) (by decide)), ((hT.2.2.2.2.2.2.2.2.1).setW (hT.2.1 hl_) (by decide) (by decide)), (hT.2.2.2.2.2.2.2.2.2.1), (hT.2.2.2.2.2.2.2.2.2.2.1), (hT.2.2.2.2.2.2.2.2.2.2.2.1), (hT.2.2.2.2.2.2.2.2.2.2.2.2.1), (hT.2.2.2.2.2.2.2.2.2.2.2.2.2.1), (hT.2.2.2.2.2.2.2.2.2.2.2.2.2.2.1), (hT.2.2.2.2.2.2.2.2.2.2.2.2.2.2.2.1), (hT.2.2.2.2.2.2.2.2.2.2.2.2.2.2.2.2.1), (hT.2.2.2.2.2.2.2.2.2.2.2.2.2.2.2.2.2.1), (hT.2.2.2.2.2.2.2.2.2.2.2.2.2.2.2.2.2.2.1), (hT.2.2.2.2.2.2.2.2.2.2.2.2.2.2.2.2.2.2.2.1), (hT.2.2.2.2.2.2.2.2.2.2.2.2.2.2.2.2.2.2.2.2.1), (fun _q0_ => setRow_heap _ _ _ _ _ _ (hT.2.1 hl_)), (fun q0_ => absurd (hl_.symm.trans (hcl 3 _ rfl ((up 2 3 (by decide)).symm.trans q0_) 2 rfl)) (by decide))⟩, fun i hi hli => ?_⟩
                    match i, hi with
                    | 0, _ => rfl
                    | 1, _ => rfl
                    | 2, _ => exact absurd (hl_.symm.trans hli) (by decide)
                    | 3, _ => rfl
                    | k_ + 4, h_ => exact absurd h_ (by simp)
                  | 3, _ =>
                    refine stepS rfl rfl (execStWn rfl ((hf 8 (by decide)).trans t8) (hdep _ rfl 1 rfl _ rfl _ rfl) (hT.2.2.1 hl_) (slc_one (ownE_shp hT.2.2.2.2.2.2.2.2.1.row))) ⟨s, ⟨_, rfl, rfl⟩, ⟨below4 hT.1 hT.2.2.2.2.2.2.2.2.2.2.1 _, (fun q0_ => absurd (q0_.symm.trans ((up 3 2 (by decide)).trans (hl2 _ rfl 2 rfl))) (by decide)), (fun q0_ => absurd q0_ (by unfold updB; simp)), (fun q0_ => absurd (q0_.symm.trans ((up 3 2 (by decide)).trans (hl2 _ rfl 2 rfl))) (by decide)), (fun q0_ => absurd q0_ (by unfold updB; simp)), ((by rw [setRow_other _ _ _ _ (Ne.symm hT.2.2.2.2.2.2.2.2.2.2.2.2.2.2.2.1)]; exact hT.2.2.2.2.2.1)), ((by rw [setRow_other _ _ _ _ (Ne.symm hT.2.2.2.2.2.2.2.2.2.2.2.2.2.2.2.2.2.2.2.1)]; exact hT.2.2.2.2.2.2.1)), ((hT.2.2.2.2.2.2.2.1).setW (hT.2.2.1 hl_) (by decide) (by decide)), ((hT.2.2.2.2.2.2.2.2.1).setW (hT.2.2.1 hl_) (by decide) (by decide)), (hT.2.2.2.2.2.2.2.2.2.1), (hT.2.2.2.2.2.2.2.2.2.2.1), (hT.2.2.2.2.2.2.2.2.2.2.2.1), (hT.2.2.2.2.2.2.2.2.2.2.2.2.1), (hT.2.2.2.2.2.2.2.2.2.2.2.2.2.1), (hT.2.2.2.2.2.2.2.2.2.2.2.2.2.2.1), (hT.2.2.2.2.2.2.2.2.2.2.2.2.2.2.2.1), (hT.2.2.2.2.2.2.2.2.2.2.2.2.2.2.2.2.1), (hT.2.2.2.2.2.2.2.2.2.2.2.2.2.2.2.2.2.1), (hT.2.2.2.2.2.2.2.2.2.2.2.2.2.2.2.2.2.2.1), (hT.2.2.2.2.2.2.2.2.2.2.2.2.2.2.2.2.2.2.2.1), (hT.2.2.2.2.2.2.2.2.2.2.2.2.2.2.2.2.2.2.2.2.1), (fun q0_ => (by rw [setRow_other _ _ _ _ hT.2.2.2.2.2.2.2.2.2.2.2.1]; exact (hT.2.2.2.2.2.2.2.2.2.2.2.2.2.2.2.2.2.2.2.2.2.1 (by rw [up 3 2 (by decide)] at q0_; exact q0_)))), (fun _q0_ => setRow_heap _ _ _ _ _ _ (hT.2.2.1 hl_))⟩, fun i hi hli => ?_⟩
                    match i, hi with
                    | 0, _ => rfl
                    | 1, _ => rfl
                    | 2, _ => rfl
                    | 3, _ => exact absurd (hl_.symm.trans hli) (by decide)
                    | k_ + 4, h_ => exact absurd h_ (by simp)
                  | k_ + 4, h_ => exact absurd h_ (by simp)
                rintro l_ _ a X20 h1 h2 h3 h4 hall hT
                clear BB
                clear Fw1
                clear Fw2
                clear FA
                clear FB
                clear Fx
                clear Fy
                clear FX
                clear FY
                clear FGg7
                clear FGg8
                clear FNg7g8
                clear FQ53
                clear FGg11
                clear FNg7g11
                clear FNg8g11
                clear FQ61
                clear FGg13
                clear FNg7g13
                clear FNg8g13
                clear FNg11g13
                obtain ⟨BB, Fw1, Fw2, FA, FB, Fx, Fy, FX, FY, FGg7, FGg8, FNg7g8, FQ53, FGg11, FNg7g11, FNg8g11, FQ61, FGg13, FNg7g13, FNg8g13, FNg11g13, Fv1, Fv2⟩ := hT
                clear Fw1
                clear Fw2
                clear FA
                clear FB
                replace Fx : (X20.heap[g11]? = some (.cells (wC o2.1.1 ev3) 25)) := Fx
                replace Fy : (X20.heap[g13]? = some (.cells (wC o2.1.1 ev4) 25)) := Fy
                replace FX : (NwE V.heap.size X20 ev3 n3 nu3 tw3 ln3 tt3) := FX
                replace FY : (NwE V.heap.size X20 ev4 n4 nu4 tw4 ln4 tt4) := FY
                replace FGg7 : (V.heap.size ≤ g7) := FGg7
                replace FGg8 : (V.heap.size ≤ g8) := FGg8
                replace FNg7g8 : (g7 ≠ g8) := FNg7g8
                replace FQ53 : (esL n53 nu53 ln53 tt53 = o.1.2) := FQ53
                replace FGg11 : (V.heap.size ≤ g11) := FGg11
                replace FNg7g11 : (g7 ≠ g11) := FNg7g11
                replace FNg8g11 : (g8 ≠ g11) := FNg8g11
                replace FQ61 : (esL n61 nu61 ln61 tt61 = o.1.2) := FQ61
                replace FGg13 : (V.heap.size ≤ g13) := FGg13
                replace FNg7g13 : (g7 ≠ g13) := FNg7g13
                replace FNg8g13 : (g8 ≠ g13) := FNg8g13
                replace FNg11g13 : (g11 ≠ g13) := FNg11g13
                replace Fv1 : (X20.heap[g7]? = some (.cells (wC o2.1.1 ev3) 25)) := Fv1 (hall 2 (by decide))
                replace Fv2 : (X20.heap[g8]? = some (.cells (wC o2.1.1 ev4) 25)) := Fv2 (hall 3 (by decide))
                clear hall
                replace t0 := (h3 0 (by decide)).trans t0
                replace t1 := (h3 1 (by decide)).trans t1
                replace t2 := (h3 2 (by decide)).trans t2
                replace t7 := (h3 7 (by decide)).trans t7
                replace t8 := (h3 8 (by decide)).trans t8
                replace t9 := (h3 9 (by decide)).trans t9
                replace A := (⟨h1, h2.trans A.2⟩ : a.tmps.size = 116 ∧ a.defers = [])
                clear h1 h2 h3 h4
                clear t11 t12 t13 t14
                exact ⟨rfl, o2.1.1, o2.1.2, ev3, n3, nu3, tw3, ln3, tt3, ev4, n4, nu4, tw4, ln4, tt4, A, t0, t1, t2, t7, t8, t9, BB, Fv1, Fv2, FX, FY, hx, hy, hok h0⟩
              · refine wi_ A (h10_ t0 t1 t2 t7 t8 t9 t11 t12 t13 t14) (rv_ 1 (.bool false) (fun a ee => execDec (execEqN (p := o2.2) (q := 0) rfl (ee _) rfl) (decide_eq_false (by omega))) (rf_ [(105, .bool false)] (h10_ t0 t1 t2 t7 t8 t9 t11 t12 t13 t14) ?_))
                rintro a A ⟨t105, -⟩ ⟨t0, t1, t2, t7, t8, t9, t11, t12, t13, t14, -⟩
                refine wp_cond_false t105 ?_
                refine wp_skip ?_
                clear t105
                exact ⟨rfl, z, es, ev1, n1, nu1, tw1, ln1, tt1, ev2, n2, nu2, tw2, ln2, tt2, A, t0, t1, t2, t7, t8, t9, BB, Fw1, Fw2, FA, FB, hq1, hq2, hR⟩
            · clear hR1 hR2 A BB t0 t1 t2 t7 t8 t9 t11 t12 t13 t14 Fw1 Fw2 FA FB Fx Fy FX FY FQ53 FGg11 FNg7g11 FNg8g11 FQ61 FGg13 FNg7g13 FNg8g13 FNg11g13 a hq1 hq2 hR
              rintro a XD ⟨z, es, ev1, n1, nu1, tw1, ln1, tt1, ev2, n2, nu2, tw2, ln2, tt2, A, t0, t1, t2, t7, t8, t9, BB, Fw1, Fw2, FA, FB, hq1, hq2, hR⟩
              have hR1 : Rgt (z, esL n1 nu1 ln1 tt1) s r := by rw [hq1]; exact hR
              refine wp_seq ?_
              refine wi_ A (h6_ t0 t1 t2 t7 t8 t9) (rv_ 0 (.agg (wC z ev1)) (fun a ee => execLdWn rfl (ee _) Fw1) (rc_ 3 ((by have h_ := I.check z s r ev1 n1 nu1 tw1 ln1 tt1 XD (wd_right FA.eps hR1) hs hr; rw [show wChk (z, esL n1 nu1 ln1 tt1) s r = 0 from if_pos hR1] at h_; exact h_)) (cb_ fun X21 bQ => ?_)))
              replace Fw1 := (on9 Fw1 bQ)
              replace Fw2 := (on9 Fw2 bQ)
              replace FA := (FA.on bQ)
              replace FB := (FB.on bQ)
              replace BB := BB.trans (bQ.mono BB.size)
              clear bQ
              refine rv_ 4 (.bool false) (fun a ee => execDec (execNeE (p := 0) (q := 0) rfl (ee _) rfl) (decide_eq_false (by omega))) (rf_ [(112, .bool false)] (h6_ t0 t1 t2 t7 t8 t9) ?_)
              rintro a A ⟨t112, -⟩ ⟨t0, t1, t2, t7, t8, t9, -⟩
              refine wp_cond_false t112 ?_
              refine wp_skip ?_
              clear t112
              refine wi_ A (h6_ t0 t1 t2 t7 t8 t9) (rv_ 1 (.int .i64 ((i + 1 : Nat) : Int)) (fun a ee => execAd8 (p := i) (q := 1) rfl (ee _) rfl (by omega)) (rf_ [(9, .int .i64 ((i + 1 : Nat) : Int))] (h5_ t0 t1 t2 t7 t8) ?_))
              rintro a A ⟨t9, -⟩ ⟨t0, t1, t2, t7, t8, -⟩
              exact ⟨⟨i + 1, z, es, ev1, n1, nu1, tw1, ln1, tt1, ev2, n2, nu2, tw2, ln2, tt2, lti, hq1, hq2, hR, A, t0, t1, t2, t7, t8, t9, BB, Fw1, Fw2, FA, FB⟩, by show n - (intOf (a.eval (.tmp 9))).toNat < n - (intOf (Act.eval _ (.tmp 9))).toNat; rw [t9, esi]; show n - (i + 1) < n - i; omega⟩
        · refine wi_ A (h6_ t0 t1 t2 t7 t8 t9) (rv_ 2 (.int .i64 ((n : Nat) : Int)) (fun a ee => execLenSt (len := n) rfl (ee _) hS.shp) (rv_ 3 (.bool true) (fun a ee => execDec (execLtW (p := i) (q := n) rfl (ee _) (ee _)) (decide_eq_true (by omega))) (rv_ 6 (.bool false) (fun a ee => execDec (execLtW (p := i) (q := 500) rfl (ee _) rfl) (decide_eq_false (by omega))) (rf_ [(41, .bool false)] (h2_ t7 t8) ?_))))
          rintro a A ⟨t41, -⟩ ⟨t7, t8, -⟩
          refine wp_cond_false t41 ?_
          refine wp_exit ?_
          first | with_reducible refine exit_in ?_ | with_reducible refine exit_then (exit_in ?_) | with_reducible refine exit_then (exit_then (exit_in ?_)) | refine exit_in ?_ | refine exit_then (exit_in ?_) | refine exit_then (exit_then (exit_in ?_))
          clear t41 esi
          refine wp_seq ?_
          refine wi_ A (h2_ t7 t8) (rv_ 0 (.agg (wC z ev1)) (fun a ee => execLdWn rfl (ee _) Fw1) (rv_ 1 (.agg (wC z ev2)) (fun a ee => execLdWn rfl (ee _) Fw2) (rc_ 2 (same16w z XL FA.eps FB.eps (hq1.trans hq2.symm)) (cb_ fun X23 bQ => ?_))))
          replace Fw1 := (on9 Fw1 bQ)
          replace Fw2 := (on9 Fw2 bQ)
          replace FA := (FA.on bQ)
          replace FB := (FB.on bQ)
          replace BB := BB.trans (bQ.mono BB.size)
          clear bQ
          refine rg_ [(6, .bool true)] ?_
          rintro a A ⟨t6, -⟩
          refine wp_ret ?_
          refine bodyPost_ret (results_tmp rfl _ _ _) A.2 ⟨?_, BB⟩
          show Ending.returned (a.eval (.tmp 6)) = _
          rw [t6]
      · refine wi_ A (h6_ t0 t1 t2 t7 t8 t9) (rv_ 2 (.int .i64 ((n : Nat) : Int)) (fun a ee => execLenSt (len := n) rfl (ee _) hS.shp) (rv_ 3 (.bool false) (fun a ee => execDec (execLtW (p := i) (q := n) rfl (ee _) (ee _)) (decide_eq_false (by omega))) (rf_ [(41, .bool false)] (h2_ t7 t8) ?_)))
        rintro a A ⟨t41, -⟩ ⟨t7, t8, -⟩
        refine wp_cond_false t41 ?_
        refine wp_exit ?_
        first | with_reducible refine exit_in ?_ | with_reducible refine exit_then (exit_in ?_) | with_reducible refine exit_then (exit_then (exit_in ?_)) | refine exit_in ?_ | refine exit_then (exit_in ?_) | refine exit_then (exit_then (exit_in ?_))
        clear t41 esi
        refine wp_seq ?_
        refine wi_ A (h2_ t7 t8) (rv_ 0 (.agg (wC z ev1)) (fun a ee => execLdWn rfl (ee _) Fw1) (rv_ 1 (.agg (wC z ev2)) (fun a ee => execLdWn rfl (ee _) Fw2) (rc_ 2 (same16w z XL FA.eps FB.eps (hq1.trans hq2.symm)) (cb_ fun X23 bQ => ?_))))
        replace Fw1 := (on9 Fw1 bQ)
        replace Fw2 := (on9 Fw2 bQ)
        replace FA := (FA.on bQ)
        replace FB := (FB.on bQ)
        replace BB := BB.trans (bQ.mono BB.size)
        clear bQ
        refine rg_ [(6, .bool true)] ?_
        rintro a A ⟨t6, -⟩
        refine wp_ret ?_
        refine bodyPost_ret (results_tmp rfl _ _ _) A.2 ⟨?_, BB⟩
        show Ending.returned (a.eval (.tmp 6)) = _
        rw [t6]
end Go.Proofs.Ytijibdapooalcaa.Win
