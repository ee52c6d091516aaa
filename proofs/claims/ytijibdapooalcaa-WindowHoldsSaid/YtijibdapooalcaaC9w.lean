import Derived.Test.YtijibdapooalcaaC9v
namespace Go.Proofs.Ytijibdapooalcaa.Win
open Go.RowKit Gf8 Aes By8 Cel Cf
/- WindowHolds over what the package keeps. Written by tools/mkC9w.py. -/

set_option maxRecDepth 100000 in
set_option maxHeartbeats 4000000 in
/-- WindowHolds. -/
theorem holds16 (I : Impl) (nw : Int) (ev : Value) (n : Nat) (nu : Nat → Int) (tw : Nat → Value) (ln : Nat → Nat) (t : Nat → Nat → Nat → Nat) (sp rm ep : Int) (tgv : Value) (m : Nat) (tg : Nat → Nat → Nat) (mrv : Value) (k : Nat) (mr : Nat → Nat → Nat) (V : World) (hW : Wd V nw ev n nu tw ln t) (hsp : I64 sp) (hrm : I64 rm) (hep : I64 ep) (hT : Tgs V tgv m tg) (hm : m * 16 ≤ 140737488351232) (hM : Tgs V mrv k mr) (_hmk : k * 16 ≤ 140737488351232) :
    Calls Try.prog 8 #[.agg (jbC nw ev sp rm ep tgv mrv)] V fun e w' => e = .returned (.bool true) ∧ Below V.heap.size V w' := by
  go_enter Try.func8, Try.ntmps8
  obtain ⟨o, eo⟩ : ∃ o, wOpen (nw, esL n nu ln t) ep sp = o := ⟨_, rfl⟩
  have hn63 := hW.n63
  have hSe : ∃ g n c, ev = .slice g n c := by obtain ⟨_, _, e_⟩ := hW.eps.shp; exact ⟨_, _, _, e_⟩
  have hSt : ∃ g n c, tgv = .slice g n c := by obtain ⟨_, _, e_⟩ := hT.shp; exact ⟨_, _, _, e_⟩
  have hSm : ∃ g n c, mrv = .slice g n c := by obtain ⟨_, _, e_⟩ := hM.shp; exact ⟨_, _, _, e_⟩
  refine wo_ 240 [(0, .agg (jbC nw ev sp rm ep tgv mrv))] ?_
  rintro a A ⟨t0, -⟩
  have BW : Below V.heap.size V V := Below.refl _ _
  have BB := BW
  refine wp_seq ?_
  obtain ⟨g1, egg1⟩ : ∃ z_ : Nat, V.heap.size = z_ := ⟨_, rfl⟩
  refine wi_ A (h1_ t0) (rs_ 0 (fun a ee => ?_))
  refine stepV rfl rfl (execBoxJ hSe hSt hSm rfl (ee _)) ⟨.pointer (some ⟨g1, 0, none⟩), ⟨_, rfl, by subst egg1; rfl⟩, fun X0 hX => ?_⟩
  have bQ : Below V.heap.size V X0 := by subst hX egg1; exact (belNew V _)
  have Fg1 : (X0.heap[g1]? = some (.cells (jbC nw ev sp rm ep tgv mrv) 43)) := by subst hX egg1; exact heapNew V _
  replace BB := BB.trans (bQ.mono BB.size)
  clear bQ hX egg1 ee a
  refine rg_ [(1, .pointer (some ⟨g1, 0, none⟩))] ?_
  rintro a A ⟨t1, -⟩
  refine wp_seq ?_
  refine wp_seq ?_
  refine wi_ A (h1_ t1) (rc_ 0 (alive16 I X0) (cb_ fun X1 bQ => ?_))
  replace Fg1 := (on9 Fg1 bQ)
  replace BB := BB.trans (bQ.mono BB.size)
  clear bQ
  refine rv_ 1 (.bool false) (fun a ee => execNot8 (b := true) rfl (ee _)) (rf_ [(18, .bool false)] (h1_ t1) ?_)
  rintro a A ⟨t18, -⟩ ⟨t1, -⟩
  refine wp_cond_false t18 ?_
  refine wp_skip ?_
  clear t18
  refine wp_seq ?_
  refine wp_seq ?_
  by_cases hck : wChk (nw, esL n nu ln t) sp rm ≠ 0
  · refine wi_ A (h1_ t1) (rv_ 0 (.pointer (some ⟨g1, 0, none⟩)) (fun a ee => execFldJ0 rfl (ee _)) (rv_ 1 (.agg (wC nw ev)) (fun a ee => execLdWm rfl (ee _) (row_at Fg1 rfl) (row_at Fg1 rfl)) (rv_ 2 (.pointer (some ⟨g1, 2, none⟩)) (fun a ee => execFldJ1 rfl (ee _)) (rv_ 3 (.int .i64 sp) (fun a ee => execLd3 rfl (ee _) (row_at Fg1 rfl)) (rv_ 4 (.pointer (some ⟨g1, 3, none⟩)) (fun a ee => execFldJ2 rfl (ee _)) (rv_ 5 (.int .i64 rm) (fun a ee => execLd3 rfl (ee _) (row_at Fg1 rfl)) (rc_ 6 (rcheckW nw sp rm ev n nu tw ln t X1 (hW.on BB) hsp hrm) (cb_ fun X3 bQ => ?_))))))))
    replace Fg1 := (on9 Fg1 bQ)
    replace BB := BB.trans (bQ.mono BB.size)
    clear bQ
    refine rv_ 7 (.bool true) (fun a ee => execDec (execNeN (p := wChk (nw, esL n nu ln t) sp rm) (q := 0) rfl (ee _) rfl) (decide_eq_true (by exact hck))) (rf_ [(32, .bool true)] (h1_ t1) ?_)
    rintro a A ⟨t32, -⟩ ⟨t1, -⟩
    refine wp_cond_true t32 ?_
    clear t32
    refine wp_seq ?_
    refine wi_ A (h1_ t1) (rg_ [(2, .bool true)] ?_)
    rintro a A ⟨t2, -⟩
    refine wp_ret ?_
    repeat (first | with_reducible refine ret_in ?_ | with_reducible refine ret_then ?_)
    refine bodyPost_ret (results_tmp rfl _ _ _) A.2 ⟨?_, BB⟩
    show Ending.returned (a.eval (.tmp 2)) = _
    rw [t2]
  · by_cases h2k : 2000 < m
    · refine wi_ A (h1_ t1) (rv_ 0 (.pointer (some ⟨g1, 0, none⟩)) (fun a ee => execFldJ0 rfl (ee _)) (rv_ 1 (.agg (wC nw ev)) (fun a ee => execLdWm rfl (ee _) (row_at Fg1 rfl) (row_at Fg1 rfl)) (rv_ 2 (.pointer (some ⟨g1, 2, none⟩)) (fun a ee => execFldJ1 rfl (ee _)) (rv_ 3 (.int .i64 sp) (fun a ee => execLd3 rfl (ee _) (row_at Fg1 rfl)) (rv_ 4 (.pointer (some ⟨g1, 3, none⟩)) (fun a ee => execFldJ2 rfl (ee _)) (rv_ 5 (.int .i64 rm) (fun a ee => execLd3 rfl (ee _) (row_at Fg1 rfl)) (rc_ 6 (rcheckW nw sp rm ev n nu tw ln t X1 (hW.on BB) hsp hrm) (cb_ fun X3 bQ => ?_))))))))
      replace Fg1 := (on9 Fg1 bQ)
      replace BB := BB.trans (bQ.mono BB.size)
      clear bQ
      refine rv_ 7 (.bool false) (fun a ee => execDec (execNeN (p := wChk (nw, esL n nu ln t) sp rm) (q := 0) rfl (ee _) rfl) (decide_eq_false (by exact hck))) (rv_ 9 (.pointer (some ⟨g1, 5, none⟩)) (fun a ee => execFldJ4 rfl (ee _)) (rv_ 10 (tgv) (fun a ee => execLdTs rfl (ee _) (row_at Fg1 rfl)) (rv_ 11 (.int .i64 ((m : Nat) : Int)) (fun a ee => execLenTs (len := m) rfl (ee _) hT.shp) (rv_ 12 (.bool true) (fun a ee => execDec (execGtN (p := m) (q := 2000) rfl (ee _) rfl) (decide_eq_true (by omega))) (rf_ [(32, .bool true)] (h1_ t1) ?_)))))
      rintro a A ⟨t32, -⟩ ⟨t1, -⟩
      refine wp_cond_true t32 ?_
      clear t32
      refine wp_seq ?_
      refine wi_ A (h1_ t1) (rg_ [(2, .bool true)] ?_)
      rintro a A ⟨t2, -⟩
      refine wp_ret ?_
      repeat (first | with_reducible refine ret_in ?_ | with_reducible refine ret_then ?_)
      refine bodyPost_ret (results_tmp rfl _ _ _) A.2 ⟨?_, BB⟩
      show Ending.returned (a.eval (.tmp 2)) = _
      rw [t2]
    · refine wi_ A (h1_ t1) (rv_ 0 (.pointer (some ⟨g1, 0, none⟩)) (fun a ee => execFldJ0 rfl (ee _)) (rv_ 1 (.agg (wC nw ev)) (fun a ee => execLdWm rfl (ee _) (row_at Fg1 rfl) (row_at Fg1 rfl)) (rv_ 2 (.pointer (some ⟨g1, 2, none⟩)) (fun a ee => execFldJ1 rfl (ee _)) (rv_ 3 (.int .i64 sp) (fun a ee => execLd3 rfl (ee _) (row_at Fg1 rfl)) (rv_ 4 (.pointer (some ⟨g1, 3, none⟩)) (fun a ee => execFldJ2 rfl (ee _)) (rv_ 5 (.int .i64 rm) (fun a ee => execLd3 rfl (ee _) (row_at Fg1 rfl)) (rc_ 6 (rcheckW nw sp rm ev n nu tw ln t X1 (hW.on BB) hsp hrm) (cb_ fun X3 bQ => ?_))))))))
      replace Fg1 := (on9 Fg1 bQ)
      replace BB := BB.trans (bQ.mono BB.size)
      clear bQ
      refine rv_ 7 (.bool false) (fun a ee => execDec (execNeN (p := wChk (nw, esL n nu ln t) sp rm) (q := 0) rfl (ee _) rfl) (decide_eq_false (by exact hck))) (rv_ 9 (.pointer (some ⟨g1, 5, none⟩)) (fun a ee => execFldJ4 rfl (ee _)) (rv_ 10 (tgv) (fun a ee => execLdTs rfl (ee _) (row_at Fg1 rfl)) (rv_ 11 (.int .i64 ((m : Nat) : Int)) (fun a ee => execLenTs (len := m) rfl (ee _) hT.shp) (rv_ 12 (.bool false) (fun a ee => execDec (execGtN (p := m) (q := 2000) rfl (ee _) rfl) (decide_eq_false (by omega))) (rf_ [(32, .bool false)] (h1_ t1) ?_)))))
      rintro a A ⟨t32, -⟩ ⟨t1, -⟩
      refine wp_cond_false t32 ?_
      refine wp_skip ?_
      clear t32
      have hR : Rgt (nw, esL n nu ln t) sp rm := by
        refine Classical.byContradiction fun q_ => hck ?_
        rw [show wChk (nw, esL n nu ln t) sp rm = 2 from if_neg q_]
        decide
      have hsp1 : 1 ≤ sp := hR.1
      have hsp8 : sp ≤ 8 := hR.2.1
      have hnw1 : 0 ≤ nw := hR.2.2.2.2.1
      have hnw2 : nw ≤ 4611686018427387904 := hR.2.2.2.2.2.1
      have hnd : (wAll (esL n nu ln t)).Nodup := hR.2.2.2.2.2.2.2.2.2
      refine wp_seq ?_
      refine wi_ A (h1_ t1) (rv_ 0 (.pointer (some ⟨g1, 0, none⟩)) (fun a ee => execFldJ0 rfl (ee _)) (rv_ 1 (.agg (wC nw ev)) (fun a ee => execLdWm rfl (ee _) (row_at Fg1 rfl) (row_at Fg1 rfl)) (rv_ 2 (.pointer (some ⟨g1, 4, none⟩)) (fun a ee => execFldJ3 rfl (ee _)) (rv_ 3 (.int .i64 ep) (fun a ee => execLd2 rfl (ee _) (row_at Fg1 rfl)) (rv_ 4 (.pointer (some ⟨g1, 2, none⟩)) (fun a ee => execFldJ1 rfl (ee _)) (rv_ 5 (.int .i64 sp) (fun a ee => execLd3 rfl (ee _) (row_at Fg1 rfl)) (rc_ 6 (eo ▸ I.open_ nw ep sp ev n nu tw ln t X3 (hW.on BB) hsp hep) fun e X5_1 hh => ?_)))))))
      obtain ⟨⟨ev40, n40, nu40, tw40, ln40, tt40, he, hq, hk⟩, hb⟩ := hh
      refine ⟨_, he, ?_⟩
      have bQ : Below X3.heap.size X3 X5_1 := hb
      have FW40 : (NwE V.heap.size X5_1 ev40 n40 nu40 tw40 ln40 tt40) := hk.base (BB).size
      have FQ40 : (esL n40 nu40 ln40 tt40 = o.1.2) := hq
      replace Fg1 := (on9 Fg1 bQ)
      replace BB := BB.trans (bQ.mono BB.size)
      clear bQ
      obtain ⟨g3, egg3⟩ : ∃ z_ : Nat, X5_1.heap.size = z_ := ⟨_, rfl⟩
      refine rs_ 10 (fun a ee => ?_)
      refine stepV rfl rfl (execAllW rfl) ⟨.pointer (some ⟨g3, 0, none⟩), ⟨_, rfl, by subst egg3; rfl⟩, fun X5_2 hX => ?_⟩
      have bQ : Below X5_1.heap.size X5_1 X5_2 := by subst hX egg3; exact (belNew X5_1 _)
      have Fg3 : (X5_2.heap[g3]? = some (.cells (wC 0 (.slice none 0 0)) 25)) := by subst hX egg3; exact heapNew X5_1 _
      have FGg3 : (V.heap.size ≤ g3) := by subst hX egg3; exact (BB).size
      replace Fg1 := (on9 Fg1 bQ)
      replace FW40 := (FW40.on bQ)
      replace BB := BB.trans (bQ.mono BB.size)
      clear bQ hX egg3 ee a
      refine rs_ 11 (fun a ee => ?_)
      refine stepS rfl rfl (execStWn rfl (ee _) (ee _) Fg3 (slc_one (ownE_shp FW40.row))) ⟨_, ⟨_, rfl, rfl⟩, fun X5 hX => ?_⟩
      obtain ⟨BB, Fg1, FW40, Fx⟩ : Below V.heap.size V X5 ∧ (X5.heap[g1]? = some (.cells (jbC nw ev sp rm ep tgv mrv) 43)) ∧ (NwE V.heap.size X5 ev40 n40 nu40 tw40 ln40 tt40) ∧ (X5.heap[g3]? = some (.cells (wC o.1.1 ev40) 25)) := by subst hX; exact ⟨below4 BB FGg3 _, (by rw [setRow_other _ _ _ _ (ne_type Fg3 Fg1 (by decide))]; exact Fg1), (FW40).setW Fg3 (by decide) (by decide), setRow_heap _ _ _ _ _ _ Fg3⟩
      clear Fg3 hX ee a
      refine rf_ [(3, .pointer (some ⟨g3, 0, none⟩)), (4, .int .i64 ((o.2 : Nat) : Int))] (h1_ t1) ?_
      rintro a A ⟨t3, t4, -⟩ ⟨t1, -⟩
      refine wp_join (fun a W => ∃ (zx : Int) (evx : Value) (nx : Nat) (nux : Nat → Int) (twx : Nat → Value) (lnx : Nat → Nat) (ttx : Nat → Nat → Nat → Nat), (a.tmps.size = 240 ∧ a.defers = []) ∧ a.eval (.tmp 1) = .pointer (some ⟨g1, 0, none⟩) ∧ a.eval (.tmp 3) = .pointer (some ⟨g3, 0, none⟩) ∧ a.eval (.tmp 4) = .int .i64 ((o.2 : Nat) : Int) ∧ Below V.heap.size V W ∧ (W.heap[g1]? = some (.cells (jbC nw ev sp rm ep tgv mrv) 43)) ∧ (W.heap[g3]? = some (.cells (wC zx evx) 25)) ∧ (Eps W evx nx nux twx lnx ttx) ∧ (Rgt (zx, esL nx nux lnx ttx) sp rm) ∧ (o.2 = 0 → zx - sp < ep ∧ 0 ≤ ep ∧ ep ≤ zx)) ?_ ?_
      · refine wp_seq ?_
        by_cases h0 : o.2 = 0
        · refine wi_ A (h3_ t1 t3 t4) (rv_ 1 (.bool true) (fun a ee => execDec (execEqE (p := o.2) (q := 0) rfl (ee _) rfl) (decide_eq_true (by omega))) (rf_ [(44, .bool true)] (h3_ t1 t3 t4) ?_))
          rintro a A ⟨t44, -⟩ ⟨t1, t3, t4, -⟩
          refine wp_cond_true t44 ?_
          clear t44
          obtain ⟨ho1, hoA, hoB⟩ := open_0 (by rw [eo]; exact h0)
          rw [eo] at ho1
          obtain ⟨M, eM⟩ : ∃ M, o.1.1 = M := ⟨_, rfl⟩
          have hMx : M = max nw ep := by rw [← eM, ho1]; rfl
          have hoe : 0 ≤ ep := hoA.2.2.1
          have hoe2 : ep ≤ 4611686018427387904 := hoA.2.2.2
          have hoc : ¬ ep + sp ≤ nw := fun h_ => hoB (Or.inl h_)
          rw [eM] at Fx
          have hf40 : esL n40 nu40 ln40 tt40 = (esL n nu ln t).filter fun x => decide (M - sp < x.1) := by rw [FQ40, ho1, hMx]; rfl
          have hRx : Rgt (M, esL n40 nu40 ln40 tt40) sp rm := by rw [← eM, FQ40, ← eo]; exact open_rgt hR (by rw [eo]; exact h0)
          have hEx := FW40.eps
          clear FW40
          replace hW := (hW.on BB)
          replace hT := (hT.on BB)
          replace hM := (hM.on BB)
          replace BW := BW.trans (BB.mono BW.size)
          clear BB
          have BB : Below X5.heap.size X5 X5 := Below.refl _ _
          have hWx := wd_right hEx hRx
          refine wp_seq ?_
          refine wp_seq ?_
          refine wi_ A (h3_ t1 t3 t4) (rv_ 0 (.agg (wC M ev40)) (fun a ee => execLdWn rfl (ee _) (on9 Fx BB)) (rv_ 1 (.pointer (some ⟨g1, 2, none⟩)) (fun a ee => execFldJ1 rfl (ee _)) (rv_ 2 (.int .i64 sp) (fun a ee => execLd3 rfl (ee _) (row_at (on9 Fg1 BB) rfl)) (rv_ 3 (.pointer (some ⟨g1, 3, none⟩)) (fun a ee => execFldJ2 rfl (ee _)) (rv_ 4 (.int .i64 rm) (fun a ee => execLd3 rfl (ee _) (row_at (on9 Fg1 BB) rfl)) (rc_ 5 ((by have h_ := rcheckW M sp rm ev40 n40 nu40 tw40 ln40 tt40 X5 (hWx.on BB) hsp hrm; rw [show wChk (M, esL n40 nu40 ln40 tt40) sp rm = 0 from if_pos hRx] at h_; exact h_)) (cb_ fun X7 bQ => ?_)))))))
          replace BB := BB.trans (bQ.mono BB.size)
          clear bQ
          refine rv_ 6 (.bool false) (fun a ee => execDec (execNeN (p := 0) (q := 0) rfl (ee _) rfl) (decide_eq_false (by omega))) (rv_ 8 (.pointer (some ⟨g3, 0, none⟩)) (fun a ee => execFldW0 rfl (ee _)) (rv_ 9 (.int .i64 M) (fun a ee => execLd2 rfl (ee _) (wC_0 (on9 Fx BB))) (rv_ 10 (.pointer (some ⟨g1, 0, none⟩)) (fun a ee => execFldJ0 rfl (ee _)) (rv_ 11 (.pointer (some ⟨g1, 0, none⟩)) (fun a ee => execFldW0 rfl (ee _)) (rv_ 12 (.int .i64 nw) (fun a ee => execLd2 rfl (ee _) (row_at (on9 Fg1 BB) rfl)) (rv_ 13 (.pointer (some ⟨g1, 4, none⟩)) (fun a ee => execFldJ3 rfl (ee _)) (rv_ 14 (.int .i64 ep) (fun a ee => execLd2 rfl (ee _) (row_at (on9 Fg1 BB) rfl)) (rv_ 15 (.int .i64 (max nw ep)) (fun a ee => execMax2 rfl (ee _) (ee _)) (rv_ 16 (.bool false) (fun a ee => execDec (exIneq2 (p := M) (q := (max nw ep)) rfl (ee _) (ee _)) (decide_eq_false (fun h_ => h_ hMx))) (rf_ [(62, .bool false)] (h3_ t1 t3 t4) ?_))))))))))
          rintro a A ⟨t62, -⟩ ⟨t1, t3, t4, -⟩
          refine wp_cond_false t62 ?_
          refine wp_skip ?_
          clear t62
          refine wp_seq ?_
          refine wi_ A (h3_ t1 t3 t4) (rf_ [(5, .int .i64 ((0 : Nat) : Int))] (h3_ t1 t3 t4) ?_)
          rintro a A ⟨t5, -⟩ ⟨t1, t3, t4, -⟩
          refine wp_seq ?_
          refine wp_seq ?_
          refine wi_ A (h4_ t1 t3 t4 t5) (rf_ [(6, .int .i64 ((0 : Nat) : Int))] (h4_ t1 t3 t4 t5) ?_)
          rintro a A ⟨t6, -⟩ ⟨t1, t3, t4, t5, -⟩
          refine wp_block ?_
          refine wp_loop (fun a W => ∃ (i : Nat) (c : Nat), i ≤ n ∧ (c = wLen ((esL i nu ln t).filter fun x => decide (M - sp < x.1))) ∧ (c ≤ alN ln i) ∧ (a.tmps.size = 240 ∧ a.defers = []) ∧ a.eval (.tmp 1) = .pointer (some ⟨g1, 0, none⟩) ∧ a.eval (.tmp 3) = .pointer (some ⟨g3, 0, none⟩) ∧ a.eval (.tmp 4) = .int .i64 ((o.2 : Nat) : Int) ∧ a.eval (.tmp 5) = .int .i64 ((c : Nat) : Int) ∧ a.eval (.tmp 6) = .int .i64 ((i : Nat) : Int) ∧ Below X5.heap.size X5 W) (fun a _ => n - (intOf (a.eval (.tmp 6))).toNat) ⟨0, 0, Nat.zero_le _, rfl, Nat.zero_le _, A, t1, t3, t4, t5, t6, BB⟩ ?_
          clear A t1 t3 t4 t5 t6 BB a
          rintro a XL11 ⟨i, c, hi, hc, hcb, A, t1, t3, t4, t5, t6, BB⟩
          have esi := t6
          refine wp_seq ?_
          refine wp_seq ?_
          refine wi_ A (h5_ t1 t3 t4 t5 t6) (rv_ 1 (.pointer (some ⟨g1, 0, none⟩)) (fun a ee => execFldJ0 rfl (ee _)) (rv_ 2 (.pointer (some ⟨g1, 1, none⟩)) (fun a ee => execFldW1 rfl (ee _)) (rv_ 3 (ev) (fun a ee => execLdEs rfl (ee _) (row_at (on9 Fg1 BB) rfl)) (rv_ 4 (.int .i64 ((n : Nat) : Int)) (fun a ee => execLenEs (len := n) rfl (ee _) hW.eps.shp) (rv_ 5 (.bool (decide (i < n))) (fun a ee => execLtW (p := i) (q := n) rfl (ee _) (ee _)) (rf_ [(68, .bool (decide (i < n)))] (h5_ t1 t3 t4 t5 t6) ?_))))))
          rintro a A ⟨t68, -⟩ ⟨t1, t3, t4, t5, t6, -⟩
          by_cases lti : i < n
          · rw [decide_eq_true lti] at t68
            refine wp_cond_true t68 ?_
            refine wp_skip ?_
            clear t68
            refine wp_seq ?_
            refine wp_block ?_
            have hTe := hW.eps.lists i lti
            have hln := hW.ln16 i lti
            have hc4 : c + ln i ≤ 4096 := by
              have q2 := al_len (nu := nu) (t := t) (ln := ln) n
              have q3 : alN ln i + ln i ≤ alN ln n := al_mono lti
              have q4 : ((wLen (esL n nu ln t) : Nat) : Int) ≤ rm := hR.2.2.2.2.2.2.1
              have q5 := hR.2.2.2.1
              omega
            obtain ⟨wb, wo, wc, we, hwb, hwc⟩ := hW.eps.at (show 0 < n by omega)
            have wN : ∀ X, Below X5.heap.size X5 X → X.cell? ⟨wb, wo + i * 2 + 0, none⟩ = some (.int .i64 (nu i)) := fun X hX => by rw [cell_below hX hwb]; exact (hwc i lti).1
            have wT : ∀ X, Below X5.heap.size X5 X → X.cell? ⟨wb, wo + i * 2 + 1, none⟩ = some (tw i) := fun X hX => by rw [cell_below hX hwb]; exact (hwc i lti).2
            refine wp_seq ?_
            obtain ⟨g7, egg7⟩ : ∃ z_ : Nat, XL11.heap.size = z_ := ⟨_, rfl⟩
            refine wi_ A (h5_ t1 t3 t4 t5 t6) (rv_ 0 (.pointer (some ⟨g1, 0, none⟩)) (fun a ee => execFldJ0 rfl (ee _)) (rv_ 1 (.pointer (some ⟨g1, 1, none⟩)) (fun a ee => execFldW1 rfl (ee _)) (rv_ 2 (ev) (fun a ee => execLdEs rfl (ee _) (row_at (on9 Fg1 BB) rfl)) (rv_ 4 (.pointer (some ⟨wb, wo + i * 2, none⟩)) (fun a ee => execIdxEs (k := i) rfl ((ee _).trans we) (ee _) lti) (rv_ 5 (.agg (epC (nu i) (tw i))) (fun a ee => execLdEp rfl (ee _) (wN XL11 BB) (wT XL11 BB)) (rs_ 6 (fun a ee => ?_)))))))
            refine stepV rfl rfl (execAllEp rfl) ⟨.pointer (some ⟨g7, 0, none⟩), ⟨_, rfl, by subst egg7; rfl⟩, fun X13_1 hX => ?_⟩
            have bQ : Below XL11.heap.size XL11 X13_1 := by subst hX egg7; exact (belNew XL11 _)
            have Fg7 : (X13_1.heap[g7]? = some (.cells (epC 0 (.slice none 0 0)) 52)) := by subst hX egg7; exact heapNew XL11 _
            have FGe : (X5.heap.size ≤ g7) := by subst hX egg7; exact (BB).size
            replace BB := BB.trans (bQ.mono BB.size)
            clear bQ hX egg7 ee a
            refine rs_ 7 (fun a ee => ?_)
            refine stepS rfl rfl (execStEp rfl (ee _) (ee _) Fg7 (by obtain ⟨_, _, e_⟩ := hTe.shp; rw [e_]; rfl)) ⟨_, ⟨_, rfl, rfl⟩, fun X13 hX => ?_⟩
            obtain ⟨BB, Fe⟩ : Below X5.heap.size X5 X13 ∧ (X13.heap[g7]? = some (.cells (epC (nu i) (tw i)) 52)) := by subst hX; exact ⟨below4 BB FGe _, setRow_heap _ _ _ _ _ _ Fg7⟩
            clear Fg7 hX ee a
            refine rf_ [(7, .pointer (some ⟨g7, 0, none⟩))] (h5_ t1 t3 t4 t5 t6) ?_
            rintro a A ⟨t7, -⟩ ⟨t1, t3, t4, t5, t6, -⟩
            clear FGe
            refine wp_seq ?_
            by_cases hkp : nu i > M - sp
            · refine wi_ A (h6_ t1 t3 t4 t5 t6 t7) (rv_ 0 (.pointer (some ⟨g7, 0 + 0, none⟩)) (fun a ee => execFldE0 rfl (ee _)) (rv_ 1 (.int .i64 (nu i)) (fun a ee => execLd2 rfl (ee _) (epC_0 Fe)) (rv_ 2 (.pointer (some ⟨g3, 0, none⟩)) (fun a ee => execFldW0 rfl (ee _)) (rv_ 3 (.int .i64 M) (fun a ee => execLd2 rfl (ee _) (wC_0 (on9 Fx BB))) (rv_ 4 (.pointer (some ⟨g1, 2, none⟩)) (fun a ee => execFldJ1 rfl (ee _)) (rv_ 5 (.int .i64 sp) (fun a ee => execLd3 rfl (ee _) (row_at (on9 Fg1 BB) rfl)) (rv_ 6 (.int .i64 (M - sp)) (fun a ee => execSub2 (z := (M - sp)) rfl (ee _) (ee _) rfl (by omega) (by omega)) (rv_ 7 (.bool true) (fun a ee => execDec (exIgtr2 (p := (nu i)) (q := (M - sp)) rfl (ee _) (ee _)) (decide_eq_true hkp)) (rf_ [(8, .bool true)] (h6_ t1 t3 t4 t5 t6 t7) ?_)))))))))
              rintro a A ⟨t8, -⟩ ⟨t1, t3, t4, t5, t6, t7, -⟩
              refine wp_seq ?_
              refine wi_ A (h7_ t1 t3 t4 t5 t6 t7 t8) (rf_ [(9, .int .i64 ((0 : Nat) : Int))] (h7_ t1 t3 t4 t5 t6 t7 t8) ?_)
              rintro a A ⟨t9, -⟩ ⟨t1, t3, t4, t5, t6, t7, t8, -⟩
              refine wp_block ?_
              refine wp_loop (fun a W => ∃ (j : Nat), j ≤ ln i ∧ (a.tmps.size = 240 ∧ a.defers = []) ∧ a.eval (.tmp 1) = .pointer (some ⟨g1, 0, none⟩) ∧ a.eval (.tmp 3) = .pointer (some ⟨g3, 0, none⟩) ∧ a.eval (.tmp 4) = .int .i64 ((o.2 : Nat) : Int) ∧ a.eval (.tmp 5) = .int .i64 ((c + j : Nat) : Int) ∧ a.eval (.tmp 6) = .int .i64 ((i : Nat) : Int) ∧ a.eval (.tmp 7) = .pointer (some ⟨g7, 0, none⟩) ∧ a.eval (.tmp 8) = .bool true ∧ a.eval (.tmp 9) = .int .i64 ((j : Nat) : Int) ∧ Below X5.heap.size X5 W ∧ (W.heap[g7]? = some (.cells (epC (nu i) (tw i)) 52))) (fun a _ => ln i - (intOf (a.eval (.tmp 9))).toNat) ⟨0, Nat.zero_le _, A, t1, t3, t4, t5, t6, t7, t8, t9, BB, Fe⟩ ?_
              clear A t1 t3 t4 t5 t6 t7 t8 t9 BB Fe a
              rintro a XL16 ⟨j, hj, A, t1, t3, t4, t5, t6, t7, t8, t9, BB, Fe⟩
              have esj := t9
              refine wp_seq ?_
              refine wp_seq ?_
              refine wi_ A (h8_ t1 t3 t4 t5 t6 t7 t8 t9) (rv_ 1 (.pointer (some ⟨g7, 0 + 1, none⟩)) (fun a ee => execFldE1 rfl (ee _)) (rv_ 2 (tw i) (fun a ee => execLdTs rfl (ee _) (epC_1 Fe)) (rv_ 3 (.int .i64 ((ln i : Nat) : Int)) (fun a ee => execLenTs (len := ln i) rfl (ee _) hTe.shp) (rv_ 4 (.bool (decide (j < ln i))) (fun a ee => execLtW (p := j) (q := ln i) rfl (ee _) (ee _)) (rf_ [(89, .bool (decide (j < ln i)))] (h8_ t1 t3 t4 t5 t6 t7 t8 t9) ?_)))))
              rintro a A ⟨t89, -⟩ ⟨t1, t3, t4, t5, t6, t7, t8, t9, -⟩
              by_cases ltj : j < ln i
              · rw [decide_eq_true ltj] at t89
                refine wp_cond_true t89 ?_
                refine wp_skip ?_
                clear t89
                refine wp_seq ?_
                refine wp_block ?_
                obtain ⟨qb, qo, qc, qe, hqb, hqc⟩ := hTe.at (show 0 < ln i by omega)
                have qC : ∀ X, Below X5.heap.size X5 X → ∀ j_, j_ < 16 → X.cell? ⟨qb, qo + j * 16 + j_, none⟩ = some (.int .u8 ((t i j j_ : Nat) : Int)) := fun X hX j_ hj_ => by rw [cell_below hX hqb]; exact hqc j ltj j_ hj_
                have hmem : decide (tv (t i j) 16 ∈ wAll (esL n40 nu40 ln40 tt40)) = true := by
                  rw [hf40, decide_eq_decide.2 (mem_fil hnd (esL_mem lti) (mem_tgL.2 ⟨j, ltj, rfl⟩))]
                  exact decide_eq_true (decide_eq_true (show M - sp < nu i by omega))
                refine wp_seq ?_
                refine wp_seq ?_
                refine wj_ [0, 1, 2, 3, 4, 5, 7, 6, 8] [6] [0, 2, 5] [] A (h8_ t1 t3 t4 t5 t6 t7 t8 t9) (fun X18_0 bD => ?_)
                refine dv_ 0 (.agg (wC M ev40)) (fun a X ee hb => execLdWn rfl (ee _) (on9 Fx (BB.trans (hb.mono BB.size)))) (dw_ 1 (.pointer (some ⟨g7, 0 + 1, none⟩)) (fun a X ee => execFldE1 rfl (ee _)) (dv_ 2 (tw i) (fun a X ee hb => execLdTs rfl (ee _) (epC_1 (on9 Fe hb))) (dw_ 4 (.pointer (some ⟨qb, qo + j * 16, none⟩)) (fun a X ee => execIdxTs (k := j) rfl ((ee _).trans qe) (ee _) ltj) (dv_ 5 (.agg (bA 16 (t i j))) (fun a X ee hb => execLdT rfl (ee _) (fun j_ hj_ => qC X (BB.trans (hb.mono BB.size)) j_ hj_)) (dc_ 6 ((by have h_ := I.has M ev40 n40 nu40 tw40 ln40 tt40 (t i j) X18_0 (hTe.byt j ltj) (hWx.on (BB.trans (bD.mono BB.size))); rw [hmem] at h_; exact h_)) (cb_ fun X18 bQ => ?_))))))
                replace bD := bD.trans (bQ.mono bD.size)
                clear bQ
                refine ⟨Or.inr bD, ?_⟩
                refine dw_ 8 (.bool false) (fun a X ee => execNeBo rfl (ee _) (ee _)) (dz_ [(100, .bool false)] (h8_ t1 t3 t4 t5 t6 t7 t8 t9) ?_)
                rintro a A ⟨t100, -⟩ ⟨t1, t3, t4, t5, t6, t7, t8, t9, -⟩
                replace Fe := (on9 Fe bD)
                replace BB := BB.trans (bD.mono BB.size)
                clear bD
                refine wp_cond_false t100 ?_
                refine wp_skip ?_
                clear t100
                refine wp_seq ?_
                refine wi_ A (h8_ t1 t3 t4 t5 t6 t7 t8 t9) (rf_ [(101, .bool true)] (h8_ t1 t3 t4 t5 t6 t7 t8 t9) ?_)
                rintro a A ⟨t101, -⟩ ⟨t1, t3, t4, t5, t6, t7, t8, t9, -⟩
                refine wp_cond_true t101 ?_
                clear t101
                refine wi_ A (h8_ t1 t3 t4 t5 t6 t7 t8 t9) (rv_ 1 (.int .i64 ((c + j + 1 : Nat) : Int)) (fun a ee => execAd8 (p := c + j) (q := 1) rfl (ee _) rfl (by omega)) (rf_ [(5, .int .i64 ((c + j + 1 : Nat) : Int))] (h7_ t1 t3 t4 t6 t7 t8 t9) ?_))
                rintro a A ⟨t5, -⟩ ⟨t1, t3, t4, t6, t7, t8, t9, -⟩
                refine wi_ A (h8_ t1 t3 t4 t5 t6 t7 t8 t9) (rv_ 1 (.int .i64 ((j + 1 : Nat) : Int)) (fun a ee => execAd8 (p := j) (q := 1) rfl (ee _) rfl (by omega)) (rf_ [(9, .int .i64 ((j + 1 : Nat) : Int))] (h7_ t1 t3 t4 t5 t6 t7 t8) ?_))
                rintro a A ⟨t9, -⟩ ⟨t1, t3, t4, t5, t6, t7, t8, -⟩
                exact ⟨⟨j + 1, ltj, A, t1, t3, t4, t5, t6, t7, t8, t9, BB, Fe⟩, by show ln i - (intOf (a.eval (.tmp 9))).toNat < ln i - (intOf (Act.eval _ (.tmp 9))).toNat; rw [t9, esj]; show ln i - (j + 1) < ln i - j; omega⟩
              · rw [decide_eq_false ltj] at t89
                refine wp_cond_false t89 ?_
                refine wp_exit ?_
                first | with_reducible refine exit_in ?_ | with_reducible refine exit_then (exit_in ?_) | with_reducible refine exit_then (exit_then (exit_in ?_)) | refine exit_in ?_ | refine exit_then (exit_in ?_) | refine exit_then (exit_then (exit_in ?_))
                clear t89 esj
                obtain rfl : j = ln i := by omega
                clear Fe t7 t8 t9
                have hc2 : c + ln i = wLen ((esL (i + 1) nu ln t).filter fun x => decide (M - sp < x.1)) := by rw [fil_len_y (show M - sp < nu i by omega), ← hc]
                have hcb2 : c + ln i ≤ alN ln (i + 1) := by show _ ≤ alN ln i + ln i; omega
                refine wi_ A (h5_ t1 t3 t4 t5 t6) (rv_ 1 (.int .i64 ((i + 1 : Nat) : Int)) (fun a ee => execAd8 (p := i) (q := 1) rfl (ee _) rfl (by omega)) (rf_ [(6, .int .i64 ((i + 1 : Nat) : Int))] (h4_ t1 t3 t4 t5) ?_))
                rintro a A ⟨t6, -⟩ ⟨t1, t3, t4, t5, -⟩
                exact ⟨⟨i + 1, c + ln i, lti, hc2, hcb2, A, t1, t3, t4, t5, t6, BB⟩, by show n - (intOf (a.eval (.tmp 6))).toNat < n - (intOf (Act.eval _ (.tmp 6))).toNat; rw [t6, esi]; show n - (i + 1) < n - i; omega⟩
            · refine wi_ A (h6_ t1 t3 t4 t5 t6 t7) (rv_ 0 (.pointer (some ⟨g7, 0 + 0, none⟩)) (fun a ee => execFldE0 rfl (ee _)) (rv_ 1 (.int .i64 (nu i)) (fun a ee => execLd2 rfl (ee _) (epC_0 Fe)) (rv_ 2 (.pointer (some ⟨g3, 0, none⟩)) (fun a ee => execFldW0 rfl (ee _)) (rv_ 3 (.int .i64 M) (fun a ee => execLd2 rfl (ee _) (wC_0 (on9 Fx BB))) (rv_ 4 (.pointer (some ⟨g1, 2, none⟩)) (fun a ee => execFldJ1 rfl (ee _)) (rv_ 5 (.int .i64 sp) (fun a ee => execLd3 rfl (ee _) (row_at (on9 Fg1 BB) rfl)) (rv_ 6 (.int .i64 (M - sp)) (fun a ee => execSub2 (z := (M - sp)) rfl (ee _) (ee _) rfl (by omega) (by omega)) (rv_ 7 (.bool false) (fun a ee => execDec (exIgtr2 (p := (nu i)) (q := (M - sp)) rfl (ee _) (ee _)) (decide_eq_false hkp)) (rf_ [(8, .bool false)] (h6_ t1 t3 t4 t5 t6 t7) ?_)))))))))
              rintro a A ⟨t8, -⟩ ⟨t1, t3, t4, t5, t6, t7, -⟩
              refine wp_seq ?_
              refine wi_ A (h7_ t1 t3 t4 t5 t6 t7 t8) (rf_ [(9, .int .i64 ((0 : Nat) : Int))] (h7_ t1 t3 t4 t5 t6 t7 t8) ?_)
              rintro a A ⟨t9, -⟩ ⟨t1, t3, t4, t5, t6, t7, t8, -⟩
              refine wp_block ?_
              refine wp_loop (fun a W => ∃ (j : Nat), j ≤ ln i ∧ (a.tmps.size = 240 ∧ a.defers = []) ∧ a.eval (.tmp 1) = .pointer (some ⟨g1, 0, none⟩) ∧ a.eval (.tmp 3) = .pointer (some ⟨g3, 0, none⟩) ∧ a.eval (.tmp 4) = .int .i64 ((o.2 : Nat) : Int) ∧ a.eval (.tmp 5) = .int .i64 ((c : Nat) : Int) ∧ a.eval (.tmp 6) = .int .i64 ((i : Nat) : Int) ∧ a.eval (.tmp 7) = .pointer (some ⟨g7, 0, none⟩) ∧ a.eval (.tmp 8) = .bool false ∧ a.eval (.tmp 9) = .int .i64 ((j : Nat) : Int) ∧ Below X5.heap.size X5 W ∧ (W.heap[g7]? = some (.cells (epC (nu i) (tw i)) 52))) (fun a _ => ln i - (intOf (a.eval (.tmp 9))).toNat) ⟨0, Nat.zero_le _, A, t1, t3, t4, t5, t6, t7, t8, t9, BB, Fe⟩ ?_
              clear A t1 t3 t4 t5 t6 t7 t8 t9 BB Fe a
              rintro a XL16 ⟨j, hj, A, t1, t3, t4, t5, t6, t7, t8, t9, BB, Fe⟩
              have esj := t9
              refine wp_seq ?_
              refine wp_seq ?_
              refine wi_ A (h8_ t1 t3 t4 t5 t6 t7 t8 t9) (rv_ 1 (.pointer (some ⟨g7, 0 + 1, none⟩)) (fun a ee => execFldE1 rfl (ee _)) (rv_ 2 (tw i) (fun a ee => execLdTs rfl (ee _) (epC_1 Fe)) (rv_ 3 (.int .i64 ((ln i : Nat) : Int)) (fun a ee => execLenTs (len := ln i) rfl (ee _) hTe.shp) (rv_ 4 (.bool (decide (j < ln i))) (fun a ee => execLtW (p := j) (q := ln i) rfl (ee _) (ee _)) (rf_ [(89, .bool (decide (j < ln i)))] (h8_ t1 t3 t4 t5 t6 t7 t8 t9) ?_)))))
              rintro a A ⟨t89, -⟩ ⟨t1, t3, t4, t5, t6, t7, t8, t9, -⟩
              by_cases ltj : j < ln i
              · rw [decide_eq_true ltj] at t89
                refine wp_cond_true t89 ?_
                refine wp_skip ?_
                clear t89
                refine wp_seq ?_
                refine wp_block ?_
                obtain ⟨qb, qo, qc, qe, hqb, hqc⟩ := hTe.at (show 0 < ln i by omega)
                have qC : ∀ X, Below X5.heap.size X5 X → ∀ j_, j_ < 16 → X.cell? ⟨qb, qo + j * 16 + j_, none⟩ = some (.int .u8 ((t i j j_ : Nat) : Int)) := fun X hX j_ hj_ => by rw [cell_below hX hqb]; exact hqc j ltj j_ hj_
                have hmem : decide (tv (t i j) 16 ∈ wAll (esL n40 nu40 ln40 tt40)) = false := by
                  rw [hf40, decide_eq_decide.2 (mem_fil hnd (esL_mem lti) (mem_tgL.2 ⟨j, ltj, rfl⟩))]
                  exact decide_eq_false (fun h_ => hkp (show nu i > M - sp by have := of_decide_eq_true h_; omega))
                refine wp_seq ?_
                refine wp_seq ?_
                refine wj_ [0, 1, 2, 3, 4, 5, 7, 6, 8] [6] [0, 2, 5] [] A (h8_ t1 t3 t4 t5 t6 t7 t8 t9) (fun X18_0 bD => ?_)
                refine dv_ 0 (.agg (wC M ev40)) (fun a X ee hb => execLdWn rfl (ee _) (on9 Fx (BB.trans (hb.mono BB.size)))) (dw_ 1 (.pointer (some ⟨g7, 0 + 1, none⟩)) (fun a X ee => execFldE1 rfl (ee _)) (dv_ 2 (tw i) (fun a X ee hb => execLdTs rfl (ee _) (epC_1 (on9 Fe hb))) (dw_ 4 (.pointer (some ⟨qb, qo + j * 16, none⟩)) (fun a X ee => execIdxTs (k := j) rfl ((ee _).trans qe) (ee _) ltj) (dv_ 5 (.agg (bA 16 (t i j))) (fun a X ee hb => execLdT rfl (ee _) (fun j_ hj_ => qC X (BB.trans (hb.mono BB.size)) j_ hj_)) (dc_ 6 ((by have h_ := I.has M ev40 n40 nu40 tw40 ln40 tt40 (t i j) X18_0 (hTe.byt j ltj) (hWx.on (BB.trans (bD.mono BB.size))); rw [hmem] at h_; exact h_)) (cb_ fun X18 bQ => ?_))))))
                replace bD := bD.trans (bQ.mono bD.size)
                clear bQ
                refine ⟨Or.inr bD, ?_⟩
                refine dw_ 8 (.bool false) (fun a X ee => execNeBo rfl (ee _) (ee _)) (dz_ [(100, .bool false)] (h8_ t1 t3 t4 t5 t6 t7 t8 t9) ?_)
                rintro a A ⟨t100, -⟩ ⟨t1, t3, t4, t5, t6, t7, t8, t9, -⟩
                replace Fe := (on9 Fe bD)
                replace BB := BB.trans (bD.mono BB.size)
                clear bD
                refine wp_cond_false t100 ?_
                refine wp_skip ?_
                clear t100
                refine wp_seq ?_
                refine wi_ A (h8_ t1 t3 t4 t5 t6 t7 t8 t9) (rf_ [(101, .bool false)] (h8_ t1 t3 t4 t5 t6 t7 t8 t9) ?_)
                rintro a A ⟨t101, -⟩ ⟨t1, t3, t4, t5, t6, t7, t8, t9, -⟩
                refine wp_cond_false t101 ?_
                refine wp_skip ?_
                clear t101
                refine wi_ A (h8_ t1 t3 t4 t5 t6 t7 t8 t9) (rv_ 1 (.int .i64 ((j + 1 : Nat) : Int)) (fun a ee => execAd8 (p := j) (q := 1) rfl (ee _) rfl (by omega)) (rf_ [(9, .int .i64 ((j + 1 : Nat) : Int))] (h7_ t1 t3 t4 t5 t6 t7 t8) ?_))
                rintro a A ⟨t9, -⟩ ⟨t1, t3, t4, t5, t6, t7, t8, -⟩
                exact ⟨⟨j + 1, ltj, A, t1, t3, t4, t5, t6, t7, t8, t9, BB, Fe⟩, by show ln i - (intOf (a.eval (.tmp 9))).toNat < ln i - (intOf (Act.eval _ (.tmp 9))).toNat; rw [t9, esj]; show ln i - (j + 1) < ln i - j; omega⟩
              · rw [decide_eq_false ltj] at t89
                refine wp_cond_false t89 ?_
                refine wp_exit ?_
                first | with_reducible refine exit_in ?_ | with_reducible refine exit_then (exit_in ?_) | with_reducible refine exit_then (exit_then (exit_in ?_)) | refine exit_in ?_ | refine exit_then (exit_in ?_) | refine exit_then (exit_then (exit_in ?_))
                clear t89 esj
                obtain rfl : j = ln i := by omega
                clear Fe t7 t8 t9
                have hc2 : c = wLen ((esL (i + 1) nu ln t).filter fun x => decide (M - sp < x.1)) := by rw [fil_len_n (show ¬ M - sp < nu i by omega), ← hc]
                have hcb2 : c ≤ alN ln (i + 1) := by show _ ≤ alN ln i + ln i; omega
                refine wi_ A (h5_ t1 t3 t4 t5 t6) (rv_ 1 (.int .i64 ((i + 1 : Nat) : Int)) (fun a ee => execAd8 (p := i) (q := 1) rfl (ee _) rfl (by omega)) (rf_ [(6, .int .i64 ((i + 1 : Nat) : Int))] (h4_ t1 t3 t4 t5) ?_))
                rintro a A ⟨t6, -⟩ ⟨t1, t3, t4, t5, -⟩
                exact ⟨⟨i + 1, c, lti, hc2, hcb2, A, t1, t3, t4, t5, t6, BB⟩, by show n - (intOf (a.eval (.tmp 6))).toNat < n - (intOf (Act.eval _ (.tmp 6))).toNat; rw [t6, esi]; show n - (i + 1) < n - i; omega⟩
          · rw [decide_eq_false lti] at t68
            refine wp_cond_false t68 ?_
            refine wp_exit ?_
            first | with_reducible refine exit_in ?_ | with_reducible refine exit_then (exit_in ?_) | with_reducible refine exit_then (exit_then (exit_in ?_)) | refine exit_in ?_ | refine exit_then (exit_in ?_) | refine exit_then (exit_then (exit_in ?_))
            clear t68 esi
            obtain rfl : i = n := by omega
            have hsw : sW ln40 n40 = ((c : Nat) : Int) := by rw [sW_right hRx, hf40, ← hc]
            refine wp_seq ?_
            refine wi_ A (h5_ t1 t3 t4 t5 t6) (rv_ 0 (.agg (wC M ev40)) (fun a ee => execLdWn rfl (ee _) (on9 Fx BB)) (rc_ 1 ((by have h_ := I.len M ev40 n40 nu40 tw40 ln40 tt40 XL11 (hWx.on BB); rw [hsw] at h_; exact h_)) (cb_ fun X22 bQ => ?_)))
            replace BB := BB.trans (bQ.mono BB.size)
            clear bQ
            refine rv_ 3 (.bool false) (fun a ee => execDec (execNeN (p := c) (q := c) rfl (ee _) (ee _)) (decide_eq_false (by omega))) (rf_ [(107, .bool false)] (h3_ t1 t3 t4) ?_)
            rintro a A ⟨t107, -⟩ ⟨t1, t3, t4, -⟩
            refine wp_cond_false t107 ?_
            refine wp_skip ?_
            clear t107
            replace Fg1 := on9 Fg1 BB
            replace Fx := on9 Fx BB
            replace hEx := hEx.on BB
            have BV := BW.trans (BB.mono BW.size)
            clear BB
            have BB := BV
            exact ⟨rfl, M, ev40, n40, nu40, tw40, ln40, tt40, A, t1, t3, t4, BB, Fg1, Fx, hEx, hRx, (fun _ => ⟨by omega, by omega, by omega⟩)⟩
        · refine wi_ A (h3_ t1 t3 t4) (rv_ 1 (.bool false) (fun a ee => execDec (execEqE (p := o.2) (q := 0) rfl (ee _) rfl) (decide_eq_false (by omega))) (rf_ [(44, .bool false)] (h3_ t1 t3 t4) ?_))
          rintro a A ⟨t44, -⟩ ⟨t1, t3, t4, -⟩
          refine wp_cond_false t44 ?_
          clear t44
          refine wi_ A (h3_ t1 t3 t4) (rv_ 0 (.pointer (some ⟨g1, 0, none⟩)) (fun a ee => execFldJ0 rfl (ee _)) (rv_ 1 (.agg (wC nw ev)) (fun a ee => execLdWm rfl (ee _) (row_at Fg1 rfl) (row_at Fg1 rfl)) (rs_ 2 (fun a ee => ?_))))
          refine stepS rfl rfl (execStWn rfl (ee _) (ee _) Fx (slc_one hSe)) ⟨_, ⟨_, rfl, rfl⟩, fun X24 hX => ?_⟩
          obtain ⟨BB, Fg1, Fx2⟩ : Below V.heap.size V X24 ∧ (X24.heap[g1]? = some (.cells (jbC nw ev sp rm ep tgv mrv) 43)) ∧ (X24.heap[g3]? = some (.cells (wC nw ev) 25)) := by subst hX; exact ⟨below4 BB FGg3 _, (by rw [setRow_other _ _ _ _ (ne_type Fx Fg1 (by decide))]; exact Fg1), setRow_heap _ _ _ _ _ _ Fx⟩
          clear FW40 Fx hX ee a
          refine rf_ [] (h3_ t1 t3 t4) ?_
          rintro a A - ⟨t1, t3, t4, -⟩
          have hEx := hW.eps.on BB
          exact ⟨rfl, nw, ev, n, nu, tw, ln, t, A, t1, t3, t4, BB, Fg1, Fx2, hEx, hR, (fun h_ => absurd h_ h0)⟩
      · clear A BB t1 t3 t4 Fg1 FW40 FQ40 Fx a
        rintro a XE ⟨zx, evx, nx, nux, twx, lnx, ttx, A, t1, t3, t4, BB, Fg1, Fx, hEx, hRx, hcx⟩
        replace hW := (hW.on BB)
        replace hT := (hT.on BB)
        replace hM := (hM.on BB)
        replace BW := BW.trans (BB.mono BW.size)
        clear BB
        have BB : Below XE.heap.size XE XE := Below.refl _ _
        have hWx := wd_right hEx hRx
        obtain ⟨p, ep_⟩ : ∃ p, wAdd (zx, esL nx nux lnx ttx) ep (tgL m tg) rm = p := ⟨_, rfl⟩
        have hzx1 : 0 ≤ zx := hRx.2.2.2.2.1
        have hzx2 : zx ≤ 4611686018427387904 := hRx.2.2.2.2.2.1
        refine wp_seq ?_
        refine wi_ A (h3_ t1 t3 t4) (rv_ 0 (.agg (wC zx evx)) (fun a ee => execLdWn rfl (ee _) (on9 Fx BB)) (rv_ 1 (.pointer (some ⟨g1, 4, none⟩)) (fun a ee => execFldJ3 rfl (ee _)) (rv_ 2 (.int .i64 ep) (fun a ee => execLd2 rfl (ee _) (row_at (on9 Fg1 BB) rfl)) (rv_ 3 (.pointer (some ⟨g1, 5, none⟩)) (fun a ee => execFldJ4 rfl (ee _)) (rv_ 4 (tgv) (fun a ee => execLdTs rfl (ee _) (row_at (on9 Fg1 BB) rfl)) (rv_ 5 (.pointer (some ⟨g1, 3, none⟩)) (fun a ee => execFldJ2 rfl (ee _)) (rv_ 6 (.int .i64 rm) (fun a ee => execLd3 rfl (ee _) (row_at (on9 Fg1 BB) rfl)) (rc_ 7 (ep_ ▸ I.add zx ep rm evx nx nux twx lnx ttx XE tgv m tg (hWx.on BB) hep hrm (hT.on BB) hm) fun e X25_1 hh => ?_))))))))
        obtain ⟨⟨ev118, n118, nu118, tw118, ln118, tt118, he, hq, hk⟩, hb⟩ := hh
        refine ⟨_, he, ?_⟩
        have bQ : Below XE.heap.size XE X25_1 := hb
        have FW118 : (NwE XE.heap.size X25_1 ev118 n118 nu118 tw118 ln118 tt118) := hk.base (BB).size
        have FQ118 : (esL n118 nu118 ln118 tt118 = p.1.2) := hq
        replace BB := BB.trans (bQ.mono BB.size)
        clear bQ
        obtain ⟨g10, egg10⟩ : ∃ z_ : Nat, X25_1.heap.size = z_ := ⟨_, rfl⟩
        refine rs_ 11 (fun a ee => ?_)
        refine stepV rfl rfl (execAllW rfl) ⟨.pointer (some ⟨g10, 0, none⟩), ⟨_, rfl, by subst egg10; rfl⟩, fun X25_2 hX => ?_⟩
        have bQ : Below X25_1.heap.size X25_1 X25_2 := by subst hX egg10; exact (belNew X25_1 _)
        have Fg10 : (X25_2.heap[g10]? = some (.cells (wC 0 (.slice none 0 0)) 25)) := by subst hX egg10; exact heapNew X25_1 _
        have FGg10 : (XE.heap.size ≤ g10) := by subst hX egg10; exact (BB).size
        replace FW118 := (FW118.on bQ)
        replace BB := BB.trans (bQ.mono BB.size)
        clear bQ hX egg10 ee a
        refine rs_ 12 (fun a ee => ?_)
        refine stepS rfl rfl (execStWn rfl (ee _) (ee _) Fg10 (slc_one (ownE_shp FW118.row))) ⟨_, ⟨_, rfl, rfl⟩, fun X25 hX => ?_⟩
        obtain ⟨BB, FW118, Fy⟩ : Below XE.heap.size XE X25 ∧ (NwE XE.heap.size X25 ev118 n118 nu118 tw118 ln118 tt118) ∧ (X25.heap[g10]? = some (.cells (wC p.1.1 ev118) 25)) := by subst hX; exact ⟨below4 BB FGg10 _, (FW118).setW Fg10 (by decide) (by decide), setRow_heap _ _ _ _ _ _ Fg10⟩
        clear Fg10 hX ee a
        refine rf_ [(10, .pointer (some ⟨g10, 0, none⟩)), (11, .int .i64 ((p.2 : Nat) : Int))] (h3_ t1 t3 t4) ?_
        rintro a A ⟨t10, t11, -⟩ ⟨t1, t3, t4, -⟩
        refine wp_seq ?_
        refine wp_seq ?_
        by_cases hp0 : p.2 ≠ 0
        · refine wi_ A (h5_ t1 t3 t4 t10 t11) (rv_ 1 (.bool true) (fun a ee => execDec (execNeE (p := p.2) (q := 0) rfl (ee _) rfl) (decide_eq_true (by omega))) (rf_ [(122, .bool true)] (h4_ t1 t4 t10 t11) ?_))
          rintro a A ⟨t122, -⟩ ⟨t1, t4, t10, t11, -⟩
          refine wp_cond_true t122 ?_
          clear t122
          refine wp_seq ?_
          have hz_ : p.1 = (0, []) := by rw [← ep_]; exact add_e (by rw [ep_]; exact hp0)
          have hp1 : p.1.1 = 0 := by rw [hz_]
          have hn0 : n118 = 0 := esL_n FQ118 (by rw [hz_]; rfl)
          have BB2 := BW.trans (BB.mono BW.size)
          by_cases h160 : p.2 = 160
          · refine wi_ A (h4_ t1 t4 t10 t11) (rv_ 0 (.pointer (some ⟨g10, 1, none⟩)) (fun a ee => execFldW1 rfl (ee _)) (rv_ 1 (ev118) (fun a ee => execLdEs rfl (ee _) (wC_1 Fy)) (rv_ 2 (.int .i64 ((n118 : Nat) : Int)) (fun a ee => execLenEs (len := n118) rfl (ee _) FW118.eps.shp) (rv_ 3 (.bool true) (fun a ee => execDec (execEqN (p := n118) (q := 0) rfl (ee _) rfl) (decide_eq_true (by exact hn0))) (rv_ 5 (.pointer (some ⟨g10, 0, none⟩)) (fun a ee => execFldW0 rfl (ee _)) (rv_ 6 (.int .i64 p.1.1) (fun a ee => execLd2 rfl (ee _) (wC_0 Fy)) (rv_ 7 (.bool true) (fun a ee => execDec (exIeql2 (p := p.1.1) (q := 0) rfl (ee _) rfl) (decide_eq_true hp1)) (rv_ 11 (.bool true) (fun a ee => execDec (execEqE (p := p.2) (q := 160) rfl (ee _) rfl) (decide_eq_true (by exact h160))) (rg_ [(2, .bool true)] ?_)))))))))
            rintro a A ⟨t2, -⟩
            refine wp_ret ?_
            repeat (first | with_reducible refine ret_in ?_ | with_reducible refine ret_then ?_)
            refine bodyPost_ret (results_tmp rfl _ _ _) A.2 ⟨?_, BB2⟩
            show Ending.returned (a.eval (.tmp 2)) = _
            rw [t2]
          · have h00 : o.2 ≠ 0 := fun h_ => h160 (by
              obtain ⟨q1, q2, q3⟩ := hcx h_
              rw [← ep_]
              exact add_full ⟨hRx.2.2.1, hRx.2.2.2.1, rgt_more hRx hsp8 (by omega) hRx.2.2.2.1 (by omega)⟩ ⟨q2, q3, by show zx - 8 < ep; omega⟩ (by rw [ep_]; exact hp0))
            refine wi_ A (h4_ t1 t4 t10 t11) (rv_ 0 (.pointer (some ⟨g10, 1, none⟩)) (fun a ee => execFldW1 rfl (ee _)) (rv_ 1 (ev118) (fun a ee => execLdEs rfl (ee _) (wC_1 Fy)) (rv_ 2 (.int .i64 ((n118 : Nat) : Int)) (fun a ee => execLenEs (len := n118) rfl (ee _) FW118.eps.shp) (rv_ 3 (.bool true) (fun a ee => execDec (execEqN (p := n118) (q := 0) rfl (ee _) rfl) (decide_eq_true (by exact hn0))) (rv_ 5 (.pointer (some ⟨g10, 0, none⟩)) (fun a ee => execFldW0 rfl (ee _)) (rv_ 6 (.int .i64 p.1.1) (fun a ee => execLd2 rfl (ee _) (wC_0 Fy)) (rv_ 7 (.bool true) (fun a ee => execDec (exIeql2 (p := p.1.1) (q := 0) rfl (ee _) rfl) (decide_eq_true hp1)) (rv_ 11 (.bool false) (fun a ee => execDec (execEqE (p := p.2) (q := 160) rfl (ee _) rfl) (decide_eq_false (by exact h160))) (rv_ 14 (.bool true) (fun a ee => execDec (execNeE (p := o.2) (q := 0) rfl (ee _) rfl) (decide_eq_true (by exact h00))) (rg_ [(2, .bool true)] ?_))))))))))
            rintro a A ⟨t2, -⟩
            refine wp_ret ?_
            repeat (first | with_reducible refine ret_in ?_ | with_reducible refine ret_then ?_)
            refine bodyPost_ret (results_tmp rfl _ _ _) A.2 ⟨?_, BB2⟩
            show Ending.returned (a.eval (.tmp 2)) = _
            rw [t2]
        · refine wi_ A (h5_ t1 t3 t4 t10 t11) (rv_ 1 (.bool false) (fun a ee => execDec (execNeE (p := p.2) (q := 0) rfl (ee _) rfl) (decide_eq_false (by omega))) (rf_ [(122, .bool false)] (h5_ t1 t3 t4 t10 t11) ?_))
          rintro a A ⟨t122, -⟩ ⟨t1, t3, t4, t10, t11, -⟩
          refine wp_cond_false t122 ?_
          refine wp_skip ?_
          clear t122
          have hq0 : (wAdd (zx, esL nx nux lnx ttx) ep (tgL m tg) rm).2 = 0 := by rw [ep_]; omega
          obtain ⟨hp1, hpA, hpB, hpC⟩ := add_0 hq0
          rw [ep_] at hp1
          have hN : p.1.1 = zx := by rw [hp1]
          rw [hN] at Fy
          have hRy8 : Rgt p.1 8 rm := by rw [← ep_]; exact add_rgt (rgt_more hRx hsp8 (by omega) (Int.le_refl _) hRx.2.2.2.1) hq0 (show zx - 8 < ep from hpB.2.2)
          have hpe : p.1 = (zx, esL n118 nu118 ln118 tt118) := by rw [FQ118, ← hN]
          rw [hpe] at hRy8
          have hal := add_len hq0
          rw [ep_, hpe] at hal
          have hEy := FW118.eps
          clear FW118
          replace hW := (hW.on BB)
          replace hT := (hT.on BB)
          replace hM := (hM.on BB)
          replace Fg1 := (on9 Fg1 BB)
          replace Fx := (on9 Fx BB)
          replace hEx := (hEx.on BB)
          replace hWx := (hWx.on BB)
          replace BW := BW.trans (BB.mono BW.size)
          clear BB
          have BB : Below X25.heap.size X25 X25 := Below.refl _ _
          have hWy := wd_right hEy hRy8
          have hny := hWy.n63
          refine wp_seq ?_
          refine wp_seq ?_
          by_cases h0 : o.2 = 0
          · have hRy : Rgt (zx, esL n118 nu118 ln118 tt118) sp rm := by rw [← hpe, ← ep_]; exact add_rgt hRx hq0 (hcx h0).1
            refine wi_ A (h5_ t1 t3 t4 t10 t11) (rv_ 1 (.bool true) (fun a ee => execDec (execEqE (p := o.2) (q := 0) rfl (ee _) rfl) (decide_eq_true (by exact h0))) (rv_ 3 (.agg (wC zx ev118)) (fun a ee => execLdWn rfl (ee _) (on9 Fy BB)) (rv_ 4 (.pointer (some ⟨g1, 2, none⟩)) (fun a ee => execFldJ1 rfl (ee _)) (rv_ 5 (.int .i64 sp) (fun a ee => execLd3 rfl (ee _) (row_at (on9 Fg1 BB) rfl)) (rv_ 6 (.pointer (some ⟨g1, 3, none⟩)) (fun a ee => execFldJ2 rfl (ee _)) (rv_ 7 (.int .i64 rm) (fun a ee => execLd3 rfl (ee _) (row_at (on9 Fg1 BB) rfl)) (rc_ 8 ((by have h_ := rcheckW zx sp rm ev118 n118 nu118 tw118 ln118 tt118 X25 (hWy.on BB) hsp hrm; rw [show wChk (zx, esL n118 nu118 ln118 tt118) sp rm = 0 from if_pos hRy] at h_; exact h_)) (cb_ fun X28 bQ => ?_))))))))
            replace BB := BB.trans (bQ.mono BB.size)
            clear bQ
            refine rv_ 9 (.bool false) (fun a ee => execDec (execNeN (p := 0) (q := 0) rfl (ee _) rfl) (decide_eq_false (by omega))) (rv_ 12 (.pointer (some ⟨g10, 0, none⟩)) (fun a ee => execFldW0 rfl (ee _)) (rv_ 13 (.int .i64 zx) (fun a ee => execLd2 rfl (ee _) (wC_0 (on9 Fy BB))) (rv_ 14 (.pointer (some ⟨g3, 0, none⟩)) (fun a ee => execFldW0 rfl (ee _)) (rv_ 15 (.int .i64 zx) (fun a ee => execLd2 rfl (ee _) (wC_0 (on9 Fx BB))) (rv_ 16 (.bool false) (fun a ee => execDec (exIneq2 (p := zx) (q := zx) rfl (ee _) (ee _)) (decide_eq_false (fun h_ => h_ rfl))) (rf_ [(157, .bool false)] (h4_ t1 t3 t4 t10) ?_))))))
            rintro a A ⟨t157, -⟩ ⟨t1, t3, t4, t10, -⟩
            refine wp_cond_false t157 ?_
            refine wp_skip ?_
            clear t157
            refine wp_seq ?_
            refine wi_ A (h4_ t1 t3 t4 t10) (rf_ [(12, .int .i64 ((0 : Nat) : Int))] (h3_ t1 t3 t10) ?_)
            rintro a A ⟨t12, -⟩ ⟨t1, t3, t10, -⟩
            refine wp_seq ?_
            refine wp_seq ?_
            refine wi_ A (h4_ t1 t3 t10 t12) (rf_ [(13, .int .i64 ((0 : Nat) : Int))] (h4_ t1 t3 t10 t12) ?_)
            rintro a A ⟨t13, -⟩ ⟨t1, t3, t10, t12, -⟩
            refine wp_block ?_
            refine wp_loop (fun a W => ∃ (i : Nat) (c : Nat), i ≤ n118 ∧ (c = wLen (esL i nu118 ln118 tt118)) ∧ (c ≤ alN ln118 i) ∧ (a.tmps.size = 240 ∧ a.defers = []) ∧ a.eval (.tmp 1) = .pointer (some ⟨g1, 0, none⟩) ∧ a.eval (.tmp 3) = .pointer (some ⟨g3, 0, none⟩) ∧ a.eval (.tmp 10) = .pointer (some ⟨g10, 0, none⟩) ∧ a.eval (.tmp 12) = .int .i64 ((c : Nat) : Int) ∧ a.eval (.tmp 13) = .int .i64 ((i : Nat) : Int) ∧ Below X25.heap.size X25 W) (fun a _ => n118 - (intOf (a.eval (.tmp 13))).toNat) ⟨0, 0, Nat.zero_le _, rfl, Nat.zero_le _, A, t1, t3, t10, t12, t13, BB⟩ ?_
            clear A t1 t3 t10 t12 t13 BB a
            rintro a XL32 ⟨i, c, hi, hc, hcb, A, t1, t3, t10, t12, t13, BB⟩
            have esi := t13
            refine wp_seq ?_
            refine wp_seq ?_
            refine wi_ A (h5_ t1 t3 t10 t12 t13) (rv_ 1 (.pointer (some ⟨g10, 1, none⟩)) (fun a ee => execFldW1 rfl (ee _)) (rv_ 2 (ev118) (fun a ee => execLdEs rfl (ee _) (wC_1 (on9 Fy BB))) (rv_ 3 (.int .i64 ((n118 : Nat) : Int)) (fun a ee => execLenEs (len := n118) rfl (ee _) hEy.shp) (rv_ 4 (.bool (decide (i < n118))) (fun a ee => execLtW (p := i) (q := n118) rfl (ee _) (ee _)) (rf_ [(162, .bool (decide (i < n118)))] (h5_ t1 t3 t10 t12 t13) ?_)))))
            rintro a A ⟨t162, -⟩ ⟨t1, t3, t10, t12, t13, -⟩
            by_cases lti : i < n118
            · rw [decide_eq_true lti] at t162
              refine wp_cond_true t162 ?_
              refine wp_skip ?_
              clear t162
              refine wp_seq ?_
              refine wp_block ?_
              have hTy := hEy.lists i lti
              have hly := hWy.ln16 i lti
              have hc4 : c + ln118 i ≤ 4096 := by
                have q2 := al_len (nu := nu118) (t := tt118) (ln := ln118) n118
                have q3 : alN ln118 i + ln118 i ≤ alN ln118 n118 := al_mono lti
                have q4 : ((wLen (esL n118 nu118 ln118 tt118) : Nat) : Int) ≤ rm := hRy8.2.2.2.2.2.2.1
                have q5 := hRy8.2.2.2.1
                omega
              obtain ⟨yb, yo, yc, ye, hyb, hyc⟩ := hEy.at (show 0 < n118 by omega)
              have yN : ∀ X, Below X25.heap.size X25 X → X.cell? ⟨yb, yo + i * 2 + 0, none⟩ = some (.int .i64 (nu118 i)) := fun X hX => by rw [cell_below hX hyb]; exact (hyc i lti).1
              have yT : ∀ X, Below X25.heap.size X25 X → X.cell? ⟨yb, yo + i * 2 + 1, none⟩ = some (tw118 i) := fun X hX => by rw [cell_below hX hyb]; exact (hyc i lti).2
              refine wp_seq ?_
              refine wi_ A (h5_ t1 t3 t10 t12 t13) (rf_ [(14, .int .i64 ((0 : Nat) : Int))] (h5_ t1 t3 t10 t12 t13) ?_)
              rintro a A ⟨t14, -⟩ ⟨t1, t3, t10, t12, t13, -⟩
              refine wp_block ?_
              refine wp_loop (fun a W => ∃ (j : Nat), j ≤ ln118 i ∧ (a.tmps.size = 240 ∧ a.defers = []) ∧ a.eval (.tmp 1) = .pointer (some ⟨g1, 0, none⟩) ∧ a.eval (.tmp 3) = .pointer (some ⟨g3, 0, none⟩) ∧ a.eval (.tmp 10) = .pointer (some ⟨g10, 0, none⟩) ∧ a.eval (.tmp 12) = .int .i64 ((c + j : Nat) : Int) ∧ a.eval (.tmp 13) = .int .i64 ((i : Nat) : Int) ∧ a.eval (.tmp 14) = .int .i64 ((j : Nat) : Int) ∧ Below X25.heap.size X25 W) (fun a _ => ln118 i - (intOf (a.eval (.tmp 14))).toNat) ⟨0, Nat.zero_le _, A, t1, t3, t10, t12, t13, t14, BB⟩ ?_
              clear A t1 t3 t10 t12 t13 t14 BB a
              rintro a XL35 ⟨j, hj, A, t1, t3, t10, t12, t13, t14, BB⟩
              have esj := t14
              refine wp_seq ?_
              refine wp_seq ?_
              refine wi_ A (h6_ t1 t3 t10 t12 t13 t14) (rv_ 1 (.pointer (some ⟨g10, 1, none⟩)) (fun a ee => execFldW1 rfl (ee _)) (rv_ 2 (ev118) (fun a ee => execLdEs rfl (ee _) (wC_1 (on9 Fy BB))) (rv_ 4 (.pointer (some ⟨yb, yo + i * 2, none⟩)) (fun a ee => execIdxEs (k := i) rfl ((ee _).trans ye) (ee _) lti) (rv_ 5 (.pointer (some ⟨yb, yo + i * 2 + 1, none⟩)) (fun a ee => execFldE1 rfl (ee _)) (rv_ 6 (tw118 i) (fun a ee => execLdTs rfl (ee _) (yT XL35 BB)) (rv_ 7 (.int .i64 ((ln118 i : Nat) : Int)) (fun a ee => execLenTs (len := ln118 i) rfl (ee _) hTy.shp) (rv_ 8 (.bool (decide (j < ln118 i))) (fun a ee => execLtW (p := j) (q := ln118 i) rfl (ee _) (ee _)) (rf_ [(173, .bool (decide (j < ln118 i)))] (h6_ t1 t3 t10 t12 t13 t14) ?_))))))))
              rintro a A ⟨t173, -⟩ ⟨t1, t3, t10, t12, t13, t14, -⟩
              by_cases ltj : j < ln118 i
              · rw [decide_eq_true ltj] at t173
                refine wp_cond_true t173 ?_
                refine wp_skip ?_
                clear t173
                refine wp_seq ?_
                refine wp_block ?_
                obtain ⟨qb, qo, qc, qe, hqb, hqc⟩ := hTy.at (show 0 < ln118 i by omega)
                have qC : ∀ X, Below X25.heap.size X25 X → ∀ j_, j_ < 16 → X.cell? ⟨qb, qo + j * 16 + j_, none⟩ = some (.int .u8 ((tt118 i j j_ : Nat) : Int)) := fun X hX j_ hj_ => by rw [cell_below hX hqb]; exact hqc j ltj j_ hj_
                refine wp_seq ?_
                obtain ⟨g15, egg15⟩ : ∃ z_ : Nat, XL35.heap.size = z_ := ⟨_, rfl⟩
                refine wi_ A (h6_ t1 t3 t10 t12 t13 t14) (rv_ 0 (.pointer (some ⟨g10, 1, none⟩)) (fun a ee => execFldW1 rfl (ee _)) (rv_ 1 (ev118) (fun a ee => execLdEs rfl (ee _) (wC_1 (on9 Fy BB))) (rv_ 3 (.pointer (some ⟨yb, yo + i * 2, none⟩)) (fun a ee => execIdxEs (k := i) rfl ((ee _).trans ye) (ee _) lti) (rv_ 4 (.pointer (some ⟨yb, yo + i * 2 + 1, none⟩)) (fun a ee => execFldE1 rfl (ee _)) (rv_ 5 (tw118 i) (fun a ee => execLdTs rfl (ee _) (yT XL35 BB)) (rv_ 7 (.pointer (some ⟨qb, qo + j * 16, none⟩)) (fun a ee => execIdxTs (k := j) rfl ((ee _).trans qe) (ee _) ltj) (rv_ 8 (.agg (bA 16 (tt118 i j))) (fun a ee => execLdT rfl (ee _) (fun j_ hj_ => qC XL35 BB j_ hj_)) (rs_ 9 (fun a ee => ?_)))))))))
                refine stepV rfl rfl (execAl16 rfl) ⟨.pointer (some ⟨g15, 0, none⟩), ⟨_, rfl, by subst egg15; rfl⟩, fun X37_1 hX => ?_⟩
                have bQ : Below XL35.heap.size XL35 X37_1 := by subst hX egg15; exact (belNew XL35 _)
                have F15 : (X37_1.heap[g15]? = some (.cells (bA 16 (fun _ => 0)) 34)) := by subst hX egg15; exact heapNew XL35 _
                have FG15 : (X25.heap.size ≤ g15) := by subst hX egg15; exact (BB).size
                replace BB := BB.trans (bQ.mono BB.size)
                clear bQ hX egg15 ee a
                refine rs_ 10 (fun a ee => ?_)
                refine stepS rfl rfl (execSt16 rfl (ee _) (ee _) F15) ⟨_, ⟨_, rfl, rfl⟩, fun X37 hX => ?_⟩
                obtain ⟨BB, Ft⟩ : Below X25.heap.size X25 X37 ∧ (X37.heap[g15]? = some (.cells (bA 16 (tt118 i j)) 34)) := by subst hX; exact ⟨below4 BB FG15 _, setRow_heap _ _ _ _ _ _ F15⟩
                clear F15 hX ee a
                refine rf_ [(15, .pointer (some ⟨g15, 0, none⟩))] (h6_ t1 t3 t10 t12 t13 t14) ?_
                rintro a A ⟨t15, -⟩ ⟨t1, t3, t10, t12, t13, t14, -⟩
                clear FG15
                refine wp_seq ?_
                refine wi_ A (h7_ t1 t3 t10 t12 t13 t14 t15) (rv_ 1 (.int .i64 ((c + j + 1 : Nat) : Int)) (fun a ee => execAd8 (p := c + j) (q := 1) rfl (ee _) rfl (by omega)) (rf_ [(12, .int .i64 ((c + j + 1 : Nat) : Int))] (h6_ t1 t3 t10 t13 t14 t15) ?_))
                rintro a A ⟨t12, -⟩ ⟨t1, t3, t10, t13, t14, t15, -⟩
                have hzin := add_in hq0 (x := (nu118 i, tgL (ln118 i) (tt118 i))) (z := tv (tt118 i j) 16) (by rw [ep_, hpe]; exact esL_mem lti) (mem_tgL.2 ⟨j, ltj, rfl⟩)
                refine wp_seq ?_
                by_cases hin : tv (tt118 i j) 16 ∈ wAll (esL nx nux lnx ttx)
                · refine wj_ [0, 1, 2, 3, 4, 5, 6, 7, 8, 9, 10, 11, 12, 13, 14, 15, 16, 17, 18, 19, 20, 21] [2] [0, 1] [] A (h7_ t1 t3 t10 t12 t13 t14 t15) (fun X39_0 bD => ?_)
                  refine dv_ 0 (.agg (wC zx evx)) (fun a X ee hb => execLdWn rfl (ee _) (on9 Fx (BB.trans (hb.mono BB.size)))) (dv_ 1 (.agg (bA 16 (tt118 i j))) (fun a X ee hb => execLdT (f := tt118 i j) rfl (ee _) (fun j_ hj_ => at16 (on9 Ft hb) hj_)) (dc_ 2 ((by have h_ := rhas16 zx evx nx nux twx lnx ttx (tt118 i j) X39_0 (hTy.byt j ltj) (hEx.on (BB.trans (bD.mono BB.size))) hWx.n63; rw [decide_eq_true hin] at h_; exact h_)) (cb_ fun X39 bQ => ?_)))
                  replace bD := bD.trans (bQ.mono bD.size)
                  clear bQ
                  refine ⟨Or.inr bD, ?_⟩
                  refine dw_ 3 (.bool false) (fun a X ee => execNot8 (b := true) rfl (ee _)) (dz_ [(208, .bool false)] (h6_ t1 t3 t10 t12 t13 t14) ?_)
                  rintro a A ⟨t208, -⟩ ⟨t1, t3, t10, t12, t13, t14, -⟩
                  replace Ft := (on9 Ft bD)
                  replace BB := BB.trans (bD.mono BB.size)
                  clear bD
                  refine wp_cond_false t208 ?_
                  refine wp_skip ?_
                  clear t208
                  clear Ft
                  refine wi_ A (h6_ t1 t3 t10 t12 t13 t14) (rv_ 1 (.int .i64 ((j + 1 : Nat) : Int)) (fun a ee => execAd8 (p := j) (q := 1) rfl (ee _) rfl (by omega)) (rf_ [(14, .int .i64 ((j + 1 : Nat) : Int))] (h5_ t1 t3 t10 t12 t13) ?_))
                  rintro a A ⟨t14, -⟩ ⟨t1, t3, t10, t12, t13, -⟩
                  exact ⟨⟨j + 1, ltj, A, t1, t3, t10, t12, t13, t14, BB⟩, by show ln118 i - (intOf (a.eval (.tmp 14))).toNat < ln118 i - (intOf (Act.eval _ (.tmp 14))).toNat; rw [t14, esj]; show ln118 i - (j + 1) < ln118 i - j; omega⟩
                · obtain ⟨hnum, hinT⟩ := hzin.resolve_left hin
                  refine wj_ [0, 1, 2, 3, 4, 5, 6, 7, 8, 9, 10, 11, 12, 13, 14, 15, 16, 17, 18, 19, 20, 21] [2, 18] [0, 1, 6, 10, 12, 16, 17] [] A (h7_ t1 t3 t10 t12 t13 t14 t15) (fun X39_0 bD => ?_)
                  refine dv_ 0 (.agg (wC zx evx)) (fun a X ee hb => execLdWn rfl (ee _) (on9 Fx (BB.trans (hb.mono BB.size)))) (dv_ 1 (.agg (bA 16 (tt118 i j))) (fun a X ee hb => execLdT (f := tt118 i j) rfl (ee _) (fun j_ hj_ => at16 (on9 Ft hb) hj_)) (dc_ 2 ((by have h_ := rhas16 zx evx nx nux twx lnx ttx (tt118 i j) X39_0 (hTy.byt j ltj) (hEx.on (BB.trans (bD.mono BB.size))) hWx.n63; rw [decide_eq_false hin] at h_; exact h_)) (cb_ fun X39_1 bQ => ?_)))
                  replace bD := bD.trans (bQ.mono bD.size)
                  clear bQ
                  refine ⟨Or.inr bD, ?_⟩
                  refine dw_ 3 (.bool true) (fun a X ee => execNot8 (b := false) rfl (ee _)) (dw_ 5 (.pointer (some ⟨g10, 1, none⟩)) (fun a X ee => execFldW1 rfl (ee _)) (dv_ 6 (ev118) (fun a X ee hb => execLdEs rfl (ee _) (wC_1 (on9 Fy (BB.trans (hb.mono BB.size))))) (dw_ 8 (.pointer (some ⟨yb, yo + i * 2, none⟩)) (fun a X ee => execIdxEs (k := i) rfl ((ee _).trans ye) (ee _) lti) (dw_ 9 (.pointer (some ⟨yb, yo + i * 2 + 0, none⟩)) (fun a X ee => execFldE0 rfl (ee _)) (dv_ 10 (.int .i64 (nu118 i)) (fun a X ee hb => execLd2 rfl (ee _) (yN X (BB.trans (hb.mono BB.size)))) (dw_ 11 (.pointer (some ⟨g1, 4, none⟩)) (fun a X ee => execFldJ3 rfl (ee _)) (dv_ 12 (.int .i64 ep) (fun a X ee hb => execLd2 rfl (ee _) (row_at (on9 Fg1 (BB.trans (hb.mono BB.size))) rfl)) (dw_ 13 (.bool false) (fun a X ee => execDec (exIneq2 (p := (nu118 i)) (q := ep) rfl (ee _) (ee _)) (decide_eq_false (fun h_ => h_ hnum))) (dw_ 15 (.pointer (some ⟨g1, 5, none⟩)) (fun a X ee => execFldJ4 rfl (ee _)) (dv_ 16 (tgv) (fun a X ee hb => execLdTs rfl (ee _) (row_at (on9 Fg1 (BB.trans (hb.mono BB.size))) rfl)) (dv_ 17 (.agg (bA 16 (tt118 i j))) (fun a X ee hb => execLdT (f := tt118 i j) rfl (ee _) (fun j_ hj_ => at16 (on9 Ft hb) hj_)) (dc_ 18 ((by have h_ := in16 m tg (tt118 i j) tgv X39_1 (hT.on (BB.trans (bD.mono BB.size))) (hTy.byt j ltj); rw [decide_eq_true hinT] at h_; exact h_)) (cb_ fun X39 bQ => ?_)))))))))))))
                  replace bD := bD.trans (bQ.mono bD.size)
                  clear bQ
                  refine ⟨Or.inr bD, ?_⟩
                  refine dw_ 19 (.bool false) (fun a X ee => execNot8 (b := true) rfl (ee _)) (dz_ [(208, .bool false)] (h6_ t1 t3 t10 t12 t13 t14) ?_)
                  rintro a A ⟨t208, -⟩ ⟨t1, t3, t10, t12, t13, t14, -⟩
                  replace Ft := (on9 Ft bD)
                  replace BB := BB.trans (bD.mono BB.size)
                  clear bD
                  refine wp_cond_false t208 ?_
                  refine wp_skip ?_
                  clear t208
                  clear Ft
                  refine wi_ A (h6_ t1 t3 t10 t12 t13 t14) (rv_ 1 (.int .i64 ((j + 1 : Nat) : Int)) (fun a ee => execAd8 (p := j) (q := 1) rfl (ee _) rfl (by omega)) (rf_ [(14, .int .i64 ((j + 1 : Nat) : Int))] (h5_ t1 t3 t10 t12 t13) ?_))
                  rintro a A ⟨t14, -⟩ ⟨t1, t3, t10, t12, t13, -⟩
                  exact ⟨⟨j + 1, ltj, A, t1, t3, t10, t12, t13, t14, BB⟩, by show ln118 i - (intOf (a.eval (.tmp 14))).toNat < ln118 i - (intOf (Act.eval _ (.tmp 14))).toNat; rw [t14, esj]; show ln118 i - (j + 1) < ln118 i - j; omega⟩
              · rw [decide_eq_false ltj] at t173
                refine wp_cond_false t173 ?_
                refine wp_exit ?_
                first | with_reducible refine exit_in ?_ | with_reducible refine exit_then (exit_in ?_) | with_reducible refine exit_then (exit_then (exit_in ?_)) | refine exit_in ?_ | refine exit_then (exit_in ?_) | refine exit_then (exit_then (exit_in ?_))
                clear t173 esj
                obtain rfl : j = ln118 i := by omega
                clear t14
                have hc2 : c + ln118 i = wLen (esL (i + 1) nu118 ln118 tt118) := by rw [len_esL, ← hc]
                have hcb2 : c + ln118 i ≤ alN ln118 (i + 1) := by show _ ≤ alN ln118 i + ln118 i; omega
                refine wi_ A (h5_ t1 t3 t10 t12 t13) (rv_ 1 (.int .i64 ((i + 1 : Nat) : Int)) (fun a ee => execAd8 (p := i) (q := 1) rfl (ee _) rfl (by omega)) (rf_ [(13, .int .i64 ((i + 1 : Nat) : Int))] (h4_ t1 t3 t10 t12) ?_))
                rintro a A ⟨t13, -⟩ ⟨t1, t3, t10, t12, -⟩
                exact ⟨⟨i + 1, c + ln118 i, lti, hc2, hcb2, A, t1, t3, t10, t12, t13, BB⟩, by show n118 - (intOf (a.eval (.tmp 13))).toNat < n118 - (intOf (Act.eval _ (.tmp 13))).toNat; rw [t13, esi]; show n118 - (i + 1) < n118 - i; omega⟩
            · rw [decide_eq_false lti] at t162
              refine wp_cond_false t162 ?_
              refine wp_exit ?_
              first | with_reducible refine exit_in ?_ | with_reducible refine exit_then (exit_in ?_) | with_reducible refine exit_then (exit_then (exit_in ?_)) | refine exit_in ?_ | refine exit_then (exit_in ?_) | refine exit_then (exit_then (exit_in ?_))
              clear t162 esi
              obtain rfl : i = n118 := by omega
              clear t13
              refine wp_seq ?_
              refine wp_seq ?_
              refine wi_ A (h4_ t1 t3 t10 t12) (rf_ [(16, .int .i64 ((0 : Nat) : Int))] (h4_ t1 t3 t10 t12) ?_)
              rintro a A ⟨t16, -⟩ ⟨t1, t3, t10, t12, -⟩
              refine wp_block ?_
              refine wp_loop (fun a W => ∃ (k : Nat), k ≤ m ∧ (a.tmps.size = 240 ∧ a.defers = []) ∧ a.eval (.tmp 1) = .pointer (some ⟨g1, 0, none⟩) ∧ a.eval (.tmp 3) = .pointer (some ⟨g3, 0, none⟩) ∧ a.eval (.tmp 10) = .pointer (some ⟨g10, 0, none⟩) ∧ a.eval (.tmp 12) = .int .i64 ((c : Nat) : Int) ∧ a.eval (.tmp 16) = .int .i64 ((k : Nat) : Int) ∧ Below X25.heap.size X25 W) (fun a _ => m - (intOf (a.eval (.tmp 16))).toNat) ⟨0, Nat.zero_le _, A, t1, t3, t10, t12, t16, BB⟩ ?_
              clear A t1 t3 t10 t12 t16 BB a
              rintro a XL42 ⟨k, hk, A, t1, t3, t10, t12, t16, BB⟩
              have esk := t16
              refine wp_seq ?_
              refine wp_seq ?_
              refine wi_ A (h5_ t1 t3 t10 t12 t16) (rv_ 1 (.pointer (some ⟨g1, 5, none⟩)) (fun a ee => execFldJ4 rfl (ee _)) (rv_ 2 (tgv) (fun a ee => execLdTs rfl (ee _) (row_at (on9 Fg1 BB) rfl)) (rv_ 3 (.int .i64 ((m : Nat) : Int)) (fun a ee => execLenTs (len := m) rfl (ee _) hT.shp) (rv_ 4 (.bool (decide (k < m))) (fun a ee => execLtW (p := k) (q := m) rfl (ee _) (ee _)) (rf_ [(213, .bool (decide (k < m)))] (h5_ t1 t3 t10 t12 t16) ?_)))))
              rintro a A ⟨t213, -⟩ ⟨t1, t3, t10, t12, t16, -⟩
              by_cases ltk : k < m
              · rw [decide_eq_true ltk] at t213
                refine wp_cond_true t213 ?_
                refine wp_skip ?_
                clear t213
                refine wp_seq ?_
                refine wp_block ?_
                obtain ⟨qb, qo, qc, qe, hqb, hqc⟩ := hT.at (show 0 < m by omega)
                have qC : ∀ X, Below X25.heap.size X25 X → ∀ j_, j_ < 16 → X.cell? ⟨qb, qo + k * 16 + j_, none⟩ = some (.int .u8 ((tg k j_ : Nat) : Int)) := fun X hX j_ hj_ => by rw [cell_below hX hqb]; exact hqc k ltk j_ hj_
                have hmem : decide (tv (tg k) 16 ∈ wAll (esL i nu118 ln118 tt118)) = true := decide_eq_true (by have h_ := add_has hq0 (z := tv (tg k) 16) (mem_tgL.2 ⟨k, ltk, rfl⟩); rw [ep_, hpe] at h_; exact h_)
                refine wp_seq ?_
                refine wj_ [0, 1, 2, 3, 4, 5, 6, 7] [6] [0, 2, 5] [] A (h5_ t1 t3 t10 t12 t16) (fun X44_0 bD => ?_)
                refine dv_ 0 (.agg (wC zx ev118)) (fun a X ee hb => execLdWn rfl (ee _) (on9 Fy (BB.trans (hb.mono BB.size)))) (dw_ 1 (.pointer (some ⟨g1, 5, none⟩)) (fun a X ee => execFldJ4 rfl (ee _)) (dv_ 2 (tgv) (fun a X ee hb => execLdTs rfl (ee _) (row_at (on9 Fg1 (BB.trans (hb.mono BB.size))) rfl)) (dw_ 4 (.pointer (some ⟨qb, qo + k * 16, none⟩)) (fun a X ee => execIdxTs (k := k) rfl ((ee _).trans qe) (ee _) ltk) (dv_ 5 (.agg (bA 16 (tg k))) (fun a X ee hb => execLdT rfl (ee _) (fun j_ hj_ => qC X (BB.trans (hb.mono BB.size)) j_ hj_)) (dc_ 6 ((by have h_ := I.has zx ev118 i nu118 tw118 ln118 tt118 (tg k) X44_0 (hT.byt k ltk) (hWy.on (BB.trans (bD.mono BB.size))); rw [hmem] at h_; exact h_)) (cb_ fun X44 bQ => ?_))))))
                replace bD := bD.trans (bQ.mono bD.size)
                clear bQ
                refine ⟨Or.inr bD, ?_⟩
                refine dw_ 7 (.bool false) (fun a X ee => execNot8 (b := true) rfl (ee _)) (dz_ [(223, .bool false)] (h5_ t1 t3 t10 t12 t16) ?_)
                rintro a A ⟨t223, -⟩ ⟨t1, t3, t10, t12, t16, -⟩
                replace BB := BB.trans (bD.mono BB.size)
                clear bD
                refine wp_cond_false t223 ?_
                refine wp_skip ?_
                clear t223
                refine wi_ A (h5_ t1 t3 t10 t12 t16) (rv_ 1 (.int .i64 ((k + 1 : Nat) : Int)) (fun a ee => execAd8 (p := k) (q := 1) rfl (ee _) rfl (by omega)) (rf_ [(16, .int .i64 ((k + 1 : Nat) : Int))] (h4_ t1 t3 t10 t12) ?_))
                rintro a A ⟨t16, -⟩ ⟨t1, t3, t10, t12, -⟩
                exact ⟨⟨k + 1, ltk, A, t1, t3, t10, t12, t16, BB⟩, by show m - (intOf (a.eval (.tmp 16))).toNat < m - (intOf (Act.eval _ (.tmp 16))).toNat; rw [t16, esk]; show m - (k + 1) < m - k; omega⟩
              · rw [decide_eq_false ltk] at t213
                refine wp_cond_false t213 ?_
                refine wp_exit ?_
                first | with_reducible refine exit_in ?_ | with_reducible refine exit_then (exit_in ?_) | with_reducible refine exit_then (exit_then (exit_in ?_)) | refine exit_in ?_ | refine exit_then (exit_in ?_) | refine exit_then (exit_then (exit_in ?_))
                clear t213 esk
                clear t16
                have hsy : sW ln118 i = ((c : Nat) : Int) := by rw [sW_right hRy8, ← hc]
                have hsx : sW lnx nx = ((wLen (esL nx nux lnx ttx) : Nat) : Int) := sW_right hRx
                obtain ⟨d, ed⟩ : ∃ d, wLen (esL nx nux lnx ttx) = d := ⟨_, rfl⟩
                rw [ed] at hsx
                have hge : d ≤ c := by rw [← ed, hc]; exact hal.1
                have hle : ((c : Nat) : Int) ≤ rm := by rw [hc]; exact hal.2
                refine wp_seq ?_
                refine wi_ A (h4_ t1 t3 t10 t12) (rv_ 1 (.agg (wC zx ev118)) (fun a ee => execLdWn rfl (ee _) (on9 Fy BB)) (rc_ 2 ((by have h_ := I.len zx ev118 i nu118 tw118 ln118 tt118 XL42 (hWy.on BB); rw [hsy] at h_; exact h_)) (cb_ fun X46_1 bQ => ?_)))
                replace BB := BB.trans (bQ.mono BB.size)
                clear bQ
                refine rv_ 3 (.bool true) (fun a ee => execDec (execEqN (p := c) (q := c) rfl (ee _) (ee _)) (decide_eq_true (by omega))) (rv_ 6 (.agg (wC zx evx)) (fun a ee => execLdWn rfl (ee _) (on9 Fx BB)) (rc_ 7 ((by have h_ := I.len zx evx nx nux twx lnx ttx X46_1 (hWx.on BB); rw [hsx] at h_; exact h_)) (cb_ fun X46 bQ => ?_)))
                replace BB := BB.trans (bQ.mono BB.size)
                clear bQ
                refine rv_ 8 (.bool true) (fun a ee => execDec (exIgeq3 (p := ((c : Nat) : Int)) (q := ((d : Nat) : Int)) rfl (ee _) (ee _)) (decide_eq_true (show ((c : Nat) : Int) ≥ ((d : Nat) : Int) by omega))) (rv_ 12 (.pointer (some ⟨g1, 3, none⟩)) (fun a ee => execFldJ2 rfl (ee _)) (rv_ 13 (.int .i64 rm) (fun a ee => execLd3 rfl (ee _) (row_at (on9 Fg1 BB) rfl)) (rv_ 14 (.bool true) (fun a ee => execDec (exIleq3 (p := ((c : Nat) : Int)) (q := rm) rfl (ee _) (ee _)) (decide_eq_true hle)) (rg_ [(2, .bool true)] ?_))))
                rintro a A ⟨t2, -⟩
                have BB2 := BW.trans (BB.mono BW.size)
                refine wp_ret ?_
                refine bodyPost_ret (results_tmp rfl _ _ _) A.2 ⟨?_, BB2⟩
                show Ending.returned (a.eval (.tmp 2)) = _
                rw [t2]
          · refine wi_ A (h5_ t1 t3 t4 t10 t11) (rv_ 1 (.bool false) (fun a ee => execDec (execEqE (p := o.2) (q := 0) rfl (ee _) rfl) (decide_eq_false (by exact h0))) (rv_ 12 (.pointer (some ⟨g10, 0, none⟩)) (fun a ee => execFldW0 rfl (ee _)) (rv_ 13 (.int .i64 zx) (fun a ee => execLd2 rfl (ee _) (wC_0 (on9 Fy BB))) (rv_ 14 (.pointer (some ⟨g3, 0, none⟩)) (fun a ee => execFldW0 rfl (ee _)) (rv_ 15 (.int .i64 zx) (fun a ee => execLd2 rfl (ee _) (wC_0 (on9 Fx BB))) (rv_ 16 (.bool false) (fun a ee => execDec (exIneq2 (p := zx) (q := zx) rfl (ee _) (ee _)) (decide_eq_false (fun h_ => h_ rfl))) (rf_ [(157, .bool false)] (h4_ t1 t3 t4 t10) ?_)))))))
            rintro a A ⟨t157, -⟩ ⟨t1, t3, t4, t10, -⟩
            refine wp_cond_false t157 ?_
            refine wp_skip ?_
            clear t157
            refine wp_seq ?_
            refine wi_ A (h4_ t1 t3 t4 t10) (rf_ [(12, .int .i64 ((0 : Nat) : Int))] (h3_ t1 t3 t10) ?_)
            rintro a A ⟨t12, -⟩ ⟨t1, t3, t10, -⟩
            refine wp_seq ?_
            refine wp_seq ?_
            refine wi_ A (h4_ t1 t3 t10 t12) (rf_ [(13, .int .i64 ((0 : Nat) : Int))] (h4_ t1 t3 t10 t12) ?_)
            rintro a A ⟨t13, -⟩ ⟨t1, t3, t10, t12, -⟩
            refine wp_block ?_
            refine wp_loop (fun a W => ∃ (i : Nat) (c : Nat), i ≤ n118 ∧ (c = wLen (esL i nu118 ln118 tt118)) ∧ (c ≤ alN ln118 i) ∧ (a.tmps.size = 240 ∧ a.defers = []) ∧ a.eval (.tmp 1) = .pointer (some ⟨g1, 0, none⟩) ∧ a.eval (.tmp 3) = .pointer (some ⟨g3, 0, none⟩) ∧ a.eval (.tmp 10) = .pointer (some ⟨g10, 0, none⟩) ∧ a.eval (.tmp 12) = .int .i64 ((c : Nat) : Int) ∧ a.eval (.tmp 13) = .int .i64 ((i : Nat) : Int) ∧ Below X25.heap.size X25 W) (fun a _ => n118 - (intOf (a.eval (.tmp 13))).toNat) ⟨0, 0, Nat.zero_le _, rfl, Nat.zero_le _, A, t1, t3, t10, t12, t13, BB⟩ ?_
            clear A t1 t3 t10 t12 t13 BB a
            rintro a XL32 ⟨i, c, hi, hc, hcb, A, t1, t3, t10, t12, t13, BB⟩
            have esi := t13
            refine wp_seq ?_
            refine wp_seq ?_
            refine wi_ A (h5_ t1 t3 t10 t12 t13) (rv_ 1 (.pointer (some ⟨g10, 1, none⟩)) (fun a ee => execFldW1 rfl (ee _)) (rv_ 2 (ev118) (fun a ee => execLdEs rfl (ee _) (wC_1 (on9 Fy BB))) (rv_ 3 (.int .i64 ((n118 : Nat) : Int)) (fun a ee => execLenEs (len := n118) rfl (ee _) hEy.shp) (rv_ 4 (.bool (decide (i < n118))) (fun a ee => execLtW (p := i) (q := n118) rfl (ee _) (ee _)) (rf_ [(162, .bool (decide (i < n118)))] (h5_ t1 t3 t10 t12 t13) ?_)))))
            rintro a A ⟨t162, -⟩ ⟨t1, t3, t10, t12, t13, -⟩
            by_cases lti : i < n118
            · rw [decide_eq_true lti] at t162
              refine wp_cond_true t162 ?_
              refine wp_skip ?_
              clear t162
              refine wp_seq ?_
              refine wp_block ?_
              have hTy := hEy.lists i lti
              have hly := hWy.ln16 i lti
              have hc4 : c + ln118 i ≤ 4096 := by
                have q2 := al_len (nu := nu118) (t := tt118) (ln := ln118) n118
                have q3 : alN ln118 i + ln118 i ≤ alN ln118 n118 := al_mono lti
                have q4 : ((wLen (esL n118 nu118 ln118 tt118) : Nat) : Int) ≤ rm := hRy8.2.2.2.2.2.2.1
                have q5 := hRy8.2.2.2.1
                omega
              obtain ⟨yb, yo, yc, ye, hyb, hyc⟩ := hEy.at (show 0 < n118 by omega)
              have yN : ∀ X, Below X25.heap.size X25 X → X.cell? ⟨yb, yo + i * 2 + 0, none⟩ = some (.int .i64 (nu118 i)) := fun X hX => by rw [cell_below hX hyb]; exact (hyc i lti).1
              have yT : ∀ X, Below X25.heap.size X25 X → X.cell? ⟨yb, yo + i * 2 + 1, none⟩ = some (tw118 i) := fun X hX => by rw [cell_below hX hyb]; exact (hyc i lti).2
              refine wp_seq ?_
              refine wi_ A (h5_ t1 t3 t10 t12 t13) (rf_ [(14, .int .i64 ((0 : Nat) : Int))] (h5_ t1 t3 t10 t12 t13) ?_)
              rintro a A ⟨t14, -⟩ ⟨t1, t3, t10, t12, t13, -⟩
              refine wp_block ?_
              refine wp_loop (fun a W => ∃ (j : Nat), j ≤ ln118 i ∧ (a.tmps.size = 240 ∧ a.defers = []) ∧ a.eval (.tmp 1) = .pointer (some ⟨g1, 0, none⟩) ∧ a.eval (.tmp 3) = .pointer (some ⟨g3, 0, none⟩) ∧ a.eval (.tmp 10) = .pointer (some ⟨g10, 0, none⟩) ∧ a.eval (.tmp 12) = .int .i64 ((c + j : Nat) : Int) ∧ a.eval (.tmp 13) = .int .i64 ((i : Nat) : Int) ∧ a.eval (.tmp 14) = .int .i64 ((j : Nat) : Int) ∧ Below X25.heap.size X25 W) (fun a _ => ln118 i - (intOf (a.eval (.tmp 14))).toNat) ⟨0, Nat.zero_le _, A, t1, t3, t10, t12, t13, t14, BB⟩ ?_
              clear A t1 t3 t10 t12 t13 t14 BB a
              rintro a XL35 ⟨j, hj, A, t1, t3, t10, t12, t13, t14, BB⟩
              have esj := t14
              refine wp_seq ?_
              refine wp_seq ?_
              refine wi_ A (h6_ t1 t3 t10 t12 t13 t14) (rv_ 1 (.pointer (some ⟨g10, 1, none⟩)) (fun a ee => execFldW1 rfl (ee _)) (rv_ 2 (ev118) (fun a ee => execLdEs rfl (ee _) (wC_1 (on9 Fy BB))) (rv_ 4 (.pointer (some ⟨yb, yo + i * 2, none⟩)) (fun a ee => execIdxEs (k := i) rfl ((ee _).trans ye) (ee _) lti) (rv_ 5 (.pointer (some ⟨yb, yo + i * 2 + 1, none⟩)) (fun a ee => execFldE1 rfl (ee _)) (rv_ 6 (tw118 i) (fun a ee => execLdTs rfl (ee _) (yT XL35 BB)) (rv_ 7 (.int .i64 ((ln118 i : Nat) : Int)) (fun a ee => execLenTs (len := ln118 i) rfl (ee _) hTy.shp) (rv_ 8 (.bool (decide (j < ln118 i))) (fun a ee => execLtW (p := j) (q := ln118 i) rfl (ee _) (ee _)) (rf_ [(173, .bool (decide (j < ln118 i)))] (h6_ t1 t3 t10 t12 t13 t14) ?_))))))))
              rintro a A ⟨t173, -⟩ ⟨t1, t3, t10, t12, t13, t14, -⟩
              by_cases ltj : j < ln118 i
              · rw [decide_eq_true ltj] at t173
                refine wp_cond_true t173 ?_
                refine wp_skip ?_
                clear t173
                refine wp_seq ?_
                refine wp_block ?_
                obtain ⟨qb, qo, qc, qe, hqb, hqc⟩ := hTy.at (show 0 < ln118 i by omega)
                have qC : ∀ X, Below X25.heap.size X25 X → ∀ j_, j_ < 16 → X.cell? ⟨qb, qo + j * 16 + j_, none⟩ = some (.int .u8 ((tt118 i j j_ : Nat) : Int)) := fun X hX j_ hj_ => by rw [cell_below hX hqb]; exact hqc j ltj j_ hj_
                refine wp_seq ?_
                obtain ⟨g15, egg15⟩ : ∃ z_ : Nat, XL35.heap.size = z_ := ⟨_, rfl⟩
                refine wi_ A (h6_ t1 t3 t10 t12 t13 t14) (rv_ 0 (.pointer (some ⟨g10, 1, none⟩)) (fun a ee => execFldW1 rfl (ee _)) (rv_ 1 (ev118) (fun a ee => execLdEs rfl (ee _) (wC_1 (on9 Fy BB))) (rv_ 3 (.pointer (some ⟨yb, yo + i * 2, none⟩)) (fun a ee => execIdxEs (k := i) rfl ((ee _).trans ye) (ee _) lti) (rv_ 4 (.pointer (some ⟨yb, yo + i * 2 + 1, none⟩)) (fun a ee => execFldE1 rfl (ee _)) (rv_ 5 (tw118 i) (fun a ee => execLdTs rfl (ee _) (yT XL35 BB)) (rv_ 7 (.pointer (some ⟨qb, qo + j * 16, none⟩)) (fun a ee => execIdxTs (k := j) rfl ((ee _).trans qe) (ee _) ltj) (rv_ 8 (.agg (bA 16 (tt118 i j))) (fun a ee => execLdT rfl (ee _) (fun j_ hj_ => qC XL35 BB j_ hj_)) (rs_ 9 (fun a ee => ?_)))))))))
                refine stepV rfl rfl (execAl16 rfl) ⟨.pointer (some ⟨g15, 0, none⟩), ⟨_, rfl, by subst egg15; rfl⟩, fun X37_1 hX => ?_⟩
                have bQ : Below XL35.heap.size XL35 X37_1 := by subst hX egg15; exact (belNew XL35 _)
                have F15 : (X37_1.heap[g15]? = some (.cells (bA 16 (fun _ => 0)) 34)) := by subst hX egg15; exact heapNew XL35 _
                have FG15 : (X25.heap.size ≤ g15) := by subst hX egg15; exact (BB).size
                replace BB := BB.trans (bQ.mono BB.size)
                clear bQ hX egg15 ee a
                refine rs_ 10 (fun a ee => ?_)
                refine stepS rfl rfl (execSt16 rfl (ee _) (ee _) F15) ⟨_, ⟨_, rfl, rfl⟩, fun X37 hX => ?_⟩
                obtain ⟨BB, Ft⟩ : Below X25.heap.size X25 X37 ∧ (X37.heap[g15]? = some (.cells (bA 16 (tt118 i j)) 34)) := by subst hX; exact ⟨below4 BB FG15 _, setRow_heap _ _ _ _ _ _ F15⟩
                clear F15 hX ee a
                refine rf_ [(15, .pointer (some ⟨g15, 0, none⟩))] (h6_ t1 t3 t10 t12 t13 t14) ?_
                rintro a A ⟨t15, -⟩ ⟨t1, t3, t10, t12, t13, t14, -⟩
                clear FG15
                refine wp_seq ?_
                refine wi_ A (h7_ t1 t3 t10 t12 t13 t14 t15) (rv_ 1 (.int .i64 ((c + j + 1 : Nat) : Int)) (fun a ee => execAd8 (p := c + j) (q := 1) rfl (ee _) rfl (by omega)) (rf_ [(12, .int .i64 ((c + j + 1 : Nat) : Int))] (h6_ t1 t3 t10 t13 t14 t15) ?_))
                rintro a A ⟨t12, -⟩ ⟨t1, t3, t10, t13, t14, t15, -⟩
                have hzin := add_in hq0 (x := (nu118 i, tgL (ln118 i) (tt118 i))) (z := tv (tt118 i j) 16) (by rw [ep_, hpe]; exact esL_mem lti) (mem_tgL.2 ⟨j, ltj, rfl⟩)
                refine wp_seq ?_
                by_cases hin : tv (tt118 i j) 16 ∈ wAll (esL nx nux lnx ttx)
                · refine wj_ [0, 1, 2, 3, 4, 5, 6, 7, 8, 9, 10, 11, 12, 13, 14, 15, 16, 17, 18, 19, 20, 21] [2] [0, 1] [] A (h7_ t1 t3 t10 t12 t13 t14 t15) (fun X39_0 bD => ?_)
                  refine dv_ 0 (.agg (wC zx evx)) (fun a X ee hb => execLdWn rfl (ee _) (on9 Fx (BB.trans (hb.mono BB.size)))) (dv_ 1 (.agg (bA 16 (tt118 i j))) (fun a X ee hb => execLdT (f := tt118 i j) rfl (ee _) (fun j_ hj_ => at16 (on9 Ft hb) hj_)) (dc_ 2 ((by have h_ := rhas16 zx evx nx nux twx lnx ttx (tt118 i j) X39_0 (hTy.byt j ltj) (hEx.on (BB.trans (bD.mono BB.size))) hWx.n63; rw [decide_eq_true hin] at h_; exact h_)) (cb_ fun X39 bQ => ?_)))
                  replace bD := bD.trans (bQ.mono bD.size)
                  clear bQ
                  refine ⟨Or.inr bD, ?_⟩
                  refine dw_ 3 (.bool false) (fun a X ee => execNot8 (b := true) rfl (ee _)) (dz_ [(208, .bool false)] (h6_ t1 t3 t10 t12 t13 t14) ?_)
                  rintro a A ⟨t208, -⟩ ⟨t1, t3, t10, t12, t13, t14, -⟩
                  replace Ft := (on9 Ft bD)
                  replace BB := BB.trans (bD.mono BB.size)
                  clear bD
                  refine wp_cond_false t208 ?_
                  refine wp_skip ?_
                  clear t208
                  clear Ft
                  refine wi_ A (h6_ t1 t3 t10 t12 t13 t14) (rv_ 1 (.int .i64 ((j + 1 : Nat) : Int)) (fun a ee => execAd8 (p := j) (q := 1) rfl (ee _) rfl (by omega)) (rf_ [(14, .int .i64 ((j + 1 : Nat) : Int))] (h5_ t1 t3 t10 t12 t13) ?_))
                  rintro a A ⟨t14, -⟩ ⟨t1, t3, t10, t12, t13, -⟩
                  exact ⟨⟨j + 1, ltj, A, t1, t3, t10, t12, t13, t14, BB⟩, by show ln118 i - (intOf (a.eval (.tmp 14))).toNat < ln118 i - (intOf (Act.eval _ (.tmp 14))).toNat; rw [t14, esj]; show ln118 i - (j + 1) < ln118 i - j; omega⟩
                · obtain ⟨hnum, hinT⟩ := hzin.resolve_left hin
                  refine wj_ [0, 1, 2, 3, 4, 5, 6, 7, 8, 9, 10, 11, 12, 13, 14, 15, 16, 17, 18, 19, 20, 21] [2, 18] [0, 1, 6, 10, 12, 16, 17] [] A (h7_ t1 t3 t10 t12 t13 t14 t15) (fun X39_0 bD => ?_)
                  refine dv_ 0 (.agg (wC zx evx)) (fun a X ee hb => execLdWn rfl (ee _) (on9 Fx (BB.trans (hb.mono BB.size)))) (dv_ 1 (.agg (bA 16 (tt118 i j))) (fun a X ee hb => execLdT (f := tt118 i j) rfl (ee _) (fun j_ hj_ => at16 (on9 Ft hb) hj_)) (dc_ 2 ((by have h_ := rhas16 zx evx nx nux twx lnx ttx (tt118 i j) X39_0 (hTy.byt j ltj) (hEx.on (BB.trans (bD.mono BB.size))) hWx.n63; rw [decide_eq_false hin] at h_; exact h_)) (cb_ fun X39_1 bQ => ?_)))
                  replace bD := bD.trans (bQ.mono bD.size)
                  clear bQ
                  refine ⟨Or.inr bD, ?_⟩
                  refine dw_ 3 (.bool true) (fun a X ee => execNot8 (b := false) rfl (ee _)) (dw_ 5 (.pointer (some ⟨g10, 1, none⟩)) (fun a X ee => execFldW1 rfl (ee _)) (dv_ 6 (ev118) (fun a X ee hb => execLdEs rfl (ee _) (wC_1 (on9 Fy (BB.trans (hb.mono BB.size))))) (dw_ 8 (.pointer (some ⟨yb, yo + i * 2, none⟩)) (fun a X ee => execIdxEs (k := i) rfl ((ee _).trans ye) (ee _) lti) (dw_ 9 (.pointer (some ⟨yb, yo + i * 2 + 0, none⟩)) (fun a X ee => execFldE0 rfl (ee _)) (dv_ 10 (.int .i64 (nu118 i)) (fun a X ee hb => execLd2 rfl (ee _) (yN X (BB.trans (hb.mono BB.size)))) (dw_ 11 (.pointer (some ⟨g1, 4, none⟩)) (fun a X ee => execFldJ3 rfl (ee _)) (dv_ 12 (.int .i64 ep) (fun a X ee hb => execLd2 rfl (ee _) (row_at (on9 Fg1 (BB.trans (hb.mono BB.size))) rfl)) (dw_ 13 (.bool false) (fun a X ee => execDec (exIneq2 (p := (nu118 i)) (q := ep) rfl (ee _) (ee _)) (decide_eq_false (fun h_ => h_ hnum))) (dw_ 15 (.pointer (some ⟨g1, 5, none⟩)) (fun a X ee => execFldJ4 rfl (ee _)) (dv_ 16 (tgv) (fun a X ee hb => execLdTs rfl (ee _) (row_at (on9 Fg1 (BB.trans (hb.mono BB.size))) rfl)) (dv_ 17 (.agg (bA 16 (tt118 i j))) (fun a X ee hb => execLdT (f := tt118 i j) rfl (ee _) (fun j_ hj_ => at16 (on9 Ft hb) hj_)) (dc_ 18 ((by have h_ := in16 m tg (tt118 i j) tgv X39_1 (hT.on (BB.trans (bD.mono BB.size))) (hTy.byt j ltj); rw [decide_eq_true hinT] at h_; exact h_)) (cb_ fun X39 bQ => ?_)))))))))))))
                  replace bD := bD.trans (bQ.mono bD.size)
                  clear bQ
                  refine ⟨Or.inr bD, ?_⟩
                  refine dw_ 19 (.bool false) (fun a X ee => execNot8 (b := true) rfl (ee _)) (dz_ [(208, .bool false)] (h6_ t1 t3 t10 t12 t13 t14) ?_)
                  rintro a A ⟨t208, -⟩ ⟨t1, t3, t10, t12, t13, t14, -⟩
                  replace Ft := (on9 Ft bD)
                  replace BB := BB.trans (bD.mono BB.size)
                  clear bD
                  refine wp_cond_false t208 ?_
                  refine wp_skip ?_
                  clear t208
                  clear Ft
                  refine wi_ A (h6_ t1 t3 t10 t12 t13 t14) (rv_ 1 (.int .i64 ((j + 1 : Nat) : Int)) (fun a ee => execAd8 (p := j) (q := 1) rfl (ee _) rfl (by omega)) (rf_ [(14, .int .i64 ((j + 1 : Nat) : Int))] (h5_ t1 t3 t10 t12 t13) ?_))
                  rintro a A ⟨t14, -⟩ ⟨t1, t3, t10, t12, t13, -⟩
                  exact ⟨⟨j + 1, ltj, A, t1, t3, t10, t12, t13, t14, BB⟩, by show ln118 i - (intOf (a.eval (.tmp 14))).toNat < ln118 i - (intOf (Act.eval _ (.tmp 14))).toNat; rw [t14, esj]; show ln118 i - (j + 1) < ln118 i - j; omega⟩
              · rw [decide_eq_false ltj] at t173
                refine wp_cond_false t173 ?_
                refine wp_exit ?_
                first | with_reducible refine exit_in ?_ | with_reducible refine exit_then (exit_in ?_) | with_reducible refine exit_then (exit_then (exit_in ?_)) | refine exit_in ?_ | refine exit_then (exit_in ?_) | refine exit_then (exit_then (exit_in ?_))
                clear t173 esj
                obtain rfl : j = ln118 i := by omega
                clear t14
                have hc2 : c + ln118 i = wLen (esL (i + 1) nu118 ln118 tt118) := by rw [len_esL, ← hc]
                have hcb2 : c + ln118 i ≤ alN ln118 (i + 1) := by show _ ≤ alN ln118 i + ln118 i; omega
                refine wi_ A (h5_ t1 t3 t10 t12 t13) (rv_ 1 (.int .i64 ((i + 1 : Nat) : Int)) (fun a ee => execAd8 (p := i) (q := 1) rfl (ee _) rfl (by omega)) (rf_ [(13, .int .i64 ((i + 1 : Nat) : Int))] (h4_ t1 t3 t10 t12) ?_))
                rintro a A ⟨t13, -⟩ ⟨t1, t3, t10, t12, -⟩
                exact ⟨⟨i + 1, c + ln118 i, lti, hc2, hcb2, A, t1, t3, t10, t12, t13, BB⟩, by show n118 - (intOf (a.eval (.tmp 13))).toNat < n118 - (intOf (Act.eval _ (.tmp 13))).toNat; rw [t13, esi]; show n118 - (i + 1) < n118 - i; omega⟩
            · rw [decide_eq_false lti] at t162
              refine wp_cond_false t162 ?_
              refine wp_exit ?_
              first | with_reducible refine exit_in ?_ | with_reducible refine exit_then (exit_in ?_) | with_reducible refine exit_then (exit_then (exit_in ?_)) | refine exit_in ?_ | refine exit_then (exit_in ?_) | refine exit_then (exit_then (exit_in ?_))
              clear t162 esi
              obtain rfl : i = n118 := by omega
              clear t13
              refine wp_seq ?_
              refine wp_seq ?_
              refine wi_ A (h4_ t1 t3 t10 t12) (rf_ [(16, .int .i64 ((0 : Nat) : Int))] (h4_ t1 t3 t10 t12) ?_)
              rintro a A ⟨t16, -⟩ ⟨t1, t3, t10, t12, -⟩
              refine wp_block ?_
              refine wp_loop (fun a W => ∃ (k : Nat), k ≤ m ∧ (a.tmps.size = 240 ∧ a.defers = []) ∧ a.eval (.tmp 1) = .pointer (some ⟨g1, 0, none⟩) ∧ a.eval (.tmp 3) = .pointer (some ⟨g3, 0, none⟩) ∧ a.eval (.tmp 10) = .pointer (some ⟨g10, 0, none⟩) ∧ a.eval (.tmp 12) = .int .i64 ((c : Nat) : Int) ∧ a.eval (.tmp 16) = .int .i64 ((k : Nat) : Int) ∧ Below X25.heap.size X25 W) (fun a _ => m - (intOf (a.eval (.tmp 16))).toNat) ⟨0, Nat.zero_le _, A, t1, t3, t10, t12, t16, BB⟩ ?_
              clear A t1 t3 t10 t12 t16 BB a
              rintro a XL42 ⟨k, hk, A, t1, t3, t10, t12, t16, BB⟩
              have esk := t16
              refine wp_seq ?_
              refine wp_seq ?_
              refine wi_ A (h5_ t1 t3 t10 t12 t16) (rv_ 1 (.pointer (some ⟨g1, 5, none⟩)) (fun a ee => execFldJ4 rfl (ee _)) (rv_ 2 (tgv) (fun a ee => execLdTs rfl (ee _) (row_at (on9 Fg1 BB) rfl)) (rv_ 3 (.int .i64 ((m : Nat) : Int)) (fun a ee => execLenTs (len := m) rfl (ee _) hT.shp) (rv_ 4 (.bool (decide (k < m))) (fun a ee => execLtW (p := k) (q := m) rfl (ee _) (ee _)) (rf_ [(213, .bool (decide (k < m)))] (h5_ t1 t3 t10 t12 t16) ?_)))))
              rintro a A ⟨t213, -⟩ ⟨t1, t3, t10, t12, t16, -⟩
              by_cases ltk : k < m
              · rw [decide_eq_true ltk] at t213
                refine wp_cond_true t213 ?_
                refine wp_skip ?_
                clear t213
                refine wp_seq ?_
                refine wp_block ?_
                obtain ⟨qb, qo, qc, qe, hqb, hqc⟩ := hT.at (show 0 < m by omega)
                have qC : ∀ X, Below X25.heap.size X25 X → ∀ j_, j_ < 16 → X.cell? ⟨qb, qo + k * 16 + j_, none⟩ = some (.int .u8 ((tg k j_ : Nat) : Int)) := fun X hX j_ hj_ => by rw [cell_below hX hqb]; exact hqc k ltk j_ hj_
                have hmem : decide (tv (tg k) 16 ∈ wAll (esL i nu118 ln118 tt118)) = true := decide_eq_true (by have h_ := add_has hq0 (z := tv (tg k) 16) (mem_tgL.2 ⟨k, ltk, rfl⟩); rw [ep_, hpe] at h_; exact h_)
                refine wp_seq ?_
                refine wj_ [0, 1, 2, 3, 4, 5, 6, 7] [6] [0, 2, 5] [] A (h5_ t1 t3 t10 t12 t16) (fun X44_0 bD => ?_)
                refine dv_ 0 (.agg (wC zx ev118)) (fun a X ee hb => execLdWn rfl (ee _) (on9 Fy (BB.trans (hb.mono BB.size)))) (dw_ 1 (.pointer (some ⟨g1, 5, none⟩)) (fun a X ee => execFldJ4 rfl (ee _)) (dv_ 2 (tgv) (fun a X ee hb => execLdTs rfl (ee _) (row_at (on9 Fg1 (BB.trans (hb.mono BB.size))) rfl)) (dw_ 4 (.pointer (some ⟨qb, qo + k * 16, none⟩)) (fun a X ee => execIdxTs (k := k) rfl ((ee _).trans qe) (ee _) ltk) (dv_ 5 (.agg (bA 16 (tg k))) (fun a X ee hb => execLdT rfl (ee _) (fun j_ hj_ => qC X (BB.trans (hb.mono BB.size)) j_ hj_)) (dc_ 6 ((by have h_ := I.has zx ev118 i nu118 tw118 ln118 tt118 (tg k) X44_0 (hT.byt k ltk) (hWy.on (BB.trans (bD.mono BB.size))); rw [hmem] at h_; exact h_)) (cb_ fun X44 bQ => ?_))))))
                replace bD := bD.trans (bQ.mono bD.size)
                clear bQ
                refine ⟨Or.inr bD, ?_⟩
                refine dw_ 7 (.bool false) (fun a X ee => execNot8 (b := true) rfl (ee _)) (dz_ [(223, .bool false)] (h5_ t1 t3 t10 t12 t16) ?_)
                rintro a A ⟨t223, -⟩ ⟨t1, t3, t10, t12, t16, -⟩
                replace BB := BB.trans (bD.mono BB.size)
                clear bD
                refine wp_cond_false t223 ?_
                refine wp_skip ?_
                clear t223
                refine wi_ A (h5_ t1 t3 t10 t12 t16) (rv_ 1 (.int .i64 ((k + 1 : Nat) : Int)) (fun a ee => execAd8 (p := k) (q := 1) rfl (ee _) rfl (by omega)) (rf_ [(16, .int .i64 ((k + 1 : Nat) : Int))] (h4_ t1 t3 t10 t12) ?_))
                rintro a A ⟨t16, -⟩ ⟨t1, t3, t10, t12, -⟩
                exact ⟨⟨k + 1, ltk, A, t1, t3, t10, t12, t16, BB⟩, by show m - (intOf (a.eval (.tmp 16))).toNat < m - (intOf (Act.eval _ (.tmp 16))).toNat; rw [t16, esk]; show m - (k + 1) < m - k; omega⟩
              · rw [decide_eq_false ltk] at t213
                refine wp_cond_false t213 ?_
                refine wp_exit ?_
                first | with_reducible refine exit_in ?_ | with_reducible refine exit_then (exit_in ?_) | with_reducible refine exit_then (exit_then (exit_in ?_)) | refine exit_in ?_ | refine exit_then (exit_in ?_) | refine exit_then (exit_then (exit_in ?_))
                clear t213 esk
                clear t16
                have hsy : sW ln118 i = ((c : Nat) : Int) := by rw [sW_right hRy8, ← hc]
                have hsx : sW lnx nx = ((wLen (esL nx nux lnx ttx) : Nat) : Int) := sW_right hRx
                obtain ⟨d, ed⟩ : ∃ d, wLen (esL nx nux lnx ttx) = d := ⟨_, rfl⟩
                rw [ed] at hsx
                have hge : d ≤ c := by rw [← ed, hc]; exact hal.1
                have hle : ((c : Nat) : Int) ≤ rm := by rw [hc]; exact hal.2
                refine wp_seq ?_
                refine wi_ A (h4_ t1 t3 t10 t12) (rv_ 1 (.agg (wC zx ev118)) (fun a ee => execLdWn rfl (ee _) (on9 Fy BB)) (rc_ 2 ((by have h_ := I.len zx ev118 i nu118 tw118 ln118 tt118 XL42 (hWy.on BB); rw [hsy] at h_; exact h_)) (cb_ fun X46_1 bQ => ?_)))
                replace BB := BB.trans (bQ.mono BB.size)
                clear bQ
                refine rv_ 3 (.bool true) (fun a ee => execDec (execEqN (p := c) (q := c) rfl (ee _) (ee _)) (decide_eq_true (by omega))) (rv_ 6 (.agg (wC zx evx)) (fun a ee => execLdWn rfl (ee _) (on9 Fx BB)) (rc_ 7 ((by have h_ := I.len zx evx nx nux twx lnx ttx X46_1 (hWx.on BB); rw [hsx] at h_; exact h_)) (cb_ fun X46 bQ => ?_)))
                replace BB := BB.trans (bQ.mono BB.size)
                clear bQ
                refine rv_ 8 (.bool true) (fun a ee => execDec (exIgeq3 (p := ((c : Nat) : Int)) (q := ((d : Nat) : Int)) rfl (ee _) (ee _)) (decide_eq_true (show ((c : Nat) : Int) ≥ ((d : Nat) : Int) by omega))) (rv_ 12 (.pointer (some ⟨g1, 3, none⟩)) (fun a ee => execFldJ2 rfl (ee _)) (rv_ 13 (.int .i64 rm) (fun a ee => execLd3 rfl (ee _) (row_at (on9 Fg1 BB) rfl)) (rv_ 14 (.bool true) (fun a ee => execDec (exIleq3 (p := ((c : Nat) : Int)) (q := rm) rfl (ee _) (ee _)) (decide_eq_true hle)) (rg_ [(2, .bool true)] ?_))))
                rintro a A ⟨t2, -⟩
                have BB2 := BW.trans (BB.mono BW.size)
                refine wp_ret ?_
                refine bodyPost_ret (results_tmp rfl _ _ _) A.2 ⟨?_, BB2⟩
                show Ending.returned (a.eval (.tmp 2)) = _
                rw [t2]
end Go.Proofs.Ytijibdapooalcaa.Win
