import Derived.Test.YtcgkelgncehekabQ9e
namespace Go.Proofs.Ytcgkelgncehekab.Brd
open Go.RowKit Gf8 Aes By8 Cel Cf Tap Drw Prm
/- LoomKeeps: the law's apart. Written by tools/mkS8a.py. -/

theorem grow_fyz {nn dd : Nat → Nat} {fy : Nat → Nat → Int} {m i k : Nat} (h : ∀ t, t < m → ∀ j, nn t ≤ j → j < nn t + dd t → fy t j = ((2 * t + 1 : Nat) : Int)) : ∀ t, t < m → ∀ j, nn t ≤ j → j < nn t + updD dd i k t → updG fy i (catI (nn i + dd i) (fy i) (fun _ => ((2 * i + 1 : Nat) : Int))) t j = ((2 * t + 1 : Nat) : Int) := fun t ht j h1 h2 => by
  by_cases e : t = i
  · subst e
    rw [show updG fy t (catI (nn t + dd t) (fy t) (fun _ => ((2 * t + 1 : Nat) : Int))) t = catI (nn t + dd t) (fy t) (fun _ => ((2 * t + 1 : Nat) : Int)) from if_pos rfl]
    unfold catI
    by_cases q : j < nn t + dd t
    · rw [if_pos q]
      exact h t ht j h1 q
    · rw [if_neg q]
  · rw [updD_o e] at h2
    rw [show updG fy i (catI (nn i + dd i) (fy i) (fun _ => ((2 * i + 1 : Nat) : Int))) t = fy t from if_neg e]
    exact h t ht j h1 h2
theorem step_dd {dd : Nat → Nat} {m i k : Nat} (h : ∀ t, t < m → dd t = if t < i then k + 1 else k) : ∀ t, t < m → updD dd i 1 t = if t < i + 1 then k + 1 else k := fun t ht => by
  by_cases e : t = i
  · subst e
    rw [updD_at, h t ht, if_neg (Nat.lt_irrefl t), if_pos (by omega)]
  · rw [updD_o e, h t ht]
    by_cases q : t < i
    · rw [if_pos q, if_pos (by omega)]
    · rw [if_neg q, if_neg (by omega)]
theorem mark_nextz {ff : Nat → Nat → Int} {nn : Nat → Nat} {i : Nat} (h : ∀ s, s < i → ∀ j, j < nn s → ff s j = ((2 * s : Nat) : Int)) (hi : ∀ l, l < nn i → ff i l = ((2 * i : Nat) : Int)) : ∀ s, s < i + 1 → ∀ j, j < nn s → ff s j = ((2 * s : Nat) : Int) := fun s hs => by
  by_cases q : s = i
  · subst q
    exact hi
  · exact h s (by omega)
theorem A0.setM {U V W : World} {m gl gm k : Nat} {x : Nat → Value} {nn : Nat → Nat} {fx : Nat → Nat → Int} {C c : Array Value} {z : Value} (h : A0 U V W m x nn fx gl C) (hg : W.heap[gm]? = some (.cells c 22)) (hne : gl ≠ gm) (hU : U.heap.size ≤ gm) (hV : V.heap.size ≤ gm) : A0 U V (W.setCell ⟨gm, k, none⟩ z) m x nn fx gl C := by
  refine ⟨h.bel.setCell hU _, ⟨fun t ht => own_offT (h.fam.rows t ht) hg (by decide), h.fam.dis⟩, ?_, h.sv.cell _ (Or.inl hV)⟩
  rw [Below.heap_setCell _ _ _ _ (fun q => hne q)]
  exact h.li
set_option maxRecDepth 100000 in
set_option maxHeartbeats 4000000 in
/-- apart, from region 17: all is looked at. -/
theorem apart17 (U V : World) (m gl cl : Nat) (x : Nat → Value) (nn : Nat → Nat) (C : Array Value) (hm : m ≤ 1000) (hC : ∀ t, t < m → C[t]? = some (x t)) (hnn : ∀ t, t < m → nn t ≤ 17592186044000) (S : World) (y z : Nat → Value) (dd : Nat → Nat) (fx fy : Nat → Nat → Int) (gm bm : Nat) (hfx : ∀ t, t < m → ∀ j, j < nn t → fx t j = ((2 * t : Nat) : Int)) (hfy : ∀ t, t < m → ∀ j, nn t ≤ j → j < nn t + dd t → fy t j = ((2 * t + 1 : Nat) : Int)) (hdd : ∀ t, t < m → dd t ≤ 12) (hz : ∀ t, t < m → z t = y t) (BB : Below U.heap.size U S) (FA : (AS U V S m x y nn dd fx fy gl C)) (FM : (S.ownsRow bm 22 1 (.slice (some ⟨gm, 0, none⟩) m m) m (lL z m)))
    (a : Act) (A : a.tmps.size = 111 ∧ a.defers = []) (t0 : a.eval (.tmp 0) = .slice (some ⟨gl, 0, none⟩) m cl) (t3 : a.eval (.tmp 3) = .slice (some ⟨gm, 0, none⟩) m m) :
    (findR 17 (Try.f10.body.getD .skip)).wp Try.prog (bodyPost Try.prog Try.f10 fun e w' => e = .returned (.bool true) ∧ Saved (GxI m x) V w' ∧ Below U.heap.size U w') a S := by
  refine wp_seq ?_
  refine wp_seq ?_
  refine wi_ A (h2_ t0 t3) (rf_ [(8, .int .i64 ((0 : Nat) : Int))] (h2_ t0 t3) ?_)
  rintro a A ⟨t8, -⟩ ⟨t0, t3, -⟩
  refine wp_block ?_
  refine wp_loop (fun a W => ∃ (i : Nat), i ≤ m ∧ (a.tmps.size = 111 ∧ a.defers = []) ∧ a.eval (.tmp 0) = .slice (some ⟨gl, 0, none⟩) m cl ∧ a.eval (.tmp 3) = .slice (some ⟨gm, 0, none⟩) m m ∧ a.eval (.tmp 8) = .int .i64 ((i : Nat) : Int) ∧ Below U.heap.size U W ∧ (AS U V W m x y nn dd fx fy gl C) ∧ (W.ownsRow bm 22 1 (.slice (some ⟨gm, 0, none⟩) m m) m (lL z m))) (fun a _ => m - (intOf (a.eval (.tmp 8))).toNat) ⟨0, Nat.zero_le _, A, t0, t3, t8, BB, FA, FM⟩ ?_
  clear A t0 t3 t8 BB FA FM a
  rintro a XL18 ⟨i, hi, A, t0, t3, t8, BB, FA, FM⟩
  have esi := t8
  refine wp_seq ?_
  refine wp_seq ?_
  refine wi_ A (h3_ t0 t3 t8) (rv_ 2 (.int .i64 ((m : Nat) : Int)) (fun a ee => execLenLI (len := m) rfl (ee _) ⟨_, _, rfl⟩) (rv_ 3 (.bool (decide (i < m))) (fun a ee => execLtW (p := i) (q := m) rfl (ee _) (ee _)) (rf_ [(69, .bool (decide (i < m)))] (h3_ t0 t3 t8) ?_)))
  rintro a A ⟨t69, -⟩ ⟨t0, t3, t8, -⟩
  by_cases lti : i < m
  · rw [decide_eq_true lti] at t69
    refine wp_cond_true t69 ?_
    refine wp_skip ?_
    clear t69
    refine wp_seq ?_
    refine wp_block ?_
    have hni := hnn i lti
    have hdi := hdd i lti
    refine wp_seq ?_
    refine wi_ A (h3_ t0 t3 t8) (rf_ [(9, .int .i64 ((0 : Nat) : Int))] (h3_ t0 t3 t8) ?_)
    rintro a A ⟨t9, -⟩ ⟨t0, t3, t8, -⟩
    refine wp_block ?_
    refine wp_loop (fun a W => ∃ (j : Nat), j ≤ nn i + dd i ∧ (a.tmps.size = 111 ∧ a.defers = []) ∧ a.eval (.tmp 0) = .slice (some ⟨gl, 0, none⟩) m cl ∧ a.eval (.tmp 3) = .slice (some ⟨gm, 0, none⟩) m m ∧ a.eval (.tmp 8) = .int .i64 ((i : Nat) : Int) ∧ a.eval (.tmp 9) = .int .i64 ((j : Nat) : Int) ∧ Below U.heap.size U W ∧ (AS U V W m x y nn dd fx fy gl C) ∧ (W.ownsRow bm 22 1 (.slice (some ⟨gm, 0, none⟩) m m) m (lL z m))) (fun a _ => nn i + dd i - (intOf (a.eval (.tmp 9))).toNat) ⟨0, Nat.zero_le _, A, t0, t3, t8, t9, BB, FA, FM⟩ ?_
    clear A t0 t3 t8 t9 BB FA FM a
    rintro a XL21 ⟨j, hj, A, t0, t3, t8, t9, BB, FA, FM⟩
    have esj := t9
    refine wp_seq ?_
    refine wp_seq ?_
    refine wi_ A (h4_ t0 t3 t8 t9) (rv_ 3 (.pointer (some ⟨gm, 0 + i, none⟩)) (fun a ee => execIdxLI (k := i) rfl (ee _) (ee _) lti) (rv_ 4 (y i) (fun a ee => execLdLI (v := y i) rfl (ee _) (by rw [ownL_cellI FM lti, hz i lti])) (rv_ 5 (.int .i64 ((nn i + dd i : Nat) : Int)) (fun a ee => execLenI (len := nn i + dd i) rfl (ee _) (shpO (FA.gp.ry i lti))) (rv_ 6 (.bool (decide (j < nn i + dd i))) (fun a ee => execLtW (p := j) (q := nn i + dd i) rfl (ee _) (ee _)) (rf_ [(78, .bool (decide (j < nn i + dd i)))] (h4_ t0 t3 t8 t9) ?_)))))
    rintro a A ⟨t78, -⟩ ⟨t0, t3, t8, t9, -⟩
    by_cases ltj : j < nn i + dd i
    · rw [decide_eq_true ltj] at t78
      refine wp_cond_true t78 ?_
      refine wp_skip ?_
      clear t78
      refine wp_seq ?_
      refine wp_block ?_
      obtain ⟨gy, cy, ey, _, _⟩ := ownL_some9 (FA.gp.ry i lti) (by omega)
      refine wp_seq ?_
      refine wi_ A (h4_ t0 t3 t8 t9) (rv_ 1 (.int .i64 ((2 * i : Nat) : Int)) (fun a ee => execMulI (p := 2) (q := i) rfl rfl (ee _) (by omega)) (rf_ [(10, .int .i64 ((2 * i : Nat) : Int))] (h4_ t0 t3 t8 t9) ?_))
      rintro a A ⟨t10, -⟩ ⟨t0, t3, t8, t9, -⟩
      by_cases hjn : j < nn i
      · obtain ⟨gx, cx, ex, _, _⟩ := ownL_some9 (FA.gp.rx i lti) (by omega)
        refine wp_seq ?_
        refine wp_seq ?_
        refine wi_ A (h5_ t0 t3 t8 t9 t10) (rv_ 3 (.pointer (some ⟨gl, 0 + i, none⟩)) (fun a ee => execIdxLI (k := i) rfl (ee _) (ee _) lti) (rv_ 4 (x i) (fun a ee => execLdLI (v := x i) rfl (ee _) (FA.cell (hC i lti))) (rv_ 5 (.int .i64 ((nn i : Nat) : Int)) (fun a ee => execLenI (len := nn i) rfl (ee _) (shpO (FA.gp.rx i lti))) (rv_ 6 (.bool false) (fun a ee => execDec (execGe8 (p := j) (q := nn i) rfl (ee _) (ee _)) (decide_eq_false (by omega))) (rf_ [(89, .bool false)] (h5_ t0 t3 t8 t9 t10) ?_)))))
        rintro a A ⟨t89, -⟩ ⟨t0, t3, t8, t9, t10, -⟩
        refine wp_cond_false t89 ?_
        clear t89
        refine wp_seq ?_
        refine wi_ A (h5_ t0 t3 t8 t9 t10) (rv_ 2 (.pointer (some ⟨gl, 0 + i, none⟩)) (fun a ee => execIdxLI (k := i) rfl (ee _) (ee _) lti) (rv_ 3 (x i) (fun a ee => execLdLI (v := x i) rfl (ee _) (FA.cell (hC i lti))) (rv_ 5 (.pointer (some ⟨gx, 0 + j, none⟩)) (fun a ee => execIdxN (k := j) rfl ((ee _).trans ex) (ee _) hjn) (rv_ 6 (.int .i64 ((2 * i : Nat) : Int)) (fun a ee => execLd3 rfl (ee _) (by rw [(own_cellI (by have h_ := FA.gp.rx i lti; rw [ex] at h_; exact h_) hjn).1, hfx i lti j hjn])) (rv_ 8 (.bool false) (fun a ee => execDec (execNeN (p := 2 * i) (q := 2 * i) rfl (ee _) (ee _)) (decide_eq_false (by omega))) (rf_ [(101, .bool false)] (h5_ t0 t3 t8 t9 t10) ?_))))))
        rintro a A ⟨t101, -⟩ ⟨t0, t3, t8, t9, t10, -⟩
        refine wp_cond_false t101 ?_
        refine wp_skip ?_
        clear t101
        refine wp_seq ?_
        refine wi_ A (h5_ t0 t3 t8 t9 t10) (rv_ 2 (.pointer (some ⟨gm, 0 + i, none⟩)) (fun a ee => execIdxLI (k := i) rfl (ee _) (ee _) lti) (rv_ 3 (y i) (fun a ee => execLdLI (v := y i) rfl (ee _) (by rw [ownL_cellI FM lti, hz i lti])) (rv_ 5 (.pointer (some ⟨gy, 0 + j, none⟩)) (fun a ee => execIdxN (k := j) rfl ((ee _).trans ey) (ee _) ltj) (rv_ 6 (.int .i64 ((2 * i : Nat) : Int)) (fun a ee => execLd3 rfl (ee _) (by rw [(own_cellI (by have h_ := FA.gp.ry i lti; rw [ey] at h_; exact h_) ltj).1, FA.gp.lo i lti j hjn, hfx i lti j hjn])) (rv_ 8 (.bool false) (fun a ee => execDec (execNeN (p := 2 * i) (q := 2 * i) rfl (ee _) (ee _)) (decide_eq_false (by omega))) (rf_ [(110, .bool false)] (h4_ t0 t3 t8 t9) ?_))))))
        rintro a A ⟨t110, -⟩ ⟨t0, t3, t8, t9, -⟩
        refine wp_cond_false t110 ?_
        refine wp_skip ?_
        clear t110
        refine wi_ A (h4_ t0 t3 t8 t9) (rv_ 1 (.int .i64 ((j + 1 : Nat) : Int)) (fun a ee => execAd8 (p := j) (q := 1) rfl (ee _) rfl (by omega)) (rf_ [(9, .int .i64 ((j + 1 : Nat) : Int))] (h3_ t0 t3 t8) ?_))
        rintro a A ⟨t9, -⟩ ⟨t0, t3, t8, -⟩
        exact ⟨⟨j + 1, ltj, A, t0, t3, t8, t9, BB, FA, FM⟩, by show nn i + dd i - (intOf (a.eval (.tmp 9))).toNat < nn i + dd i - (intOf (Act.eval _ (.tmp 9))).toNat; rw [t9, esj]; show nn i + dd i - (j + 1) < nn i + dd i - j; omega⟩
      · refine wp_seq ?_
        refine wp_seq ?_
        refine wi_ A (h5_ t0 t3 t8 t9 t10) (rv_ 3 (.pointer (some ⟨gl, 0 + i, none⟩)) (fun a ee => execIdxLI (k := i) rfl (ee _) (ee _) lti) (rv_ 4 (x i) (fun a ee => execLdLI (v := x i) rfl (ee _) (FA.cell (hC i lti))) (rv_ 5 (.int .i64 ((nn i : Nat) : Int)) (fun a ee => execLenI (len := nn i) rfl (ee _) (shpO (FA.gp.rx i lti))) (rv_ 6 (.bool true) (fun a ee => execDec (execGe8 (p := j) (q := nn i) rfl (ee _) (ee _)) (decide_eq_true (by omega))) (rf_ [(89, .bool true)] (h5_ t0 t3 t8 t9 t10) ?_)))))
        rintro a A ⟨t89, -⟩ ⟨t0, t3, t8, t9, t10, -⟩
        refine wp_cond_true t89 ?_
        clear t89
        refine wi_ A (h5_ t0 t3 t8 t9 t10) (rv_ 1 (.int .i64 ((2 * i : Nat) : Int)) (fun a ee => execMulI (p := 2) (q := i) rfl rfl (ee _) (by omega)) (rv_ 2 (.int .i64 ((2 * i + 1 : Nat) : Int)) (fun a ee => execAd8 (p := 2 * i) (q := 1) rfl (ee _) rfl (by omega)) (rf_ [(10, .int .i64 ((2 * i + 1 : Nat) : Int))] (h4_ t0 t3 t8 t9) ?_)))
        rintro a A ⟨t10, -⟩ ⟨t0, t3, t8, t9, -⟩
        refine wp_seq ?_
        refine wi_ A (h5_ t0 t3 t8 t9 t10) (rv_ 2 (.pointer (some ⟨gm, 0 + i, none⟩)) (fun a ee => execIdxLI (k := i) rfl (ee _) (ee _) lti) (rv_ 3 (y i) (fun a ee => execLdLI (v := y i) rfl (ee _) (by rw [ownL_cellI FM lti, hz i lti])) (rv_ 5 (.pointer (some ⟨gy, 0 + j, none⟩)) (fun a ee => execIdxN (k := j) rfl ((ee _).trans ey) (ee _) ltj) (rv_ 6 (.int .i64 ((2 * i + 1 : Nat) : Int)) (fun a ee => execLd3 rfl (ee _) (by rw [(own_cellI (by have h_ := FA.gp.ry i lti; rw [ey] at h_; exact h_) ltj).1, hfy i lti j (by omega) ltj])) (rv_ 8 (.bool false) (fun a ee => execDec (execNeN (p := 2 * i + 1) (q := 2 * i + 1) rfl (ee _) (ee _)) (decide_eq_false (by omega))) (rf_ [(110, .bool false)] (h4_ t0 t3 t8 t9) ?_))))))
        rintro a A ⟨t110, -⟩ ⟨t0, t3, t8, t9, -⟩
        refine wp_cond_false t110 ?_
        refine wp_skip ?_
        clear t110
        refine wi_ A (h4_ t0 t3 t8 t9) (rv_ 1 (.int .i64 ((j + 1 : Nat) : Int)) (fun a ee => execAd8 (p := j) (q := 1) rfl (ee _) rfl (by omega)) (rf_ [(9, .int .i64 ((j + 1 : Nat) : Int))] (h3_ t0 t3 t8) ?_))
        rintro a A ⟨t9, -⟩ ⟨t0, t3, t8, -⟩
        exact ⟨⟨j + 1, ltj, A, t0, t3, t8, t9, BB, FA, FM⟩, by show nn i + dd i - (intOf (a.eval (.tmp 9))).toNat < nn i + dd i - (intOf (Act.eval _ (.tmp 9))).toNat; rw [t9, esj]; show nn i + dd i - (j + 1) < nn i + dd i - j; omega⟩
    · rw [decide_eq_false ltj] at t78
      refine wp_cond_false t78 ?_
      refine wp_exit ?_
      first | with_reducible refine exit_in ?_ | with_reducible refine exit_then (exit_in ?_) | with_reducible refine exit_then (exit_then (exit_in ?_)) | refine exit_in ?_ | refine exit_then (exit_in ?_) | refine exit_then (exit_then (exit_in ?_))
      clear t78 esj
      clear ltj hj
      refine wi_ A (h3_ t0 t3 t8) (rv_ 1 (.int .i64 ((i + 1 : Nat) : Int)) (fun a ee => execAd8 (p := i) (q := 1) rfl (ee _) rfl (by omega)) (rf_ [(8, .int .i64 ((i + 1 : Nat) : Int))] (h2_ t0 t3) ?_))
      rintro a A ⟨t8, -⟩ ⟨t0, t3, -⟩
      exact ⟨⟨i + 1, lti, A, t0, t3, t8, BB, FA, FM⟩, by show m - (intOf (a.eval (.tmp 8))).toNat < m - (intOf (Act.eval _ (.tmp 8))).toNat; rw [t8, esi]; show m - (i + 1) < m - i; omega⟩
  · rw [decide_eq_false lti] at t69
    refine wp_cond_false t69 ?_
    refine wp_exit ?_
    first | with_reducible refine exit_in ?_ | with_reducible refine exit_then (exit_in ?_) | with_reducible refine exit_then (exit_then (exit_in ?_)) | refine exit_in ?_ | refine exit_then (exit_in ?_) | refine exit_then (exit_then (exit_in ?_))
    clear t69 esi
    refine wp_seq ?_
    refine wi_ A h0_ (rg_ [(2, .bool true)] ?_)
    rintro a A ⟨t2, -⟩
    refine wp_ret ?_
    refine bodyPost_ret (results_tmp rfl _ _ _) A.2 ⟨?_, FA.sv, BB⟩
    show Ending.returned (a.eval (.tmp 2)) = _
    rw [t2]
set_option maxRecDepth 100000 in
set_option maxHeartbeats 4000000 in
/-- apart, from region 10: each grows by twelve. -/
theorem apart10z (U V : World) (m gl cl : Nat) (x : Nat → Value) (nn : Nat → Nat) (C : Array Value) (hm : m ≤ 1000) (hC : ∀ t, t < m → C[t]? = some (x t)) (hnn : ∀ t, t < m → nn t ≤ 17592186044000) (S : World) (fx : Nat → Nat → Int) (z : Nat → Value) (gm bm : Nat) (hbl : gl < bm) (hbU : U.heap.size ≤ bm) (hbV : V.heap.size ≤ bm) (hfx : ∀ t, t < m → ∀ j, j < nn t → fx t j = ((2 * t : Nat) : Int)) (hz0 : ∀ t, t < m → z t = x t) (BB : Below U.heap.size U S) (FA : (AS U V S m x x nn (fun _ => 0) fx fx gl C)) (FM : (S.ownsRow bm 22 1 (.slice (some ⟨gm, 0, none⟩) m m) m (lL z m)))
    (a : Act) (A : a.tmps.size = 111 ∧ a.defers = []) (t0 : a.eval (.tmp 0) = .slice (some ⟨gl, 0, none⟩) m cl) (t3 : a.eval (.tmp 3) = .slice (some ⟨gm, 0, none⟩) m m) :
    (findR 10 (Try.f10.body.getD .skip)).wp Try.prog (bodyPost Try.prog Try.f10 fun e w' => e = .returned (.bool true) ∧ Saved (GxI m x) V w' ∧ Below U.heap.size U w') a S := by
  refine wp_seq ?_
  refine wp_seq ?_
  refine wi_ A (h2_ t0 t3) (rf_ [(6, .int .i64 ((0 : Nat) : Int))] (h2_ t0 t3) ?_)
  rintro a A ⟨t6, -⟩ ⟨t0, t3, -⟩
  refine wp_block ?_
  refine wp_loop (fun a W => ∃ (k : Nat) (y : Nat → Value) (z : Nat → Value) (dd : Nat → Nat) (fy : Nat → Nat → Int), k ≤ 12 ∧ (∀ t, t < m → z t = y t) ∧ (∀ t, t < m → dd t = k) ∧ (∀ t, t < m → ∀ j, nn t ≤ j → j < nn t + dd t → fy t j = ((2 * t + 1 : Nat) : Int)) ∧ (a.tmps.size = 111 ∧ a.defers = []) ∧ a.eval (.tmp 0) = .slice (some ⟨gl, 0, none⟩) m cl ∧ a.eval (.tmp 3) = .slice (some ⟨gm, 0, none⟩) m m ∧ a.eval (.tmp 6) = .int .i64 ((k : Nat) : Int) ∧ Below U.heap.size U W ∧ (AS U V W m x y nn dd fx fy gl C) ∧ (W.ownsRow bm 22 1 (.slice (some ⟨gm, 0, none⟩) m m) m (lL z m))) (fun a _ => 12 - (intOf (a.eval (.tmp 6))).toNat) ⟨0, x, z, fun _ => 0, fx, Nat.zero_le _, hz0, fun _ _ => rfl, fun t ht j h1 h2 => absurd h2 (by show ¬ j < nn t + 0; omega), A, t0, t3, t6, BB, FA, FM⟩ ?_
  clear A t0 t3 t6 BB FA FM a
  rintro a XL11 ⟨k, y, z, dd, fy, hk, hz, hdk, hfy, A, t0, t3, t6, BB, FA, FM⟩
  have esk := t6
  refine wp_seq ?_
  refine wp_seq ?_
  refine wi_ A (h3_ t0 t3 t6) (rv_ 1 (.bool (decide (k < 12))) (fun a ee => execLtW (p := k) (q := 12) rfl (ee _) rfl) (rf_ [(45, .bool (decide (k < 12)))] (h3_ t0 t3 t6) ?_))
  rintro a A ⟨t45, -⟩ ⟨t0, t3, t6, -⟩
  by_cases ltk : k < 12
  · rw [decide_eq_true ltk] at t45
    refine wp_cond_true t45 ?_
    refine wp_skip ?_
    clear t45
    refine wp_seq ?_
    refine wp_block ?_
    refine wp_seq ?_
    refine wi_ A (h3_ t0 t3 t6) (rf_ [(7, .int .i64 ((0 : Nat) : Int))] (h3_ t0 t3 t6) ?_)
    rintro a A ⟨t7, -⟩ ⟨t0, t3, t6, -⟩
    refine wp_block ?_
    refine wp_loop (fun a W => ∃ (i : Nat) (y2 : Nat → Value) (z2 : Nat → Value) (dd2 : Nat → Nat) (fy2 : Nat → Nat → Int), i ≤ m ∧ (∀ t, t < m → z2 t = y2 t) ∧ (∀ t, t < m → dd2 t = if t < i then k + 1 else k) ∧ (∀ t, t < m → ∀ j, nn t ≤ j → j < nn t + dd2 t → fy2 t j = ((2 * t + 1 : Nat) : Int)) ∧ (a.tmps.size = 111 ∧ a.defers = []) ∧ a.eval (.tmp 0) = .slice (some ⟨gl, 0, none⟩) m cl ∧ a.eval (.tmp 3) = .slice (some ⟨gm, 0, none⟩) m m ∧ a.eval (.tmp 6) = .int .i64 ((k : Nat) : Int) ∧ a.eval (.tmp 7) = .int .i64 ((i : Nat) : Int) ∧ Below U.heap.size U W ∧ (AS U V W m x y2 nn dd2 fx fy2 gl C) ∧ (W.ownsRow bm 22 1 (.slice (some ⟨gm, 0, none⟩) m m) m (lL z2 m))) (fun a _ => m - (intOf (a.eval (.tmp 7))).toNat) ⟨0, y, z, dd, fy, Nat.zero_le _, hz, fun t ht => by rw [if_neg (Nat.not_lt_zero t)]; exact hdk t ht, hfy, A, t0, t3, t6, t7, BB, FA, FM⟩ ?_
    clear A t0 t3 t6 t7 BB FA FM a
    rintro a XL14 ⟨i, y2, z2, dd2, fy2, hi, hz2, hd2, hfy2, A, t0, t3, t6, t7, BB, FA, FM⟩
    have esi := t7
    refine wp_seq ?_
    refine wp_seq ?_
    refine wi_ A (h4_ t0 t3 t6 t7) (rv_ 2 (.int .i64 ((m : Nat) : Int)) (fun a ee => execLenLI (len := m) rfl (ee _) ⟨_, _, rfl⟩) (rv_ 3 (.bool (decide (i < m))) (fun a ee => execLtW (p := i) (q := m) rfl (ee _) (ee _)) (rf_ [(51, .bool (decide (i < m)))] (h4_ t0 t3 t6 t7) ?_)))
    rintro a A ⟨t51, -⟩ ⟨t0, t3, t6, t7, -⟩
    by_cases lti : i < m
    · rw [decide_eq_true lti] at t51
      refine wp_cond_true t51 ?_
      refine wp_skip ?_
      clear t51
      refine wp_seq ?_
      refine wp_block ?_
      have hni := hnn i lti
      have hdi := hd2 i lti
      rw [if_neg (Nat.lt_irrefl i)] at hdi
      obtain ⟨g63, egg63⟩ : ∃ z_ : Nat, XL14.heap.size = z_ := ⟨_, rfl⟩
      refine wi_ A (h4_ t0 t3 t6 t7) (rv_ 4 (.pointer (some ⟨gm, 0 + i, none⟩)) (fun a ee => execIdxLI (k := i) rfl (ee _) (ee _) lti) (rv_ 5 (y2 i) (fun a ee => execLdLI (v := y2 i) rfl (ee _) (by rw [ownL_cellI FM lti, hz2 i lti])) (rv_ 7 (.int .i64 ((2 * i : Nat) : Int)) (fun a ee => execMulI (p := 2) (q := i) rfl rfl (ee _) (by omega)) (rv_ 8 (.int .i64 ((2 * i + 1 : Nat) : Int)) (fun a ee => execAd8 (p := 2 * i) (q := 1) rfl (ee _) rfl (by omega)) (rs_ 9 (fun a ee => ?_))))))
      refine stepV rfl rfl (execBsI (z := ((2 * i + 1 : Nat) : Int)) rfl (ee _)) ⟨.slice (some ⟨g63, 0, none⟩) 1 1, ⟨_, rfl, by subst egg63; rfl⟩, fun X16_1 hX => ?_⟩
      have bQ : Below XL14.heap.size XL14 X16_1 := by subst hX egg63; exact (belNew XL14 _)
      have Fg63 : (SliceI X16_1 (.slice (some ⟨g63, 0, none⟩) 1 1) 1 (fun _ => ((2 * i + 1 : Nat) : Int))) := by subst hX egg63; exact oneI XL14 (by omega)
      replace FA := (FA.on bQ)
      replace FM := (ownD_below FM bQ)
      replace BB := BB.trans (bQ.mono BB.size)
      clear bQ hX egg63 ee a
      refine rs_ 10 (fun a ee => ?_)
      refine stepAS (t := i) (q := fun _ => ((2 * i + 1 : Nat) : Int)) rfl rfl rfl (ee _) (ee _) FA lti Fg63 ⟨_, _, rfl⟩ (by decide) (by omega) fun v64 X16_2 has gr => ⟨_, ⟨_, rfl, rfl⟩, eqw ?_⟩
      obtain ⟨BB, FA2, FM2⟩ : Below U.heap.size U X16_2 ∧ (AS U V X16_2 m x (updX y2 i v64) nn (updD dd2 i 1) fx (updG fy2 i (catI (nn i + dd2 i) (fy2 i) (fun _ => ((2 * i + 1 : Nat) : Int)))) gl C) ∧ (X16_2.ownsRow bm 22 1 (.slice (some ⟨gm, 0, none⟩) m m) m (lL z2 m)) := ⟨has.bel, has, own_overT FM (FA.gp.ry i lti) gr (by decide)⟩
      clear FA FM Fg63 ee a
      refine rv_ 11 (.pointer (some ⟨gm, 0 + i, none⟩)) (fun a ee => execIdxLI (k := i) rfl (ee _) (ee _) lti) (rs_ 12 (fun a ee => ?_))
      obtain ⟨cu_, hg_, hgB_⟩ := own_cur FM2
      refine stepS rfl rfl (execStLI rfl (ee _) (ee _) (by have h_ := FA2.gp.ry i lti; rw [show updX y2 i v64 i = v64 from if_pos rfl] at h_; exact shp3 h_) (ownL_cellI FM2 lti) (frozen4 hg_)) ⟨_, ⟨_, rfl, rfl⟩, fun X16 hX => ?_⟩
      obtain ⟨BB, FA3, FM3⟩ : Below U.heap.size U X16 ∧ (AS U V X16 m x (updX y2 i v64) nn (updD dd2 i 1) fx (updG fy2 i (catI (nn i + dd2 i) (fy2 i) (fun _ => ((2 * i + 1 : Nat) : Int)))) gl C) ∧ (X16.ownsRow bm 22 1 (.slice (some ⟨gm, 0, none⟩) m m) m (lL (updX z2 i v64) m)) := by subst hX; exact ⟨(BB).setCell (Nat.le_trans hbU hgB_) _, FA2.setM hg_ (by omega) (Nat.le_trans hbU hgB_) (Nat.le_trans hbV hgB_), ownL_setI FM2⟩
      clear FA2 FM2 hX ee a
      refine rf_ [] (h4_ t0 t3 t6 t7) ?_
      rintro a A - ⟨t0, t3, t6, t7, -⟩
      refine wi_ A (h4_ t0 t3 t6 t7) (rv_ 1 (.int .i64 ((i + 1 : Nat) : Int)) (fun a ee => execAd8 (p := i) (q := 1) rfl (ee _) rfl (by omega)) (rf_ [(7, .int .i64 ((i + 1 : Nat) : Int))] (h3_ t0 t3 t6) ?_))
      rintro a A ⟨t7, -⟩ ⟨t0, t3, t6, -⟩
      exact ⟨⟨i + 1, _, _, _, _, lti, fun t ht => by unfold updX; rw [hz2 t ht], step_dd hd2, grow_fyz hfy2, A, t0, t3, t6, t7, BB, FA3, FM3⟩, by show m - (intOf (a.eval (.tmp 7))).toNat < m - (intOf (Act.eval _ (.tmp 7))).toNat; rw [t7, esi]; show m - (i + 1) < m - i; omega⟩
    · rw [decide_eq_false lti] at t51
      refine wp_cond_false t51 ?_
      refine wp_exit ?_
      first | with_reducible refine exit_in ?_ | with_reducible refine exit_then (exit_in ?_) | with_reducible refine exit_then (exit_then (exit_in ?_)) | refine exit_in ?_ | refine exit_then (exit_in ?_) | refine exit_then (exit_then (exit_in ?_))
      clear t51 esi
      have hdn : ∀ t, t < m → dd2 t = k + 1 := fun t ht => by rw [hd2 t ht, if_pos (by omega)]
      clear lti hi
      refine wi_ A (h3_ t0 t3 t6) (rv_ 1 (.int .i64 ((k + 1 : Nat) : Int)) (fun a ee => execAd8 (p := k) (q := 1) rfl (ee _) rfl (by omega)) (rf_ [(6, .int .i64 ((k + 1 : Nat) : Int))] (h2_ t0 t3) ?_))
      rintro a A ⟨t6, -⟩ ⟨t0, t3, -⟩
      exact ⟨⟨k + 1, y2, z2, dd2, fy2, ltk, hz2, hdn, hfy2, A, t0, t3, t6, BB, FA, FM⟩, by show 12 - (intOf (a.eval (.tmp 6))).toNat < 12 - (intOf (Act.eval _ (.tmp 6))).toNat; rw [t6, esk]; show 12 - (k + 1) < 12 - k; omega⟩
  · rw [decide_eq_false ltk] at t45
    refine wp_cond_false t45 ?_
    refine wp_exit ?_
    first | with_reducible refine exit_in ?_ | with_reducible refine exit_then (exit_in ?_) | with_reducible refine exit_then (exit_then (exit_in ?_)) | refine exit_in ?_ | refine exit_then (exit_in ?_) | refine exit_then (exit_then (exit_in ?_))
    clear t45 esk
    exact apart17 U V m gl cl x nn C hm hC hnn _ y z dd fx fy gm bm hfx hfy (fun t ht => by rw [hdk t ht]; omega) hz BB FA FM a A t0 t3
set_option maxRecDepth 100000 in
set_option maxHeartbeats 4000000 in
/-- The law's apart: lists apart are found apart; only they are written. -/
theorem apart19 (U V : World) (m gl cl : Nat) (x : Nat → Value) (nn : Nat → Nat) (C : Array Value) (hm : m ≤ 1000) (hC : ∀ t, t < m → C[t]? = some (x t)) (hnn : ∀ t, t < m → nn t ≤ 17592186044000) (ff : Nat → Nat → Int) (BB : Below U.heap.size U V) (hfam : FmI U.heap.size m x nn ff V) (hli : V.heap[gl]? = some (.cells C 22)) :
    Calls Try.prog 10 #[.slice (some ⟨gl, 0, none⟩) m cl] V fun e w' => e = .returned (.bool true) ∧ Saved (GxI m x) V w' ∧ Below U.heap.size U w' := by
  go_enter Try.func10, Try.ntmps10
  refine wp_seq ?_
  refine wo_ 111 [(0, .slice (some ⟨gl, 0, none⟩) m cl)] ?_
  rintro a A ⟨t0, -⟩
  refine wi_ A (h1_ t0) (rf_ [] (h1_ t0) ?_)
  rintro a A - ⟨t0, -⟩
  have BW : Below V.heap.size V V := Below.refl _ _
  clear BW
  have F0 : A0 U V V m x nn ff gl C := ⟨BB, hfam, hli, Saved.refl _ _⟩
  refine wp_seq ?_
  obtain ⟨gm, eggm⟩ : ∃ z_ : Nat, V.heap.size = z_ := ⟨_, rfl⟩
  obtain ⟨bm, egbm⟩ : ∃ z_ : Nat, V.heap.size = z_ := ⟨_, rfl⟩
  refine wi_ A (h1_ t0) (rv_ 1 (.int .i64 ((m : Nat) : Int)) (fun a ee => execLenLI (len := m) rfl (ee _) ⟨_, _, rfl⟩) (rs_ 2 (fun a ee => ?_)))
  refine stepV rfl rfl (execMkLI rfl (ee _) (ee _) (by omega)) ⟨.slice (some ⟨gm, 0, none⟩) m m, ⟨_, rfl, by subst eggm egbm; rfl⟩, fun X1 hX => ?_⟩
  have bQ : Below V.heap.size V X1 := by subst hX eggm egbm; exact (belNew V _)
  have FM : (X1.ownsRow bm 22 1 (.slice (some ⟨gm, 0, none⟩) m m) m (lL (fun _ => .slice none 0 0) m)) := by subst hX eggm egbm; exact own_mkLI V m (by omega)
  have Fb : (gl < bm) := by subst hX eggm egbm; exact (Array.getElem?_eq_some_iff.1 F0.li).1
  have FU : (U.heap.size ≤ bm) := by subst hX eggm egbm; exact (BB).size
  have FV : (V.heap.size ≤ bm) := by subst hX eggm egbm; exact F0.sv.size
  replace F0 := (F0.on bQ)
  replace BB := BB.trans (bQ.mono BB.size)
  clear bQ hX eggm egbm ee a
  refine rf_ [(3, .slice (some ⟨gm, 0, none⟩) m m)] (h1_ t0) ?_
  rintro a A ⟨t3, -⟩ ⟨t0, -⟩
  have hbl := Fb
  have hbU := FU
  have hbV := FV
  clear Fb FU FV
  refine wp_seq ?_
  refine wp_seq ?_
  refine wi_ A (h2_ t0 t3) (rf_ [(4, .int .i64 ((0 : Nat) : Int))] (h2_ t0 t3) ?_)
  rintro a A ⟨t4, -⟩ ⟨t0, t3, -⟩
  refine wp_block ?_
  refine wp_loop (fun a W => ∃ (i : Nat) (f1 : Nat → Nat → Int) (z : Nat → Value), i ≤ m ∧ (∀ s, s < i → ∀ l, l < nn s → f1 s l = ((2 * s : Nat) : Int)) ∧ (∀ t, t < i → z t = x t) ∧ (a.tmps.size = 111 ∧ a.defers = []) ∧ a.eval (.tmp 0) = .slice (some ⟨gl, 0, none⟩) m cl ∧ a.eval (.tmp 3) = .slice (some ⟨gm, 0, none⟩) m m ∧ a.eval (.tmp 4) = .int .i64 ((i : Nat) : Int) ∧ Below U.heap.size U W ∧ (A0 U V W m x nn f1 gl C) ∧ (W.ownsRow bm 22 1 (.slice (some ⟨gm, 0, none⟩) m m) m (lL z m))) (fun a _ => m - (intOf (a.eval (.tmp 4))).toNat) ⟨0, ff, fun _ => .slice none 0 0, Nat.zero_le _, fun s hs => absurd hs (Nat.not_lt_zero _), fun t ht => absurd ht (Nat.not_lt_zero _), A, t0, t3, t4, BB, F0, FM⟩ ?_
  clear A t0 t3 t4 BB F0 FM a
  rintro a XL3 ⟨i, f1, z, hi, hmk, hz, A, t0, t3, t4, BB, F0, FM⟩
  have esi := t4
  refine wp_seq ?_
  refine wp_seq ?_
  refine wi_ A (h3_ t0 t3 t4) (rv_ 2 (.int .i64 ((m : Nat) : Int)) (fun a ee => execLenLI (len := m) rfl (ee _) ⟨_, _, rfl⟩) (rv_ 3 (.bool (decide (i < m))) (fun a ee => execLtW (p := i) (q := m) rfl (ee _) (ee _)) (rf_ [(17, .bool (decide (i < m)))] (h3_ t0 t3 t4) ?_)))
  rintro a A ⟨t17, -⟩ ⟨t0, t3, t4, -⟩
  by_cases lti : i < m
  · rw [decide_eq_true lti] at t17
    refine wp_cond_true t17 ?_
    refine wp_skip ?_
    clear t17
    refine wp_seq ?_
    refine wp_block ?_
    have hni := hnn i lti
    refine wp_seq ?_
    refine wp_seq ?_
    refine wi_ A (h3_ t0 t3 t4) (rf_ [(5, .int .i64 ((0 : Nat) : Int))] (h3_ t0 t3 t4) ?_)
    rintro a A ⟨t5, -⟩ ⟨t0, t3, t4, -⟩
    refine wp_block ?_
    refine wp_loop (fun a W => ∃ (j : Nat) (f2 : Nat → Nat → Int), j ≤ nn i ∧ (∀ s, s < i → ∀ l, l < nn s → f2 s l = ((2 * s : Nat) : Int)) ∧ (∀ l, l < j → f2 i l = ((2 * i : Nat) : Int)) ∧ (a.tmps.size = 111 ∧ a.defers = []) ∧ a.eval (.tmp 0) = .slice (some ⟨gl, 0, none⟩) m cl ∧ a.eval (.tmp 3) = .slice (some ⟨gm, 0, none⟩) m m ∧ a.eval (.tmp 4) = .int .i64 ((i : Nat) : Int) ∧ a.eval (.tmp 5) = .int .i64 ((j : Nat) : Int) ∧ Below U.heap.size U W ∧ (A0 U V W m x nn f2 gl C) ∧ (W.ownsRow bm 22 1 (.slice (some ⟨gm, 0, none⟩) m m) m (lL z m))) (fun a _ => nn i - (intOf (a.eval (.tmp 5))).toNat) ⟨0, f1, Nat.zero_le _, hmk, fun l hl => absurd hl (Nat.not_lt_zero _), A, t0, t3, t4, t5, BB, F0, FM⟩ ?_
    clear A t0 t3 t4 t5 BB F0 FM a
    rintro a XL6 ⟨j, f2, hj, hmk, hin, A, t0, t3, t4, t5, BB, F0, FM⟩
    have esj := t5
    refine wp_seq ?_
    refine wp_seq ?_
    refine wi_ A (h4_ t0 t3 t4 t5) (rv_ 3 (.pointer (some ⟨gl, 0 + i, none⟩)) (fun a ee => execIdxLI (k := i) rfl (ee _) (ee _) lti) (rv_ 4 (x i) (fun a ee => execLdLI (v := x i) rfl (ee _) (F0.cell (hC i lti))) (rv_ 5 (.int .i64 ((nn i : Nat) : Int)) (fun a ee => execLenI (len := nn i) rfl (ee _) (shpO (F0.fam.rows i lti))) (rv_ 6 (.bool (decide (j < nn i))) (fun a ee => execLtW (p := j) (q := nn i) rfl (ee _) (ee _)) (rf_ [(26, .bool (decide (j < nn i)))] (h4_ t0 t3 t4 t5) ?_)))))
    rintro a A ⟨t26, -⟩ ⟨t0, t3, t4, t5, -⟩
    by_cases ltj : j < nn i
    · rw [decide_eq_true ltj] at t26
      refine wp_cond_true t26 ?_
      refine wp_skip ?_
      clear t26
      refine wp_seq ?_
      refine wp_block ?_
      obtain ⟨gx, cx, ex, _, _⟩ := ownL_some9 (F0.fam.rows i lti) (by omega)
      refine wi_ A (h4_ t0 t3 t4 t5) (rv_ 2 (.pointer (some ⟨gl, 0 + i, none⟩)) (fun a ee => execIdxLI (k := i) rfl (ee _) (ee _) lti) (rv_ 3 (x i) (fun a ee => execLdLI (v := x i) rfl (ee _) (F0.cell (hC i lti))) (rv_ 6 (.int .i64 ((2 * i : Nat) : Int)) (fun a ee => execMulI (p := 2) (q := i) rfl rfl (ee _) (by omega)) (rv_ 7 (.pointer (some ⟨gx, 0 + j, none⟩)) (fun a ee => execIdxN (k := j) rfl ((ee _).trans ex) (ee _) ltj) (rs_ 8 (fun a ee => ?_))))))
      obtain ⟨hc_, hf_⟩ := F0.fam.cell lti ex ltj
      obtain ⟨cu_, hg_, _⟩ := own_cur (ex ▸ F0.fam.rows i lti)
      refine stepS rfl rfl (execStI9 rfl (ee _) (ee _) hc_ hf_) ⟨_, ⟨_, rfl, rfl⟩, fun X8 hX => ?_⟩
      obtain ⟨BB, F02, FM2⟩ : Below U.heap.size U X8 ∧ (A0 U V X8 m x nn (updF f2 i j ((2 * i : Nat) : Int)) gl C) ∧ (X8.ownsRow bm 22 1 (.slice (some ⟨gm, 0, none⟩) m m) m (lL z m)) := by subst hX; exact ⟨(F0.set (j := j) lti ex _).bel, F0.set (j := j) lti ex _, own_offT FM hg_ (by decide)⟩
      clear F0 FM hX ee a
      refine rf_ [] (h4_ t0 t3 t4 t5) ?_
      rintro a A - ⟨t0, t3, t4, t5, -⟩
      refine wi_ A (h4_ t0 t3 t4 t5) (rv_ 1 (.int .i64 ((j + 1 : Nat) : Int)) (fun a ee => execAd8 (p := j) (q := 1) rfl (ee _) rfl (by omega)) (rf_ [(5, .int .i64 ((j + 1 : Nat) : Int))] (h3_ t0 t3 t4) ?_))
      rintro a A ⟨t5, -⟩ ⟨t0, t3, t4, -⟩
      exact ⟨⟨j + 1, _, ltj, fun s hs l hl => by rw [updF_o (by omega)]; exact hmk s hs l hl, mark_in hin, A, t0, t3, t4, t5, BB, F02, FM2⟩, by show nn i - (intOf (a.eval (.tmp 5))).toNat < nn i - (intOf (Act.eval _ (.tmp 5))).toNat; rw [t5, esj]; show nn i - (j + 1) < nn i - j; omega⟩
    · rw [decide_eq_false ltj] at t26
      refine wp_cond_false t26 ?_
      refine wp_exit ?_
      first | with_reducible refine exit_in ?_ | with_reducible refine exit_then (exit_in ?_) | with_reducible refine exit_then (exit_then (exit_in ?_)) | refine exit_in ?_ | refine exit_then (exit_in ?_) | refine exit_then (exit_then (exit_in ?_))
      clear t26 esj
      obtain rfl : j = nn i := by omega
      clear ltj hj
      refine wi_ A (h3_ t0 t3 t4) (rv_ 4 (.pointer (some ⟨gl, 0 + i, none⟩)) (fun a ee => execIdxLI (k := i) rfl (ee _) (ee _) lti) (rv_ 5 (x i) (fun a ee => execLdLI (v := x i) rfl (ee _) (F0.cell (hC i lti))) (rv_ 6 (.pointer (some ⟨gm, 0 + i, none⟩)) (fun a ee => execIdxLI (k := i) rfl (ee _) (ee _) lti) (rs_ 7 (fun a ee => ?_)))))
      obtain ⟨cu_, hg_, hgB_⟩ := own_cur FM
      refine stepS rfl rfl (execStLI rfl (ee _) (ee _) (shp3 (F0.fam.rows i lti)) (ownL_cellI FM lti) (frozen4 hg_)) ⟨_, ⟨_, rfl, rfl⟩, fun X9 hX => ?_⟩
      obtain ⟨BB, F03, FM3⟩ : Below U.heap.size U X9 ∧ (A0 U V X9 m x nn f2 gl C) ∧ (X9.ownsRow bm 22 1 (.slice (some ⟨gm, 0, none⟩) m m) m (lL (updX z i (x i)) m)) := by subst hX; exact ⟨(BB).setCell (Nat.le_trans hbU hgB_) _, F0.setM hg_ (by omega) (Nat.le_trans hbU hgB_) (Nat.le_trans hbV hgB_), ownL_setI FM⟩
      clear F0 FM hX ee a
      refine rf_ [] (h3_ t0 t3 t4) ?_
      rintro a A - ⟨t0, t3, t4, -⟩
      refine wi_ A (h3_ t0 t3 t4) (rv_ 1 (.int .i64 ((i + 1 : Nat) : Int)) (fun a ee => execAd8 (p := i) (q := 1) rfl (ee _) rfl (by omega)) (rf_ [(4, .int .i64 ((i + 1 : Nat) : Int))] (h2_ t0 t3) ?_))
      rintro a A ⟨t4, -⟩ ⟨t0, t3, -⟩
      exact ⟨⟨i + 1, f2, _, lti, mark_nextz hmk hin, next_z hz (fun _ _ => rfl), A, t0, t3, t4, BB, F03, FM3⟩, by show m - (intOf (a.eval (.tmp 4))).toNat < m - (intOf (Act.eval _ (.tmp 4))).toNat; rw [t4, esi]; show m - (i + 1) < m - i; omega⟩
  · rw [decide_eq_false lti] at t17
    refine wp_cond_false t17 ?_
    refine wp_exit ?_
    first | with_reducible refine exit_in ?_ | with_reducible refine exit_then (exit_in ?_) | with_reducible refine exit_then (exit_then (exit_in ?_)) | refine exit_in ?_ | refine exit_then (exit_in ?_) | refine exit_then (exit_then (exit_in ?_))
    clear t17 esi
    exact apart10z U V m gl cl x nn C hm hC hnn _ f1 z gm bm hbl hbU hbV (fun t ht => hmk t (by omega)) (fun t ht => hz t (by omega)) BB F0.begin FM a A t0 t3
end Go.Proofs.Ytcgkelgncehekab.Brd
