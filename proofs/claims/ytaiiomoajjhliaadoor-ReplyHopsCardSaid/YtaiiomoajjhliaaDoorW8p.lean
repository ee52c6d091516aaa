import Derived.Test.YtaiiomoajjhliaaDoorW8e
import Derived.Test.YtaiiomoajjhliaaDoorX5i
import Derived.Test.YtaiiomoajjhliaaDoorP3
namespace Go.Proofs.YtaiiomoajjhliaaDoor.Rpl
open Go.RowKit Gf8 Aes By8 Cel Cf Tap Drw Dro Oni Rou
/- Stage 27: the program's Key, Wrap, check. Written by tools/mkW8p.py. -/

theorem pderB (vs vt vi : Value) (key nonce : Nat → Nat) (w : World) (hG : Glob w) (h0 : SliceN w vs 32 key) (h1 : SliceN w vt 16 nonce) (h2 : SliceN w vi 10 bkF) :
    Calls Tryd.prog 9 #[vs, vt, vi, .int .i64 32] w fun e w' => ∃ v', e = .returned (.tuple #[v', .int .i64 ((0 : Nat) : Int)]) ∧ w'.ownsRow w.heap.size 5 1 v' 32 (bytesL 32 (bk key nonce)) ∧ Below w.heap.size w w' := by
  refine (mderive_any vs vt vi 32 16 10 (ci key) (ci nonce) (ci bkF) 32 w hG (by omega) (by omega) (by omega) (toB h0) (toB h1) (toB h2)).mono ?_
  rintro e w' ⟨v', rfl, own, hb⟩
  rw [show expN 32 = 32 from rfl, ← bk_ci, vals_ci] at own
  exact ⟨v', rfl, own, hb⟩
set_option maxRecDepth 100000 in
set_option maxHeartbeats 4000000 in
/-- The program's Key. -/
theorem pkey27 (key nonce : Nat → Nat) (lk : Nat) (v : Value) (V : World) (hG : Glob V) (hn : By nonce) (hv : SliceN V v lk key) :
    Calls Tryd.prog 12 #[v, .agg (bA 16 nonce)] V fun e w' => (∃ r, e = .returned (.tuple #[r, .int .i64 ((keE lk : Nat) : Int)]) ∧ w'.ownsRow V.heap.size 5 1 r (keN lk) (bytesL (keN lk) (bk key nonce))) ∧ Below V.heap.size V w' := by
  go_enter Tryd.func12, Tryd.ntmps12
  refine wo_ 16 [(0, v), (1, .agg (bA 16 nonce))] ?_
  rintro a A ⟨t0, t1, -⟩
  have BW : Below V.heap.size V V := Below.refl _ _
  have BB := BW
  refine wp_seq ?_
  obtain ⟨g3, egg3⟩ : ∃ z_ : Nat, V.heap.size = z_ := ⟨_, rfl⟩
  refine wi_ A (h2_ t0 t1) (rs_ 0 (fun a ee => ?_))
  refine stepV rfl rfl (execBx16 rfl (ee _)) ⟨.pointer (some ⟨g3, 0, none⟩), ⟨_, rfl, by subst egg3; rfl⟩, fun X0 hX => ?_⟩
  have bQ : Below V.heap.size V X0 := by subst hX egg3; exact (belNew V _)
  have Fg3 : (X0.heap[g3]? = some (.cells (bA 16 nonce) 33)) := by subst hX egg3; exact heapNew V _
  replace BB := BB.trans (bQ.mono BB.size)
  clear bQ hX egg3 ee a
  refine rf_ [(3, .pointer (some ⟨g3, 0, none⟩)), (4, .slice none 0 0), (5, .int .i64 ((0 : Nat) : Int))] (h1_ t0) ?_
  rintro a A ⟨t3, t4, t5, -⟩ ⟨t0, -⟩
  refine wp_seq ?_
  refine wp_seq ?_
  by_cases h1 : lk = 32
  · subst h1
    refine wi_ A (h4_ t0 t3 t4 t5) (rv_ 1 (.int .i64 ((32 : Nat) : Int)) (fun a ee => execLenV (len := 32) rfl (ee _) (shp (hv.on BB))) (rv_ 2 (.bool false) (fun a ee => execDec (execNeN (p := 32) (q := 32) rfl (ee _) rfl) (decide_eq_false (by omega))) (rf_ [(8, .bool false)] (h2_ t0 t3) ?_)))
    rintro a A ⟨t8, -⟩ ⟨t0, t3, -⟩
    refine wp_cond_false t8 ?_
    refine wp_skip ?_
    clear t8
    have FN : SliceN X0 (.slice (some ⟨g3, 0, none⟩) 16 16) 16 nonce := slice16 Fg3 hn
    clear Fg3
    refine wp_seq ?_
    obtain ⟨g11, egg11⟩ : ∃ z_ : Nat, X0.heap.size = z_ := ⟨_, rfl⟩
    refine wi_ A (h2_ t0 t3) (rv_ 1 (.slice (some ⟨g3, 0, none⟩) 16 16) (fun a ee => execSl16 rfl (ee _)) (rs_ 2 (fun a ee => ?_)))
    refine stepV rfl rfl (execBsBk rfl) ⟨.slice (some ⟨g11, 0, none⟩) 10 10, ⟨_, rfl, by subst egg11; rfl⟩, fun X3_1 hX => ?_⟩
    have bQ : Below X0.heap.size X0 X3_1 := by subst hX egg11; exact (belNew X0 _)
    have FL : (X3_1.heap[g11]? = some (.cells (bA 10 bkF) 5)) := by subst hX egg11; exact heapNew X0 _
    have FG : (V.heap.size ≤ g11) := by subst hX egg11; exact (BB).size
    replace FN := (FN.on bQ)
    replace BB := BB.trans (bQ.mono BB.size)
    clear bQ hX egg11 ee a
    refine rs_ 3 (fun a ee => ?_)
    refine stepV rfl rfl (execCvB7 rfl (ee _) FL) ⟨_, ⟨_, rfl, rfl⟩, fun X3_2 hX => ?_⟩
    obtain ⟨BB, FN, FK⟩ : Below V.heap.size V X3_2 ∧ (SliceN X3_2 (.slice (some ⟨g3, 0, none⟩) 16 16) 16 nonce) ∧ (SliceN X3_2 (.slice (some ⟨g11, 0, none⟩) 10 10) 10 bkF) := by subst hX; exact ⟨frz_bel BB FG, (frz_sl FN), frz_sl (bk_slice FL)⟩
    clear FL FG hX ee a
    refine rc_ 4 (pderB _ _ _ key nonce X3_2 (hG.below BB hG.sz) (hv.on BB) FN FK) fun e X3 hh => ?_
    obtain ⟨v13, he, hk, hb⟩ := hh
    refine ⟨_, he, ?_⟩
    have bQ : Below X3_2.heap.size X3_2 X3 := hb
    have FR : (X3.ownsRow V.heap.size 5 1 v13 32 (bytesL 32 (bk key nonce))) := own_base hk (BB).size
    replace FN := (FN.on bQ)
    replace FK := (FK.on bQ)
    replace BB := BB.trans (bQ.mono BB.size)
    clear bQ
    refine rg_ [(4, v13), (5, .int .i64 ((0 : Nat) : Int))] ?_
    rintro a A ⟨t4, t5, -⟩
    refine wp_ret ?_
    repeat (first | with_reducible refine ret_in ?_ | with_reducible refine ret_then ?_)
    refine bodyPost_ret (results_tmp2 rfl _ _ _) A.2 ⟨⟨_, ?_, FR⟩, BB⟩
    show Ending.returned (.tuple #[a.eval (.tmp 4), a.eval (.tmp 5)]) = _
    rw [t4, t5]
    rfl
  · refine wi_ A (h4_ t0 t3 t4 t5) (rv_ 1 (.int .i64 ((lk : Nat) : Int)) (fun a ee => execLenV (len := lk) rfl (ee _) (shp (hv.on BB))) (rv_ 2 (.bool true) (fun a ee => execDec (execNeN (p := lk) (q := 32) rfl (ee _) rfl) (decide_eq_true (by omega))) (rf_ [(8, .bool true)] (h1_ t0) ?_)))
    rintro a A ⟨t8, -⟩ ⟨t0, -⟩
    refine wp_cond_true t8 ?_
    clear t8
    refine wp_seq ?_
    refine wi_ A (h1_ t0) (rg_ [(4, .slice none 0 0), (5, .int .i64 ((2 : Nat) : Int))] ?_)
    rintro a A ⟨t4, t5, -⟩
    rw [show keE lk = 2 from if_neg h1, show keN lk = 0 from if_neg h1]
    refine wp_ret ?_
    repeat (first | with_reducible refine ret_in ?_ | with_reducible refine ret_then ?_)
    refine bodyPost_ret (results_tmp2 rfl _ _ _) A.2 ⟨⟨_, ?_, World.ownsRow_nil _ _ _ _⟩, BB⟩
    show Ending.returned (.tuple #[a.eval (.tmp 4), a.eval (.tmp 5)]) = _
    rw [t4, t5]
set_option maxRecDepth 100000 in
set_option maxHeartbeats 4000000 in
/-- The program's Wrap. -/
theorem pwrap27 (key nonce inner : Nat → Nat) (lk n : Nat) (left : Int) (v vi : Value) (V : World) (hG : Glob V) (hn : By nonce) (hv : SliceN V v lk key) (hi : SliceN V vi n inner) (hnl : n ≤ 140737488351232) :
    Calls Tryd.prog 16 #[v, .agg (bA 16 nonce), .int .i64 left, vi] V fun e w' => (∃ r, e = .returned (.tuple #[r, .int .i64 ((wrE lk left n : Nat) : Int)]) ∧ w'.ownsRow V.heap.size 5 1 r (wrN lk left n) (bytesL (wrN lk left n) (wrF (bk key nonce) nonce left.toNat n inner))) ∧ Below V.heap.size V w' := by
  go_enter Tryd.func16, Tryd.ntmps16
  refine wo_ 28 [(0, v), (1, .agg (bA 16 nonce)), (2, .int .i64 left), (3, vi)] ?_
  rintro a A ⟨t0, t1, t2, t3, -⟩
  have BW : Below V.heap.size V V := Below.refl _ _
  have BB := BW
  refine wp_seq ?_
  obtain ⟨g5, egg5⟩ : ∃ z_ : Nat, V.heap.size = z_ := ⟨_, rfl⟩
  refine wi_ A (h4_ t0 t1 t2 t3) (rs_ 0 (fun a ee => ?_))
  refine stepV rfl rfl (execBx16 rfl (ee _)) ⟨.pointer (some ⟨g5, 0, none⟩), ⟨_, rfl, by subst egg5; rfl⟩, fun X0 hX => ?_⟩
  have bQ : Below V.heap.size V X0 := by subst hX egg5; exact (belNew V _)
  have Fg5 : (X0.heap[g5]? = some (.cells (bA 16 nonce) 33)) := by subst hX egg5; exact heapNew V _
  replace BB := BB.trans (bQ.mono BB.size)
  clear bQ hX egg5 ee a
  refine rf_ [(5, .pointer (some ⟨g5, 0, none⟩))] (h3_ t0 t2 t3) ?_
  rintro a A ⟨t5, -⟩ ⟨t0, t2, t3, -⟩
  refine wp_seq ?_
  refine wi_ A (h4_ t0 t2 t3 t5) (rv_ 1 (.agg (bA 16 nonce)) (fun a ee => execLdH16 Fg5 rfl (ee _)) (rc_ 2 (pkey27 key nonce lk _ X0 (hG.below BB hG.sz) hn (hv.on BB)) fun e X1 hh => ?_))
  obtain ⟨⟨v15, he, hk⟩, hb⟩ := hh
  refine ⟨_, he, ?_⟩
  have bQ : Below X0.heap.size X0 X1 := hb
  have FR : (X1.ownsRow V.heap.size 5 1 v15 (keN lk) (bytesL (keN lk) (bk key nonce))) := own_base hk (BB).size
  replace Fg5 := (on9 Fg5 bQ)
  replace BB := BB.trans (bQ.mono BB.size)
  clear bQ
  refine rf_ [(10, v15), (11, .int .i64 ((keE lk : Nat) : Int))] (h3_ t2 t3 t5) ?_
  rintro a A ⟨t10, t11, -⟩ ⟨t2, t3, t5, -⟩
  refine wp_seq ?_
  refine wp_seq ?_
  by_cases h1 : lk = 32
  · have e0 : keE lk = 0 := if_pos h1
    refine wi_ A (h5_ t2 t3 t5 t10 t11) (rv_ 1 (.bool false) (fun a ee => execDec (execNeE (p := keE lk) (q := 0) rfl (ee _) rfl) (decide_eq_false (by omega))) (rf_ [(19, .bool false)] (h4_ t2 t3 t5 t10) ?_))
    rintro a A ⟨t19, -⟩ ⟨t2, t3, t5, t10, -⟩
    refine wp_cond_false t19 ?_
    refine wp_skip ?_
    clear t19
    replace FR : SliceN X1 v15 32 (bk key nonce) := by rw [show keN lk = 32 from if_pos h1] at FR; exact own_slice FR fun j _ => bk_lt _ _ j
    refine wp_seq ?_
    refine wi_ A (h4_ t2 t3 t5 t10) (rv_ 1 (.agg (bA 16 nonce)) (fun a ee => execLdH16 Fg5 rfl (ee _)) (rc_ 4 (wrap_any (bk key nonce) nonce inner 32 n left _ _ X1 (hG.below BB hG.sz) FR hn (hi.on BB) hnl) fun e X4 hh => ?_))
    obtain ⟨v25, he, hk, hb⟩ := hh
    refine ⟨_, he, ?_⟩
    have bQ : Below X1.heap.size X1 X4 := hb
    have FO : (X4.ownsRow V.heap.size 5 1 v25 (wrN 32 left n) (bytesL (wrN 32 left n) (wrF (bk key nonce) nonce left.toNat n inner))) := own_base hk (BB).size
    replace Fg5 := (on9 Fg5 bQ)
    replace FR := (FR.on bQ)
    replace BB := BB.trans (bQ.mono BB.size)
    clear bQ
    refine rg_ [(8, v25), (9, .int .i64 ((wrE 32 left n : Nat) : Int))] ?_
    rintro a A ⟨t8, t9, -⟩
    rw [h1]
    refine wp_ret ?_
    repeat (first | with_reducible refine ret_in ?_ | with_reducible refine ret_then ?_)
    refine bodyPost_ret (results_tmp2 rfl _ _ _) A.2 ⟨⟨_, ?_, FO⟩, BB⟩
    show Ending.returned (.tuple #[a.eval (.tmp 8), a.eval (.tmp 9)]) = _
    rw [t8, t9]
  · have e0 : keE lk = 2 := if_neg h1
    refine wi_ A (h5_ t2 t3 t5 t10 t11) (rv_ 1 (.bool true) (fun a ee => execDec (execNeE (p := keE lk) (q := 0) rfl (ee _) rfl) (decide_eq_true (by omega))) (rf_ [(19, .bool true)] (h1_ t11) ?_))
    rintro a A ⟨t19, -⟩ ⟨t11, -⟩
    refine wp_cond_true t19 ?_
    clear t19
    refine wp_seq ?_
    refine wi_ A (h1_ t11) (rg_ [(8, .slice none 0 0), (9, .int .i64 ((keE lk : Nat) : Int))] ?_)
    rintro a A ⟨t8, t9, -⟩
    have ew : wrE lk left n = 2 := if_pos (Or.inl h1)
    rw [ew, show wrN lk left n = 0 by unfold wrN; rw [ew]; rfl, ← e0]
    refine wp_ret ?_
    repeat (first | with_reducible refine ret_in ?_ | with_reducible refine ret_then ?_)
    refine bodyPost_ret (results_tmp2 rfl _ _ _) A.2 ⟨⟨_, ?_, World.ownsRow_nil _ _ _ _⟩, BB⟩
    show Ending.returned (.tuple #[a.eval (.tmp 8), a.eval (.tmp 9)]) = _
    rw [t8, t9]
set_option maxRecDepth 100000 in
set_option maxHeartbeats 4000000 in
/-- The program's check. -/
theorem pcheck27 (h hn : Nat) (kv nv : Value) (xv : Nat → Value) (lk : Nat → Nat) (key q : Nat → Nat → Nat) (V : World) (hK : Ls V kv h xv lk key) (hN : Nons V nv hn q) (hh : h ≤ 140737488351232) :
    Calls Tryd.prog 18 #[kv, nv] V fun e w' => e = .returned (.int .i64 ((wgE h hn lk : Nat) : Int)) ∧ Below V.heap.size V w' := by
  go_enter Tryd.func18, Tryd.ntmps18
  refine wo_ 32 [(0, kv), (1, nv)] ?_
  rintro a A ⟨t0, t1, -⟩
  have BW : Below V.heap.size V V := Below.refl _ _
  have BB := BW
  refine wp_seq ?_
  refine wi_ A (h2_ t0 t1) (rf_ [] (h2_ t0 t1) ?_)
  rintro a A - ⟨t0, t1, -⟩
  refine wp_seq ?_
  refine wp_seq ?_
  by_cases h1 : h < 1
  · refine wi_ A (h2_ t0 t1) (rv_ 1 (.int .i64 ((h : Nat) : Int)) (fun a ee => execLenLL rfl (ee _) (hK.on BB).shp) (rv_ 2 (.bool true) (fun a ee => execDec (execLtW (p := h) (q := 1) rfl (ee _) rfl) (decide_eq_true (by omega))) (rf_ [(21, .bool true)] (h2_ t0 t1) ?_)))
    rintro a A ⟨t21, -⟩ ⟨t0, t1, -⟩
    refine wp_cond_true t21 ?_
    clear t21
    refine wp_seq ?_
    refine wi_ A (h2_ t0 t1) (rg_ [(4, .int .i64 ((80 : Nat) : Int))] ?_)
    rintro a A ⟨t4, -⟩
    rw [show wgE h hn lk = 80 from if_pos (by omega)]
    refine wp_ret ?_
    repeat (first | with_reducible refine ret_in ?_ | with_reducible refine ret_then ?_)
    refine bodyPost_ret (results_tmp rfl _ _ _) A.2 ⟨?_, BB⟩
    show Ending.returned (a.eval (.tmp 4)) = _
    rw [t4]
  by_cases h2 : 8 < h
  · refine wi_ A (h2_ t0 t1) (rv_ 1 (.int .i64 ((h : Nat) : Int)) (fun a ee => execLenLL rfl (ee _) (hK.on BB).shp) (rv_ 2 (.bool false) (fun a ee => execDec (execLtW (p := h) (q := 1) rfl (ee _) rfl) (decide_eq_false (by omega))) (rv_ 5 (.int .i64 ((h : Nat) : Int)) (fun a ee => execLenLL rfl (ee _) (hK.on BB).shp) (rv_ 6 (.bool true) (fun a ee => execDec (execGtN (p := h) (q := 8) rfl (ee _) rfl) (decide_eq_true (by omega))) (rf_ [(21, .bool true)] (h2_ t0 t1) ?_)))))
    rintro a A ⟨t21, -⟩ ⟨t0, t1, -⟩
    refine wp_cond_true t21 ?_
    clear t21
    refine wp_seq ?_
    refine wi_ A (h2_ t0 t1) (rg_ [(4, .int .i64 ((80 : Nat) : Int))] ?_)
    rintro a A ⟨t4, -⟩
    rw [show wgE h hn lk = 80 from if_pos (by omega)]
    refine wp_ret ?_
    repeat (first | with_reducible refine ret_in ?_ | with_reducible refine ret_then ?_)
    refine bodyPost_ret (results_tmp rfl _ _ _) A.2 ⟨?_, BB⟩
    show Ending.returned (a.eval (.tmp 4)) = _
    rw [t4]
  by_cases h3 : hn ≠ h
  · refine wi_ A (h2_ t0 t1) (rv_ 1 (.int .i64 ((h : Nat) : Int)) (fun a ee => execLenLL rfl (ee _) (hK.on BB).shp) (rv_ 2 (.bool false) (fun a ee => execDec (execLtW (p := h) (q := 1) rfl (ee _) rfl) (decide_eq_false (by omega))) (rv_ 5 (.int .i64 ((h : Nat) : Int)) (fun a ee => execLenLL rfl (ee _) (hK.on BB).shp) (rv_ 6 (.bool false) (fun a ee => execDec (execGtN (p := h) (q := 8) rfl (ee _) rfl) (decide_eq_false (by omega))) (rv_ 10 (.int .i64 ((hn : Nat) : Int)) (fun a ee => execLenNs (hN.on BB) rfl (ee _)) (rv_ 12 (.int .i64 ((h : Nat) : Int)) (fun a ee => execLenLL rfl (ee _) (hK.on BB).shp) (rv_ 13 (.bool true) (fun a ee => execDec (execNeN (p := hn) (q := h) rfl (ee _) (ee _)) (decide_eq_true (by omega))) (rf_ [(21, .bool true)] (h2_ t0 t1) ?_))))))))
    rintro a A ⟨t21, -⟩ ⟨t0, t1, -⟩
    refine wp_cond_true t21 ?_
    clear t21
    refine wp_seq ?_
    refine wi_ A (h2_ t0 t1) (rg_ [(4, .int .i64 ((80 : Nat) : Int))] ?_)
    rintro a A ⟨t4, -⟩
    rw [show wgE h hn lk = 80 from if_pos (by omega)]
    refine wp_ret ?_
    repeat (first | with_reducible refine ret_in ?_ | with_reducible refine ret_then ?_)
    refine bodyPost_ret (results_tmp rfl _ _ _) A.2 ⟨?_, BB⟩
    show Ending.returned (a.eval (.tmp 4)) = _
    rw [t4]
  refine wi_ A (h2_ t0 t1) (rv_ 1 (.int .i64 ((h : Nat) : Int)) (fun a ee => execLenLL rfl (ee _) (hK.on BB).shp) (rv_ 2 (.bool false) (fun a ee => execDec (execLtW (p := h) (q := 1) rfl (ee _) rfl) (decide_eq_false (by omega))) (rv_ 5 (.int .i64 ((h : Nat) : Int)) (fun a ee => execLenLL rfl (ee _) (hK.on BB).shp) (rv_ 6 (.bool false) (fun a ee => execDec (execGtN (p := h) (q := 8) rfl (ee _) rfl) (decide_eq_false (by omega))) (rv_ 10 (.int .i64 ((hn : Nat) : Int)) (fun a ee => execLenNs (hN.on BB) rfl (ee _)) (rv_ 12 (.int .i64 ((h : Nat) : Int)) (fun a ee => execLenLL rfl (ee _) (hK.on BB).shp) (rv_ 13 (.bool false) (fun a ee => execDec (execNeN (p := hn) (q := h) rfl (ee _) (ee _)) (decide_eq_false (by omega))) (rf_ [(21, .bool false)] (h2_ t0 t1) ?_))))))))
  rintro a A ⟨t21, -⟩ ⟨t0, t1, -⟩
  refine wp_cond_false t21 ?_
  refine wp_skip ?_
  clear t21
  have e0 : wgE h hn lk = if ksOk h lk then 0 else 2 := if_neg (by omega)
  refine wp_seq ?_
  refine wp_seq ?_
  refine wi_ A (h2_ t0 t1) (rv_ 1 (.int .i64 ((h : Nat) : Int)) (fun a ee => execLenLL rfl (ee _) (hK.on BB).shp) (rg_ [(22, kv), (23, .int .i64 ((h : Nat) : Int)), (24, .int .i64 ((0 : Nat) : Int))] ?_))
  rintro a A ⟨t22, t23, t24, -⟩
  refine wp_block ?_
  refine wp_loop (fun a W => ∃ (i : Nat), i ≤ h ∧ (∀ k, k < i → lk k = 32) ∧ (a.tmps.size = 32 ∧ a.defers = []) ∧ a.eval (.tmp 22) = kv ∧ a.eval (.tmp 23) = .int .i64 ((h : Nat) : Int) ∧ a.eval (.tmp 24) = .int .i64 ((i : Nat) : Int) ∧ Below V.heap.size V W) (fun a _ => h - (intOf (a.eval (.tmp 24))).toNat) ⟨0, Nat.zero_le _, fun k hk => absurd hk (Nat.not_lt_zero k), A, t22, t23, t24, BB⟩ ?_
  clear A t22 t23 t24 BB a
  rintro a XL4 ⟨i, hi, hs, A, t22, t23, t24, BB⟩
  have esi := t24
  refine wp_seq ?_
  refine wi_ A (h3_ t22 t23 t24) (rv_ 0 (.bool (decide (i < h))) (fun a ee => execLtW (p := i) (q := h) rfl (ee _) (ee _)) (rf_ [(25, .bool (decide (i < h)))] (h3_ t22 t23 t24) ?_))
  rintro a A ⟨t25, -⟩ ⟨t22, t23, t24, -⟩
  refine wp_seq ?_
  by_cases lti : i < h
  · rw [decide_eq_true lti] at t25
    refine wp_cond_true t25 ?_
    refine wp_skip ?_
    clear t25
    refine wp_seq ?_
    refine wp_block ?_
    refine wp_seq ?_
    refine wi_ A (h3_ t22 t23 t24) (rv_ 0 (.pointer (some ⟨adB kv, adO kv + i, none⟩)) (fun a ee => execIdxLs (k := i) (hK.on BB) rfl (ee _) (ee _) lti) (rv_ 1 (xv i) (fun a ee => execLdLs (k := i) (hK.on BB) rfl (ee _) lti) (rf_ [(6, xv i)] (h3_ t22 t23 t24) ?_)))
    rintro a A ⟨t6, -⟩ ⟨t22, t23, t24, -⟩
    refine wp_seq ?_
    by_cases h4 : lk i = 32
    · refine wi_ A (h4_ t6 t22 t23 t24) (rv_ 1 (.int .i64 ((lk i : Nat) : Int)) (fun a ee => execLenV (len := lk i) rfl (ee _) (shp (((hK.on BB).cell i lti)))) (rv_ 2 (.bool false) (fun a ee => execDec (execNeN (p := lk i) (q := 32) rfl (ee _) rfl) (decide_eq_false (by omega))) (rf_ [(30, .bool false)] (h3_ t22 t23 t24) ?_)))
      rintro a A ⟨t30, -⟩ ⟨t22, t23, t24, -⟩
      refine wp_cond_false t30 ?_
      refine wp_skip ?_
      clear t30
      have hs2 : ∀ k, k < i + 1 → lk k = 32 := fun k hk => by
        by_cases e : k = i
        · subst e; exact h4
        · exact hs k (by omega)
      refine wi_ A (h3_ t22 t23 t24) (rv_ 0 (.int .i64 ((i + 1 : Nat) : Int)) (fun a ee => execAd8 (p := i) (q := 1) rfl (ee _) rfl (by omega)) (rf_ [(24, .int .i64 ((i + 1 : Nat) : Int))] (h2_ t22 t23) ?_))
      rintro a A ⟨t24, -⟩ ⟨t22, t23, -⟩
      exact ⟨⟨i + 1, lti, hs2, A, t22, t23, t24, BB⟩, by show h - (intOf (a.eval (.tmp 24))).toNat < h - (intOf (Act.eval _ (.tmp 24))).toNat; rw [t24, esi]; show h - (i + 1) < h - i; omega⟩
    · refine wi_ A (h4_ t6 t22 t23 t24) (rv_ 1 (.int .i64 ((lk i : Nat) : Int)) (fun a ee => execLenV (len := lk i) rfl (ee _) (shp (((hK.on BB).cell i lti)))) (rv_ 2 (.bool true) (fun a ee => execDec (execNeN (p := lk i) (q := 32) rfl (ee _) rfl) (decide_eq_true (by omega))) (rg_ [(30, .bool true)] ?_)))
      rintro a A ⟨t30, -⟩
      refine wp_cond_true t30 ?_
      clear t30
      refine wp_seq ?_
      refine wi_ A h0_ (rg_ [(4, .int .i64 ((2 : Nat) : Int))] ?_)
      rintro a A ⟨t4, -⟩
      rw [e0, if_neg (fun hx => h4 ((ksOk_iff h lk).1 hx i lti))]
      refine wp_ret ?_
      repeat (first | with_reducible refine ret_in ?_ | with_reducible refine ret_then ?_)
      refine bodyPost_ret (results_tmp rfl _ _ _) A.2 ⟨?_, BB⟩
      show Ending.returned (a.eval (.tmp 4)) = _
      rw [t4]
  · rw [decide_eq_false lti] at t25
    refine wp_cond_false t25 ?_
    refine wp_exit ?_
    first | with_reducible refine exit_in ?_ | with_reducible refine exit_then (exit_in ?_) | with_reducible refine exit_then (exit_then (exit_in ?_)) | refine exit_in ?_ | refine exit_then (exit_in ?_) | refine exit_then (exit_then (exit_in ?_))
    clear t25 esi
    have ein : i = h := (by omega)
    rw [ein] at hs
    refine wp_seq ?_
    refine wi_ A (h3_ t22 t23 t24) (rg_ [(4, .int .i64 ((0 : Nat) : Int))] ?_)
    rintro a A ⟨t4, -⟩
    rw [e0, if_pos ((ksOk_iff h lk).2 hs)]
    refine wp_ret ?_
    repeat (first | with_reducible refine ret_in ?_ | with_reducible refine ret_then ?_)
    refine bodyPost_ret (results_tmp rfl _ _ _) A.2 ⟨?_, BB⟩
    show Ending.returned (a.eval (.tmp 4)) = _
    rw [t4]
end Go.Proofs.YtaiiomoajjhliaaDoor.Rpl
