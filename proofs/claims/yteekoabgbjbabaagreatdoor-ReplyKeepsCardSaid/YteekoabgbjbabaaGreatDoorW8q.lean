import Derived.Test.YteekoabgbjbabaaGreatDoorW8b
import Derived.Test.YteekoabgbjbabaaGreatDoorX5i
import Derived.Test.YteekoabgbjbabaaGreatDoorP3
import Derived.Test.YteekoabgbjbabaaGreatDoorC6
namespace Go.Proofs.YteekoabgbjbabaaGreatDoor.Rpl
open Go.RowKit Gf8 Aes By8 Cel Cf Tap Drw Dro Oni Rou
/- Stage 27: the program's Key, Wrap, check. Written by tools/mkW8p.py. -/

theorem pderB (vs vt vi : Value) (key nonce : Nat → Nat) (w : World) (hG : Glob w) (h0 : SliceN w vs 32 key) (h1 : SliceN w vt 16 nonce) (h2 : SliceN w vi 10 bkF) :
    Calls Tryz.prog 20 #[vs, vt, vi, .int .i64 32] w fun e w' => ∃ v', e = .returned (.tuple #[v', .int .i64 ((0 : Nat) : Int)]) ∧ w'.ownsRow w.heap.size 5 1 v' 32 (bytesL 32 (bk key nonce)) ∧ Below w.heap.size w w' := by
  refine (mderive_any vs vt vi 32 16 10 (ci key) (ci nonce) (ci bkF) 32 w hG (by omega) (by omega) (by omega) (toB h0) (toB h1) (toB h2)).mono ?_
  rintro e w' ⟨v', rfl, own, hb⟩
  rw [show expN 32 = 32 from rfl, ← bk_ci, vals_ci] at own
  exact ⟨v', rfl, own, hb⟩
set_option maxRecDepth 100000 in
set_option maxHeartbeats 4000000 in
/-- The program's Key. -/
theorem pkey27 (key nonce : Nat → Nat) (lk : Nat) (v : Value) (V : World) (hG : Glob V) (hn : By nonce) (hv : SliceN V v lk key) :
    Calls Tryz.prog 9 #[v, .agg (bA 16 nonce)] V fun e w' => (∃ r, e = .returned (.tuple #[r, .int .i64 ((keE lk : Nat) : Int)]) ∧ w'.ownsRow V.heap.size 5 1 r (keN lk) (bytesL (keN lk) (bk key nonce))) ∧ Below V.heap.size V w' := by
  go_enter Tryz.func9, Tryz.ntmps9
  refine wo_ 16 [(0, v), (1, .agg (bA 16 nonce))] ?_
  rintro a A ⟨t0, t1, -⟩
  have BW : Below V.heap.size V V := Below.refl _ _
  have BB := BW
  refine wp_seq ?_
  obtain ⟨g3, egg3⟩ : ∃ z_ : Nat, V.heap.size = z_ := ⟨_, rfl⟩
  refine wi_ A (h2_ t0 t1) (rs_ 0 (fun a ee => ?_))
  refine stepV rfl rfl (execBx16 rfl (ee _)) ⟨.pointer (some ⟨g3, 0, none⟩), ⟨_, rfl, by subst egg3; rfl⟩, fun X0 hX => ?_⟩
  have bQ : Below V.heap.size V X0 := by subst hX egg3; exact (belNew V _)
  have Fg3 : (X0.heap[g3]? = some (.cells (bA 16 nonce) 35)) := by subst hX egg3; exact heapNew V _
  replace BB := BB.trans (bQ.mono BB.size)
  clear bQ hX egg3 ee a
  refine rf_ [(3, .pointer (some ⟨g3, 0, none⟩)), (4, .slice none 0 0), (5, .int .i64 ((0 : Nat) : Int))] (h1_ t0) ?_
  rintro a A ⟨t3, t4, t5, -⟩ ⟨t0, -⟩
  refine wp_seq ?_
  refine wp_seq ?_
  by_cases h1 : lk = 32
  · subst h1
    refine wi_ A (h4_ t0 t3 t4 t5) (rv_ 1 (.int .i64 ((32 : Nat) : Int)) (fun a ee => execLenV (len := 32) rfl (ee _) (shp (hv.on BB))) (rv_ 2 (.bool false) (fun a ee => execDec (execNeN (p := 32) (q := 32) rfl (ee _) rfl) (decide_eq_false (by omega))) (rf_ [(8, .bool false)] (h2_ t0 t3) ?_)))
    rintro a A ⟨t8, -⟩ ⟨t0, t3, -⟩
    refine wp_cond_false t8 ?_
    refine wp_skip ?_
    clear t8
    have FN : SliceN X0 (.slice (some ⟨g3, 0, none⟩) 16 16) 16 nonce := slice16 Fg3 hn
    clear Fg3
    refine wp_seq ?_
    obtain ⟨g11, egg11⟩ : ∃ z_ : Nat, X0.heap.size = z_ := ⟨_, rfl⟩
    refine wi_ A (h2_ t0 t3) (rv_ 1 (.slice (some ⟨g3, 0, none⟩) 16 16) (fun a ee => execSl16 rfl (ee _)) (rs_ 2 (fun a ee => ?_)))
    refine stepV rfl rfl (execBsBk rfl) ⟨.slice (some ⟨g11, 0, none⟩) 10 10, ⟨_, rfl, by subst egg11; rfl⟩, fun X3_1 hX => ?_⟩
    have bQ : Below X0.heap.size X0 X3_1 := by subst hX egg11; exact (belNew X0 _)
    have FL : (X3_1.heap[g11]? = some (.cells (bA 10 bkF) 5)) := by subst hX egg11; exact heapNew X0 _
    have FG : (V.heap.size ≤ g11) := by subst hX egg11; exact (BB).size
    replace FN := (FN.on bQ)
    replace BB := BB.trans (bQ.mono BB.size)
    clear bQ hX egg11 ee a
    refine rs_ 3 (fun a ee => ?_)
    refine stepV rfl rfl (execCvB7 rfl (ee _) FL) ⟨_, ⟨_, rfl, rfl⟩, fun X3_2 hX => ?_⟩
    obtain ⟨BB, FN, FK⟩ : Below V.heap.size V X3_2 ∧ (SliceN X3_2 (.slice (some ⟨g3, 0, none⟩) 16 16) 16 nonce) ∧ (SliceN X3_2 (.slice (some ⟨g11, 0, none⟩) 10 10) 10 bkF) := by subst hX; exact ⟨frz_bel BB FG, (frz_sl FN), frz_sl (bk_slice FL)⟩
    clear FL FG hX ee a
    refine rc_ 4 (pderB _ _ _ key nonce X3_2 (hG.below BB hG.sz) (hv.on BB) FN FK) fun e X3 hh => ?_
    obtain ⟨v13, he, hk, hb⟩ := hh
    refine ⟨_, he, ?_⟩
    have bQ : Below X3_2.heap.size X3_2 X3 := hb
    have FR : (X3.ownsRow V.heap.size 5 1 v13 32 (bytesL 32 (bk key nonce))) := own_base hk (BB).size
    replace FN := (FN.on bQ)
    replace FK := (FK.on bQ)
    replace BB := BB.trans (bQ.mono BB.size)
    clear bQ
    refine rg_ [(4, v13), (5, .int .i64 ((0 : Nat) : Int))] ?_
    rintro a A ⟨t4, t5, -⟩
    refine wp_ret ?_
    repeat (first | with_reducible refine ret_in ?_ | with_reducible refine ret_then ?_)
    refine bodyPost_ret (results_tmp2 rfl _ _ _) A.2 ⟨⟨_, ?_, FR⟩, BB⟩
    show Ending.returned (.tuple #[a.eval (.tmp 4), a.eval (.tmp 5)]) = _
    rw [t4, t5]
    rfl
  · refine wi_ A (h4_ t0 t3 t4 t5) (rv_ 1 (.int .i64 ((lk : Nat) : Int)) (fun a ee => execLenV (len := lk) rfl (ee _) (shp (hv.on BB))) (rv_ 2 (.bool true) (fun a ee => execDec (execNeN (p := lk) (q := 32) rfl (ee _) rfl) (decide_eq_true (by omega))) (rf_ [(8, .bool true)] (h1_ t0) ?_)))
    rintro a A ⟨t8, -⟩ ⟨t0, -⟩
    refine wp_cond_true t8 ?_
    clear t8
    refine wp_seq ?_
    refine wi_ A (h1_ t0) (rg_ [(4, .slice none 0 0), (5, .int .i64 ((2 : Nat) : Int))] ?_)
    rintro a A ⟨t4, t5, -⟩
    rw [show keE lk = 2 from if_neg h1, show keN lk = 0 from if_neg h1]
    refine wp_ret ?_
    repeat (first | with_reducible refine ret_in ?_ | with_reducible refine ret_then ?_)
    refine bodyPost_ret (results_tmp2 rfl _ _ _) A.2 ⟨⟨_, ?_, World.ownsRow_nil _ _ _ _⟩, BB⟩
    show Ending.returned (.tuple #[a.eval (.tmp 4), a.eval (.tmp 5)]) = _
    rw [t4, t5]
set_option maxRecDepth 100000 in
set_option maxHeartbeats 4000000 in
/-- The program's Wrap. -/
theorem pwrap27 (key nonce inner : Nat → Nat) (lk n : Nat) (left : Int) (v vi : Value) (V : World) (hG : Glob V) (hn : By nonce) (hv : SliceN V v lk key) (hi : SliceN V vi n inner) (hnl : n ≤ 140737488351232) :
    Calls Tryz.prog 10 #[v, .agg (bA 16 nonce), .int .i64 left, vi] V fun e w' => (∃ r, e = .returned (.tuple #[r, .int .i64 ((wrE lk left n : Nat) : Int)]) ∧ w'.ownsRow V.heap.size 5 1 r (wrN lk left n) (bytesL (wrN lk left n) (wrF (bk key nonce) nonce left.toNat n inner))) ∧ Below V.heap.size V w' := by
  go_enter Tryz.func10, Tryz.ntmps10
  refine wo_ 28 [(0, v), (1, .agg (bA 16 nonce)), (2, .int .i64 left), (3, vi)] ?_
  rintro a A ⟨t0, t1, t2, t3, -⟩
  have BW : Below V.heap.size V V := Below.refl _ _
  have BB := BW
  refine wp_seq ?_
  obtain ⟨g5, egg5⟩ : ∃ z_ : Nat, V.heap.size = z_ := ⟨_, rfl⟩
  refine wi_ A (h4_ t0 t1 t2 t3) (rs_ 0 (fun a ee => ?_))
  refine stepV rfl rfl (execBx16 rfl (ee _)) ⟨.pointer (some ⟨g5, 0, none⟩), ⟨_, rfl, by subst egg5; rfl⟩, fun X0 hX => ?_⟩
  have bQ : Below V.heap.size V X0 := by subst hX egg5; exact (belNew V _)
  have Fg5 : (X0.heap[g5]? = some (.cells (bA 16 nonce) 35)) := by subst hX egg5; exact heapNew V _
  replace BB := BB.trans (bQ.mono BB.size)
  clear bQ hX egg5 ee a
  refine rf_ [(5, .pointer (some ⟨g5, 0, none⟩))] (h3_ t0 t2 t3) ?_
  rintro a A ⟨t5, -⟩ ⟨t0, t2, t3, -⟩
  refine wp_seq ?_
  refine wi_ A (h4_ t0 t2 t3 t5) (rv_ 1 (.agg (bA 16 nonce)) (fun a ee => execLdH16 Fg5 rfl (ee _)) (rc_ 2 (pkey27 key nonce lk _ X0 (hG.below BB hG.sz) hn (hv.on BB)) fun e X1 hh => ?_))
  obtain ⟨⟨v15, he, hk⟩, hb⟩ := hh
  refine ⟨_, he, ?_⟩
  have bQ : Below X0.heap.size X0 X1 := hb
  have FR : (X1.ownsRow V.heap.size 5 1 v15 (keN lk) (bytesL (keN lk) (bk key nonce))) := own_base hk (BB).size
  replace Fg5 := (on9 Fg5 bQ)
  replace BB := BB.trans (bQ.mono BB.size)
  clear bQ
  refine rf_ [(10, v15), (11, .int .i64 ((keE lk : Nat) : Int))] (h3_ t2 t3 t5) ?_
  rintro a A ⟨t10, t11, -⟩ ⟨t2, t3, t5, -⟩
  refine wp_seq ?_
  refine wp_seq ?_
  by_cases h1 : lk = 32
  · have e0 : keE lk = 0 := if_pos h1
    refine wi_ A (h5_ t2 t3 t5 t10 t11) (rv_ 1 (.bool false) (fun a ee => execDec (execNeE (p := keE lk) (q := 0) rfl (ee _) rfl) (decide_eq_false (by omega))) (rf_ [(19, .bool false)] (h4_ t2 t3 t5 t10) ?_))
    rintro a A ⟨t19, -⟩ ⟨t2, t3, t5, t10, -⟩
    refine wp_cond_false t19 ?_
    refine wp_skip ?_
    clear t19
    replace FR : SliceN X1 v15 32 (bk key nonce) := by rw [show keN lk = 32 from if_pos h1] at FR; exact own_slice FR fun j _ => bk_lt _ _ j
    refine wp_seq ?_
    refine wi_ A (h4_ t2 t3 t5 t10) (rv_ 1 (.agg (bA 16 nonce)) (fun a ee => execLdH16 Fg5 rfl (ee _)) (rc_ 4 (wrap_any (bk key nonce) nonce inner 32 n left _ _ X1 (hG.below BB hG.sz) FR hn (hi.on BB) hnl) fun e X4 hh => ?_))
    obtain ⟨v25, he, hk, hb⟩ := hh
    refine ⟨_, he, ?_⟩
    have bQ : Below X1.heap.size X1 X4 := hb
    have FO : (X4.ownsRow V.heap.size 5 1 v25 (wrN 32 left n) (bytesL (wrN 32 left n) (wrF (bk key nonce) nonce left.toNat n inner))) := own_base hk (BB).size
    replace Fg5 := (on9 Fg5 bQ)
    replace FR := (FR.on bQ)
    replace BB := BB.trans (bQ.mono BB.size)
    clear bQ
    refine rg_ [(8, v25), (9, .int .i64 ((wrE 32 left n : Nat) : Int))] ?_
    rintro a A ⟨t8, t9, -⟩
    rw [h1]
    refine wp_ret ?_
    repeat (first | with_reducible refine ret_in ?_ | with_reducible refine ret_then ?_)
    refine bodyPost_ret (results_tmp2 rfl _ _ _) A.2 ⟨⟨_, ?_, FO⟩, BB⟩
    show Ending.returned (.tuple #[a.eval (.tmp 8), a.eval (.tmp 9)]) = _
    rw [t8, t9]
  · have e0 : keE lk = 2 := if_neg h1
    refine wi_ A (h5_ t2 t3 t5 t10 t11) (rv_ 1 (.bool true) (fun a ee => execDec (execNeE (p := keE lk) (q := 0) rfl (ee _) rfl) (decide_eq_true (by omega))) (rf_ [(19, .bool true)] (h1_ t11) ?_))
    rintro a A ⟨t19, -⟩ ⟨t11, -⟩
    refine wp_cond_true t19 ?_
    clear t19
    refine wp_seq ?_
    refine wi_ A (h1_ t11) (rg_ [(8, .slice none 0 0), (9, .int .i64 ((keE lk : Nat) : Int))] ?_)
    rintro a A ⟨t8, t9, -⟩
    have ew : wrE lk left n = 2 := if_pos (Or.inl h1)
    rw [ew, show wrN lk left n = 0 by unfold wrN; rw [ew]; rfl, ← e0]
    refine wp_ret ?_
    repeat (first | with_reducible refine ret_in ?_ | with_reducible refine ret_then ?_)
    refine bodyPost_ret (results_tmp2 rfl _ _ _) A.2 ⟨⟨_, ?_, World.ownsRow_nil _ _ _ _⟩, BB⟩
    show Ending.returned (.tuple #[a.eval (.tmp 8), a.eval (.tmp 9)]) = _
    rw [t8, t9]
set_option maxRecDepth 100000 in
set_option maxHeartbeats 4000000 in
/-- The program's check. -/
theorem pcheck27 (h hn : Nat) (kv nv : Value) (xv : Nat → Value) (lk : Nat → Nat) (key q : Nat → Nat → Nat) (V : World) (hK : Ls V kv h xv lk key) (hN : Nons V nv hn q) (hh : h ≤ 140737488351232) :
    Calls Tryz.prog 15 #[kv, nv] V fun e w' => e = .returned (.int .i64 ((wgE h hn lk : Nat) : Int)) ∧ Below V.heap.size V w' := by
  go_enter Tryz.func15, Tryz.ntmps15
  refine wo_ 32 [(0, kv), (1, nv)] ?_
  rintro a A ⟨t0, t1, -⟩
  have BW : Below V.heap.size V V := Below.refl _ _
  have BB := BW
  refine wp_seq ?_
  refine wi_ A (h2_ t0 t1) (rf_ [] (h2_ t0 t1) ?_)
  rintro a A - ⟨t0, t1, -⟩
  refine wp_seq ?_
  refine wp_seq ?_
  by_cases h1 : h < 1
  · refine wi_ A (h2_ t0 t1) (rv_ 1 (.int .i64 ((h : Nat) : Int)) (fun a ee => execLenLL rfl (ee _) (hK.on BB).shp) (rv_ 2 (.bool true) (fun a ee => execDec (execLtW (p := h) (q := 1) rfl (ee _) rfl) (decide_eq_true (by omega))) (rf_ [(21, .bool true)] (h2_ t0 t1) ?_)))
    rintro a A ⟨t21, -⟩ ⟨t0, t1, -⟩
    refine wp_cond_true t21 ?_
    clear t21
    refine wp_seq ?_
    refine wi_ A (h2_ t0 t1) (rg_ [(4, .int .i64 ((80 : Nat) : Int))] ?_)
    rintro a A ⟨t4, -⟩
    rw [show wgE h hn lk = 80 from if_pos (by omega)]
    refine wp_ret ?_
    repeat (first | with_reducible refine ret_in ?_ | with_reducible refine ret_then ?_)
    refine bodyPost_ret (results_tmp rfl _ _ _) A.2 ⟨?_, BB⟩
    show Ending.returned (a.eval (.tmp 4)) = _
    rw [t4]
  by_cases h2 : 8 < h
  · refine wi_ A (h2_ t0 t1) (rv_ 1 (.int .i64 ((h : Nat) : Int)) (fun a ee => execLenLL rfl (ee _) (hK.on BB).shp) (rv_ 2 (.bool false) (fun a ee => execDec (execLtW (p := h) (q := 1) rfl (ee _) rfl) (decide_eq_false (by omega))) (rv_ 5 (.int .i64 ((h : Nat) : Int)) (fun a ee => execLenLL rfl (ee _) (hK.on BB).shp) (rv_ 6 (.bool true) (fun a ee => execDec (execGtN (p := h) (q := 8) rfl (ee _) rfl) (decide_eq_true (by omega))) (rf_ [(21, .bool true)] (h2_ t0 t1) ?_)))))
    rintro a A ⟨t21, -⟩ ⟨t0, t1, -⟩
    refine wp_cond_true t21 ?_
    clear t21
    refine wp_seq ?_
    refine wi_ A (h2_ t0 t1) (rg_ [(4, .int .i64 ((80 : Nat) : Int))] ?_)
    rintro a A ⟨t4, -⟩
    rw [show wgE h hn lk = 80 from if_pos (by omega)]
    refine wp_ret ?_
    repeat (first | with_reducible refine ret_in ?_ | with_reducible refine ret_then ?_)
    refine bodyPost_ret (results_tmp rfl _ _ _) A.2 ⟨?_, BB⟩
    show Ending.returned (a.eval (.tmp 4)) = _
    rw [t4]
  by_cases h3 : hn ≠ h
  · refine wi_ A (h2_ t0 t1) (rv_ 1 (.int .i64 ((h : Nat) : Int)) (fun a ee => execLenLL rfl (ee _) (hK.on BB).shp) (rv_ 2 (.bool false) (fun a ee => execDec (execLtW (p := h) (q := 1) rfl (ee _) rfl) (decide_eq_false (by omega))) (rv_ 5 (.int .i64 ((h : Nat) : Int)) (fun a ee => execLenLL rfl (ee _) (hK.on BB).shp) (rv_ 6 (.bool false) (fun a ee => execDec (execGtN (p := h) (q := 8) rfl (ee _) rfl) (decide_eq_false (by omega))) (rv_ 10 (.int .i64 ((hn : Nat) : Int)) (fun a ee => execLenNs (hN.on BB) rfl (ee _)) (rv_ 12 (.int .i64 ((h : Nat) : Int)) (fun a ee => execLenLL rfl (ee _) (hK.on BB).shp) (rv_ 13 (.bool true) (fun a ee => execDec (execNeN (p := hn) (q := h) rfl (ee _) (ee _)) (decide_eq_true (by omega))) (rf_ [(21, .bool true)] (h2_ t0 t1) ?_))))))))
    rintro a A ⟨t21, -⟩ ⟨t0, t1, -⟩
    refine wp_cond_true t21 ?_
    clear t21
    refine wp_seq ?_
    refine wi_ A (h2_ t0 t1) (rg_ [(4, .int .i64 ((80 : Nat) : Int))] ?_)
    rintro a A ⟨t4, -⟩
    rw [show wgE h hn lk = 80 from if_pos (by omega)]
    refine wp_ret ?_
    repeat (first | with_reducible refine ret_in ?_ | with_reducible refine ret_then ?_)
    refine bodyPost_ret (results_tmp rfl _ _ _) A.2 ⟨?_, BB⟩
    show Ending.returned (a.eval (.tmp 4)) = _
    rw [t4]
  refine wi_ A (h2_ t0 t1) (rv_ 1 (.int .i64 ((h : Nat) : Int)) (fun a ee => execLenLL rfl (ee _) (hK.on BB).shp) (rv_ 2 (.bool false) (fun a ee => execDec (execLtW (p := h) (q := 1) rfl (ee _) rfl) (decide_eq_false (by omega))) (rv_ 5 (.int .i64 ((h : Nat) : Int)) (fun a ee => execLenLL rfl (ee _) (hK.on BB).shp) (rv_ 6 (.bool false) (fun a ee => execDec (execGtN (p := h) (q := 8) rfl (ee _) rfl) (decide_eq_false (by omega))) (rv_ 10 (.int .i64 ((hn : Nat) : Int)) (fun a ee => execLenNs (hN.on BB) rfl (ee _)) (rv_ 12 (.int .i64 ((h : Nat) : Int)) (fun a ee => execLenLL rfl (ee _) (hK.on BB).shp) (rv_ 13 (.bool false) (fun a ee => execDec (execNeN (p := hn) (q := h) rfl (ee _) (ee _)) (decide_eq_false (by omega))) (rf_ [(21, .bool false)] (h2_ t0 t1) ?_))))))))
  rintro a A ⟨t21, -⟩ ⟨t0, t1, -⟩
  refine wp_cond_false t21 ?_
  refine wp_skip ?_
  clear t21
  have e0 : wgE h hn lk = if ksOk h lk then 0 else 2 := if_neg (by omega)
  refine wp_seq ?_
  refine wp_seq ?_
  refine wi_ A (h2_ t0 t1) (rv_ 1 (.int .i64 ((h : Nat) : Int)) (fun a ee => execLenLL rfl (ee _) (hK.on BB).shp) (rg_ [(22, kv), (23, .int .i64 ((h : Nat) : Int)), (24, .int .i64 ((0 : Nat) : Int))] ?_))
  rintro a A ⟨t22, t23, t24, -⟩
  refine wp_block ?_
  refine wp_loop (fun a W => ∃ (i : Nat), i ≤ h ∧ (∀ k, k < i → lk k = 32) ∧ (a.tmps.size = 32 ∧ a.defers = []) ∧ a.eval (.tmp 22) = kv ∧ a.eval (.tmp 23) = .int .i64 ((h : Nat) : Int) ∧ a.eval (.tmp 24) = .int .i64 ((i : Nat) : Int) ∧ Below V.heap.size V W) (fun a _ => h - (intOf (a.eval (.tmp 24))).toNat) ⟨0, Nat.zero_le _, fun k hk => absurd hk (Nat.not_lt_zero k), A, t22, t23, t24, BB⟩ ?_
  clear A t22 t23 t24 BB a
  rintro a XL4 ⟨i, hi, hs, A, t22, t23, t24, BB⟩
  have esi := t24
  refine wp_seq ?_
  refine wi_ A (h3_ t22 t23 t24) (rv_ 0 (.bool (decide (i < h))) (fun a ee => execLtW (p := i) (q := h) rfl (ee _) (ee _)) (rf_ [(25, .bool (decide (i < h)))] (h3_ t22 t23 t24) ?_))
  rintro a A ⟨t25, -⟩ ⟨t22, t23, t24, -⟩
  refine wp_seq ?_
  by_cases lti : i < h
  · rw [decide_eq_true lti] at t25
    refine wp_cond_true t25 ?_
    refine wp_skip ?_
    clear t25
    refine wp_seq ?_
    refine wp_block ?_
    refine wp_seq ?_
    refine wi_ A (h3_ t22 t23 t24) (rv_ 0 (.pointer (some ⟨adB kv, adO kv + i, none⟩)) (fun a ee => execIdxLs (k := i) (hK.on BB) rfl (ee _) (ee _) lti) (rv_ 1 (xv i) (fun a ee => execLdLs (k := i) (hK.on BB) rfl (ee _) lti) (rf_ [(6, xv i)] (h3_ t22 t23 t24) ?_)))
    rintro a A ⟨t6, -⟩ ⟨t22, t23, t24, -⟩
    refine wp_seq ?_
    by_cases h4 : lk i = 32
    · refine wi_ A (h4_ t6 t22 t23 t24) (rv_ 1 (.int .i64 ((lk i : Nat) : Int)) (fun a ee => execLenV (len := lk i) rfl (ee _) (shp (((hK.on BB).cell i lti)))) (rv_ 2 (.bool false) (fun a ee => execDec (execNeN (p := lk i) (q := 32) rfl (ee _) rfl) (decide_eq_false (by omega))) (rf_ [(30, .bool false)] (h3_ t22 t23 t24) ?_)))
      rintro a A ⟨t30, -⟩ ⟨t22, t23, t24, -⟩
      refine wp_cond_false t30 ?_
      refine wp_skip ?_
      clear t30
      have hs2 : ∀ k, k < i + 1 → lk k = 32 := fun k hk => by
        by_cases e : k = i
        · subst e; exact h4
        · exact hs k (by omega)
      refine wi_ A (h3_ t22 t23 t24) (rv_ 0 (.int .i64 ((i + 1 : Nat) : Int)) (fun a ee => execAd8 (p := i) (q := 1) rfl (ee _) rfl (by omega)) (rf_ [(24, .int .i64 ((i + 1 : Nat) : Int))] (h2_ t22 t23) ?_))
      rintro a A ⟨t24, -⟩ ⟨t22, t23, -⟩
      exact ⟨⟨i + 1, lti, hs2, A, t22, t23, t24, BB⟩, by show h - (intOf (a.eval (.tmp 24))).toNat < h - (intOf (Act.eval _ (.tmp 24))).toNat; rw [t24, esi]; show h - (i + 1) < h - i; omega⟩
    · refine wi_ A (h4_ t6 t22 t23 t24) (rv_ 1 (.int .i64 ((lk i : Nat) : Int)) (fun a ee => execLenV (len := lk i) rfl (ee _) (shp (((hK.on BB).cell i lti)))) (rv_ 2 (.bool true) (fun a ee => execDec (execNeN (p := lk i) (q := 32) rfl (ee _) rfl) (decide_eq_true (by omega))) (rg_ [(30, .bool true)] ?_)))
      rintro a A ⟨t30, -⟩
      refine wp_cond_true t30 ?_
      clear t30
      refine wp_seq ?_
      refine wi_ A h0_ (rg_ [(4, .int .i64 ((2 : Nat) : Int))] ?_)
      rintro a A ⟨t4, -⟩
      rw [e0, if_neg (fun hx => h4 ((ksOk_iff h lk).1 hx i lti))]
      refine wp_ret ?_
      repeat (first | with_reducible refine ret_in ?_ | with_reducible refine ret_then ?_)
      refine bodyPost_ret (results_tmp rfl _ _ _) A.2 ⟨?_, BB⟩
      show Ending.returned (a.eval (.tmp 4)) = _
      rw [t4]
  · rw [decide_eq_false lti] at t25
    refine wp_cond_false t25 ?_
    refine wp_exit ?_
    first | with_reducible refine exit_in ?_ | with_reducible refine exit_then (exit_in ?_) | with_reducible refine exit_then (exit_then (exit_in ?_)) | refine exit_in ?_ | refine exit_then (exit_in ?_) | refine exit_then (exit_then (exit_in ?_))
    clear t25 esi
    have ein : i = h := (by omega)
    rw [ein] at hs
    refine wp_seq ?_
    refine wi_ A (h3_ t22 t23 t24) (rg_ [(4, .int .i64 ((0 : Nat) : Int))] ?_)
    rintro a A ⟨t4, -⟩
    rw [e0, if_pos ((ksOk_iff h lk).2 hs)]
    refine wp_ret ?_
    repeat (first | with_reducible refine ret_in ?_ | with_reducible refine ret_then ?_)
    refine bodyPost_ret (results_tmp rfl _ _ _) A.2 ⟨?_, BB⟩
    show Ending.returned (a.eval (.tmp 4)) = _
    rw [t4]
end Go.Proofs.YteekoabgbjbabaaGreatDoor.Rpl

namespace Go.Proofs.YteekoabgbjbabaaGreatDoor.Rpl
open Go.RowKit Gf8 Aes By8 Cel Cf Tap Drw Dro Oni Rou
/- Stage 27: the program's layered, Chain. Written by tools/mkW8q.py. -/

theorem pwrapL {h n m : Nat} {kv nv ov : Value} {xv : Nat → Value} {lk : Nat → Nat} {key q : Nat → Nat → Nat} {p : Nat → Nat} {V : World} (hG0 : ∀ W, Below V.heap.size V W → Glob W) (hK : Ls V kv h xv lk key) (hN : Nons V nv h q) (hk : ∀ i, i < h → lk i = 32) (h8 : h ≤ 8) (hm : m < h) (hn : n ≤ 48) (hp : ∀ j, j < n → p j < 256) (X : World) (hX : Below V.heap.size V X) (ho : SliceN X ov (loN n m) (loF h (bks key q) q n p m)) :
    Calls Tryz.prog 10 #[xv (h - (m + 1)), .agg (bA 16 (q (h - (m + 1)))), .int .i64 ((m + 1 : Nat) : Int), ov] X fun e w' => ∃ r, e = .returned (.tuple #[r, .int .i64 ((0 : Nat) : Int)]) ∧ SliceN w' r (loN n (m + 1)) (loF h (bks key q) q n p (m + 1)) ∧ (∀ l c, r = .slice none l c → c = 0) ∧ Below X.heap.size X w' := by
  obtain ⟨e1, e2⟩ := lay_e hn (show m < 8 by omega)
  have hi : h - (m + 1) < h := by omega
  refine (pwrap27 (key (h - (m + 1))) (q (h - (m + 1))) (loF h (bks key q) q n p m) (lk (h - (m + 1))) (loN n m) ((m + 1 : Nat) : Int) (xv (h - (m + 1))) ov X (hG0 X hX) (hN.by_ _ hi) ((hK.cell _ hi).on hX) ho (Nat.le_trans (loN_le hn (by omega)) (by omega))).mono ?_
  rintro e w' ⟨⟨r, he, hr⟩, hb⟩
  rw [hk _ hi, e1] at he
  rw [hk _ hi, e2] at hr
  exact ⟨r, he, own_slice hr fun j hj => loF_lt hN.by_ hn hp (m + 1) (by omega) (by omega) j hj, own_nilI hr, hb⟩
theorem ppadL {h n : Nat} {ov : Value} {key q : Nat → Nat → Nat} {p : Nat → Nat} (h8 : h ≤ 8) (hn : n ≤ 48) (X : World) (ho : SliceN X ov (loN n h) (loF h (bks key q) q n p h)) (hz : ∀ l c, ov = .slice none l c → c = 0) :
    Calls Tryz.prog 17 #[ov] X fun e w' => ∃ r, e = .returned (.tuple #[r, .int .i64 ((0 : Nat) : Int)]) ∧ w'.ownsRow X.heap.size 5 1 r 320 (bytesL 320 (rwF h (bks key q) q n p)) ∧ Below X.heap.size X w' := by
  have hl := loN_le hn h8
  refine (pad_any _ _ ov X ⟨ho, hz⟩ (by omega)).mono ?_
  rintro e w' ⟨r, he, hr, hb⟩
  rw [show okE 320 (loN n h) = 0 from if_pos hl] at he
  rw [show okN 320 (loN n h) = 320 from if_pos hl] at hr
  exact ⟨r, he, hr, hb⟩
set_option maxRecDepth 100000 in
set_option maxHeartbeats 4000000 in
/-- The program's layered. -/
theorem player27 (h : Nat) (kv nv : Value) (xv : Nat → Value) (lk : Nat → Nat) (key q : Nat → Nat → Nat) (n : Nat) (p : Nat → Nat) (pv : Value) (V : World) (hG : Glob V) (hK : Ls V kv h xv lk key) (hN : Nons V nv h q) (w1 : 1 ≤ h) (h8_ : h ≤ 8) (w4 : ∀ i, i < h → lk i = 32) (hn8 : n ≤ 48) (hP : SliceN V pv n p) (hPz : ∀ l c, pv = .slice none l c → c = 0) :
    Calls Tryz.prog 16 #[kv, nv, pv] V fun e w' => (∃ r, e = .returned (.tuple #[r, .int .i64 ((0 : Nat) : Int)]) ∧ SliceN w' r (loN n h) (loF h (bks key q) q n p h) ∧ ∀ l c, r = .slice none l c → c = 0) ∧ Below V.heap.size V w' := by
  go_enter Tryz.func16, Tryz.ntmps16
  refine wo_ 43 [(0, kv), (1, nv), (2, pv)] ?_
  rintro a A ⟨t0, t1, t2, -⟩
  have BW : Below V.heap.size V V := Below.refl _ _
  have BB := BW
  refine wp_seq ?_
  refine wi_ A (h3_ t0 t1 t2) (rf_ [] (h3_ t0 t1 t2) ?_)
  rintro a A - ⟨t0, t1, t2, -⟩
  refine wp_seq ?_
  refine wi_ A (h3_ t0 t1 t2) (rf_ [(8, pv)] (h2_ t0 t1) ?_)
  rintro a A ⟨t8, -⟩ ⟨t0, t1, -⟩
  refine wp_seq ?_
  refine wp_seq ?_
  refine wi_ A (h3_ t0 t1 t8) (rf_ [(9, .int .i64 ((1 : Nat) : Int))] (h3_ t0 t1 t8) ?_)
  rintro a A ⟨t9, -⟩ ⟨t0, t1, t8, -⟩
  have FO : (SliceN V pv (loN n 0) (loF h (bks key q) q n p 0)) := hP.on BB
  refine wp_block ?_
  refine wp_loop (fun a W => ∃ (m : Nat) (ov : Value), m ≤ h ∧ (∀ l c, ov = .slice none l c → c = 0) ∧ (a.tmps.size = 43 ∧ a.defers = []) ∧ a.eval (.tmp 0) = kv ∧ a.eval (.tmp 1) = nv ∧ a.eval (.tmp 8) = ov ∧ a.eval (.tmp 9) = .int .i64 ((m + 1 : Nat) : Int) ∧ Below V.heap.size V W ∧ (SliceN W ov (loN n m) (loF h (bks key q) q n p m))) (fun a _ => h + 1 - (intOf (a.eval (.tmp 9))).toNat) ⟨0, pv, Nat.zero_le _, hPz, A, t0, t1, t8, t9, BB, FO⟩ ?_
  clear A t0 t1 t8 t9 BB FO a
  rintro a XL ⟨m, ov, hm, hz, A, t0, t1, t8, t9, BB, FO⟩
  have es := t9
  refine wp_seq ?_
  refine wp_seq ?_
  by_cases hlt : m < h
  · refine wi_ A (h4_ t0 t1 t8 t9) (rv_ 2 (.int .i64 ((h : Nat) : Int)) (fun a ee => execLenLL rfl (ee _) (hK.on BB).shp) (rv_ 3 (.bool true) (fun a ee => execDec (execLeN (p := m + 1) (q := h) rfl (ee _) (ee _)) (decide_eq_true (by omega))) (rf_ [(17, .bool true)] (h4_ t0 t1 t8 t9) ?_)))
    rintro a A ⟨t17, -⟩ ⟨t0, t1, t8, t9, -⟩
    refine wp_cond_true t17 ?_
    refine wp_skip ?_
    clear t17
    obtain ⟨le1, le2⟩ := lay_e hn8 (show m < 8 by omega)
    have lki := w4 (h - (m + 1)) (by omega)
    have lol := loN_le hn8 (show m ≤ 8 by omega)
    refine wp_seq ?_
    refine wp_block ?_
    refine wp_seq ?_
    refine wi_ A (h4_ t0 t1 t8 t9) (rv_ 1 (.int .i64 ((h : Nat) : Int)) (fun a ee => execLenLL rfl (ee _) (hK.on BB).shp) (rv_ 3 (.int .i64 ((h - (m + 1) : Nat) : Int)) (fun a ee => execSubJ (p := h) (q := m + 1) (r := h - (m + 1)) rfl (ee _) (ee _) (by omega) (by omega)) (rf_ [(10, .int .i64 ((h - (m + 1) : Nat) : Int))] (h4_ t0 t1 t8 t9) ?_)))
    rintro a A ⟨t10, -⟩ ⟨t0, t1, t8, t9, -⟩
    refine wp_seq ?_
    refine wj_ [0, 1, 2, 3, 4, 5, 6, 7, 8, 9, 10, 11, 12, 13, 14, 15] [10] [2, 3, 6, 7] [] A (h5_ t0 t1 t8 t9 t10) (fun X6_0 bD => ?_)
    refine dv_ 2 (.pointer (some ⟨adB kv, adO kv + (h - (m + 1)), none⟩)) (fun a X ee hb => execIdxLs (k := h - (m + 1)) (hK.on (BB.trans (hb.mono BB.size))) rfl (ee _) (ee _) (show h - (m + 1) < h by omega)) (dv_ 3 (xv (h - (m + 1))) (fun a X ee hb => execLdLs (k := h - (m + 1)) (hK.on (BB.trans (hb.mono BB.size))) rfl (ee _) (show h - (m + 1) < h by omega)) (dv_ 6 (.pointer (some ⟨adB nv, adO nv + (h - (m + 1)) * 16, none⟩)) (fun a X ee hb => execIdxNs (k := h - (m + 1)) (hN.on (BB.trans (hb.mono BB.size))) rfl (ee _) (ee _) (show h - (m + 1) < h by omega)) (dv_ 7 (.agg (bA 16 (q (h - (m + 1))))) (fun a X ee hb => execLdNs (k := h - (m + 1)) (hN.on (BB.trans (hb.mono BB.size))) rfl (ee _) (show h - (m + 1) < h by omega)) (dc_ 10 (pwrapL (fun W_ b_ => hG.below b_ hG.sz) hK hN w4 h8_ hlt hn8 hP.bytes X6_0 (BB.trans (bD.mono BB.size)) (FO.on bD)) fun e X6 hh => ?_))))
    obtain ⟨v35, he, hk, hz_, hb⟩ := hh
    refine ⟨_, he, ?_⟩
    have bQ : Below X6_0.heap.size X6_0 X6 := hb
    have FO2 : (SliceN X6 v35 (loN n (m + 1)) (loF h (bks key q) q n p (m + 1))) := hk
    have FZ : (∀ l c, v35 = .slice none l c → c = 0) := hz_
    replace bD := bD.trans (bQ.mono bD.size)
    clear bQ FO
    refine ⟨Or.inr bD, ?_⟩
    refine dz_ [(11, v35), (12, .int .i64 ((0 : Nat) : Int))] (h3_ t0 t1 t9) ?_
    rintro a A ⟨t11, t12, -⟩ ⟨t0, t1, t9, -⟩
    replace BB := BB.trans (bD.mono BB.size)
    clear bD
    refine wp_seq ?_
    refine wp_seq ?_
    refine wi_ A (h5_ t0 t1 t9 t11 t12) (rv_ 1 (.bool false) (fun a ee => execDec (execNeE (p := 0) (q := 0) rfl (ee _) rfl) (decide_eq_false (by decide))) (rf_ [(39, .bool false)] (h4_ t0 t1 t9 t11) ?_))
    rintro a A ⟨t39, -⟩ ⟨t0, t1, t9, t11, -⟩
    refine wp_cond_false t39 ?_
    refine wp_skip ?_
    clear t39
    refine wi_ A (h4_ t0 t1 t9 t11) (rf_ [(8, v35)] (h3_ t0 t1 t9) ?_)
    rintro a A ⟨t8, -⟩ ⟨t0, t1, t9, -⟩
    refine wi_ A (h4_ t0 t1 t8 t9) (rv_ 1 (.int .i64 ((m + 1 + 1 : Nat) : Int)) (fun a ee => execAd8 (p := m + 1) (q := 1) rfl (ee _) rfl (by omega)) (rf_ [(9, .int .i64 ((m + 1 + 1 : Nat) : Int))] (h3_ t0 t1 t8) ?_))
    rintro a A ⟨t9, -⟩ ⟨t0, t1, t8, -⟩
    exact ⟨⟨m + 1, v35, hlt, FZ, A, t0, t1, t8, t9, BB, FO2⟩, by show h + 1 - (intOf (a.eval (.tmp 9))).toNat < h + 1 - (intOf (Act.eval _ (.tmp 9))).toNat; rw [t9, es]; show h + 1 - (m + 1 + 1) < h + 1 - (m + 1); omega⟩
  · refine wi_ A (h4_ t0 t1 t8 t9) (rv_ 2 (.int .i64 ((h : Nat) : Int)) (fun a ee => execLenLL rfl (ee _) (hK.on BB).shp) (rv_ 3 (.bool false) (fun a ee => execDec (execLeN (p := m + 1) (q := h) rfl (ee _) (ee _)) (decide_eq_false (by omega))) (rf_ [(17, .bool false)] (h1_ t8) ?_)))
    rintro a A ⟨t17, -⟩ ⟨t8, -⟩
    refine wp_cond_false t17 ?_
    refine wp_exit ?_
    first | with_reducible refine exit_in ?_ | with_reducible refine exit_then (exit_in ?_) | with_reducible refine exit_then (exit_then (exit_in ?_)) | refine exit_in ?_ | refine exit_then (exit_in ?_) | refine exit_then (exit_then (exit_in ?_))
    clear t17
    have emh : m = h := (by omega)
    rw [emh] at FO
    refine wp_seq ?_
    refine wi_ A (h1_ t8) (rg_ [(6, ov), (7, .int .i64 ((0 : Nat) : Int))] ?_)
    rintro a A ⟨t6, t7, -⟩
    refine wp_ret ?_
    repeat (first | with_reducible refine ret_in ?_ | with_reducible refine ret_then ?_)
    refine bodyPost_ret (results_tmp2 rfl _ _ _) A.2 ⟨⟨_, ?_, FO, hz⟩, BB⟩
    show Ending.returned (.tuple #[a.eval (.tmp 6), a.eval (.tmp 7)]) = _
    rw [t6, t7]
set_option maxRecDepth 100000 in
set_option maxHeartbeats 4000000 in
/-- The program's Chain. -/
theorem pchain27 (h hn : Nat) (kv nv : Value) (xv : Nat → Value) (lk : Nat → Nat) (key q : Nat → Nat → Nat) (V : World) (hG : Glob V) (hK : Ls V kv h xv lk key) (hN : Nons V nv hn q) (hh : h ≤ 140737488351232) (n : Nat) (p : Nat → Nat) (pv : Value) (hP : SliceN V pv n p) (hPz : ∀ l c, pv = .slice none l c → c = 0) :
    Calls Tryz.prog 7 #[kv, nv, pv] V fun e w' => (∃ r, e = .returned (.tuple #[r, .int .i64 ((rwE h hn lk n : Nat) : Int)]) ∧ w'.ownsRow V.heap.size 5 1 r (rwN h hn lk n) (bytesL (rwN h hn lk n) (rwF h (bks key q) q n p))) ∧ Below V.heap.size V w' := by
  go_enter Tryz.func7, Tryz.ntmps7
  refine wo_ 34 [(0, kv), (1, nv), (2, pv)] ?_
  rintro a A ⟨t0, t1, t2, -⟩
  have BW : Below V.heap.size V V := Below.refl _ _
  have BB := BW
  refine wp_seq ?_
  refine wi_ A (h3_ t0 t1 t2) (rf_ [] (h3_ t0 t1 t2) ?_)
  rintro a A - ⟨t0, t1, t2, -⟩
  refine wp_seq ?_
  refine wp_seq ?_
  refine wi_ A (h3_ t0 t1 t2) (rc_ 2 (pcheck27 h hn kv nv xv lk key q V (hK.on BB) (hN.on BB) hh) (cb_ fun X1 bQ => ?_))
  replace BB := BB.trans (bQ.mono BB.size)
  clear bQ
  refine rf_ [(8, .int .i64 ((wgE h hn lk : Nat) : Int))] (h3_ t0 t1 t2) ?_
  rintro a A ⟨t8, -⟩ ⟨t0, t1, t2, -⟩
  refine wp_seq ?_
  by_cases e1 : wgE h hn lk = 0
  · obtain ⟨w1, w2, w3, w4⟩ := wg_ok e1
    replace w3 := w3.symm
    subst w3
    refine wi_ A (h4_ t0 t1 t2 t8) (rv_ 1 (.bool false) (fun a ee => execDec (execNeE (p := wgE h h lk) (q := 0) rfl (ee _) rfl) (decide_eq_false (by omega))) (rf_ [(15, .bool false)] (h3_ t0 t1 t2) ?_))
    rintro a A ⟨t15, -⟩ ⟨t0, t1, t2, -⟩
    refine wp_cond_false t15 ?_
    refine wp_skip ?_
    clear t15
    refine wp_seq ?_
    refine wp_seq ?_
    by_cases e2 : 48 < n
    · refine wi_ A (h3_ t0 t1 t2) (rv_ 1 (.int .i64 ((n : Nat) : Int)) (fun a ee => execLenV (len := n) rfl (ee _) (shp (hP.on BB))) (rv_ 2 (.bool true) (fun a ee => execDec (execGtN (p := n) (q := 48) rfl (ee _) rfl) (decide_eq_true (by omega))) (rg_ [(19, .bool true)] ?_)))
      rintro a A ⟨t19, -⟩
      refine wp_cond_true t19 ?_
      clear t19
      refine wp_seq ?_
      refine wi_ A h0_ (rg_ [(6, .slice none 0 0), (7, .int .i64 ((1 : Nat) : Int))] ?_)
      rintro a A ⟨t6, t7, -⟩
      have er : rwE h h lk n = 1 := by rw [rw_wg, if_neg (by omega), if_pos e2]
      rw [er, show rwN h h lk n = 0 by unfold rwN; rw [er]; rfl]
      refine wp_ret ?_
      repeat (first | with_reducible refine ret_in ?_ | with_reducible refine ret_then ?_)
      refine bodyPost_ret (results_tmp2 rfl _ _ _) A.2 ⟨⟨_, ?_, World.ownsRow_nil _ _ _ _⟩, BB⟩
      show Ending.returned (.tuple #[a.eval (.tmp 6), a.eval (.tmp 7)]) = _
      rw [t6, t7]
    · refine wi_ A (h3_ t0 t1 t2) (rv_ 1 (.int .i64 ((n : Nat) : Int)) (fun a ee => execLenV (len := n) rfl (ee _) (shp (hP.on BB))) (rv_ 2 (.bool false) (fun a ee => execDec (execGtN (p := n) (q := 48) rfl (ee _) rfl) (decide_eq_false (by omega))) (rf_ [(19, .bool false)] (h3_ t0 t1 t2) ?_)))
      rintro a A ⟨t19, -⟩ ⟨t0, t1, t2, -⟩
      refine wp_cond_false t19 ?_
      refine wp_skip ?_
      clear t19
      have hn8 : n ≤ 48 := (by omega)
      refine wp_seq ?_
      refine wi_ A (h3_ t0 t1 t2) (rc_ 3 (player27 h _ _ xv lk key q n p _ X1 (hG.below BB hG.sz) (hK.on BB) (hN.on BB) w1 w2 w4 hn8 (hP.on BB) hPz) fun e X6 hh => ?_)
      obtain ⟨⟨v24, he, hk, hz_⟩, hb⟩ := hh
      refine ⟨_, he, ?_⟩
      have bQ : Below X1.heap.size X1 X6 := hb
      have FO : (SliceN X6 v24 (loN n h) (loF h (bks key q) q n p h)) := hk
      have FZ : (∀ l c, v24 = .slice none l c → c = 0) := hz_
      replace BB := BB.trans (bQ.mono BB.size)
      clear bQ
      refine rg_ [(9, v24), (10, .int .i64 ((0 : Nat) : Int))] ?_
      rintro a A ⟨t9, t10, -⟩
      refine wp_seq ?_
      refine wp_seq ?_
      refine wi_ A (h2_ t9 t10) (rv_ 1 (.bool false) (fun a ee => execDec (execNeE (p := 0) (q := 0) rfl (ee _) rfl) (decide_eq_false (by decide))) (rf_ [(28, .bool false)] (h1_ t9) ?_))
      rintro a A ⟨t28, -⟩ ⟨t9, -⟩
      refine wp_cond_false t28 ?_
      refine wp_skip ?_
      clear t28
      have er : rwE h h lk n = 0 := rwE_is w1 w2 rfl w4 hn8
      rw [er, show rwN h h lk n = 320 by unfold rwN; rw [er]; rfl]
      refine wp_seq ?_
      refine wi_ A (h1_ t9) (rc_ 1 (ppadL w2 hn8 X6 FO FZ) fun e X9 hh => ?_)
      obtain ⟨v31, he, hk, hb⟩ := hh
      refine ⟨_, he, ?_⟩
      have bQ : Below X6.heap.size X6 X9 := hb
      have FR : (X9.ownsRow V.heap.size 5 1 v31 320 (bytesL 320 (rwF h (bks key q) q n p))) := own_base hk (BB).size
      replace BB := BB.trans (bQ.mono BB.size)
      clear FO FZ bQ
      refine rg_ [(6, v31), (7, .int .i64 ((0 : Nat) : Int))] ?_
      rintro a A ⟨t6, t7, -⟩
      refine wp_ret ?_
      repeat (first | with_reducible refine ret_in ?_ | with_reducible refine ret_then ?_)
      refine bodyPost_ret (results_tmp2 rfl _ _ _) A.2 ⟨⟨_, ?_, FR⟩, BB⟩
      show Ending.returned (.tuple #[a.eval (.tmp 6), a.eval (.tmp 7)]) = _
      rw [t6, t7]
  · refine wi_ A (h4_ t0 t1 t2 t8) (rv_ 1 (.bool true) (fun a ee => execDec (execNeE (p := wgE h hn lk) (q := 0) rfl (ee _) rfl) (decide_eq_true (by omega))) (rf_ [(15, .bool true)] (h1_ t8) ?_))
    rintro a A ⟨t15, -⟩ ⟨t8, -⟩
    refine wp_cond_true t15 ?_
    clear t15
    refine wp_seq ?_
    refine wi_ A (h1_ t8) (rg_ [(6, .slice none 0 0), (7, .int .i64 ((wgE h hn lk : Nat) : Int))] ?_)
    rintro a A ⟨t6, t7, -⟩
    have er : rwE h hn lk n = wgE h hn lk := by rw [rw_wg, if_pos e1]
    rw [er, show rwN h hn lk n = 0 by unfold rwN; rw [er]; exact if_neg e1]
    refine wp_ret ?_
    repeat (first | with_reducible refine ret_in ?_ | with_reducible refine ret_then ?_)
    refine bodyPost_ret (results_tmp2 rfl _ _ _) A.2 ⟨⟨_, ?_, World.ownsRow_nil _ _ _ _⟩, BB⟩
    show Ending.returned (.tuple #[a.eval (.tmp 6), a.eval (.tmp 7)]) = _
    rw [t6, t7]
end Go.Proofs.YteekoabgbjbabaaGreatDoor.Rpl
