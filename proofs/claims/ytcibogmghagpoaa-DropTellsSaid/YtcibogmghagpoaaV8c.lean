import Derived.Test.YtcibogmghagpoaaV8b
namespace Go.Proofs.Ytcibogmghagpoaa.Dro
open Go.RowKit Gf8 Aes By8 Cel Cf Tap Drw
/- Stage 28: the reference's right, Request, Answer; the law's same. Written by tools/mkV8c.py. -/

theorem res3 {fn : Func} {t u v : Tmp} (h : fn.results = #[.tmp t, .tmp u, .tmp v]) (tmps : Array Value) (P : Program) (w : World) : (results fn tmps).run P w = .ok (.tuple #[tmps.getD t undef, tmps.getD u undef, tmps.getD v undef]) w := by
  simp [results, h]
/-- A row of another type stays where a row of bytes is grown. -/
theorem grown_keep {W W' : World} {B n g : Nat} {v : Value} {xs : List Value} {c : Array Value} {t : TypeId} (h : W.ownsRow B 5 1 v n xs) (hg : W.grownBy W' v.ownBlock) (q : W.heap[g]? = some (.cells c t)) (ht : t ≠ 5) : W'.heap[g]? = some (.cells c t) := by
  rw [hg.block g (Array.getElem?_eq_some_iff.1 q).1 (own_ne h q ht)]
  exact q
set_option maxRecDepth 100000 in
set_option maxHeartbeats 4000000 in
/-- The law's same. -/
theorem same28 (p q : Nat → Nat) (l m : Nat) (v u : Value) (V : World) (hv : SliceN V v l p) (hu : SliceN V u m q) :
    Calls Try.prog 14 #[v, u] V fun e w' => e = .returned (.bool (decide (strN p l = strN q m))) ∧ Below V.heap.size V w' := by
  go_enter Try.func14, Try.ntmps14
  refine wo_ 10 [(0, v), (1, u)] ?_
  rintro a A ⟨t0, t1, -⟩
  have BW : Below V.heap.size V V := Below.refl _ _
  have BB := BW
  refine wp_seq ?_
  refine wi_ A (h2_ t0 t1) (rf_ [] (h2_ t0 t1) ?_)
  rintro a A - ⟨t0, t1, -⟩
  refine wp_seq ?_
  refine wi_ A (h2_ t0 t1) (rv_ 1 (.string (strN p l)) (fun a ee => execStr rfl (ee _) (hv.on BB)) (rv_ 3 (.string (strN q m)) (fun a ee => execStr rfl (ee _) (hu.on BB)) (rv_ 4 (.bool (decide (strN p l = strN q m))) (fun a ee => execEqSD rfl (ee _) (ee _)) (rg_ [(4, .bool (decide (strN p l = strN q m)))] ?_))))
  rintro a A ⟨t4, -⟩
  refine wp_ret ?_
  repeat (first | with_reducible refine ret_in ?_ | with_reducible refine ret_then ?_)
  refine bodyPost_ret (results_tmp rfl _ _ _) A.2 ⟨?_, BB⟩
  show Ending.returned (a.eval (.tmp 4)) = _
  rw [t4]
set_option maxRecDepth 100000 in
set_option maxHeartbeats 4000000 in
/-- The reference's Request. -/
theorem rrequest (nm f : Nat → Nat) (m : Nat) (v : Value) (V : World) (hn : ∀ j, j < 8 → nm j < 256) (hv : SliceN V v m f) (hz : ∀ l c, v = .slice none l c → c = 0) :
    Calls Try.prog 9 #[.agg (bA 8 nm), v] V fun e w' => (∃ r, e = .returned (.tuple #[r, .int .i64 ((rqE m : Nat) : Int)]) ∧ w'.ownsRow V.heap.size 5 1 r (rqN m) (bytesL (rqN m) (rqF nm f))) ∧ Below V.heap.size V w' := by
  go_enter Try.func9, Try.ntmps9
  refine wo_ 17 [(0, .agg (bA 8 nm)), (1, v)] ?_
  rintro a A ⟨t0, t1, -⟩
  have BW : Below V.heap.size V V := Below.refl _ _
  have BB := BW
  refine wp_seq ?_
  obtain ⟨g2, egg2⟩ : ∃ z_ : Nat, V.heap.size = z_ := ⟨_, rfl⟩
  refine wi_ A (h2_ t0 t1) (rs_ 0 (fun a ee => ?_))
  refine stepV rfl rfl (execBx8 rfl (ee _)) ⟨.pointer (some ⟨g2, 0, none⟩), ⟨_, rfl, by subst egg2; rfl⟩, fun X0 hX => ?_⟩
  have bQ : Below V.heap.size V X0 := by subst hX egg2; exact (belNew V _)
  have Fg2 : (X0.heap[g2]? = some (.cells (bA 8 nm) 22)) := by subst hX egg2; exact heapNew V _
  replace BB := BB.trans (bQ.mono BB.size)
  clear bQ hX egg2 ee a
  refine rf_ [(2, .pointer (some ⟨g2, 0, none⟩)), (4, .slice none 0 0), (5, .int .i64 ((0 : Nat) : Int))] (h1_ t1) ?_
  rintro a A ⟨t2, t4, t5, -⟩ ⟨t1, -⟩
  refine wp_seq ?_
  refine wp_seq ?_
  by_cases h1 : 40 < m
  · refine wi_ A (h4_ t1 t2 t4 t5) (rv_ 1 (.int .i64 ((m : Nat) : Int)) (fun a ee => execLenV (len := m) rfl (ee _) (shp (hv.on BB))) (rv_ 2 (.bool true) (fun a ee => execDec (execGtN (p := m) (q := 40) rfl (ee _) rfl) (decide_eq_true (by omega))) (rf_ [(9, .bool true)] (h4_ t1 t2 t4 t5) ?_)))
    rintro a A ⟨t9, -⟩ ⟨t1, t2, t4, t5, -⟩
    refine wp_cond_true t9 ?_
    clear t9
    refine wp_seq ?_
    refine wi_ A (h4_ t1 t2 t4 t5) (rg_ [(4, .slice none 0 0), (5, .int .i64 ((1 : Nat) : Int))] ?_)
    rintro a A ⟨t4, t5, -⟩
    rw [show rqE m = 1 from if_pos h1, show rqN m = 0 from if_pos h1]
    refine wp_ret ?_
    repeat (first | with_reducible refine ret_in ?_ | with_reducible refine ret_then ?_)
    refine bodyPost_ret (results_tmp2 rfl _ _ _) A.2 ⟨⟨_, ?_, World.ownsRow_nil _ _ _ _⟩, BB⟩
    show Ending.returned (.tuple #[a.eval (.tmp 4), a.eval (.tmp 5)]) = _
    rw [t4, t5]
  · refine wi_ A (h4_ t1 t2 t4 t5) (rv_ 1 (.int .i64 ((m : Nat) : Int)) (fun a ee => execLenV (len := m) rfl (ee _) (shp (hv.on BB))) (rv_ 2 (.bool false) (fun a ee => execDec (execGtN (p := m) (q := 40) rfl (ee _) rfl) (decide_eq_false (by omega))) (rf_ [(9, .bool false)] (h4_ t1 t2 t4 t5) ?_)))
    rintro a A ⟨t9, -⟩ ⟨t1, t2, t4, t5, -⟩
    refine wp_cond_false t9 ?_
    refine wp_skip ?_
    clear t9
    refine wp_seq ?_
    refine wi_ A (h4_ t1 t2 t4 t5) (rf_ [(6, .slice none 0 0)] (h2_ t1 t2) ?_)
    rintro a A ⟨t6, -⟩ ⟨t1, t2, -⟩
    have FO : X0.ownsRow V.heap.size 5 1 (.slice none 0 0) 0 (bytesL 0 (rqF nm f)) := World.ownsRow_nil _ _ _ _
    refine wp_seq ?_
    refine wi_ A (h3_ t1 t2 t6) (rv_ 1 (.slice (some ⟨g2, 0, none⟩) 8 8) (fun a ee => execSl8 rfl (ee _)) (rs_ 2 (fun a ee => ?_)))
    refine stepAppN (p := rqF nm f) rfl rfl rfl (ee _) (ee _) FO (slice_cg (slice8 Fg2 hn) (fun j hj => by rw [Nat.zero_add]; exact (if_pos hj).symm)) (fun _ _ h => by cases h) (by omega) (BB).size fun v12 X4 own' gr => ⟨_, ⟨_, rfl, rfl⟩, eqw ?_⟩
    obtain ⟨BB, Fg2, FO1⟩ : Below V.heap.size V X4 ∧ (X4.heap[g2]? = some (.cells (bA 8 nm) 22)) ∧ (X4.ownsRow V.heap.size 5 1 v12 (0 + 8) (bytesL (0 + 8) (rqF nm f))) := ⟨(BB).grown gr (BB).size (fun k hk => (FO.lt k hk).1), (grown_keep FO gr Fg2 (by decide)), own'⟩
    clear FO ee a
    refine rf_ [(6, v12)] (h1_ t1) ?_
    rintro a A ⟨t6, -⟩ ⟨t1, -⟩
    clear Fg2
    refine wp_seq ?_
    refine wi_ A (h2_ t1 t6) (rs_ 2 (fun a ee => ?_))
    refine stepAppN (p := rqF nm f) rfl rfl rfl (ee _) (ee _) FO1 (slice_cg (hv.on BB) (fun j _ => by show f j = _; unfold rqF; rw [if_neg (by omega)]; congr 1; omega)) hz (by omega) (BB).size fun v15 X5 own' gr => ⟨_, ⟨_, rfl, rfl⟩, eqw ?_⟩
    obtain ⟨BB, FO2⟩ : Below V.heap.size V X5 ∧ (X5.ownsRow V.heap.size 5 1 v15 (0 + 8 + m) (bytesL (0 + 8 + m) (rqF nm f))) := ⟨(BB).grown gr (BB).size (fun k hk => (FO1.lt k hk).1), own'⟩
    clear FO1 ee a
    refine rg_ [(6, v15)] ?_
    rintro a A ⟨t6, -⟩
    refine wp_seq ?_
    refine wi_ A (h1_ t6) (rg_ [(4, v15), (5, .int .i64 ((0 : Nat) : Int))] ?_)
    rintro a A ⟨t4, t5, -⟩
    rw [show rqE m = 0 from if_neg h1, show rqN m = 0 + 8 + m by unfold rqN; rw [if_neg h1, Nat.zero_add]]
    refine wp_ret ?_
    repeat (first | with_reducible refine ret_in ?_ | with_reducible refine ret_then ?_)
    refine bodyPost_ret (results_tmp2 rfl _ _ _) A.2 ⟨⟨_, ?_, FO2⟩, BB⟩
    show Ending.returned (.tuple #[a.eval (.tmp 4), a.eval (.tmp 5)]) = _
    rw [t4, t5]
set_option maxRecDepth 100000 in
set_option maxHeartbeats 4000000 in
/-- The reference's Answer. -/
theorem ranswer (f : Nat → Nat) (m : Nat) (v : Value) (V : World) (hv : SliceN V v m f) :
    Calls Try.prog 10 #[v] V fun e w' => (∃ r, e = .returned (.tuple #[.int .i64 ((anH m f : Nat) : Int), r, .int .i64 ((anE m f : Nat) : Int)]) ∧ w'.ownsRow V.heap.size 5 1 r (anN m f) (bytesL (anN m f) (anF f))) ∧ Below V.heap.size V w' := by
  go_enter Try.func10, Try.ntmps10
  refine wo_ 38 [(0, v)] ?_
  rintro a A ⟨t0, -⟩
  have BW : Below V.heap.size V V := Below.refl _ _
  have BB := BW
  have hfb : ∀ j, j < m → f j < 256 := hv.bytes
  refine wp_seq ?_
  refine wi_ A (h1_ t0) (rf_ [] (h1_ t0) ?_)
  rintro a A - ⟨t0, -⟩
  refine wp_seq ?_
  refine wp_seq ?_
  by_cases h1 : m < 1
  · have hq : ¬ anQ m f = true := fun h => by have h2 := an_iff.1 h; omega
    refine wi_ A (h1_ t0) (rv_ 1 (.int .i64 ((m : Nat) : Int)) (fun a ee => execLenV (len := m) rfl (ee _) (shp (hv.on BB))) (rv_ 2 (.bool true) (fun a ee => execDec (execLtW (p := m) (q := 1) rfl (ee _) rfl) (decide_eq_true (by omega))) (rf_ [(20, .bool true)] (h1_ t0) ?_)))
    rintro a A ⟨t20, -⟩ ⟨t0, -⟩
    refine wp_cond_true t20 ?_
    clear t20
    refine wp_seq ?_
    refine wi_ A (h1_ t0) (rg_ [(2, .int .i64 ((0 : Nat) : Int)), (3, .slice none 0 0), (4, .int .i64 ((280 : Nat) : Int))] ?_)
    rintro a A ⟨t2, t3, t4, -⟩
    rw [show anH m f = 0 from if_neg hq, show anE m f = 280 from if_neg hq, show anN m f = 0 from if_neg hq]
    refine wp_ret ?_
    repeat (first | with_reducible refine ret_in ?_ | with_reducible refine ret_then ?_)
    refine bodyPost_ret (res3 rfl _ _ _) A.2 ⟨⟨_, ?_, World.ownsRow_nil _ _ _ _⟩, BB⟩
    show Ending.returned (.tuple #[a.eval (.tmp 2), a.eval (.tmp 3), a.eval (.tmp 4)]) = _
    rw [t2, t3, t4]
  by_cases h2 : 41 < m
  · have hq : ¬ anQ m f = true := fun h => by have h2 := an_iff.1 h; omega
    refine wi_ A (h1_ t0) (rv_ 1 (.int .i64 ((m : Nat) : Int)) (fun a ee => execLenV (len := m) rfl (ee _) (shp (hv.on BB))) (rv_ 2 (.bool false) (fun a ee => execDec (execLtW (p := m) (q := 1) rfl (ee _) rfl) (decide_eq_false (by omega))) (rv_ 5 (.int .i64 ((m : Nat) : Int)) (fun a ee => execLenV (len := m) rfl (ee _) (shp (hv.on BB))) (rv_ 6 (.bool true) (fun a ee => execDec (execGtN (p := m) (q := 41) rfl (ee _) rfl) (decide_eq_true (by omega))) (rf_ [(20, .bool true)] (h1_ t0) ?_)))))
    rintro a A ⟨t20, -⟩ ⟨t0, -⟩
    refine wp_cond_true t20 ?_
    clear t20
    refine wp_seq ?_
    refine wi_ A (h1_ t0) (rg_ [(2, .int .i64 ((0 : Nat) : Int)), (3, .slice none 0 0), (4, .int .i64 ((280 : Nat) : Int))] ?_)
    rintro a A ⟨t2, t3, t4, -⟩
    rw [show anH m f = 0 from if_neg hq, show anE m f = 280 from if_neg hq, show anN m f = 0 from if_neg hq]
    refine wp_ret ?_
    repeat (first | with_reducible refine ret_in ?_ | with_reducible refine ret_then ?_)
    refine bodyPost_ret (res3 rfl _ _ _) A.2 ⟨⟨_, ?_, World.ownsRow_nil _ _ _ _⟩, BB⟩
    show Ending.returned (.tuple #[a.eval (.tmp 2), a.eval (.tmp 3), a.eval (.tmp 4)]) = _
    rw [t2, t3, t4]
  by_cases h3 : 3 < f 0
  · have hq : ¬ anQ m f = true := fun h => by have h2 := an_iff.1 h; omega
    refine wi_ A (h1_ t0) (rv_ 1 (.int .i64 ((m : Nat) : Int)) (fun a ee => execLenV (len := m) rfl (ee _) (shp (hv.on BB))) (rv_ 2 (.bool false) (fun a ee => execDec (execLtW (p := m) (q := 1) rfl (ee _) rfl) (decide_eq_false (by omega))) (rv_ 5 (.int .i64 ((m : Nat) : Int)) (fun a ee => execLenV (len := m) rfl (ee _) (shp (hv.on BB))) (rv_ 6 (.bool false) (fun a ee => execDec (execGtN (p := m) (q := 41) rfl (ee _) rfl) (decide_eq_false (by omega))) (rv_ 10 (.pointer (some ⟨adB v, adO v + 0, none⟩)) (fun a ee => execIdxSb (k := 0) (hv.on BB) rfl (ee _) rfl (by omega)) (rv_ 11 (.int .u8 ((f 0 : Nat) : Int)) (fun a ee => execLdSb (k := 0) (hv.on BB) rfl (ee _) (by omega)) (rv_ 12 (.bool true) (fun a ee => execDc (execGtU (q := f 0) (r := 3) rfl (ee _) rfl) (decide_eq_true (by omega))) (rf_ [(20, .bool true)] (h1_ t0) ?_))))))))
    rintro a A ⟨t20, -⟩ ⟨t0, -⟩
    refine wp_cond_true t20 ?_
    clear t20
    refine wp_seq ?_
    refine wi_ A (h1_ t0) (rg_ [(2, .int .i64 ((0 : Nat) : Int)), (3, .slice none 0 0), (4, .int .i64 ((280 : Nat) : Int))] ?_)
    rintro a A ⟨t2, t3, t4, -⟩
    rw [show anH m f = 0 from if_neg hq, show anE m f = 280 from if_neg hq, show anN m f = 0 from if_neg hq]
    refine wp_ret ?_
    repeat (first | with_reducible refine ret_in ?_ | with_reducible refine ret_then ?_)
    refine bodyPost_ret (res3 rfl _ _ _) A.2 ⟨⟨_, ?_, World.ownsRow_nil _ _ _ _⟩, BB⟩
    show Ending.returned (.tuple #[a.eval (.tmp 2), a.eval (.tmp 3), a.eval (.tmp 4)]) = _
    rw [t2, t3, t4]
  refine wi_ A (h1_ t0) (rv_ 1 (.int .i64 ((m : Nat) : Int)) (fun a ee => execLenV (len := m) rfl (ee _) (shp (hv.on BB))) (rv_ 2 (.bool false) (fun a ee => execDec (execLtW (p := m) (q := 1) rfl (ee _) rfl) (decide_eq_false (by omega))) (rv_ 5 (.int .i64 ((m : Nat) : Int)) (fun a ee => execLenV (len := m) rfl (ee _) (shp (hv.on BB))) (rv_ 6 (.bool false) (fun a ee => execDec (execGtN (p := m) (q := 41) rfl (ee _) rfl) (decide_eq_false (by omega))) (rv_ 10 (.pointer (some ⟨adB v, adO v + 0, none⟩)) (fun a ee => execIdxSb (k := 0) (hv.on BB) rfl (ee _) rfl (by omega)) (rv_ 11 (.int .u8 ((f 0 : Nat) : Int)) (fun a ee => execLdSb (k := 0) (hv.on BB) rfl (ee _) (by omega)) (rv_ 12 (.bool false) (fun a ee => execDc (execGtU (q := f 0) (r := 3) rfl (ee _) rfl) (decide_eq_false (by omega))) (rf_ [(20, .bool false)] (h1_ t0) ?_))))))))
  rintro a A ⟨t20, -⟩ ⟨t0, -⟩
  refine wp_cond_false t20 ?_
  refine wp_skip ?_
  clear t20
  refine wp_seq ?_
  refine wi_ A (h1_ t0) (rv_ 1 (.pointer (some ⟨adB v, adO v + 0, none⟩)) (fun a ee => execIdxSb (k := 0) (hv.on BB) rfl (ee _) rfl (by omega)) (rv_ 2 (.int .u8 ((f 0 : Nat) : Int)) (fun a ee => execLdSb (k := 0) (hv.on BB) rfl (ee _) (by omega)) (rv_ 3 (.int .i64 ((f 0 : Nat) : Int)) (fun a ee => execCv53 (p := f 0) rfl (ee _) (hfb 0 (by omega))) (rf_ [(5, .int .i64 ((f 0 : Nat) : Int))] (h1_ t0) ?_))))
  rintro a A ⟨t5, -⟩ ⟨t0, -⟩
  refine wp_seq ?_
  refine wp_seq ?_
  by_cases h4 : f 0 = 1
  · refine wi_ A (h2_ t0 t5) (rv_ 1 (.bool false) (fun a ee => execDec (execNeN (p := f 0) (q := 1) rfl (ee _) rfl) (decide_eq_false (by omega))) (rf_ [(31, .bool false)] (h2_ t0 t5) ?_))
    rintro a A ⟨t31, -⟩ ⟨t0, t5, -⟩
    refine wp_cond_false t31 ?_
    refine wp_skip ?_
    clear t31
    have hq : anQ m f = true := an_iff.2 (by omega)
    refine wp_seq ?_
    refine wi_ A (h2_ t0 t5) (rf_ [(6, .slice none 0 0)] (h2_ t0 t5) ?_)
    rintro a A ⟨t6, -⟩ ⟨t0, t5, -⟩
    have FO : V.ownsRow V.heap.size 5 1 (.slice none 0 0) 0 (bytesL 0 (anF f)) := World.ownsRow_nil _ _ _ _
    refine wp_seq ?_
    refine wi_ A (h3_ t0 t5 t6) (rv_ 2 (cutL v 1) (fun a ee => execCutL (k := 1) (hv.on BB) rfl (ee _) rfl (by omega)) (rs_ 3 (fun a ee => ?_)))
    refine stepAppN (p := anF f) rfl rfl rfl (ee _) (ee _) FO (slice_cg (cutL_is (hv.on BB) (by omega)) (fun j _ => by show f (1 + j) = f (1 + (0 + j)); rw [Nat.zero_add])) (cutL_nil (hv.on BB) (by omega)) (by omega) (BB).size fun v35 X7 own' gr => ⟨_, ⟨_, rfl, rfl⟩, eqw ?_⟩
    obtain ⟨BB, FO1⟩ : Below V.heap.size V X7 ∧ (X7.ownsRow V.heap.size 5 1 v35 (0 + (m - 1)) (bytesL (0 + (m - 1)) (anF f))) := ⟨(BB).grown gr (BB).size (fun k hk => (FO.lt k hk).1), own'⟩
    clear FO ee a
    refine rf_ [(6, v35)] (h1_ t5) ?_
    rintro a A ⟨t6, -⟩ ⟨t5, -⟩
    refine wp_seq ?_
    refine wi_ A (h2_ t5 t6) (rg_ [(2, .int .i64 ((f 0 : Nat) : Int)), (3, v35), (4, .int .i64 ((0 : Nat) : Int))] ?_)
    rintro a A ⟨t2, t3, t4, -⟩
    rw [show anH m f = f 0 from if_pos hq, show anE m f = 0 from if_pos hq, show anN m f = 0 + (m - 1) by rw [Nat.zero_add]; exact if_pos hq]
    refine wp_ret ?_
    repeat (first | with_reducible refine ret_in ?_ | with_reducible refine ret_then ?_)
    refine bodyPost_ret (res3 rfl _ _ _) A.2 ⟨⟨_, ?_, FO1⟩, BB⟩
    show Ending.returned (.tuple #[a.eval (.tmp 2), a.eval (.tmp 3), a.eval (.tmp 4)]) = _
    rw [t2, t3, t4]
  by_cases h5 : 1 < m
  · have hq : ¬ anQ m f = true := fun h => by have h2 := an_iff.1 h; omega
    refine wi_ A (h2_ t0 t5) (rv_ 1 (.bool true) (fun a ee => execDec (execNeN (p := f 0) (q := 1) rfl (ee _) rfl) (decide_eq_true (by omega))) (rv_ 4 (.int .i64 ((m : Nat) : Int)) (fun a ee => execLenV (len := m) rfl (ee _) (shp (hv.on BB))) (rv_ 5 (.bool true) (fun a ee => execDec (execGtN (p := m) (q := 1) rfl (ee _) rfl) (decide_eq_true (by omega))) (rf_ [(31, .bool true)] (h2_ t0 t5) ?_))))
    rintro a A ⟨t31, -⟩ ⟨t0, t5, -⟩
    refine wp_cond_true t31 ?_
    clear t31
    refine wp_seq ?_
    refine wi_ A (h2_ t0 t5) (rg_ [(2, .int .i64 ((0 : Nat) : Int)), (3, .slice none 0 0), (4, .int .i64 ((280 : Nat) : Int))] ?_)
    rintro a A ⟨t2, t3, t4, -⟩
    rw [show anH m f = 0 from if_neg hq, show anE m f = 280 from if_neg hq, show anN m f = 0 from if_neg hq]
    refine wp_ret ?_
    repeat (first | with_reducible refine ret_in ?_ | with_reducible refine ret_then ?_)
    refine bodyPost_ret (res3 rfl _ _ _) A.2 ⟨⟨_, ?_, World.ownsRow_nil _ _ _ _⟩, BB⟩
    show Ending.returned (.tuple #[a.eval (.tmp 2), a.eval (.tmp 3), a.eval (.tmp 4)]) = _
    rw [t2, t3, t4]
  refine wi_ A (h2_ t0 t5) (rv_ 1 (.bool true) (fun a ee => execDec (execNeN (p := f 0) (q := 1) rfl (ee _) rfl) (decide_eq_true (by omega))) (rv_ 4 (.int .i64 ((m : Nat) : Int)) (fun a ee => execLenV (len := m) rfl (ee _) (shp (hv.on BB))) (rv_ 5 (.bool false) (fun a ee => execDec (execGtN (p := m) (q := 1) rfl (ee _) rfl) (decide_eq_false (by omega))) (rf_ [(31, .bool false)] (h2_ t0 t5) ?_))))
  rintro a A ⟨t31, -⟩ ⟨t0, t5, -⟩
  refine wp_cond_false t31 ?_
  refine wp_skip ?_
  clear t31
  have hq : anQ m f = true := an_iff.2 (by omega)
  refine wp_seq ?_
  refine wi_ A (h2_ t0 t5) (rf_ [(6, .slice none 0 0)] (h2_ t0 t5) ?_)
  rintro a A ⟨t6, -⟩ ⟨t0, t5, -⟩
  have FO : V.ownsRow V.heap.size 5 1 (.slice none 0 0) 0 (bytesL 0 (anF f)) := World.ownsRow_nil _ _ _ _
  refine wp_seq ?_
  refine wi_ A (h3_ t0 t5 t6) (rv_ 2 (cutL v 1) (fun a ee => execCutL (k := 1) (hv.on BB) rfl (ee _) rfl (by omega)) (rs_ 3 (fun a ee => ?_)))
  refine stepAppN (p := anF f) rfl rfl rfl (ee _) (ee _) FO (slice_cg (cutL_is (hv.on BB) (by omega)) (fun j _ => by show f (1 + j) = f (1 + (0 + j)); rw [Nat.zero_add])) (cutL_nil (hv.on BB) (by omega)) (by omega) (BB).size fun v35 X7 own' gr => ⟨_, ⟨_, rfl, rfl⟩, eqw ?_⟩
  obtain ⟨BB, FO1⟩ : Below V.heap.size V X7 ∧ (X7.ownsRow V.heap.size 5 1 v35 (0 + (m - 1)) (bytesL (0 + (m - 1)) (anF f))) := ⟨(BB).grown gr (BB).size (fun k hk => (FO.lt k hk).1), own'⟩
  clear FO ee a
  refine rf_ [(6, v35)] (h1_ t5) ?_
  rintro a A ⟨t6, -⟩ ⟨t5, -⟩
  refine wp_seq ?_
  refine wi_ A (h2_ t5 t6) (rg_ [(2, .int .i64 ((f 0 : Nat) : Int)), (3, v35), (4, .int .i64 ((0 : Nat) : Int))] ?_)
  rintro a A ⟨t2, t3, t4, -⟩
  rw [show anH m f = f 0 from if_pos hq, show anE m f = 0 from if_pos hq, show anN m f = 0 + (m - 1) by rw [Nat.zero_add]; exact if_pos hq]
  refine wp_ret ?_
  repeat (first | with_reducible refine ret_in ?_ | with_reducible refine ret_then ?_)
  refine bodyPost_ret (res3 rfl _ _ _) A.2 ⟨⟨_, ?_, FO1⟩, BB⟩
  show Ending.returned (.tuple #[a.eval (.tmp 2), a.eval (.tmp 3), a.eval (.tmp 4)]) = _
  rw [t2, t3, t4]
end Go.Proofs.Ytcibogmghagpoaa.Dro
