import Derived.Test.YtcibogmghagpoaaV8b
namespace Go.Proofs.Ytcibogmghagpoaa.Dro
open Go.RowKit Gf8 Aes By8 Cel Cf Tap Drw
/- Stage 28: the reference's right, Request, Answer; the law's same. Written by tools/mkV8c.py. -/

theorem res3 {fn : Func} {t u v : Tmp} (h : fn.results = #[.tmp t, .tmp u, .tmp v]) (tmps : Array Value) (P : Program) (w : World) : (results fn tmps).run P w = .ok (.tuple #[tmps.getD t undef, tmps.getD u undef, tmps.getD v undef]) w := by
  simp [results, h]
set_option maxRecDepth 100000 in
set_option maxHeartbeats 4000000 in
/-- The reference's right. -/
theorem rright28 (p : Nat → Nat) (l : Nat) (v : Value) (V : World) (hv : SliceN V v l p) :
    Calls Try.prog 25 #[v] V fun e w' => e = .returned (.bool (rgt l)) ∧ Below V.heap.size V w' := by
  go_enter Try.func25, Try.ntmps25
  refine wo_ 11 [(0, v)] ?_
  rintro a A ⟨t0, -⟩
  have BW : Below V.heap.size V V := Below.refl _ _
  have BB := BW
  refine wp_seq ?_
  refine wi_ A (h1_ t0) (rf_ [] (h1_ t0) ?_)
  rintro a A - ⟨t0, -⟩
  refine wp_seq ?_
  by_cases h1 : 8 ≤ l
  · by_cases h2 : l ≤ 48
    · refine wi_ A (h1_ t0) (rv_ 1 (.int .i64 ((l : Nat) : Int)) (fun a ee => execLenV (len := l) rfl (ee _) (shp (hv.on BB))) (rv_ 2 (.bool true) (fun a ee => execDec (execGe8 (p := l) (q := 8) rfl (ee _) rfl) (decide_eq_true (by omega))) (rv_ 5 (.int .i64 ((l : Nat) : Int)) (fun a ee => execLenV (len := l) rfl (ee _) (shp (hv.on BB))) (rv_ 6 (.bool true) (fun a ee => execDec (execLeN (p := l) (q := 48) rfl (ee _) rfl) (decide_eq_true (by omega))) (rg_ [(2, .bool true)] ?_)))))
      rintro a A ⟨t2, -⟩
      refine wp_ret ?_
      repeat (first | with_reducible refine ret_in ?_ | with_reducible refine ret_then ?_)
      refine bodyPost_ret (results_tmp rfl _ _ _) A.2 ⟨?_, BB⟩
      show Ending.returned (a.eval (.tmp 2)) = _
      rw [t2]
      rw [show rgt l = true from decide_eq_true ⟨h1, h2⟩]
    · refine wi_ A (h1_ t0) (rv_ 1 (.int .i64 ((l : Nat) : Int)) (fun a ee => execLenV (len := l) rfl (ee _) (shp (hv.on BB))) (rv_ 2 (.bool true) (fun a ee => execDec (execGe8 (p := l) (q := 8) rfl (ee _) rfl) (decide_eq_true (by omega))) (rv_ 5 (.int .i64 ((l : Nat) : Int)) (fun a ee => execLenV (len := l) rfl (ee _) (shp (hv.on BB))) (rv_ 6 (.bool false) (fun a ee => execDec (execLeN (p := l) (q := 48) rfl (ee _) rfl) (decide_eq_false (by omega))) (rg_ [(2, .bool false)] ?_)))))
      rintro a A ⟨t2, -⟩
      refine wp_ret ?_
      repeat (first | with_reducible refine ret_in ?_ | with_reducible refine ret_then ?_)
      refine bodyPost_ret (results_tmp rfl _ _ _) A.2 ⟨?_, BB⟩
      show Ending.returned (a.eval (.tmp 2)) = _
      rw [t2]
      rw [show rgt l = false from decide_eq_false (fun h => absurd h.2 h2)]
  · refine wi_ A (h1_ t0) (rv_ 1 (.int .i64 ((l : Nat) : Int)) (fun a ee => execLenV (len := l) rfl (ee _) (shp (hv.on BB))) (rv_ 2 (.bool false) (fun a ee => execDec (execGe8 (p := l) (q := 8) rfl (ee _) rfl) (decide_eq_false (by omega))) (rg_ [(2, .bool false)] ?_)))
    rintro a A ⟨t2, -⟩
    refine wp_ret ?_
    repeat (first | with_reducible refine ret_in ?_ | with_reducible refine ret_then ?_)
    refine bodyPost_ret (results_tmp rfl _ _ _) A.2 ⟨?_, BB⟩
    show Ending.returned (a.eval (.tmp 2)) = _
    rw [t2]
    rw [show rgt l = false from decide_eq_false (fun h => absurd h.1 h1)]
set_option maxRecDepth 100000 in
set_option maxHeartbeats 4000000 in
/-- The law's same. -/
theorem same28 (p q : Nat → Nat) (l m : Nat) (v u : Value) (V : World) (hv : SliceN V v l p) (hu : SliceN V u m q) :
    Calls Try.prog 14 #[v, u] V fun e w' => e = .returned (.bool (decide (strN p l = strN q m))) ∧ Below V.heap.size V w' := by
  go_enter Try.func14, Try.ntmps14
  refine wo_ 10 [(0, v), (1, u)] ?_
  rintro a A ⟨t0, t1, -⟩
  have BW : Below V.heap.size V V := Below.refl _ _
  have BB := BW
  refine wp_seq ?_
  refine wi_ A (h2_ t0 t1) (rf_ [] (h2_ t0 t1) ?_)
  rintro a A - ⟨t0, t1, -⟩
  refine wp_seq ?_
  refine wi_ A (h2_ t0 t1) (rv_ 1 (.string (strN p l)) (fun a ee => execStr rfl (ee _) (hv.on BB)) (rv_ 3 (.string (strN q m)) (fun a ee => execStr rfl (ee _) (hu.on BB)) (rv_ 4 (.bool (decide (strN p l = strN q m))) (fun a ee => execEqSD rfl (ee _) (ee _)) (rg_ [(4, .bool (decide (strN p l = strN q m)))] ?_))))
  rintro a A ⟨t4, -⟩
  refine wp_ret ?_
  repeat (first | with_reducible refine ret_in ?_ | with_reducible refine ret_then ?_)
  refine bodyPost_ret (results_tmp rfl _ _ _) A.2 ⟨?_, BB⟩
  show Ending.returned (a.eval (.tmp 4)) = _
  rw [t4]
end Go.Proofs.Ytcibogmghagpoaa.Dro
