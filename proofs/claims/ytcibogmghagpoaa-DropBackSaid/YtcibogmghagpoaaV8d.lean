import Derived.Test.YtcibogmghagpoaaV8b
namespace Go.Proofs.Ytcibogmghagpoaa.Dro
open Go.RowKit Gf8 Aes By8 Cel Cf Tap Drw
/- Stage 28: the reference's right, Request, Answer; the law's same. Written by tools/mkV8c.py. -/

theorem res3 {fn : Func} {t u v : Tmp} (h : fn.results = #[.tmp t, .tmp u, .tmp v]) (tmps : Array Value) (P : Program) (w : World) : (results fn tmps).run P w = .ok (.tuple #[tmps.getD t undef, tmps.getD u undef, tmps.getD v undef]) w := by
  simp [results, h]
set_option maxRecDepth 100000 in
set_option maxHeartbeats 4000000 in
/-- The law's same. -/
theorem same28 (p q : Nat → Nat) (l m : Nat) (v u : Value) (V : World) (hv : SliceN V v l p) (hu : SliceN V u m q) :
    Calls Try.prog 14 #[v, u] V fun e w' => e = .returned (.bool (decide (strN p l = strN q m))) ∧ Below V.heap.size V w' := by
  go_enter Try.func14, Try.ntmps14
  refine wo_ 10 [(0, v), (1, u)] ?_
  rintro a A ⟨t0, t1, -⟩
  have BW : Below V.heap.size V V := Below.refl _ _
  have BB := BW
  refine wp_seq ?_
  refine wi_ A (h2_ t0 t1) (rf_ [] (h2_ t0 t1) ?_)
  rintro a A - ⟨t0, t1, -⟩
  refine wp_seq ?_
  refine wi_ A (h2_ t0 t1) (rv_ 1 (.string (strN p l)) (fun a ee => execStr rfl (ee _) (hv.on BB)) (rv_ 3 (.string (strN q m)) (fun a ee => execStr rfl (ee _) (hu.on BB)) (rv_ 4 (.bool (decide (strN p l = strN q m))) (fun a ee => execEqSD rfl (ee _) (ee _)) (rg_ [(4, .bool (decide (strN p l = strN q m)))] ?_))))
  rintro a A ⟨t4, -⟩
  refine wp_ret ?_
  repeat (first | with_reducible refine ret_in ?_ | with_reducible refine ret_then ?_)
  refine bodyPost_ret (results_tmp rfl _ _ _) A.2 ⟨?_, BB⟩
  show Ending.returned (a.eval (.tmp 4)) = _
  rw [t4]
end Go.Proofs.Ytcibogmghagpoaa.Dro

namespace Go.Proofs.Ytcibogmghagpoaa.Dro
open Go.RowKit Gf8 Aes By8 Cel Cf Tap Drw
/- Stage 28: the reference's Others. Written by tools/mkV8d.py. -/

theorem ot_A {ln : Nat → Nat} {c : Nat → Nat → Nat} {i k : Nat} (h : k = i) : otQ ln c i k = false := by
  unfold otQ
  rw [decide_eq_false (fun q => q h)]
  rfl
theorem ot_D {ln : Nat → Nat} {c : Nat → Nat → Nat} {i k : Nat} (h : ¬ k = i) (hr : rgt (ln k) = true) (hs : ∀ j, j < 8 → c k j = c i j) : otQ ln c i k = true := ot_iff.2 ⟨h, rgt_iff.1 hr, hs⟩
theorem fst_no {p : Nat → Bool} {n : Nat} (z : 0 < cnt p n) : fst_ p (n + 1) = fst_ p n := by
  show (if cnt p n = 0 then _ else _) = _
  rw [if_neg (by omega)]
end Go.Proofs.Ytcibogmghagpoaa.Dro
