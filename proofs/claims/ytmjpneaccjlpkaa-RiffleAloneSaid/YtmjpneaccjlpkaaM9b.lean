import Derived.Test.YtmjpneaccjlpkaaF9b
import Derived.Test.YtmjpneaccjlpkaaF9a
import Derived.Test.YtmjpneaccjlpkaaM9a
namespace Go.Proofs.Ytmjpneaccjlpkaa.Prm
open Go.RowKit Gf8 Aes By8 Cel Cf Tap Drw
/- Package perm as it landed: Inverse, Apply of ints, Compose, Rank. Written by tools/mkM9b.py. -/
set_option maxRecDepth 100000 in
set_option maxHeartbeats 4000000 in
theorem papply (f g : Nat → Int) (n m : Nat) (v u0 : Value) (V : World) (hv : SliceI V v n f) (hn17 : n ≤ 17592186044416) (hu : SliceI V u0 m g) :
  Calls Try.prog 24 #[v, u0] V fun e w' => ∃ r, e = .returned (.tuple #[r, .int .i64 ((apE f n m : Nat) : Int)]) ∧ w'.ownsRow V.heap.size 3 1 r (zl (apE f n m) n) (intsL (zl (apE f n m) n) (fun j => g (f j).toNat)) ∧ Below V.heap.size V w' := by
 have FI := hv
 have FJ := hu
 go_enter Try.func24, Try.ntmps24
 refine wp_seq ?_
 refine wo_ 20 [(0, v), (1, u0)] ?_
 rintro a A ⟨t0, t1, -⟩
 refine wi_ A (h2_ t0 t1) (rf_ [] (h2_ t0 t1) ?_)
 rintro a A - ⟨t0, t1, -⟩
 have BW : Below V.heap.size V V := Below.refl _ _
 have BB := BW
 refine wp_seq (wp_seq ?_)
 by_cases h3 : n = m
 ·refine wi_ A (h2_ t0 t1) (rv_ 1 (.int .i64 ((n : Nat) : Int)) (fun a e => execLenI (len := n) rfl (e _) ((FI.on BB)).shp) (rv_ 3 (.int .i64 ((m : Nat) : Int)) (fun a e => execLenI (len := m) rfl (e _) ((FJ.on BB)).shp) (rv_ 4 (.bool false) (fun a e => execDec (execNeN (p := n) (q := m) rfl (e _) (e _)) (decide_eq_false (by omega))) (rf_ [(11, .bool false)] (h2_ t0 t1) ?_))))
  rintro a A ⟨t11, -⟩ ⟨t0, t1, -⟩
  refine wp_cond_false t11 (wp_skip ?_)
  clear t11
  refine wp_seq (wp_seq ?_)
  refine wi_ A (h2_ t0 t1) (rc_ 1 (pcheck f n _ V (FI.on BB) hn17) (cb_ fun X3 bQ => ?_))
  replace BB := BB.trans (bQ.mono BB.size)
  clear bQ
  refine rf_ [(6, .int .i64 ((pE f n : Nat) : Int))] (h2_ t0 t1) ?_
  rintro a A ⟨t6, -⟩ ⟨t0, t1, -⟩
  refine wp_seq ?_
  by_cases h1 : okQ f n n = true
  ·refine wi_ A (h3_ t0 t1 t6) (rv_ 1 (.bool false) (fun a e => execDec (execNeE (p := pE f n) (q := 0) rfl (e _) rfl) (decide_eq_false (by have := pE_ok h1; omega))) (rf_ [(15, .bool false)] (h2_ t0 t1) ?_))
   rintro a A ⟨t15, -⟩ ⟨t0, t1, -⟩
   refine wp_cond_false t15 (wp_skip ?_)
   clear t15
   have hfl : ∀ i, i < n → 0 ≤ f i ∧ f i < m := fun i hi => by have := (okQ_iff.1 h1).1 i hi; omega
   refine wp_seq ?_
   refine wi_ A (h2_ t0 t1) (rc_ 2 (ptaken f g n m _ _ X3 (FI.on BB) hn17 (FJ.on BB) hfl) fun e X6 hh => ?_)
   obtain ⟨r9, he, hk, hb⟩ := hh
   refine ⟨_, he, ?_⟩
   have bQ : Below X3.heap.size X3 X6 := hb
   have FO : (X6.ownsRow V.heap.size 3 1 r9 (n) (intsL (n) (fun j => g (f j).toNat))) := ownD_base hk (BB).size
   replace BB := BB.trans (bQ.mono BB.size)
   clear bQ
   refine rg_ [(4, r9), (5, .int .i64 ((0 : Nat) : Int))] ?_
   rintro a A ⟨t4, t5, -⟩
   have hE : apE f n m = 0 := if_pos ⟨pE_ok h1, h3⟩
   rw [hE, zl_ok]
   refine wp_ret ?_
   refine bodyPost_ret (results_tmp2 rfl _ _ _) A.2 ⟨_, ?_, FO, BB⟩
   show Ending.returned (.tuple #[a.eval (.tmp 4), a.eval (.tmp 5)]) = _
   rw [t4, t5]
  ·refine wi_ A (h3_ t0 t1 t6) (rv_ 1 (.bool true) (fun a e => execDec (execNeE (p := pE f n) (q := 0) rfl (e _) rfl) (decide_eq_true (by have := pE_no h1; omega))) (rf_ [(15, .bool true)] (h1_ t6) ?_))
   rintro a A ⟨t15, -⟩ ⟨t6, -⟩
   refine wp_cond_true t15 ?_
   refine wp_seq ?_
   refine wi_ A (h1_ t6) (rg_ [(4, .slice none 0 0), (5, .int .i64 ((pE f n : Nat) : Int))] ?_)
   rintro a A ⟨t4, t5, -⟩
   have hE : apE f n m = 110 := if_neg (fun q => by have := pE_no h1; omega)
   rw [pE_no h1] at t5
   rw [hE, zl_no (by decide)]
   refine wp_ret ?_
   repeat (first | with_reducible refine ret_in ?_ | with_reducible refine ret_then ?_)
   refine bodyPost_ret (results_tmp2 rfl _ _ _) A.2 ⟨_, ?_, World.ownsRow_nil _ _ _ _, BB⟩
   show Ending.returned (.tuple #[a.eval (.tmp 4), a.eval (.tmp 5)]) = _
   rw [t4, t5]
 ·refine wi_ A (h2_ t0 t1) (rv_ 1 (.int .i64 ((n : Nat) : Int)) (fun a e => execLenI (len := n) rfl (e _) ((FI.on BB)).shp) (rv_ 3 (.int .i64 ((m : Nat) : Int)) (fun a e => execLenI (len := m) rfl (e _) ((FJ.on BB)).shp) (rv_ 4 (.bool true) (fun a e => execDec (execNeN (p := n) (q := m) rfl (e _) (e _)) (decide_eq_true (by omega))) (rf_ [(11, .bool true)] (h2_ t0 t1) ?_))))
  rintro a A ⟨t11, -⟩ ⟨t0, t1, -⟩
  refine wp_cond_true t11 ?_
  refine wp_seq ?_
  refine wi_ A (h2_ t0 t1) (rg_ [(4, .slice none 0 0), (5, .int .i64 ((110 : Nat) : Int))] ?_)
  rintro a A ⟨t4, t5, -⟩
  have hE : apE f n m = 110 := if_neg (fun q => by omega)
  rw [hE, zl_no (by decide)]
  refine wp_ret ?_
  repeat (first | with_reducible refine ret_in ?_ | with_reducible refine ret_then ?_)
  refine bodyPost_ret (results_tmp2 rfl _ _ _) A.2 ⟨_, ?_, World.ownsRow_nil _ _ _ _, BB⟩
  show Ending.returned (.tuple #[a.eval (.tmp 4), a.eval (.tmp 5)]) = _
  rw [t4, t5]
end Go.Proofs.Ytmjpneaccjlpkaa.Prm
