import Derived.Test.YtmjpneaccjlpkaaF9a
import Derived.Test.YtmjpneaccjlpkaaM9a
namespace Go.Proofs.Ytmjpneaccjlpkaa.Prm
open Go.RowKit Gf8 Aes By8 Cel Cf Tap Drw
/- Package perm as it landed: Inverse, Apply of ints, Compose, Rank. Written by tools/mkM9b.py. -/
set_option maxRecDepth 100000 in
set_option maxHeartbeats 4000000 in
theorem papply (f g : Nat → Int) (n m : Nat) (v u0 : Value) (V : World) (hv : SliceI V v n f) (hn17 : n ≤ 17592186044416) (hu : SliceI V u0 m g) :
  Calls Try.prog 24 #[v, u0] V fun e w' => ∃ r, e = .returned (.tuple #[r, .int .i64 ((apE f n m : Nat) : Int)]) ∧ w'.ownsRow V.heap.size 3 1 r (zl (apE f n m) n) (intsL (zl (apE f n m) n) (fun j => g (f j).toNat)) ∧ Below V.heap.size V w' := by
 have FI := hv
 have FJ := hu
 go_enter Try.func24, Try.ntmps24
 refine wp_seq ?_
 refine wp_region_sqK 20 [(0, 4), (1, 5)] (fun i_ => match i_ with | 0 => .slice none 0 0 | 1 => .int .i64 ((0 : Nat) : Int) | _ => undef) rfl (by kernel_rfl) (by decide) (by decide) ?_ ?_
 ·intro i_ hi_ a hf hv hn
  match i_, hi_ with
  | 0, _ => exact stepV rfl rfl (execAsgB rfl rfl) ⟨⟨_, rfl, rfl⟩, rfl⟩
  | 1, _ => exact stepV rfl rfl (execAsgB rfl rfl) ⟨⟨_, rfl, rfl⟩, rfl⟩
  | k_ + 2, h_ => exact absurd h_ (by simp)
 intro a h1 h2 h3 h4
 have t0 : a.eval (.tmp 0) = v := (h3 0 (by decide)).trans rfl
 have t1 : a.eval (.tmp 1) = u0 := (h3 1 (by decide)).trans rfl
 have A : a.tmps.size = 20 ∧ a.defers = [] := ⟨h1, h2⟩
 have BW : Below V.heap.size V V := Below.refl _ _
 clear h1 h2 h3 h4
 have BB := BW
 refine wp_seq (wp_seq ?_)
 by_cases h3 : n = m
 ·refine wp_se 20 [1, 3, 4] [] (fun _ s X => Below V.heap.size V X) (fun s => fun i_ => match i_ with | 1 => .int .i64 ((n : Nat) : Int) | 3 => .int .i64 ((m : Nat) : Int) | 4 => .bool false | _ => undef) () A (BB) (And.intro ?_ (And.intro ?_ (And.intro ?_ trivial))) ?_
  ·exact fun s a X e hS => stepV rfl rfl (execLenI (len := n) rfl ((e (.tmp 7)).trans t0) ((FI.on hS)).shp) ⟨s, ⟨_, rfl, rfl⟩, hS, ar⟩
  ·exact fun s a X e hS => stepV rfl rfl (execLenI (len := m) rfl ((e (.tmp 9)).trans t1) ((FJ.on hS)).shp) ⟨s, ⟨_, rfl, rfl⟩, hS, ar⟩
  ·exact fun s a X e hS => stepV rfl rfl (execDec (execNeN (p := n) (q := m) rfl (e (.tmp 8)) (e (.tmp 10))) (decide_eq_false (by omega))) ⟨s, ⟨_, rfl, rfl⟩, hS, ar⟩
  rintro _ a X1 A e (BB : Below V.heap.size V X1)
  have t11 : a.eval (.tmp 11) = .bool false := e _
  replace t0 := kt e t0
  replace t1 := kt e t1
  clear e
  refine wp_cond_false t11 (wp_skip ?_)
  clear t11
  refine wp_seq (wp_seq ?_)
  refine wp_se 20 [1] [] (fun _ s X => Below V.heap.size V X) (fun s => fun i_ => match i_ with | 1 => .int .i64 ((pE f n : Nat) : Int) | _ => undef) () A (BB) (And.intro ?_ trivial) ?_
  ·exact fun s a X e hS => stepC rfl rfl (execCall1 Try.func17 (by kernel_rfl) (by kernel_rfl) rfl ((e (.tmp 12)).trans t0)) (pcheck f n _ X (FI.on hS) hn17) fun e w' hh => ⟨_, hh.1, s, ⟨_, rfl, rfl⟩, (hS).trans ((hh.2).mono (hS).size), ar⟩
  rintro _ a X3 A e (BB : Below V.heap.size V X3)
  have t6 : a.eval (.tmp 6) = .int .i64 ((pE f n : Nat) : Int) := e _
  replace t0 := kt e t0
  replace t1 := kt e t1
  clear e
  refine wp_seq ?_
  by_cases h1 : okQ f n n = true
  ·refine wp_se 20 [1] [] (fun _ s X => Below V.heap.size V X) (fun s => fun i_ => match i_ with | 1 => .bool false | _ => undef) () A (BB) (And.intro ?_ trivial) ?_
   ·exact fun s a X e hS => stepV rfl rfl (execDec (execNeE (p := pE f n) (q := 0) rfl ((e (.tmp 14)).trans t6) rfl) (decide_eq_false (by have := pE_ok h1; omega))) ⟨s, ⟨_, rfl, rfl⟩, hS, ar⟩
   rintro _ a X4 A e (BB : Below V.heap.size V X4)
   have t15 : a.eval (.tmp 15) = .bool false := e _
   replace t0 := kt e t0
   replace t1 := kt e t1
   clear e t6
   refine wp_cond_false t15 (wp_skip ?_)
   clear t15
   have hfl : ∀ i, i < n → 0 ≤ f i ∧ f i < m := fun i hi => by have := (okQ_iff.1 h1).1 i hi; omega
   refine wp_seq ?_
   refine wp_se (σ := Value) 20 [2] [2] (fun k_ s X => match k_ with | 0 => Below V.heap.size V X | _ => Below V.heap.size V X ∧ (X.ownsRow V.heap.size 3 1 s (n) (intsL (n) (fun j => g (f j).toNat)))) (fun s => fun i_ => match i_ with | 2 => s | _ => undef) undef A (BB) (And.intro ?_ trivial) ?_
   ·intro s a X e hS
    refine stepC rfl rfl (execCall2 Try.func49 (by kernel_rfl) (by kernel_rfl) rfl ((e (.tmp 17)).trans t0) ((e (.tmp 18)).trans t1)) (ptaken f g n m _ _ X (FI.on hS) hn17 (FJ.on hS) hfl) fun e w' hh => ?_
    obtain ⟨r_, he, hk, hb⟩ := hh
    refine ⟨_, he, r_, ⟨_, rfl, rfl⟩, ⟨(hS).trans ((hb).mono (hS).size), ownD_base hk (hS).size⟩, (And.intro (fun h => absurd h (by decide)) trivial)⟩
   rintro r9 a X6 A e (hS : Below V.heap.size V X6 ∧ (X6.ownsRow V.heap.size 3 1 r9 (n) (intsL (n) (fun j => g (f j).toNat))))
   obtain ⟨BB, FO⟩ := hS
   have t4 : a.eval (.tmp 4) = r9 := e _
   have t5 : a.eval (.tmp 5) = .int .i64 ((0 : Nat) : Int) := e _
   clear e t0 t1
   have hE : apE f n m = 0 := if_pos ⟨pE_ok h1, h3⟩
   rw [hE, zl_ok]
   refine wp_ret ?_
   refine bodyPost_ret (results_tmp2 rfl _ _ _) A.2 ⟨_, ?_, FO, BB⟩
   show Ending.returned (.tuple #[a.eval (.tmp 4), a.eval (.tmp 5)]) = _
   rw [t4, t5]
  ·refine wp_se 20 [1] [] (fun _ s X => Below V.heap.size V X) (fun s => fun i_ => match i_ with | 1 => .bool true | _ => undef) () A (BB) (And.intro ?_ trivial) ?_
   ·exact fun s a X e hS => stepV rfl rfl (execDec (execNeE (p := pE f n) (q := 0) rfl ((e (.tmp 14)).trans t6) rfl) (decide_eq_true (by have := pE_no h1; omega))) ⟨s, ⟨_, rfl, rfl⟩, hS, ar⟩
   rintro _ a X4 A e (BB : Below V.heap.size V X4)
   have t15 : a.eval (.tmp 15) = .bool true := e _
   replace t6 := kt e t6
   clear e t0 t1
   refine wp_cond_true t15 ?_
   refine wp_seq ?_
   refine wp_se 20 [] [] (fun _ s X => Below V.heap.size V X) (fun s => fun _ => undef) () A (BB) trivial ?_
   rintro _ a X5 A e (BB : Below V.heap.size V X5)
   have t4 : a.eval (.tmp 4) = .slice none 0 0 := e _
   have t5 : a.eval (.tmp 5) = .int .i64 ((pE f n : Nat) : Int) := (e _).trans t6
   clear e t6
   have hE : apE f n m = 110 := if_neg (fun q => by have := pE_no h1; omega)
   rw [pE_no h1] at t5
   rw [hE, zl_no (by decide)]
   refine wp_ret ?_
   repeat (first | with_reducible refine ret_in ?_ | with_reducible refine ret_then ?_)
   refine bodyPost_ret (results_tmp2 rfl _ _ _) A.2 ⟨_, ?_, World.ownsRow_nil _ _ _ _, BB⟩
   show Ending.returned (.tuple #[a.eval (.tmp 4), a.eval (.tmp 5)]) = _
   rw [t4, t5]
 ·refine wp_se 20 [1, 3, 4] [] (fun _ s X => Below V.heap.size V X) (fun s => fun i_ => match i_ with | 1 => .int .i64 ((n : Nat) : Int) | 3 => .int .i64 ((m : Nat) : Int) | 4 => .bool true | _ => undef) () A (BB) (And.intro ?_ (And.intro ?_ (And.intro ?_ trivial))) ?_
  ·exact fun s a X e hS => stepV rfl rfl (execLenI (len := n) rfl ((e (.tmp 7)).trans t0) ((FI.on hS)).shp) ⟨s, ⟨_, rfl, rfl⟩, hS, ar⟩
  ·exact fun s a X e hS => stepV rfl rfl (execLenI (len := m) rfl ((e (.tmp 9)).trans t1) ((FJ.on hS)).shp) ⟨s, ⟨_, rfl, rfl⟩, hS, ar⟩
  ·exact fun s a X e hS => stepV rfl rfl (execDec (execNeN (p := n) (q := m) rfl (e (.tmp 8)) (e (.tmp 10))) (decide_eq_true (by omega))) ⟨s, ⟨_, rfl, rfl⟩, hS, ar⟩
  rintro _ a X1 A e (BB : Below V.heap.size V X1)
  have t11 : a.eval (.tmp 11) = .bool true := e _
  replace t0 := kt e t0
  replace t1 := kt e t1
  clear e
  refine wp_cond_true t11 ?_
  refine wp_seq ?_
  refine wp_se 20 [] [] (fun _ s X => Below V.heap.size V X) (fun s => fun _ => undef) () A (BB) trivial ?_
  rintro _ a X2 A e (BB : Below V.heap.size V X2)
  have t4 : a.eval (.tmp 4) = .slice none 0 0 := e _
  have t5 : a.eval (.tmp 5) = .int .i64 ((110 : Nat) : Int) := e _
  clear e t0 t1
  have hE : apE f n m = 110 := if_neg (fun q => by omega)
  rw [hE, zl_no (by decide)]
  refine wp_ret ?_
  repeat (first | with_reducible refine ret_in ?_ | with_reducible refine ret_then ?_)
  refine bodyPost_ret (results_tmp2 rfl _ _ _) A.2 ⟨_, ?_, World.ownsRow_nil _ _ _ _, BB⟩
  show Ending.returned (.tuple #[a.eval (.tmp 4), a.eval (.tmp 5)]) = _
  rw [t4, t5]
end Go.Proofs.Ytmjpneaccjlpkaa.Prm
