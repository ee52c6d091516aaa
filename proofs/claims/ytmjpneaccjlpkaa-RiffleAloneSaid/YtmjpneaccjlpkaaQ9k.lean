import Derived.Test.YtmjpneaccjlpkaaF9a
import Derived.Test.YtmjpneaccjlpkaaQ9j
namespace Go.Proofs.Ytmjpneaccjlpkaa.Brd
open Go.RowKit Gf8 Aes By8 Cel Cf Tap Drw Prm
/- Package braid as it landed: sum, areSizes, areFalling, slices.Clone, standsSoOften, areOffsets. Written by tools/mkQ9k.py. -/
section
variable {o : Oper} {a : Act} {w : World}
theorem execNilIt {x : Operand} {n c : Nat} (ho : o.op = .binOp .eql 24 x (.const (.slice none 0 0)) 24) (hx : a.eval x = .slice none n c) : (execOp a.eval o).run Try.prog w = .ok (.value (.bool true)) w := by
 have en := Go.Lib.run_eql_slice_nil (P := Try.prog) w 24 3 none n c 0 0 Try.underlying24
 have ec : a.eval (.const (.slice none 0 0)) = .slice none 0 0 := rfl
 unfold execOp
 simp only [ho, hx, ec]
 simp [go_sem, en]
theorem execNilIf {x : Operand} {ad : Addr} {n c : Nat} (ho : o.op = .binOp .eql 24 x (.const (.slice none 0 0)) 24) (hx : a.eval x = .slice (some ad) n c) : (execOp a.eval o).run Try.prog w = .ok (.value (.bool false)) w := by
 have en := Go.Lib.run_eql_slice_nil (P := Try.prog) w 24 3 (some ad) n c 0 0 Try.underlying24
 have ec : a.eval (.const (.slice none 0 0)) = .slice none 0 0 := rfl
 unfold execOp
 simp only [ho, hx, ec]
 simp [go_sem, en]
end
theorem sl_lhA (ad : Option Addr) (len cap l h : Nat) (h1 : l ≤ h) (h2 : h ≤ cap) (W : World) : (Instr.sliceAt 24 (.slice ad len cap) (some (.int .i64 (l : Int))) (some (.int .i64 (h : Int))) none).run Try.prog W = .ok (sliced ad l h cap 1) W := by
 have e1 : (l : Int) ≤ h := by omega
 have e2 : (h : Int) ≤ cap := by omega
 obtain ⟨i, i1, _, i3, _⟩ := infoI
 simp [Instr.sliceAt, Instr.slice, run_underlying Try.underlying24, Instr.sliceBounds, run_sliceBound, sliced, h1, h2, sizeOf, typeInfo, i1, i3]
theorem sl_hA (ad : Option Addr) (len cap h : Nat) (h2 : h ≤ cap) (W : World) : (Instr.sliceAt 24 (.slice ad len cap) none (some (.int .i64 (h : Int))) none).run Try.prog W = .ok (sliced ad 0 h cap 1) W := by
 have e2 : (h : Int) ≤ cap := by omega
 obtain ⟨i, i1, _, _, _⟩ := infoI
 simp [Instr.sliceAt, Instr.slice, run_underlying Try.underlying24, Instr.sliceBounds, run_sliceBound, sliced, h2, sizeOf, typeInfo, i1]
theorem cnt_le (C : Nat → Nat) (j : Nat) : ∀ k, cntC C j k ≤ k
 | 0 => Nat.le_refl _
 | k + 1 => by
  have := cnt_le C j k
  show cntC C j k + _ ≤ k + 1
  by_cases h : C k = j
  ·rw [if_pos h]; omega
  ·rw [if_neg h]; omega
theorem st_set {W : World} {B J i w gl cl : Nat} {v : Value} {f tm : Nat → Int} (h : W.ownsRow B 3 1 v J (intsL J (fun j => tm j - (cntC (gN f) j i : Int)))) (el : v = .slice (some ⟨gl, 0, none⟩) J cl) (hg : gN f i = w) :
  (W.setCell ⟨gl, 0 + w, none⟩ (.int .i64 (tm w - (cntC (gN f) w i : Int) - 1))).ownsRow B 3 1 v J (intsL J (fun j => tm j - (cntC (gN f) j (i + 1) : Int))) := by
 subst el
 have h1 := own_setF (k := w) (tm w - (cntC (gN f) w i : Int) - 1) h
 rw [intsL_congr (g := fun j => tm j - (cntC (gN f) j (i + 1) : Int)) (fun j hj => ?_)] at h1
 ·exact h1
 ·show (if j = w then tm w - (cntC (gN f) w i : Int) - 1 else tm j - (cntC (gN f) j i : Int)) = tm j - ((cntC (gN f) j i + (if gN f i = j then 1 else 0) : Nat) : Int)
  rw [hg]
  by_cases e : j = w
  ·subst e
   rw [if_pos rfl, if_pos rfl]
   omega
  ·rw [if_neg e, if_neg (fun q => e q.symm)]
   omega
set_option maxRecDepth 100000 in
set_option maxHeartbeats 4000000 in
theorem psum (f : Nat → Int) (n : Nat) (v : Value) (V : World) (hv : SliceI V v n f) (hn17 : n ≤ 17592186044416) (hf : ∀ j, j < n → 0 ≤ f j) (hs : sumN (gN f) n ≤ 1000000) :
  Calls Try.prog 70 #[v] V fun e w' => e = .returned (.int .i64 ((sumN (gN f) n : Nat) : Int)) ∧ Below V.heap.size V w' := by
 obtain ⟨ia, ic, rfl, -, -, hsh⟩ := id hv.shape
 have FI := hv
 go_enter Try.func70, Try.ntmps70
 refine wp_seq ?_
 refine wp_region_sqK 17 [(0, 2)] (fun i_ => match i_ with | 0 => .int .i64 ((0 : Nat) : Int) | _ => undef) rfl (by kernel_rfl) (by decide) (by decide) ?_ ?_
 ·intro i_ hi_ a hf hv hn
  match i_, hi_ with
  | 0, _ => exact stepV rfl rfl (execAsgB rfl rfl) ⟨⟨_, rfl, rfl⟩, rfl⟩
  | k_ + 1, h_ => exact absurd h_ (by simp)
 intro a h1 h2 h3 h4
 have t0 : a.eval (.tmp 0) = .slice ia n ic := (h3 0 (by decide)).trans rfl
 have A : a.tmps.size = 17 ∧ a.defers = [] := ⟨h1, h2⟩
 have BW : Below V.heap.size V V := Below.refl _ _
 clear h1 h2 h3 h4
 have BB := BW
 refine wp_seq ?_
 refine wp_se 17 [] [] (fun _ s X => Below V.heap.size V X) (fun s => fun _ => undef) () A (BB) trivial ?_
 rintro _ a X1 A e (BB : Below V.heap.size V X1)
 have t3 : a.eval (.tmp 3) = .int .i64 ((0 : Nat) : Int) := e _
 replace t0 := kt e t0
 clear e
 refine wp_seq (wp_seq ?_)
 refine wp_se 17 [1] [] (fun _ s X => Below V.heap.size V X) (fun s => fun i_ => match i_ with | 1 => .int .i64 ((n : Nat) : Int) | _ => undef) () A (BB) (And.intro ?_ trivial) ?_
 ·exact fun s a X e hS => stepV rfl rfl (execLenI (len := n) rfl ((e (.tmp 6)).trans t0) ((FI.on hS)).shp) ⟨s, ⟨_, rfl, rfl⟩, hS, ar⟩
 rintro _ a X2 A e (BB : Below V.heap.size V X2)
 have t6 : a.eval (.tmp 6) = .slice ia n ic := (e _).trans t0
 have t7 : a.eval (.tmp 7) = .int .i64 ((n : Nat) : Int) := e _
 have t8 : a.eval (.tmp 8) = .int .i64 ((0 : Nat) : Int) := e _
 replace t3 := kt e t3
 clear e t0
 refine wp_block ?_
 refine wp_loop (fun a W => ∃ (i : Nat), i ≤ n ∧ (a.tmps.size = 17 ∧ a.defers = []) ∧ a.eval (.tmp 3) = .int .i64 ((sumN (gN f) i : Nat) : Int) ∧ a.eval (.tmp 6) = .slice ia n ic ∧ a.eval (.tmp 7) = .int .i64 ((n : Nat) : Int) ∧ a.eval (.tmp 8) = .int .i64 ((i : Nat) : Int) ∧ Below V.heap.size V W) (fun a _ => n - (intOf (a.eval (.tmp 8))).toNat) ⟨0, Nat.zero_le _, A, t3, t6, t7, t8, BB⟩ ?_
 rintro a XL3 ⟨i, hi, A, t3, t6, t7, t8, BB⟩
 have esi := t8
 refine wp_seq ?_
 refine wp_se 17 [0] [] (fun _ s X => Below V.heap.size V X) (fun s => fun i_ => match i_ with | 0 => .bool (decide (i < n)) | _ => undef) () A (BB) (And.intro ?_ trivial) ?_
 ·exact fun s a X e hS => stepV rfl rfl (execLtW (p := i) (q := n) rfl ((e (.tmp 8)).trans t8) ((e (.tmp 7)).trans t7)) ⟨s, ⟨_, rfl, rfl⟩, hS, ar⟩
 rintro _ a X3 A e (BB : Below V.heap.size V X3)
 have t9 : a.eval (.tmp 9) = .bool (decide (i < n)) := e _
 replace t3 := kt e t3
 replace t6 := kt e t6
 replace t7 := kt e t7
 replace t8 := kt e t8
 clear e
 refine wp_seq ?_
 by_cases lti : i < n
 ·rw [decide_eq_true lti] at t9
  refine wp_cond_true t9 (wp_skip ?_)
  clear t9
  refine wp_seq (wp_block ?_)
  obtain ⟨ib, io, rfl, hib, hcell⟩ := hsh (by omega)
  have cI : ∀ k, k < n → ∀ X, Below V.heap.size V X → X.cell? ⟨ib, io + k, none⟩ = some (.int .i64 (f k)) := fun k hk X hX => by rw [cell_below hX hib]; exact hcell k hk
  obtain ⟨w, ew⟩ : ∃ w : Nat, f i = w := ⟨(f i).toNat, by have := hf i lti; omega⟩
  have cW : ∀ X, Below V.heap.size V X → X.cell? ⟨ib, io + i, none⟩ = some (.int .i64 ((w : Nat) : Int)) := fun X hX => by rw [cI i lti X hX, ew]
  have e3 : sumN (gN f) i + w = sumN (gN f) (i + 1) := by show _ = sumN (gN f) i + (f i).toNat; omega
  have hb3 := sumN_mono (r := gN f) (show i + 1 ≤ n by omega)
  refine wp_seq ?_
  refine wp_se 17 [0, 1] [] (fun _ s X => Below V.heap.size V X) (fun s => fun i_ => match i_ with | 0 => .pointer (some ⟨ib, io + i, none⟩) | 1 => .int .i64 ((w : Nat) : Int) | _ => undef) () A (BB) (And.intro ?_ (And.intro ?_ trivial)) ?_
  ·exact fun s a X e hS => stepV rfl rfl (execIdxN (k := i) rfl ((e (.tmp 6)).trans t6) ((e (.tmp 8)).trans t8) lti) ⟨s, ⟨_, rfl, rfl⟩, hS, ar⟩
  ·exact fun s a X e hS => stepV rfl rfl (execLd3 rfl (e (.tmp 10)) (cW X hS)) ⟨s, ⟨_, rfl, rfl⟩, hS, ar⟩
  rintro _ a X4 A e (BB : Below V.heap.size V X4)
  have t5 : a.eval (.tmp 5) = .int .i64 ((w : Nat) : Int) := e _
  replace t3 := kt e t3
  replace t6 := kt e t6
  replace t7 := kt e t7
  replace t8 := kt e t8
  clear e
  refine wp_se 17 [2] [] (fun _ s X => Below V.heap.size V X) (fun s => fun i_ => match i_ with | 2 => .int .i64 ((sumN (gN f) i + w : Nat) : Int) | _ => undef) () A (BB) (And.intro ?_ trivial) ?_
  ·exact fun s a X e hS => stepV rfl rfl (execAd8 (p := sumN (gN f) i) (q := w) rfl ((e (.tmp 12)).trans t3) ((e (.tmp 13)).trans t5) (by omega)) ⟨s, ⟨_, rfl, rfl⟩, hS, ar⟩
  rintro _ a X5 A e (BB : Below V.heap.size V X5)
  replace t3 : a.eval (.tmp 3) = .int .i64 ((sumN (gN f) i + w : Nat) : Int) := e _
  replace t6 := kt e t6
  replace t7 := kt e t7
  replace t8 := kt e t8
  clear e t5
  rw [e3] at t3
  refine wp_se 17 [0] [] (fun _ s X => Below V.heap.size V X) (fun s => fun i_ => match i_ with | 0 => .int .i64 ((i + 1 : Nat) : Int) | _ => undef) () A (BB) (And.intro ?_ trivial) ?_
  ·exact fun s a X e hS => stepV rfl rfl (execAd8 (p := i) (q := 1) rfl ((e (.tmp 8)).trans t8) rfl (by omega)) ⟨s, ⟨_, rfl, rfl⟩, hS, ar⟩
  rintro _ a X6 A e (BB : Below V.heap.size V X6)
  replace t8 : a.eval (.tmp 8) = .int .i64 ((i + 1 : Nat) : Int) := e _
  replace t3 := kt e t3
  replace t6 := kt e t6
  replace t7 := kt e t7
  clear e
  exact ⟨⟨i + 1, lti, A, t3, t6, t7, t8, BB⟩, by show n - (intOf (a.eval (.tmp 8))).toNat < n - (intOf (Act.eval _ (.tmp 8))).toNat; rw [t8, esi]; show n - (i + 1) < n - i; omega⟩
 ·rw [decide_eq_false lti] at t9
  refine wp_cond_false t9 ?_
  refine wp_exit ?_
  first | with_reducible refine exit_in ?_ | with_reducible refine exit_then (exit_in ?_) | with_reducible refine exit_then (exit_then (exit_in ?_)) | refine exit_in ?_ | refine exit_then (exit_in ?_) | refine exit_then (exit_then (exit_in ?_))
  clear t9 esi
  obtain rfl : i = n := by omega
  clear t6 t7 t8
  refine wp_seq ?_
  refine wp_se 17 [] [] (fun _ s X => Below V.heap.size V X) (fun s => fun _ => undef) () A (BB) trivial ?_
  rintro _ a X7 A e (BB : Below V.heap.size V X7)
  have t2 : a.eval (.tmp 2) = .int .i64 ((sumN (gN f) i : Nat) : Int) := (e _).trans t3
  clear e t3
  refine wp_ret ?_
  repeat (first | with_reducible refine ret_in ?_ | with_reducible refine ret_then ?_)
  refine bodyPost_ret (results_tmp rfl _ _ _) A.2 ⟨?_, BB⟩
  show Ending.returned (a.eval (.tmp 2)) = _
  rw [t2]
set_option maxRecDepth 100000 in
set_option maxHeartbeats 4000000 in
theorem pareSizes (sf : Nat → Int) (J : Nat) (v : Value) (V : World) (hv : SliceI V v J sf) (hJ17 : J ≤ 17592186044416) :
  Calls Try.prog 69 #[v] V fun e w' => e = .returned (.bool (szQ sf J)) ∧ Below V.heap.size V w' := by
 obtain ⟨ia, ic, rfl, -, -, hsh⟩ := id hv.shape
 have FI := hv
 go_enter Try.func69, Try.ntmps69
 refine wp_seq ?_
 refine wp_region_sqK 31 [(0, 2)] (fun i_ => match i_ with | 0 => .bool false | _ => undef) rfl (by kernel_rfl) (by decide) (by decide) ?_ ?_
 ·intro i_ hi_ a hf hv hn
  match i_, hi_ with
  | 0, _ => exact stepV rfl rfl (execAsgB rfl rfl) ⟨⟨_, rfl, rfl⟩, rfl⟩
  | k_ + 1, h_ => exact absurd h_ (by simp)
 intro a h1 h2 h3 h4
 have t0 : a.eval (.tmp 0) = .slice ia J ic := (h3 0 (by decide)).trans rfl
 have A : a.tmps.size = 31 ∧ a.defers = [] := ⟨h1, h2⟩
 have BW : Below V.heap.size V V := Below.refl _ _
 clear h1 h2 h3 h4
 have BB := BW
 refine wp_seq (wp_seq ?_)
 by_cases ha : J < 1
 ·refine wp_se 31 [1, 2] [] (fun _ s X => Below V.heap.size V X) (fun s => fun i_ => match i_ with | 1 => .int .i64 ((J : Nat) : Int) | 2 => .bool true | _ => undef) () A (BB) (And.intro ?_ (And.intro ?_ trivial)) ?_
  ·exact fun s a X e hS => stepV rfl rfl (execLenI (len := J) rfl ((e (.tmp 6)).trans t0) ((FI.on hS)).shp) ⟨s, ⟨_, rfl, rfl⟩, hS, ar⟩
  ·exact fun s a X e hS => stepV rfl rfl (execDec (execLtW (p := J) (q := 1) rfl (e (.tmp 7)) rfl) (decide_eq_true (by omega))) ⟨s, ⟨_, rfl, rfl⟩, hS, ar⟩
  rintro _ a X1 A e (BB : Below V.heap.size V X1)
  have t13 : a.eval (.tmp 13) = .bool true := e _
  replace t0 := kt e t0
  clear e
  refine wp_cond_true t13 ?_
  refine wp_seq ?_
  refine wp_se 31 [] [] (fun _ s X => Below V.heap.size V X) (fun s => fun _ => undef) () A (BB) trivial ?_
  rintro _ a X2 A e (BB : Below V.heap.size V X2)
  have t2 : a.eval (.tmp 2) = .bool false := e _
  clear e t0
  have hE : szQ sf J = false := Bool.eq_false_iff.2 fun q => by have := (szQ_iff.1 q).1; omega
  rw [hE]
  refine wp_ret ?_
  repeat (first | with_reducible refine ret_in ?_ | with_reducible refine ret_then ?_)
  refine bodyPost_ret (results_tmp rfl _ _ _) A.2 ⟨?_, BB⟩
  show Ending.returned (a.eval (.tmp 2)) = _
  rw [t2]
 ·by_cases hb : 64 < J
  ·refine wp_se 31 [1, 2, 5, 6] [] (fun _ s X => Below V.heap.size V X) (fun s => fun i_ => match i_ with | 1 => .int .i64 ((J : Nat) : Int) | 2 => .bool false | 5 => .int .i64 ((J : Nat) : Int) | 6 => .bool true | _ => undef) () A (BB) (And.intro ?_ (And.intro ?_ (And.intro ?_ (And.intro ?_ trivial)))) ?_
   ·exact fun s a X e hS => stepV rfl rfl (execLenI (len := J) rfl ((e (.tmp 6)).trans t0) ((FI.on hS)).shp) ⟨s, ⟨_, rfl, rfl⟩, hS, ar⟩
   ·exact fun s a X e hS => stepV rfl rfl (execDec (execLtW (p := J) (q := 1) rfl (e (.tmp 7)) rfl) (decide_eq_false (by omega))) ⟨s, ⟨_, rfl, rfl⟩, hS, ar⟩
   ·exact fun s a X e hS => stepV rfl (wy rfl rfl rfl (e (.tmp 9))) (execLenI (len := J) rfl ((e (.tmp 10)).trans t0) ((FI.on hS)).shp) ⟨s, ⟨_, rfl, rfl⟩, hS, ar⟩
   ·exact fun s a X e hS => stepV rfl (wy rfl rfl rfl (e (.tmp 9))) (execDec (execGtN (p := J) (q := 64) rfl (e (.tmp 11)) rfl) (decide_eq_true (by omega))) ⟨s, ⟨_, rfl, rfl⟩, hS, ar⟩
   rintro _ a X1 A e (BB : Below V.heap.size V X1)
   have t13 : a.eval (.tmp 13) = .bool true := e _
   replace t0 := kt e t0
   clear e
   refine wp_cond_true t13 ?_
   refine wp_seq ?_
   refine wp_se 31 [] [] (fun _ s X => Below V.heap.size V X) (fun s => fun _ => undef) () A (BB) trivial ?_
   rintro _ a X2 A e (BB : Below V.heap.size V X2)
   have t2 : a.eval (.tmp 2) = .bool false := e _
   clear e t0
   have hE : szQ sf J = false := Bool.eq_false_iff.2 fun q => by have := (szQ_iff.1 q).1; omega
   rw [hE]
   refine wp_ret ?_
   repeat (first | with_reducible refine ret_in ?_ | with_reducible refine ret_then ?_)
   refine bodyPost_ret (results_tmp rfl _ _ _) A.2 ⟨?_, BB⟩
   show Ending.returned (a.eval (.tmp 2)) = _
   rw [t2]
  ·refine wp_se 31 [1, 2, 5, 6] [] (fun _ s X => Below V.heap.size V X) (fun s => fun i_ => match i_ with | 1 => .int .i64 ((J : Nat) : Int) | 2 => .bool false | 5 => .int .i64 ((J : Nat) : Int) | 6 => .bool false | _ => undef) () A (BB) (And.intro ?_ (And.intro ?_ (And.intro ?_ (And.intro ?_ trivial)))) ?_
   ·exact fun s a X e hS => stepV rfl rfl (execLenI (len := J) rfl ((e (.tmp 6)).trans t0) ((FI.on hS)).shp) ⟨s, ⟨_, rfl, rfl⟩, hS, ar⟩
   ·exact fun s a X e hS => stepV rfl rfl (execDec (execLtW (p := J) (q := 1) rfl (e (.tmp 7)) rfl) (decide_eq_false (by omega))) ⟨s, ⟨_, rfl, rfl⟩, hS, ar⟩
   ·exact fun s a X e hS => stepV rfl (wy rfl rfl rfl (e (.tmp 9))) (execLenI (len := J) rfl ((e (.tmp 10)).trans t0) ((FI.on hS)).shp) ⟨s, ⟨_, rfl, rfl⟩, hS, ar⟩
   ·exact fun s a X e hS => stepV rfl (wy rfl rfl rfl (e (.tmp 9))) (execDec (execGtN (p := J) (q := 64) rfl (e (.tmp 11)) rfl) (decide_eq_false (by omega))) ⟨s, ⟨_, rfl, rfl⟩, hS, ar⟩
   rintro _ a X1 A e (BB : Below V.heap.size V X1)
   have t13 : a.eval (.tmp 13) = .bool false := e _
   replace t0 := kt e t0
   clear e
   refine wp_cond_false t13 (wp_skip ?_)
   clear t13
   refine wp_seq ?_
   refine wp_se 31 [] [] (fun _ s X => Below V.heap.size V X) (fun s => fun _ => undef) () A (BB) trivial ?_
   rintro _ a X3 A e (BB : Below V.heap.size V X3)
   have t3 : a.eval (.tmp 3) = .int .i64 ((256 : Nat) : Int) := e _
   replace t0 := kt e t0
   clear e
   refine wp_seq (wp_seq ?_)
   refine wp_se 31 [1] [] (fun _ s X => Below V.heap.size V X) (fun s => fun i_ => match i_ with | 1 => .int .i64 ((J : Nat) : Int) | _ => undef) () A (BB) (And.intro ?_ trivial) ?_
   ·exact fun s a X e hS => stepV rfl rfl (execLenI (len := J) rfl ((e (.tmp 14)).trans t0) ((FI.on hS)).shp) ⟨s, ⟨_, rfl, rfl⟩, hS, ar⟩
   rintro _ a X4 A e (BB : Below V.heap.size V X4)
   have t14 : a.eval (.tmp 14) = .slice ia J ic := (e _).trans t0
   have t15 : a.eval (.tmp 15) = .int .i64 ((J : Nat) : Int) := e _
   have t16 : a.eval (.tmp 16) = .int .i64 ((0 : Nat) : Int) := e _
   replace t3 := kt e t3
   clear e t0
   refine wp_block ?_
   refine wp_loop (fun a W => ∃ (i : Nat), i ≤ J ∧ (okS sf i = true) ∧ (sumN (gN sf) i ≤ 256) ∧ (a.tmps.size = 31 ∧ a.defers = []) ∧ a.eval (.tmp 3) = .int .i64 ((256 - sumN (gN sf) i : Nat) : Int) ∧ a.eval (.tmp 14) = .slice ia J ic ∧ a.eval (.tmp 15) = .int .i64 ((J : Nat) : Int) ∧ a.eval (.tmp 16) = .int .i64 ((i : Nat) : Int) ∧ Below V.heap.size V W) (fun a _ => J - (intOf (a.eval (.tmp 16))).toNat) ⟨0, Nat.zero_le _, rfl, Nat.zero_le _, A, t3, t14, t15, t16, BB⟩ ?_
   rintro a XL5 ⟨i, hi, hok, h256, A, t3, t14, t15, t16, BB⟩
   have esi := t16
   refine wp_seq ?_
   refine wp_se 31 [0] [] (fun _ s X => Below V.heap.size V X) (fun s => fun i_ => match i_ with | 0 => .bool (decide (i < J)) | _ => undef) () A (BB) (And.intro ?_ trivial) ?_
   ·exact fun s a X e hS => stepV rfl rfl (execLtW (p := i) (q := J) rfl ((e (.tmp 16)).trans t16) ((e (.tmp 15)).trans t15)) ⟨s, ⟨_, rfl, rfl⟩, hS, ar⟩
   rintro _ a X5 A e (BB : Below V.heap.size V X5)
   have t17 : a.eval (.tmp 17) = .bool (decide (i < J)) := e _
   replace t3 := kt e t3
   replace t14 := kt e t14
   replace t15 := kt e t15
   replace t16 := kt e t16
   clear e
   refine wp_seq ?_
   by_cases lti : i < J
   ·rw [decide_eq_true lti] at t17
    refine wp_cond_true t17 (wp_skip ?_)
    clear t17
    refine wp_seq (wp_block ?_)
    obtain ⟨ib, io, rfl, hib, hcell⟩ := hsh (by omega)
    have cI : ∀ k, k < J → ∀ X, Below V.heap.size V X → X.cell? ⟨ib, io + k, none⟩ = some (.int .i64 (sf k)) := fun k hk X hX => by rw [cell_below hX hib]; exact hcell k hk
    by_cases h1 : sf i < 0
    ·refine wp_seq ?_
     refine wp_se 31 [0, 1] [] (fun _ s X => Below V.heap.size V X) (fun s => fun i_ => match i_ with | 0 => .pointer (some ⟨ib, io + i, none⟩) | 1 => .int .i64 (sf i) | _ => undef) () A (BB) (And.intro ?_ (And.intro ?_ trivial)) ?_
     ·exact fun s a X e hS => stepV rfl rfl (execIdxN (k := i) rfl ((e (.tmp 14)).trans t14) ((e (.tmp 16)).trans t16) lti) ⟨s, ⟨_, rfl, rfl⟩, hS, ar⟩
     ·exact fun s a X e hS => stepV rfl rfl (execLd3 rfl (e (.tmp 18)) (cI i lti X hS)) ⟨s, ⟨_, rfl, rfl⟩, hS, ar⟩
     rintro _ a X6 A e (BB : Below V.heap.size V X6)
     have t5 : a.eval (.tmp 5) = .int .i64 (sf i) := e _
     replace t3 := kt e t3
     replace t14 := kt e t14
     replace t15 := kt e t15
     replace t16 := kt e t16
     clear e
     refine wp_seq (wp_seq ?_)
     refine wp_se 31 [1] [] (fun _ s X => Below V.heap.size V X) (fun s => fun i_ => match i_ with | 1 => .bool true | _ => undef) () A (BB) (And.intro ?_ trivial) ?_
     ·exact fun s a X e hS => stepV rfl rfl (execLtCt (p := (sf i)) (q := 0) rfl ((e (.tmp 20)).trans t5) (by exact h1)) ⟨s, ⟨_, rfl, rfl⟩, hS, ar⟩
     rintro _ a X7 A e (BB : Below V.heap.size V X7)
     have t26 : a.eval (.tmp 26) = .bool true := e _
     replace t3 := kt e t3
     replace t14 := kt e t14
     replace t15 := kt e t15
     replace t16 := kt e t16
     replace t5 := kt e t5
     clear e
     refine wp_cond_true t26 ?_
     refine wp_seq ?_
     refine wp_se 31 [] [] (fun _ s X => Below V.heap.size V X) (fun s => fun _ => undef) () A (BB) trivial ?_
     rintro _ a X8 A e (BB : Below V.heap.size V X8)
     have t2 : a.eval (.tmp 2) = .bool false := e _
     clear e t3 t14 t15 t16 t5
     have hE : szQ sf J = false := Bool.eq_false_iff.2 fun q => okS_bad lti (by omega) (szQ_iff.1 q).2
     rw [hE]
     refine wp_ret ?_
     repeat (first | with_reducible refine ret_in ?_ | with_reducible refine ret_then ?_)
     refine bodyPost_ret (results_tmp rfl _ _ _) A.2 ⟨?_, BB⟩
     show Ending.returned (a.eval (.tmp 2)) = _
     rw [t2]
    ·by_cases h2 : 256 - (sumN (gN sf) i : Int) < sf i
     ·obtain ⟨w, ew⟩ : ∃ w : Nat, sf i = w := ⟨(sf i).toNat, by omega⟩
      have cW : ∀ X, Below V.heap.size V X → X.cell? ⟨ib, io + i, none⟩ = some (.int .i64 ((w : Nat) : Int)) := fun X hX => by rw [cI i lti X hX, ew]
      refine wp_seq ?_
      refine wp_se 31 [0, 1] [] (fun _ s X => Below V.heap.size V X) (fun s => fun i_ => match i_ with | 0 => .pointer (some ⟨ib, io + i, none⟩) | 1 => .int .i64 ((w : Nat) : Int) | _ => undef) () A (BB) (And.intro ?_ (And.intro ?_ trivial)) ?_
      ·exact fun s a X e hS => stepV rfl rfl (execIdxN (k := i) rfl ((e (.tmp 14)).trans t14) ((e (.tmp 16)).trans t16) lti) ⟨s, ⟨_, rfl, rfl⟩, hS, ar⟩
      ·exact fun s a X e hS => stepV rfl rfl (execLd3 rfl (e (.tmp 18)) (cW X hS)) ⟨s, ⟨_, rfl, rfl⟩, hS, ar⟩
      rintro _ a X6 A e (BB : Below V.heap.size V X6)
      have t5 : a.eval (.tmp 5) = .int .i64 ((w : Nat) : Int) := e _
      replace t3 := kt e t3
      replace t14 := kt e t14
      replace t15 := kt e t15
      replace t16 := kt e t16
      clear e
      refine wp_seq (wp_seq ?_)
      refine wp_se 31 [1, 5] [] (fun _ s X => Below V.heap.size V X) (fun s => fun i_ => match i_ with | 1 => .bool false | 5 => .bool true | _ => undef) () A (BB) (And.intro ?_ (And.intro ?_ trivial)) ?_
      ·exact fun s a X e hS => stepV rfl rfl (execDec (execLtW (p := w) (q := 0) rfl ((e (.tmp 20)).trans t5) rfl) (decide_eq_false (by omega))) ⟨s, ⟨_, rfl, rfl⟩, hS, ar⟩
      ·exact fun s a X e hS => stepV rfl (wy rfl rfl rfl (e (.tmp 22))) (execDec (execGtN (p := w) (q := 256 - sumN (gN sf) i) rfl ((e (.tmp 23)).trans t5) ((e (.tmp 24)).trans t3)) (decide_eq_true (by omega))) ⟨s, ⟨_, rfl, rfl⟩, hS, ar⟩
      rintro _ a X7 A e (BB : Below V.heap.size V X7)
      have t26 : a.eval (.tmp 26) = .bool true := e _
      replace t3 := kt e t3
      replace t14 := kt e t14
      replace t15 := kt e t15
      replace t16 := kt e t16
      replace t5 := kt e t5
      clear e
      refine wp_cond_true t26 ?_
      refine wp_seq ?_
      refine wp_se 31 [] [] (fun _ s X => Below V.heap.size V X) (fun s => fun _ => undef) () A (BB) trivial ?_
      rintro _ a X8 A e (BB : Below V.heap.size V X8)
      have t2 : a.eval (.tmp 2) = .bool false := e _
      clear e t3 t14 t15 t16 t5
      have hE : szQ sf J = false := Bool.eq_false_iff.2 fun q => okS_bad lti (by omega) (szQ_iff.1 q).2
      rw [hE]
      refine wp_ret ?_
      repeat (first | with_reducible refine ret_in ?_ | with_reducible refine ret_then ?_)
      refine bodyPost_ret (results_tmp rfl _ _ _) A.2 ⟨?_, BB⟩
      show Ending.returned (a.eval (.tmp 2)) = _
      rw [t2]
     ·obtain ⟨w, ew⟩ : ∃ w : Nat, sf i = w := ⟨(sf i).toNat, by omega⟩
      have cW : ∀ X, Below V.heap.size V X → X.cell? ⟨ib, io + i, none⟩ = some (.int .i64 ((w : Nat) : Int)) := fun X hX => by rw [cI i lti X hX, ew]
      refine wp_seq ?_
      refine wp_se 31 [0, 1] [] (fun _ s X => Below V.heap.size V X) (fun s => fun i_ => match i_ with | 0 => .pointer (some ⟨ib, io + i, none⟩) | 1 => .int .i64 ((w : Nat) : Int) | _ => undef) () A (BB) (And.intro ?_ (And.intro ?_ trivial)) ?_
      ·exact fun s a X e hS => stepV rfl rfl (execIdxN (k := i) rfl ((e (.tmp 14)).trans t14) ((e (.tmp 16)).trans t16) lti) ⟨s, ⟨_, rfl, rfl⟩, hS, ar⟩
      ·exact fun s a X e hS => stepV rfl rfl (execLd3 rfl (e (.tmp 18)) (cW X hS)) ⟨s, ⟨_, rfl, rfl⟩, hS, ar⟩
      rintro _ a X6 A e (BB : Below V.heap.size V X6)
      have t5 : a.eval (.tmp 5) = .int .i64 ((w : Nat) : Int) := e _
      replace t3 := kt e t3
      replace t14 := kt e t14
      replace t15 := kt e t15
      replace t16 := kt e t16
      clear e
      refine wp_seq (wp_seq ?_)
      refine wp_se 31 [1, 5] [] (fun _ s X => Below V.heap.size V X) (fun s => fun i_ => match i_ with | 1 => .bool false | 5 => .bool false | _ => undef) () A (BB) (And.intro ?_ (And.intro ?_ trivial)) ?_
      ·exact fun s a X e hS => stepV rfl rfl (execDec (execLtW (p := w) (q := 0) rfl ((e (.tmp 20)).trans t5) rfl) (decide_eq_false (by omega))) ⟨s, ⟨_, rfl, rfl⟩, hS, ar⟩
      ·exact fun s a X e hS => stepV rfl (wy rfl rfl rfl (e (.tmp 22))) (execDec (execGtN (p := w) (q := 256 - sumN (gN sf) i) rfl ((e (.tmp 23)).trans t5) ((e (.tmp 24)).trans t3)) (decide_eq_false (by omega))) ⟨s, ⟨_, rfl, rfl⟩, hS, ar⟩
      rintro _ a X7 A e (BB : Below V.heap.size V X7)
      have t26 : a.eval (.tmp 26) = .bool false := e _
      replace t3 := kt e t3
      replace t14 := kt e t14
      replace t15 := kt e t15
      replace t16 := kt e t16
      replace t5 := kt e t5
      clear e
      refine wp_cond_false t26 (wp_skip ?_)
      clear t26
      refine wp_se 31 [2] [] (fun _ s X => Below V.heap.size V X) (fun s => fun i_ => match i_ with | 2 => .int .i64 ((256 - sumN (gN sf) i - w : Nat) : Int) | _ => undef) () A (BB) (And.intro ?_ trivial) ?_
      ·exact fun s a X e hS => stepV rfl rfl (By8.execSubI (p := 256 - sumN (gN sf) i) (q := w) rfl ((e (.tmp 27)).trans t3) ((e (.tmp 28)).trans t5) (by omega) (by omega)) ⟨s, ⟨_, rfl, rfl⟩, hS, ar⟩
      rintro _ a X9 A e (BB : Below V.heap.size V X9)
      replace t3 : a.eval (.tmp 3) = .int .i64 ((256 - sumN (gN sf) i - w : Nat) : Int) := e _
      replace t14 := kt e t14
      replace t15 := kt e t15
      replace t16 := kt e t16
      clear e t5
      have e3 : 256 - sumN (gN sf) i - w = 256 - sumN (gN sf) (i + 1) := by show _ = 256 - (sumN (gN sf) i + (sf i).toNat); omega
      have e4 : sumN (gN sf) (i + 1) = sumN (gN sf) i + w := by show sumN (gN sf) i + (sf i).toNat = _; omega
      rw [e3] at t3
      refine wp_se 31 [0] [] (fun _ s X => Below V.heap.size V X) (fun s => fun i_ => match i_ with | 0 => .int .i64 ((i + 1 : Nat) : Int) | _ => undef) () A (BB) (And.intro ?_ trivial) ?_
      ·exact fun s a X e hS => stepV rfl rfl (execAd8 (p := i) (q := 1) rfl ((e (.tmp 16)).trans t16) rfl (by omega)) ⟨s, ⟨_, rfl, rfl⟩, hS, ar⟩
      rintro _ a X10 A e (BB : Below V.heap.size V X10)
      replace t16 : a.eval (.tmp 16) = .int .i64 ((i + 1 : Nat) : Int) := e _
      replace t3 := kt e t3
      replace t14 := kt e t14
      replace t15 := kt e t15
      clear e
      exact ⟨⟨i + 1, lti, okS_succ hok (by omega), by rw [e4]; omega, A, t3, t14, t15, t16, BB⟩, by show J - (intOf (a.eval (.tmp 16))).toNat < J - (intOf (Act.eval _ (.tmp 16))).toNat; rw [t16, esi]; show J - (i + 1) < J - i; omega⟩
   ·rw [decide_eq_false lti] at t17
    refine wp_cond_false t17 ?_
    refine wp_exit ?_
    first | with_reducible refine exit_in ?_ | with_reducible refine exit_then (exit_in ?_) | with_reducible refine exit_then (exit_then (exit_in ?_)) | refine exit_in ?_ | refine exit_then (exit_in ?_) | refine exit_then (exit_then (exit_in ?_))
    clear t17 esi
    obtain rfl : i = J := by omega
    have hE : szQ sf i = true := szQ_iff.2 ⟨⟨by omega, by omega⟩, hok⟩
    rw [hE]
    clear t3 t14 t15 t16
    refine wp_seq ?_
    refine wp_se 31 [] [] (fun _ s X => Below V.heap.size V X) (fun s => fun _ => undef) () A (BB) trivial ?_
    rintro _ a X11 A e (BB : Below V.heap.size V X11)
    have t2 : a.eval (.tmp 2) = .bool true := e _
    clear e
    refine wp_ret ?_
    repeat (first | with_reducible refine ret_in ?_ | with_reducible refine ret_then ?_)
    refine bodyPost_ret (results_tmp rfl _ _ _) A.2 ⟨?_, BB⟩
    show Ending.returned (a.eval (.tmp 2)) = _
    rw [t2]
set_option maxRecDepth 100000 in
set_option maxHeartbeats 4000000 in
theorem pareFalling (f : Nat → Int) (n : Nat) (v : Value) (V : World) (hv : SliceI V v n f) (hn17 : n ≤ 17592186044416) :
  Calls Try.prog 71 #[v] V fun e w' => e = .returned (.bool (faQ f n)) ∧ Below V.heap.size V w' := by
 obtain ⟨ia, ic, rfl, -, -, hsh⟩ := id hv.shape
 have FI := hv
 go_enter Try.func71, Try.ntmps71
 refine wp_seq ?_
 refine wp_region_sqK 23 [(0, 2)] (fun i_ => match i_ with | 0 => .bool false | _ => undef) rfl (by kernel_rfl) (by decide) (by decide) ?_ ?_
 ·intro i_ hi_ a hf hv hn
  match i_, hi_ with
  | 0, _ => exact stepV rfl rfl (execAsgB rfl rfl) ⟨⟨_, rfl, rfl⟩, rfl⟩
  | k_ + 1, h_ => exact absurd h_ (by simp)
 intro a h1 h2 h3 h4
 have t0 : a.eval (.tmp 0) = .slice ia n ic := (h3 0 (by decide)).trans rfl
 have A : a.tmps.size = 23 ∧ a.defers = [] := ⟨h1, h2⟩
 have BW : Below V.heap.size V V := Below.refl _ _
 clear h1 h2 h3 h4
 have BB := BW
 refine wp_seq (wp_seq ?_)
 refine wp_se 23 [1] [] (fun _ s X => Below V.heap.size V X) (fun s => fun i_ => match i_ with | 1 => .int .i64 ((n : Nat) : Int) | _ => undef) () A (BB) (And.intro ?_ trivial) ?_
 ·exact fun s a X e hS => stepV rfl rfl (execLenI (len := n) rfl ((e (.tmp 5)).trans t0) ((FI.on hS)).shp) ⟨s, ⟨_, rfl, rfl⟩, hS, ar⟩
 rintro _ a X1 A e (BB : Below V.heap.size V X1)
 have t5 : a.eval (.tmp 5) = .slice ia n ic := (e _).trans t0
 have t6 : a.eval (.tmp 6) = .int .i64 ((n : Nat) : Int) := e _
 have t7 : a.eval (.tmp 7) = .int .i64 ((0 : Nat) : Int) := e _
 replace t0 := kt e t0
 clear e
 refine wp_block ?_
 refine wp_loop (fun a W => ∃ (i : Nat), i ≤ n ∧ (allB (faB f n) i = true) ∧ (a.tmps.size = 23 ∧ a.defers = []) ∧ a.eval (.tmp 0) = .slice ia n ic ∧ a.eval (.tmp 5) = .slice ia n ic ∧ a.eval (.tmp 6) = .int .i64 ((n : Nat) : Int) ∧ a.eval (.tmp 7) = .int .i64 ((i : Nat) : Int) ∧ Below V.heap.size V W) (fun a _ => n - (intOf (a.eval (.tmp 7))).toNat) ⟨0, Nat.zero_le _, rfl, A, t0, t5, t6, t7, BB⟩ ?_
 rintro a XL2 ⟨i, hi, hok, A, t0, t5, t6, t7, BB⟩
 have esi := t7
 refine wp_seq ?_
 refine wp_se 23 [0] [] (fun _ s X => Below V.heap.size V X) (fun s => fun i_ => match i_ with | 0 => .bool (decide (i < n)) | _ => undef) () A (BB) (And.intro ?_ trivial) ?_
 ·exact fun s a X e hS => stepV rfl rfl (execLtW (p := i) (q := n) rfl ((e (.tmp 7)).trans t7) ((e (.tmp 6)).trans t6)) ⟨s, ⟨_, rfl, rfl⟩, hS, ar⟩
 rintro _ a X2 A e (BB : Below V.heap.size V X2)
 have t8 : a.eval (.tmp 8) = .bool (decide (i < n)) := e _
 replace t0 := kt e t0
 replace t5 := kt e t5
 replace t6 := kt e t6
 replace t7 := kt e t7
 clear e
 refine wp_seq ?_
 by_cases lti : i < n
 ·rw [decide_eq_true lti] at t8
  refine wp_cond_true t8 (wp_skip ?_)
  clear t8
  refine wp_seq (wp_block ?_)
  obtain ⟨ib, io, rfl, hib, hcell⟩ := hsh (by omega)
  have cI : ∀ k, k < n → ∀ X, Below V.heap.size V X → X.cell? ⟨ib, io + k, none⟩ = some (.int .i64 (f k)) := fun k hk X hX => by rw [cell_below hX hib]; exact hcell k hk
  by_cases h1 : f i < 0
  ·refine wp_seq ?_
   refine wp_se 23 [1, 2] [] (fun _ s X => Below V.heap.size V X) (fun s => fun i_ => match i_ with | 1 => .pointer (some ⟨ib, io + i, none⟩) | 2 => .int .i64 (f i) | _ => undef) () A (BB) (And.intro ?_ (And.intro ?_ trivial)) ?_
   ·exact fun s a X e hS => stepV rfl rfl (execIdxN (k := i) rfl ((e (.tmp 5)).trans t5) ((e (.tmp 7)).trans t7) lti) ⟨s, ⟨_, rfl, rfl⟩, hS, ar⟩
   ·exact fun s a X e hS => stepV rfl rfl (execLd3 rfl (e (.tmp 10)) (cI i lti X hS)) ⟨s, ⟨_, rfl, rfl⟩, hS, ar⟩
   rintro _ a X3 A e (BB : Below V.heap.size V X3)
   have t3 : a.eval (.tmp 3) = .int .i64 ((i : Nat) : Int) := (e _).trans t7
   have t4 : a.eval (.tmp 4) = .int .i64 (f i) := e _
   replace t0 := kt e t0
   replace t5 := kt e t5
   replace t6 := kt e t6
   replace t7 := kt e t7
   clear e
   refine wp_seq ?_
   refine wp_se 23 [1] [] (fun _ s X => Below V.heap.size V X) (fun s => fun i_ => match i_ with | 1 => .bool true | _ => undef) () A (BB) (And.intro ?_ trivial) ?_
   ·exact fun s a X e hS => stepV rfl rfl (execLtCt (p := (f i)) (q := 0) rfl ((e (.tmp 12)).trans t4) (by exact h1)) ⟨s, ⟨_, rfl, rfl⟩, hS, ar⟩
   rintro _ a X4 A e (BB : Below V.heap.size V X4)
   have t21 : a.eval (.tmp 21) = .bool true := e _
   replace t0 := kt e t0
   replace t5 := kt e t5
   replace t6 := kt e t6
   replace t7 := kt e t7
   clear e t3 t4
   refine wp_cond_true t21 ?_
   refine wp_seq ?_
   refine wp_se 23 [] [] (fun _ s X => Below V.heap.size V X) (fun s => fun _ => undef) () A (BB) trivial ?_
   rintro _ a X5 A e (BB : Below V.heap.size V X5)
   have t2 : a.eval (.tmp 2) = .bool false := e _
   clear e t0 t5 t6 t7
   have hE : faQ f n = false := allB_bad lti (fun q => by have := of_decide_eq_true q; omega)
   rw [hE]
   refine wp_ret ?_
   repeat (first | with_reducible refine ret_in ?_ | with_reducible refine ret_then ?_)
   refine bodyPost_ret (results_tmp rfl _ _ _) A.2 ⟨?_, BB⟩
   show Ending.returned (a.eval (.tmp 2)) = _
   rw [t2]
  ·by_cases h2 : (n : Int) - (i : Int) ≤ f i
   ·obtain ⟨w, ew⟩ : ∃ w : Nat, f i = w := ⟨(f i).toNat, by omega⟩
    have cW : ∀ X, Below V.heap.size V X → X.cell? ⟨ib, io + i, none⟩ = some (.int .i64 ((w : Nat) : Int)) := fun X hX => by rw [cI i lti X hX, ew]
    refine wp_seq ?_
    refine wp_se 23 [1, 2] [] (fun _ s X => Below V.heap.size V X) (fun s => fun i_ => match i_ with | 1 => .pointer (some ⟨ib, io + i, none⟩) | 2 => .int .i64 ((w : Nat) : Int) | _ => undef) () A (BB) (And.intro ?_ (And.intro ?_ trivial)) ?_
    ·exact fun s a X e hS => stepV rfl rfl (execIdxN (k := i) rfl ((e (.tmp 5)).trans t5) ((e (.tmp 7)).trans t7) lti) ⟨s, ⟨_, rfl, rfl⟩, hS, ar⟩
    ·exact fun s a X e hS => stepV rfl rfl (execLd3 rfl (e (.tmp 10)) (cW X hS)) ⟨s, ⟨_, rfl, rfl⟩, hS, ar⟩
    rintro _ a X3 A e (BB : Below V.heap.size V X3)
    have t3 : a.eval (.tmp 3) = .int .i64 ((i : Nat) : Int) := (e _).trans t7
    have t4 : a.eval (.tmp 4) = .int .i64 ((w : Nat) : Int) := e _
    replace t0 := kt e t0
    replace t5 := kt e t5
    replace t6 := kt e t6
    replace t7 := kt e t7
    clear e
    refine wp_seq ?_
    refine wp_se 23 [1, 5, 7, 8] [] (fun _ s X => Below V.heap.size V X) (fun s => fun i_ => match i_ with | 1 => .bool false | 5 => .int .i64 ((n : Nat) : Int) | 7 => .int .i64 ((n - i : Nat) : Int) | 8 => .bool true | _ => undef) () A (BB) (And.intro ?_ (And.intro ?_ (And.intro ?_ (And.intro ?_ trivial)))) ?_
    ·exact fun s a X e hS => stepV rfl rfl (execDec (execLtW (p := w) (q := 0) rfl ((e (.tmp 12)).trans t4) rfl) (decide_eq_false (by omega))) ⟨s, ⟨_, rfl, rfl⟩, hS, ar⟩
    ·exact fun s a X e hS => stepV rfl (wy rfl rfl rfl (e (.tmp 14))) (execLenI (len := n) rfl ((e (.tmp 16)).trans t0) ((FI.on hS)).shp) ⟨s, ⟨_, rfl, rfl⟩, hS, ar⟩
    ·exact fun s a X e hS => stepV rfl (wy rfl rfl rfl (e (.tmp 14))) (By8.execSubI (p := n) (q := i) rfl (e (.tmp 17)) ((e (.tmp 18)).trans t3) (by omega) (by omega)) ⟨s, ⟨_, rfl, rfl⟩, hS, ar⟩
    ·exact fun s a X e hS => stepV rfl (wy rfl rfl rfl (e (.tmp 14))) (execDec (execGe8 (p := w) (q := n - i) rfl ((e (.tmp 15)).trans t4) (e (.tmp 19))) (decide_eq_true (by omega))) ⟨s, ⟨_, rfl, rfl⟩, hS, ar⟩
    rintro _ a X4 A e (BB : Below V.heap.size V X4)
    have t21 : a.eval (.tmp 21) = .bool true := e _
    replace t0 := kt e t0
    replace t5 := kt e t5
    replace t6 := kt e t6
    replace t7 := kt e t7
    clear e t3 t4
    refine wp_cond_true t21 ?_
    refine wp_seq ?_
    refine wp_se 23 [] [] (fun _ s X => Below V.heap.size V X) (fun s => fun _ => undef) () A (BB) trivial ?_
    rintro _ a X5 A e (BB : Below V.heap.size V X5)
    have t2 : a.eval (.tmp 2) = .bool false := e _
    clear e t0 t5 t6 t7
    have hE : faQ f n = false := allB_bad lti (fun q => by have := of_decide_eq_true q; omega)
    rw [hE]
    refine wp_ret ?_
    repeat (first | with_reducible refine ret_in ?_ | with_reducible refine ret_then ?_)
    refine bodyPost_ret (results_tmp rfl _ _ _) A.2 ⟨?_, BB⟩
    show Ending.returned (a.eval (.tmp 2)) = _
    rw [t2]
   ·obtain ⟨w, ew⟩ : ∃ w : Nat, f i = w := ⟨(f i).toNat, by omega⟩
    have cW : ∀ X, Below V.heap.size V X → X.cell? ⟨ib, io + i, none⟩ = some (.int .i64 ((w : Nat) : Int)) := fun X hX => by rw [cI i lti X hX, ew]
    refine wp_seq ?_
    refine wp_se 23 [1, 2] [] (fun _ s X => Below V.heap.size V X) (fun s => fun i_ => match i_ with | 1 => .pointer (some ⟨ib, io + i, none⟩) | 2 => .int .i64 ((w : Nat) : Int) | _ => undef) () A (BB) (And.intro ?_ (And.intro ?_ trivial)) ?_
    ·exact fun s a X e hS => stepV rfl rfl (execIdxN (k := i) rfl ((e (.tmp 5)).trans t5) ((e (.tmp 7)).trans t7) lti) ⟨s, ⟨_, rfl, rfl⟩, hS, ar⟩
    ·exact fun s a X e hS => stepV rfl rfl (execLd3 rfl (e (.tmp 10)) (cW X hS)) ⟨s, ⟨_, rfl, rfl⟩, hS, ar⟩
    rintro _ a X3 A e (BB : Below V.heap.size V X3)
    have t3 : a.eval (.tmp 3) = .int .i64 ((i : Nat) : Int) := (e _).trans t7
    have t4 : a.eval (.tmp 4) = .int .i64 ((w : Nat) : Int) := e _
    replace t0 := kt e t0
    replace t5 := kt e t5
    replace t6 := kt e t6
    replace t7 := kt e t7
    clear e
    refine wp_seq ?_
    refine wp_se 23 [1, 5, 7, 8] [] (fun _ s X => Below V.heap.size V X) (fun s => fun i_ => match i_ with | 1 => .bool false | 5 => .int .i64 ((n : Nat) : Int) | 7 => .int .i64 ((n - i : Nat) : Int) | 8 => .bool false | _ => undef) () A (BB) (And.intro ?_ (And.intro ?_ (And.intro ?_ (And.intro ?_ trivial)))) ?_
    ·exact fun s a X e hS => stepV rfl rfl (execDec (execLtW (p := w) (q := 0) rfl ((e (.tmp 12)).trans t4) rfl) (decide_eq_false (by omega))) ⟨s, ⟨_, rfl, rfl⟩, hS, ar⟩
    ·exact fun s a X e hS => stepV rfl (wy rfl rfl rfl (e (.tmp 14))) (execLenI (len := n) rfl ((e (.tmp 16)).trans t0) ((FI.on hS)).shp) ⟨s, ⟨_, rfl, rfl⟩, hS, ar⟩
    ·exact fun s a X e hS => stepV rfl (wy rfl rfl rfl (e (.tmp 14))) (By8.execSubI (p := n) (q := i) rfl (e (.tmp 17)) ((e (.tmp 18)).trans t3) (by omega) (by omega)) ⟨s, ⟨_, rfl, rfl⟩, hS, ar⟩
    ·exact fun s a X e hS => stepV rfl (wy rfl rfl rfl (e (.tmp 14))) (execDec (execGe8 (p := w) (q := n - i) rfl ((e (.tmp 15)).trans t4) (e (.tmp 19))) (decide_eq_false (by omega))) ⟨s, ⟨_, rfl, rfl⟩, hS, ar⟩
    rintro _ a X4 A e (BB : Below V.heap.size V X4)
    have t21 : a.eval (.tmp 21) = .bool false := e _
    replace t0 := kt e t0
    replace t5 := kt e t5
    replace t6 := kt e t6
    replace t7 := kt e t7
    clear e t3 t4
    refine wp_cond_false t21 (wp_skip ?_)
    clear t21
    refine wp_se 23 [0] [] (fun _ s X => Below V.heap.size V X) (fun s => fun i_ => match i_ with | 0 => .int .i64 ((i + 1 : Nat) : Int) | _ => undef) () A (BB) (And.intro ?_ trivial) ?_
    ·exact fun s a X e hS => stepV rfl rfl (execAd8 (p := i) (q := 1) rfl ((e (.tmp 7)).trans t7) rfl (by omega)) ⟨s, ⟨_, rfl, rfl⟩, hS, ar⟩
    rintro _ a X6 A e (BB : Below V.heap.size V X6)
    replace t7 : a.eval (.tmp 7) = .int .i64 ((i + 1 : Nat) : Int) := e _
    replace t0 := kt e t0
    replace t5 := kt e t5
    replace t6 := kt e t6
    clear e
    exact ⟨⟨i + 1, lti, allB_succ hok (decide_eq_true (by omega)), A, t0, t5, t6, t7, BB⟩, by show n - (intOf (a.eval (.tmp 7))).toNat < n - (intOf (Act.eval _ (.tmp 7))).toNat; rw [t7, esi]; show n - (i + 1) < n - i; omega⟩
 ·rw [decide_eq_false lti] at t8
  refine wp_cond_false t8 ?_
  refine wp_exit ?_
  first | with_reducible refine exit_in ?_ | with_reducible refine exit_then (exit_in ?_) | with_reducible refine exit_then (exit_then (exit_in ?_)) | refine exit_in ?_ | refine exit_then (exit_in ?_) | refine exit_then (exit_then (exit_in ?_))
  clear t8 esi
  obtain rfl : i = n := by omega
  have hE : faQ f i = true := hok
  rw [hE]
  clear t0 t5 t6 t7
  refine wp_seq ?_
  refine wp_se 23 [] [] (fun _ s X => Below V.heap.size V X) (fun s => fun _ => undef) () A (BB) trivial ?_
  rintro _ a X7 A e (BB : Below V.heap.size V X7)
  have t2 : a.eval (.tmp 2) = .bool true := e _
  clear e
  refine wp_ret ?_
  repeat (first | with_reducible refine ret_in ?_ | with_reducible refine ret_then ?_)
  refine bodyPost_ret (results_tmp rfl _ _ _) A.2 ⟨?_, BB⟩
  show Ending.returned (a.eval (.tmp 2)) = _
  rw [t2]
set_option maxRecDepth 100000 in
set_option maxHeartbeats 4000000 in
theorem pclone (f : Nat → Int) (n : Nat) (v : Value) (V : World) (hv : SliceI V v n f) (hn17 : n ≤ 17592186044416) :
  Calls Try.prog 79 #[v] V fun e w' => ∃ r, e = .returned r ∧ w'.ownsRow V.heap.size 3 1 r n (intsL n f) ∧ Below V.heap.size V w' := by
 obtain ⟨ia, ic, rfl, -, -, hsh⟩ := id hv.shape
 have FI := hv
 cases ia with
 | none =>
  obtain rfl : n = 0 := by
   by_cases h : 0 < n
   ·obtain ⟨b, off, e, _⟩ := hsh h
    cases e
   ·omega
  go_enter Try.func79, Try.ntmps79
  refine wp_seq ?_
  refine wp_region_sqK 8 [(0, 2)] (fun i_ => match i_ with | 0 => .slice none 0 0 | _ => undef) rfl (by kernel_rfl) (by decide) (by decide) ?_ ?_
  ·intro i_ hi_ a hf hv hn
   match i_, hi_ with
   | 0, _ => exact stepV rfl rfl (execAsgB rfl rfl) ⟨⟨_, rfl, rfl⟩, rfl⟩
   | k_ + 1, h_ => exact absurd h_ (by simp)
  intro a h1 h2 h3 h4
  have t0 : a.eval (.tmp 0) = .slice none 0 ic := (h3 0 (by decide)).trans rfl
  have A : a.tmps.size = 8 ∧ a.defers = [] := ⟨h1, h2⟩
  have BW : Below V.heap.size V V := Below.refl _ _
  clear h1 h2 h3 h4
  have BB := BW
  refine wp_seq (wp_seq ?_)
  refine wp_se 8 [1] [] (fun _ s X => Below V.heap.size V X) (fun s => fun i_ => match i_ with | 1 => .bool true | _ => undef) () A (BB) (And.intro ?_ trivial) ?_
  ·exact fun s a X e hS => stepV rfl rfl (execNilIt rfl ((e (.tmp 3)).trans t0)) ⟨s, ⟨_, rfl, rfl⟩, hS, ar⟩
  rintro _ a X1 A e (BB : Below V.heap.size V X1)
  have t4 : a.eval (.tmp 4) = .bool true := e _
  replace t0 := kt e t0
  clear e
  refine wp_cond_true t4 ?_
  refine wp_seq ?_
  refine wp_se 8 [] [] (fun _ s X => Below V.heap.size V X) (fun s => fun _ => undef) () A (BB) trivial ?_
  rintro _ a X2 A e (BB : Below V.heap.size V X2)
  have t2 : a.eval (.tmp 2) = .slice none 0 0 := e _
  clear e t0
  refine wp_ret ?_
  repeat (first | with_reducible refine ret_in ?_ | with_reducible refine ret_then ?_)
  refine bodyPost_ret (results_tmp rfl _ _ _) A.2 ⟨_, ?_, World.ownsRow_nil _ _ _ _, BB⟩
  show Ending.returned (a.eval (.tmp 2)) = _
  rw [t2]
 | some ad =>
  go_enter Try.func79, Try.ntmps79
  refine wp_seq ?_
  refine wp_region_sqK 8 [(0, 2)] (fun i_ => match i_ with | 0 => .slice none 0 0 | _ => undef) rfl (by kernel_rfl) (by decide) (by decide) ?_ ?_
  ·intro i_ hi_ a hf hv hn
   match i_, hi_ with
   | 0, _ => exact stepV rfl rfl (execAsgB rfl rfl) ⟨⟨_, rfl, rfl⟩, rfl⟩
   | k_ + 1, h_ => exact absurd h_ (by simp)
  intro a h1 h2 h3 h4
  have t0 : a.eval (.tmp 0) = .slice (some ad) n ic := (h3 0 (by decide)).trans rfl
  have A : a.tmps.size = 8 ∧ a.defers = [] := ⟨h1, h2⟩
  have BW : Below V.heap.size V V := Below.refl _ _
  clear h1 h2 h3 h4
  have BB := BW
  refine wp_seq (wp_seq ?_)
  refine wp_se 8 [1] [] (fun _ s X => Below V.heap.size V X) (fun s => fun i_ => match i_ with | 1 => .bool false | _ => undef) () A (BB) (And.intro ?_ trivial) ?_
  ·exact fun s a X e hS => stepV rfl rfl (execNilIf rfl ((e (.tmp 3)).trans t0)) ⟨s, ⟨_, rfl, rfl⟩, hS, ar⟩
  rintro _ a X1 A e (BB : Below V.heap.size V X1)
  have t4 : a.eval (.tmp 4) = .bool false := e _
  replace t0 := kt e t0
  clear e
  refine wp_cond_false t4 (wp_skip ?_)
  clear t4
  refine wp_seq ?_
  refine wp_se (σ := Nat × Value) 8 [0, 2] [0, 2] (fun k_ s X => match k_ with | 0 => Below V.heap.size V X | 1 => Below V.heap.size V X ∧ (X.ownsRow V.heap.size 3 1 (.slice (some ⟨s.1, 0, none⟩) 0 0) (0) (intsL (0) (f))) | _ => Below V.heap.size V X ∧ (X.ownsRow V.heap.size 3 1 s.2 (n) (intsL (n) (f)))) (fun s => fun i_ => match i_ with | 0 => .slice (some ⟨s.1, 0, none⟩) 0 0 | 2 => s.2 | _ => undef) (0, undef) A (BB) (And.intro ?_ (And.intro ?_ trivial)) ?_
  ·intro s a X e hS
   refine stepV rfl rfl (execBs0I rfl) ⟨(X.heap.size, s.2), ⟨_, rfl, rfl⟩, ⟨(hS).trans (((belNew X _)).mono (hS).size), ownD_base (own_noneI X _) (hS).size⟩, (And.intro (fun h => absurd h (by decide)) (And.intro (fun h => absurd h (by decide)) trivial))⟩
  ·intro s a X e hS
   refine stepAppIs (f := f) (g := f) rfl rfl rfl (e (.tmp 5)) ((e (.tmp 6)).trans t0) hS.2 (FI.on hS.1) (fun l c e => by cases e) (by omega) (hS.1).size fun v' W' own' gr => ⟨(s.1, v'), ⟨_, rfl, rfl⟩, ⟨(hS.1).grown gr (hS.1).size (fun k hk => (hS.2.lt k hk).1), own_cat0 own'⟩, (And.intro (fun _ => rfl) (And.intro (fun h => absurd h (by decide)) trivial))⟩
  rintro ⟨g5, v7⟩ a X3 A e (hS : Below V.heap.size V X3 ∧ (X3.ownsRow V.heap.size 3 1 v7 (n) (intsL (n) (f))))
  obtain ⟨BB, Fv7⟩ := hS
  have t2 : a.eval (.tmp 2) = v7 := e _
  clear e t0
  refine wp_ret ?_
  refine bodyPost_ret (results_tmp rfl _ _ _) A.2 ⟨v7, ?_, Fv7, BB⟩
  show Ending.returned (a.eval (.tmp 2)) = _
  rw [t2]
set_option maxRecDepth 100000 in
set_option maxHeartbeats 4000000 in
theorem pstands (f tm : Nat → Int) (n J : Nat) (v u0 : Value) (V : World) (hv : SliceI V v n f) (hn17 : n ≤ 17592186044416) (hv2 : SliceI V u0 J tm) (hJ17 : J ≤ 17592186044416) (htm : ∀ j, j < J → 0 ≤ tm j) :
  Calls Try.prog 47 #[v, u0] V fun e w' => e = .returned (.bool (stQ f n tm J)) ∧ Below V.heap.size V w' := by
 obtain ⟨ia, ic, rfl, -, -, hsh⟩ := id hv.shape
 have FI := hv
 have FJ := hv2
 go_enter Try.func47, Try.ntmps47
 refine wp_seq ?_
 refine wp_region_sqK 42 [(0, 4)] (fun i_ => match i_ with | 0 => .bool false | _ => undef) rfl (by kernel_rfl) (by decide) (by decide) ?_ ?_
 ·intro i_ hi_ a hf hv hn
  match i_, hi_ with
  | 0, _ => exact stepV rfl rfl (execAsgB rfl rfl) ⟨⟨_, rfl, rfl⟩, rfl⟩
  | k_ + 1, h_ => exact absurd h_ (by simp)
 intro a h1 h2 h3 h4
 have t0 : a.eval (.tmp 0) = .slice ia n ic := (h3 0 (by decide)).trans rfl
 have t1 : a.eval (.tmp 1) = u0 := (h3 1 (by decide)).trans rfl
 have A : a.tmps.size = 42 ∧ a.defers = [] := ⟨h1, h2⟩
 have BW : Below V.heap.size V V := Below.refl _ _
 clear h1 h2 h3 h4
 have BB := BW
 refine wp_seq ?_
 refine wp_se (σ := Value) 42 [1] [1] (fun k_ s X => match k_ with | 0 => Below V.heap.size V X | _ => Below V.heap.size V X ∧ (X.ownsRow V.heap.size 3 1 s (J) (intsL (J) (tm)))) (fun s => fun i_ => match i_ with | 1 => s | _ => undef) undef A (BB) (And.intro ?_ trivial) ?_
 ·intro s a X e hS
  refine stepC rfl rfl (execCall1 Try.func79 (by kernel_rfl) (by kernel_rfl) rfl ((e (.tmp 10)).trans t1)) (pclone tm J _ X (FJ.on hS) hJ17) fun e w' hh => ?_
  obtain ⟨r_, he, hk, hb⟩ := hh
  refine ⟨_, he, r_, ⟨_, rfl, rfl⟩, ⟨(hS).trans ((hb).mono (hS).size), ownD_base hk (hS).size⟩, (And.intro (fun h => absurd h (by decide)) trivial)⟩
 rintro v11 a X1 A e (hS : Below V.heap.size V X1 ∧ (X1.ownsRow V.heap.size 3 1 v11 (J) (intsL (J) (tm))))
 obtain ⟨BB, FO⟩ := hS
 have t5 : a.eval (.tmp 5) = v11 := e _
 replace t0 := kt e t0
 clear e t1
 rw [intsL_congr (g := fun j => tm j - (cntC (gN f) j 0 : Int)) (fun j hj => (Int.sub_zero _).symm)] at FO
 refine wp_seq (wp_seq ?_)
 refine wp_se 42 [1] [] (fun _ s X => Below V.heap.size V X ∧ (X.ownsRow V.heap.size 3 1 v11 (J) (intsL (J) (fun j => tm j - (cntC (gN f) j 0 : Int))))) (fun s => fun i_ => match i_ with | 1 => .int .i64 ((n : Nat) : Int) | _ => undef) () A ⟨BB, FO⟩ (And.intro ?_ trivial) ?_
 ·exact fun s a X e hS => stepV rfl rfl (execLenI (len := n) rfl ((e (.tmp 12)).trans t0) ((FI.on hS.1)).shp) ⟨s, ⟨_, rfl, rfl⟩, hS, ar⟩
 rintro _ a X2 A e (hS : Below V.heap.size V X2 ∧ (X2.ownsRow V.heap.size 3 1 v11 (J) (intsL (J) (fun j => tm j - (cntC (gN f) j 0 : Int)))))
 obtain ⟨BB, FO⟩ := hS
 have t12 : a.eval (.tmp 12) = .slice ia n ic := (e _).trans t0
 have t13 : a.eval (.tmp 13) = .int .i64 ((n : Nat) : Int) := e _
 have t14 : a.eval (.tmp 14) = .int .i64 ((0 : Nat) : Int) := e _
 replace t5 := kt e t5
 clear e t0
 refine wp_block ?_
 refine wp_loop (fun a W => ∃ (i : Nat), i ≤ n ∧ (allB (inB f J) i = true) ∧ (a.tmps.size = 42 ∧ a.defers = []) ∧ a.eval (.tmp 5) = v11 ∧ a.eval (.tmp 12) = .slice ia n ic ∧ a.eval (.tmp 13) = .int .i64 ((n : Nat) : Int) ∧ a.eval (.tmp 14) = .int .i64 ((i : Nat) : Int) ∧ Below V.heap.size V W ∧ (W.ownsRow V.heap.size 3 1 v11 (J) (intsL (J) (fun j => tm j - (cntC (gN f) j i : Int))))) (fun a _ => n - (intOf (a.eval (.tmp 14))).toNat) ⟨0, Nat.zero_le _, rfl, A, t5, t12, t13, t14, BB, FO⟩ ?_
 rintro a XL3 ⟨i, hi, hok, A, t5, t12, t13, t14, BB, FO⟩
 have esi := t14
 refine wp_seq ?_
 refine wp_se 42 [0] [] (fun _ s X => Below V.heap.size V X ∧ (X.ownsRow V.heap.size 3 1 v11 (J) (intsL (J) (fun j => tm j - (cntC (gN f) j i : Int))))) (fun s => fun i_ => match i_ with | 0 => .bool (decide (i < n)) | _ => undef) () A ⟨BB, FO⟩ (And.intro ?_ trivial) ?_
 ·exact fun s a X e hS => stepV rfl rfl (execLtW (p := i) (q := n) rfl ((e (.tmp 14)).trans t14) ((e (.tmp 13)).trans t13)) ⟨s, ⟨_, rfl, rfl⟩, hS, ar⟩
 rintro _ a X3 A e (hS : Below V.heap.size V X3 ∧ (X3.ownsRow V.heap.size 3 1 v11 (J) (intsL (J) (fun j => tm j - (cntC (gN f) j i : Int)))))
 obtain ⟨BB, FO⟩ := hS
 have t15 : a.eval (.tmp 15) = .bool (decide (i < n)) := e _
 replace t5 := kt e t5
 replace t12 := kt e t12
 replace t13 := kt e t13
 replace t14 := kt e t14
 clear e
 refine wp_seq ?_
 by_cases lti : i < n
 ·rw [decide_eq_true lti] at t15
  refine wp_cond_true t15 (wp_skip ?_)
  clear t15
  refine wp_seq (wp_block ?_)
  obtain ⟨ib, io, rfl, hib, hcell⟩ := hsh (by omega)
  have cI : ∀ k, k < n → ∀ X, Below V.heap.size V X → X.cell? ⟨ib, io + k, none⟩ = some (.int .i64 (f k)) := fun k hk X hX => by rw [cell_below hX hib]; exact hcell k hk
  by_cases h1 : f i < 0
  ·refine wp_seq ?_
   refine wp_se 42 [0, 1] [] (fun _ s X => Below V.heap.size V X ∧ (X.ownsRow V.heap.size 3 1 v11 (J) (intsL (J) (fun j => tm j - (cntC (gN f) j i : Int))))) (fun s => fun i_ => match i_ with | 0 => .pointer (some ⟨ib, io + i, none⟩) | 1 => .int .i64 (f i) | _ => undef) () A ⟨BB, FO⟩ (And.intro ?_ (And.intro ?_ trivial)) ?_
   ·exact fun s a X e hS => stepV rfl rfl (execIdxN (k := i) rfl ((e (.tmp 12)).trans t12) ((e (.tmp 14)).trans t14) lti) ⟨s, ⟨_, rfl, rfl⟩, hS, ar⟩
   ·exact fun s a X e hS => stepV rfl rfl (execLd3 rfl (e (.tmp 16)) (cI i lti X hS.1)) ⟨s, ⟨_, rfl, rfl⟩, hS, ar⟩
   rintro _ a X4 A e (hS : Below V.heap.size V X4 ∧ (X4.ownsRow V.heap.size 3 1 v11 (J) (intsL (J) (fun j => tm j - (cntC (gN f) j i : Int)))))
   obtain ⟨BB, FO⟩ := hS
   have t7 : a.eval (.tmp 7) = .int .i64 (f i) := e _
   replace t5 := kt e t5
   replace t12 := kt e t12
   replace t13 := kt e t13
   replace t14 := kt e t14
   clear e
   refine wp_seq (wp_seq ?_)
   refine wp_se 42 [1] [] (fun _ s X => Below V.heap.size V X ∧ (X.ownsRow V.heap.size 3 1 v11 (J) (intsL (J) (fun j => tm j - (cntC (gN f) j i : Int))))) (fun s => fun i_ => match i_ with | 1 => .bool true | _ => undef) () A ⟨BB, FO⟩ (And.intro ?_ trivial) ?_
   ·exact fun s a X e hS => stepV rfl rfl (execLtCt (p := (f i)) (q := 0) rfl ((e (.tmp 18)).trans t7) (by exact h1)) ⟨s, ⟨_, rfl, rfl⟩, hS, ar⟩
   rintro _ a X5 A e (hS : Below V.heap.size V X5 ∧ (X5.ownsRow V.heap.size 3 1 v11 (J) (intsL (J) (fun j => tm j - (cntC (gN f) j i : Int)))))
   obtain ⟨BB, FO⟩ := hS
   have t25 : a.eval (.tmp 25) = .bool true := e _
   replace t5 := kt e t5
   replace t12 := kt e t12
   replace t13 := kt e t13
   replace t14 := kt e t14
   replace t7 := kt e t7
   clear e
   refine wp_cond_true t25 ?_
   refine wp_seq ?_
   clear FO
   refine wp_se 42 [] [] (fun _ s X => Below V.heap.size V X) (fun s => fun _ => undef) () A (BB) trivial ?_
   rintro _ a X6 A e (BB : Below V.heap.size V X6)
   have t4 : a.eval (.tmp 4) = .bool false := e _
   clear e t5 t12 t13 t14 t7
   have hE : stQ f n tm J = false := Bool.eq_false_iff.2 fun q => by have := (stQ_iff.1 q).1 i lti; omega
   rw [hE]
   refine wp_ret ?_
   repeat (first | with_reducible refine ret_in ?_ | with_reducible refine ret_then ?_)
   refine bodyPost_ret (results_tmp rfl _ _ _) A.2 ⟨?_, BB⟩
   show Ending.returned (a.eval (.tmp 4)) = _
   rw [t4]
  ·by_cases h2 : (J : Int) ≤ f i
   ·obtain ⟨w, ew⟩ : ∃ w : Nat, f i = w := ⟨(f i).toNat, by omega⟩
    have cW : ∀ X, Below V.heap.size V X → X.cell? ⟨ib, io + i, none⟩ = some (.int .i64 ((w : Nat) : Int)) := fun X hX => by rw [cI i lti X hX, ew]
    refine wp_seq ?_
    refine wp_se 42 [0, 1] [] (fun _ s X => Below V.heap.size V X ∧ (X.ownsRow V.heap.size 3 1 v11 (J) (intsL (J) (fun j => tm j - (cntC (gN f) j i : Int))))) (fun s => fun i_ => match i_ with | 0 => .pointer (some ⟨ib, io + i, none⟩) | 1 => .int .i64 ((w : Nat) : Int) | _ => undef) () A ⟨BB, FO⟩ (And.intro ?_ (And.intro ?_ trivial)) ?_
    ·exact fun s a X e hS => stepV rfl rfl (execIdxN (k := i) rfl ((e (.tmp 12)).trans t12) ((e (.tmp 14)).trans t14) lti) ⟨s, ⟨_, rfl, rfl⟩, hS, ar⟩
    ·exact fun s a X e hS => stepV rfl rfl (execLd3 rfl (e (.tmp 16)) (cW X hS.1)) ⟨s, ⟨_, rfl, rfl⟩, hS, ar⟩
    rintro _ a X4 A e (hS : Below V.heap.size V X4 ∧ (X4.ownsRow V.heap.size 3 1 v11 (J) (intsL (J) (fun j => tm j - (cntC (gN f) j i : Int)))))
    obtain ⟨BB, FO⟩ := hS
    have t7 : a.eval (.tmp 7) = .int .i64 ((w : Nat) : Int) := e _
    replace t5 := kt e t5
    replace t12 := kt e t12
    replace t13 := kt e t13
    replace t14 := kt e t14
    clear e
    refine wp_seq (wp_seq ?_)
    refine wp_se 42 [1, 5, 6] [] (fun _ s X => Below V.heap.size V X ∧ (X.ownsRow V.heap.size 3 1 v11 (J) (intsL (J) (fun j => tm j - (cntC (gN f) j i : Int))))) (fun s => fun i_ => match i_ with | 1 => .bool false | 5 => .int .i64 ((J : Nat) : Int) | 6 => .bool true | _ => undef) () A ⟨BB, FO⟩ (And.intro ?_ (And.intro ?_ (And.intro ?_ trivial))) ?_
    ·exact fun s a X e hS => stepV rfl rfl (execDec (execLtW (p := w) (q := 0) rfl ((e (.tmp 18)).trans t7) rfl) (decide_eq_false (by omega))) ⟨s, ⟨_, rfl, rfl⟩, hS, ar⟩
    ·exact fun s a X e hS => stepV rfl (wy rfl rfl rfl (e (.tmp 20))) (execLenI (len := J) rfl ((e (.tmp 22)).trans t5) (shpO hS.2)) ⟨s, ⟨_, rfl, rfl⟩, hS, ar⟩
    ·exact fun s a X e hS => stepV rfl (wy rfl rfl rfl (e (.tmp 20))) (execDec (execGe8 (p := w) (q := J) rfl ((e (.tmp 21)).trans t7) (e (.tmp 23))) (decide_eq_true (by omega))) ⟨s, ⟨_, rfl, rfl⟩, hS, ar⟩
    rintro _ a X5 A e (hS : Below V.heap.size V X5 ∧ (X5.ownsRow V.heap.size 3 1 v11 (J) (intsL (J) (fun j => tm j - (cntC (gN f) j i : Int)))))
    obtain ⟨BB, FO⟩ := hS
    have t25 : a.eval (.tmp 25) = .bool true := e _
    replace t5 := kt e t5
    replace t12 := kt e t12
    replace t13 := kt e t13
    replace t14 := kt e t14
    replace t7 := kt e t7
    clear e
    refine wp_cond_true t25 ?_
    refine wp_seq ?_
    clear FO
    refine wp_se 42 [] [] (fun _ s X => Below V.heap.size V X) (fun s => fun _ => undef) () A (BB) trivial ?_
    rintro _ a X6 A e (BB : Below V.heap.size V X6)
    have t4 : a.eval (.tmp 4) = .bool false := e _
    clear e t5 t12 t13 t14 t7
    have hE : stQ f n tm J = false := Bool.eq_false_iff.2 fun q => by have := (stQ_iff.1 q).1 i lti; omega
    rw [hE]
    refine wp_ret ?_
    repeat (first | with_reducible refine ret_in ?_ | with_reducible refine ret_then ?_)
    refine bodyPost_ret (results_tmp rfl _ _ _) A.2 ⟨?_, BB⟩
    show Ending.returned (a.eval (.tmp 4)) = _
    rw [t4]
   ·obtain ⟨w, ew⟩ : ∃ w : Nat, f i = w := ⟨(f i).toNat, by omega⟩
    have cW : ∀ X, Below V.heap.size V X → X.cell? ⟨ib, io + i, none⟩ = some (.int .i64 ((w : Nat) : Int)) := fun X hX => by rw [cI i lti X hX, ew]
    refine wp_seq ?_
    refine wp_se 42 [0, 1] [] (fun _ s X => Below V.heap.size V X ∧ (X.ownsRow V.heap.size 3 1 v11 (J) (intsL (J) (fun j => tm j - (cntC (gN f) j i : Int))))) (fun s => fun i_ => match i_ with | 0 => .pointer (some ⟨ib, io + i, none⟩) | 1 => .int .i64 ((w : Nat) : Int) | _ => undef) () A ⟨BB, FO⟩ (And.intro ?_ (And.intro ?_ trivial)) ?_
    ·exact fun s a X e hS => stepV rfl rfl (execIdxN (k := i) rfl ((e (.tmp 12)).trans t12) ((e (.tmp 14)).trans t14) lti) ⟨s, ⟨_, rfl, rfl⟩, hS, ar⟩
    ·exact fun s a X e hS => stepV rfl rfl (execLd3 rfl (e (.tmp 16)) (cW X hS.1)) ⟨s, ⟨_, rfl, rfl⟩, hS, ar⟩
    rintro _ a X4 A e (hS : Below V.heap.size V X4 ∧ (X4.ownsRow V.heap.size 3 1 v11 (J) (intsL (J) (fun j => tm j - (cntC (gN f) j i : Int)))))
    obtain ⟨BB, FO⟩ := hS
    have t7 : a.eval (.tmp 7) = .int .i64 ((w : Nat) : Int) := e _
    replace t5 := kt e t5
    replace t12 := kt e t12
    replace t13 := kt e t13
    replace t14 := kt e t14
    clear e
    refine wp_seq (wp_seq ?_)
    refine wp_se 42 [1, 5, 6] [] (fun _ s X => Below V.heap.size V X ∧ (X.ownsRow V.heap.size 3 1 v11 (J) (intsL (J) (fun j => tm j - (cntC (gN f) j i : Int))))) (fun s => fun i_ => match i_ with | 1 => .bool false | 5 => .int .i64 ((J : Nat) : Int) | 6 => .bool false | _ => undef) () A ⟨BB, FO⟩ (And.intro ?_ (And.intro ?_ (And.intro ?_ trivial))) ?_
    ·exact fun s a X e hS => stepV rfl rfl (execDec (execLtW (p := w) (q := 0) rfl ((e (.tmp 18)).trans t7) rfl) (decide_eq_false (by omega))) ⟨s, ⟨_, rfl, rfl⟩, hS, ar⟩
    ·exact fun s a X e hS => stepV rfl (wy rfl rfl rfl (e (.tmp 20))) (execLenI (len := J) rfl ((e (.tmp 22)).trans t5) (shpO hS.2)) ⟨s, ⟨_, rfl, rfl⟩, hS, ar⟩
    ·exact fun s a X e hS => stepV rfl (wy rfl rfl rfl (e (.tmp 20))) (execDec (execGe8 (p := w) (q := J) rfl ((e (.tmp 21)).trans t7) (e (.tmp 23))) (decide_eq_false (by omega))) ⟨s, ⟨_, rfl, rfl⟩, hS, ar⟩
    rintro _ a X5 A e (hS : Below V.heap.size V X5 ∧ (X5.ownsRow V.heap.size 3 1 v11 (J) (intsL (J) (fun j => tm j - (cntC (gN f) j i : Int)))))
    obtain ⟨BB, FO⟩ := hS
    have t25 : a.eval (.tmp 25) = .bool false := e _
    replace t5 := kt e t5
    replace t12 := kt e t12
    replace t13 := kt e t13
    replace t14 := kt e t14
    replace t7 := kt e t7
    clear e
    refine wp_cond_false t25 (wp_skip ?_)
    clear t25
    have hw : w < J := by omega
    have hg : gN f i = w := by show (f i).toNat = w; omega
    obtain ⟨gl, cl, el, hgl, _⟩ := ownL_some9 FO (by omega)
    have hfw := hv2.fits w hw
    have hpw := htm w hw
    have hcw := cnt_le (gN f) w i
    refine wp_se 42 [2, 3, 4, 5, 6] [6] (fun k_ s X => match k_ with | 0 => Below V.heap.size V X ∧ (X.ownsRow V.heap.size 3 1 v11 (J) (intsL (J) (fun j => tm j - (cntC (gN f) j i : Int)))) | _ => Below V.heap.size V X ∧ (X.ownsRow V.heap.size 3 1 v11 (J) (intsL (J) (fun j => tm j - (cntC (gN f) j (i + 1) : Int))))) (fun s => fun i_ => match i_ with | 2 => .pointer (some ⟨gl, 0 + w, none⟩) | 3 => .int .i64 (tm w - (cntC (gN f) w i : Int)) | 4 => .int .i64 (tm w - (cntC (gN f) w i : Int) - 1) | 5 => .pointer (some ⟨gl, 0 + w, none⟩) | _ => undef) () A ⟨BB, FO⟩ (And.intro ?_ (And.intro ?_ (And.intro ?_ (And.intro ?_ (And.intro ?_ trivial))))) ?_
    ·exact fun s a X e hS => stepV rfl rfl (execIdxN (k := w) rfl (((e (.tmp 26)).trans t5).trans el) ((e (.tmp 27)).trans t7) hw) ⟨s, ⟨_, rfl, rfl⟩, hS, ar⟩
    ·exact fun s a X e hS => stepV rfl rfl (execLd3 rfl (e (.tmp 28)) (own_cellI (by have h_ := hS.2; rw [el] at h_; exact h_) hw).1) ⟨s, ⟨_, rfl, rfl⟩, hS, ar⟩
    ·exact fun s a X e hS => stepV rfl rfl (execSubIg (p := tm w - (cntC (gN f) w i : Int)) (q := 1) (z := tm w - (cntC (gN f) w i : Int) - 1) rfl (e (.tmp 29)) rfl rfl (by omega) (by omega)) ⟨s, ⟨_, rfl, rfl⟩, hS, ar⟩
    ·exact fun s a X e hS => stepV rfl rfl (execIdxN (k := w) rfl (((e (.tmp 26)).trans t5).trans el) ((e (.tmp 27)).trans t7) hw) ⟨s, ⟨_, rfl, rfl⟩, hS, ar⟩
    ·intro s a X e hS
     obtain ⟨hc_, hf_⟩ := own_cellI (by have h_ := hS.2; rw [el] at h_; exact h_) hw
     refine stepS rfl rfl (execStI9 rfl (e (.tmp 31)) (e (.tmp 30)) hc_ hf_) ⟨s, ⟨_, rfl, rfl⟩, ⟨(hS.1).setCell hgl _, st_set hS.2 el hg⟩, ar⟩
    rintro _ a X7 A e (hS : Below V.heap.size V X7 ∧ (X7.ownsRow V.heap.size 3 1 v11 (J) (intsL (J) (fun j => tm j - (cntC (gN f) j (i + 1) : Int)))))
    obtain ⟨BB, FO2⟩ := hS
    replace t5 := kt e t5
    replace t12 := kt e t12
    replace t13 := kt e t13
    replace t14 := kt e t14
    clear e t7
    refine wp_se 42 [0] [] (fun _ s X => Below V.heap.size V X ∧ (X.ownsRow V.heap.size 3 1 v11 (J) (intsL (J) (fun j => tm j - (cntC (gN f) j (i + 1) : Int))))) (fun s => fun i_ => match i_ with | 0 => .int .i64 ((i + 1 : Nat) : Int) | _ => undef) () A ⟨BB, FO2⟩ (And.intro ?_ trivial) ?_
    ·exact fun s a X e hS => stepV rfl rfl (execAd8 (p := i) (q := 1) rfl ((e (.tmp 14)).trans t14) rfl (by omega)) ⟨s, ⟨_, rfl, rfl⟩, hS, ar⟩
    rintro _ a X8 A e (hS : Below V.heap.size V X8 ∧ (X8.ownsRow V.heap.size 3 1 v11 (J) (intsL (J) (fun j => tm j - (cntC (gN f) j (i + 1) : Int)))))
    obtain ⟨BB, FO2⟩ := hS
    replace t14 : a.eval (.tmp 14) = .int .i64 ((i + 1 : Nat) : Int) := e _
    replace t5 := kt e t5
    replace t12 := kt e t12
    replace t13 := kt e t13
    clear e
    exact ⟨⟨i + 1, lti, allB_succ hok (decide_eq_true (by omega)), A, t5, t12, t13, t14, BB, FO2⟩, by show n - (intOf (a.eval (.tmp 14))).toNat < n - (intOf (Act.eval _ (.tmp 14))).toNat; rw [t14, esi]; show n - (i + 1) < n - i; omega⟩
 ·rw [decide_eq_false lti] at t15
  refine wp_cond_false t15 ?_
  refine wp_exit ?_
  first | with_reducible refine exit_in ?_ | with_reducible refine exit_then (exit_in ?_) | with_reducible refine exit_then (exit_then (exit_in ?_)) | refine exit_in ?_ | refine exit_then (exit_in ?_) | refine exit_then (exit_then (exit_in ?_))
  clear t15 esi
  obtain rfl : i = n := by omega
  clear t12 t13 t14 lti hi
  refine wp_seq (wp_seq ?_)
  refine wp_se 42 [1] [] (fun _ s X => Below V.heap.size V X ∧ (X.ownsRow V.heap.size 3 1 v11 (J) (intsL (J) (fun j => tm j - (cntC (gN f) j i : Int))))) (fun s => fun i_ => match i_ with | 1 => .int .i64 ((J : Nat) : Int) | _ => undef) () A ⟨BB, FO⟩ (And.intro ?_ trivial) ?_
  ·exact fun s a X e hS => stepV rfl rfl (execLenI (len := J) rfl ((e (.tmp 33)).trans t5) (shpO hS.2)) ⟨s, ⟨_, rfl, rfl⟩, hS, ar⟩
  rintro _ a X9 A e (hS : Below V.heap.size V X9 ∧ (X9.ownsRow V.heap.size 3 1 v11 (J) (intsL (J) (fun j => tm j - (cntC (gN f) j i : Int)))))
  obtain ⟨BB, FO⟩ := hS
  have t33 : a.eval (.tmp 33) = v11 := (e _).trans t5
  have t34 : a.eval (.tmp 34) = .int .i64 ((J : Nat) : Int) := e _
  have t35 : a.eval (.tmp 35) = .int .i64 ((0 : Nat) : Int) := e _
  clear e t5
  refine wp_block ?_
  refine wp_loop (fun a W => ∃ (j : Nat), j ≤ J ∧ (allB (cnB f i tm) j = true) ∧ (a.tmps.size = 42 ∧ a.defers = []) ∧ a.eval (.tmp 33) = v11 ∧ a.eval (.tmp 34) = .int .i64 ((J : Nat) : Int) ∧ a.eval (.tmp 35) = .int .i64 ((j : Nat) : Int) ∧ Below V.heap.size V W ∧ (W.ownsRow V.heap.size 3 1 v11 (J) (intsL (J) (fun j => tm j - (cntC (gN f) j i : Int))))) (fun a _ => J - (intOf (a.eval (.tmp 35))).toNat) ⟨0, Nat.zero_le _, rfl, A, t33, t34, t35, BB, FO⟩ ?_
  rintro a XL10 ⟨j, hj, hok2, A, t33, t34, t35, BB, FO⟩
  have esj := t35
  refine wp_seq ?_
  refine wp_se 42 [0] [] (fun _ s X => Below V.heap.size V X ∧ (X.ownsRow V.heap.size 3 1 v11 (J) (intsL (J) (fun j => tm j - (cntC (gN f) j i : Int))))) (fun s => fun i_ => match i_ with | 0 => .bool (decide (j < J)) | _ => undef) () A ⟨BB, FO⟩ (And.intro ?_ trivial) ?_
  ·exact fun s a X e hS => stepV rfl rfl (execLtW (p := j) (q := J) rfl ((e (.tmp 35)).trans t35) ((e (.tmp 34)).trans t34)) ⟨s, ⟨_, rfl, rfl⟩, hS, ar⟩
  rintro _ a X10 A e (hS : Below V.heap.size V X10 ∧ (X10.ownsRow V.heap.size 3 1 v11 (J) (intsL (J) (fun j => tm j - (cntC (gN f) j i : Int)))))
  obtain ⟨BB, FO⟩ := hS
  have t36 : a.eval (.tmp 36) = .bool (decide (j < J)) := e _
  replace t33 := kt e t33
  replace t34 := kt e t34
  replace t35 := kt e t35
  clear e
  refine wp_seq ?_
  by_cases ltj : j < J
  ·rw [decide_eq_true ltj] at t36
   refine wp_cond_true t36 (wp_skip ?_)
   clear t36
   refine wp_seq (wp_block ?_)
   obtain ⟨gl, cl, el, hgl, _⟩ := ownL_some9 FO (by omega)
   have hpw := htm j ltj
   refine wp_seq ?_
   refine wp_se 42 [0, 1] [] (fun _ s X => Below V.heap.size V X ∧ (X.ownsRow V.heap.size 3 1 v11 (J) (intsL (J) (fun j => tm j - (cntC (gN f) j i : Int))))) (fun s => fun i_ => match i_ with | 0 => .pointer (some ⟨gl, 0 + j, none⟩) | 1 => .int .i64 (tm j - (cntC (gN f) j i : Int)) | _ => undef) () A ⟨BB, FO⟩ (And.intro ?_ (And.intro ?_ trivial)) ?_
   ·exact fun s a X e hS => stepV rfl rfl (execIdxN (k := j) rfl (((e (.tmp 33)).trans t33).trans el) ((e (.tmp 35)).trans t35) ltj) ⟨s, ⟨_, rfl, rfl⟩, hS, ar⟩
   ·exact fun s a X e hS => stepV rfl rfl (execLd3 rfl (e (.tmp 37)) (own_cellI (by have h_ := hS.2; rw [el] at h_; exact h_) ltj).1) ⟨s, ⟨_, rfl, rfl⟩, hS, ar⟩
   rintro _ a X11 A e (hS : Below V.heap.size V X11 ∧ (X11.ownsRow V.heap.size 3 1 v11 (J) (intsL (J) (fun j => tm j - (cntC (gN f) j i : Int)))))
   obtain ⟨BB, FO⟩ := hS
   have t9 : a.eval (.tmp 9) = .int .i64 (tm j - (cntC (gN f) j i : Int)) := e _
   replace t33 := kt e t33
   replace t34 := kt e t34
   replace t35 := kt e t35
   clear e
   refine wp_seq ?_
   by_cases hc : tm j = (cntC (gN f) j i : Int)
   ·refine wp_se 42 [1] [] (fun _ s X => Below V.heap.size V X ∧ (X.ownsRow V.heap.size 3 1 v11 (J) (intsL (J) (fun j => tm j - (cntC (gN f) j i : Int))))) (fun s => fun i_ => match i_ with | 1 => .bool false | _ => undef) () A ⟨BB, FO⟩ (And.intro ?_ trivial) ?_
    ·exact fun s a X e hS => stepV rfl rfl (execNeIf (p := tm j - (cntC (gN f) j i : Int)) (q := 0) rfl ((e (.tmp 39)).trans t9) rfl (by omega)) ⟨s, ⟨_, rfl, rfl⟩, hS, ar⟩
    rintro _ a X12 A e (hS : Below V.heap.size V X12 ∧ (X12.ownsRow V.heap.size 3 1 v11 (J) (intsL (J) (fun j => tm j - (cntC (gN f) j i : Int)))))
    obtain ⟨BB, FO⟩ := hS
    have t40 : a.eval (.tmp 40) = .bool false := e _
    replace t33 := kt e t33
    replace t34 := kt e t34
    replace t35 := kt e t35
    clear e t9
    refine wp_cond_false t40 (wp_skip ?_)
    clear t40
    refine wp_se 42 [0] [] (fun _ s X => Below V.heap.size V X ∧ (X.ownsRow V.heap.size 3 1 v11 (J) (intsL (J) (fun j => tm j - (cntC (gN f) j i : Int))))) (fun s => fun i_ => match i_ with | 0 => .int .i64 ((j + 1 : Nat) : Int) | _ => undef) () A ⟨BB, FO⟩ (And.intro ?_ trivial) ?_
    ·exact fun s a X e hS => stepV rfl rfl (execAd8 (p := j) (q := 1) rfl ((e (.tmp 35)).trans t35) rfl (by omega)) ⟨s, ⟨_, rfl, rfl⟩, hS, ar⟩
    rintro _ a X14 A e (hS : Below V.heap.size V X14 ∧ (X14.ownsRow V.heap.size 3 1 v11 (J) (intsL (J) (fun j => tm j - (cntC (gN f) j i : Int)))))
    obtain ⟨BB, FO⟩ := hS
    replace t35 : a.eval (.tmp 35) = .int .i64 ((j + 1 : Nat) : Int) := e _
    replace t33 := kt e t33
    replace t34 := kt e t34
    clear e
    exact ⟨⟨j + 1, ltj, allB_succ hok2 (decide_eq_true hc), A, t33, t34, t35, BB, FO⟩, by show J - (intOf (a.eval (.tmp 35))).toNat < J - (intOf (Act.eval _ (.tmp 35))).toNat; rw [t35, esj]; show J - (j + 1) < J - j; omega⟩
   ·refine wp_se 42 [1] [] (fun _ s X => Below V.heap.size V X ∧ (X.ownsRow V.heap.size 3 1 v11 (J) (intsL (J) (fun j => tm j - (cntC (gN f) j i : Int))))) (fun s => fun i_ => match i_ with | 1 => .bool true | _ => undef) () A ⟨BB, FO⟩ (And.intro ?_ trivial) ?_
    ·exact fun s a X e hS => stepV rfl rfl (execNeIt (p := tm j - (cntC (gN f) j i : Int)) (q := 0) rfl ((e (.tmp 39)).trans t9) rfl (by omega)) ⟨s, ⟨_, rfl, rfl⟩, hS, ar⟩
    rintro _ a X12 A e (hS : Below V.heap.size V X12 ∧ (X12.ownsRow V.heap.size 3 1 v11 (J) (intsL (J) (fun j => tm j - (cntC (gN f) j i : Int)))))
    obtain ⟨BB, FO⟩ := hS
    have t40 : a.eval (.tmp 40) = .bool true := e _
    replace t33 := kt e t33
    replace t34 := kt e t34
    replace t35 := kt e t35
    clear e t9
    refine wp_cond_true t40 ?_
    refine wp_seq ?_
    clear FO
    refine wp_se 42 [] [] (fun _ s X => Below V.heap.size V X) (fun s => fun _ => undef) () A (BB) trivial ?_
    rintro _ a X13 A e (BB : Below V.heap.size V X13)
    have t4 : a.eval (.tmp 4) = .bool false := e _
    clear e t33 t34 t35
    have hE : stQ f i tm J = false := Bool.eq_false_iff.2 fun q => hc ((stQ_iff.1 q).2 j ltj)
    rw [hE]
    refine wp_ret ?_
    repeat (first | with_reducible refine ret_in ?_ | with_reducible refine ret_then ?_)
    refine bodyPost_ret (results_tmp rfl _ _ _) A.2 ⟨?_, BB⟩
    show Ending.returned (a.eval (.tmp 4)) = _
    rw [t4]
  ·rw [decide_eq_false ltj] at t36
   refine wp_cond_false t36 ?_
   refine wp_exit ?_
   first | with_reducible refine exit_in ?_ | with_reducible refine exit_then (exit_in ?_) | with_reducible refine exit_then (exit_then (exit_in ?_)) | refine exit_in ?_ | refine exit_then (exit_in ?_) | refine exit_then (exit_then (exit_in ?_))
   clear t36 esj
   obtain rfl : j = J := by omega
   have hE : stQ f i tm j = true := by unfold stQ; rw [hok, hok2]; rfl
   rw [hE]
   clear t33 t34 t35 FO
   refine wp_seq ?_
   refine wp_se 42 [] [] (fun _ s X => Below V.heap.size V X) (fun s => fun _ => undef) () A (BB) trivial ?_
   rintro _ a X15 A e (BB : Below V.heap.size V X15)
   have t4 : a.eval (.tmp 4) = .bool true := e _
   clear e
   refine wp_ret ?_
   repeat (first | with_reducible refine ret_in ?_ | with_reducible refine ret_then ?_)
   refine bodyPost_ret (results_tmp rfl _ _ _) A.2 ⟨?_, BB⟩
   show Ending.returned (a.eval (.tmp 4)) = _
   rw [t4]
set_option maxRecDepth 100000 in
set_option maxHeartbeats 4000000 in
theorem pareOffsets (sf vf : Nat → Int) (J m : Nat) (v u0 : Value) (V : World) (hv : SliceI V v J sf) (hJ : J ≤ 64) (hok : okS sf J = true) (hv2 : SliceI V u0 m vf) :
  Calls Try.prog 82 #[v, u0] V fun e w' => e = .returned (.bool (decide (m = sumN (gN sf) J) && ofQ sf J vf)) ∧ Below V.heap.size V w' := by
 obtain ⟨ia, ic, rfl, -, -, hsh⟩ := id hv.shape
 have FI := hv
 obtain ⟨ja, jc, rfl, hjm, -, hsj⟩ := id hv2.shape
 have FJ := hv2
 go_enter Try.func82, Try.ntmps82
 refine wp_seq ?_
 refine wp_region_sqK 31 [(0, 4)] (fun i_ => match i_ with | 0 => .bool false | _ => undef) rfl (by kernel_rfl) (by decide) (by decide) ?_ ?_
 ·intro i_ hi_ a hf hv hn
  match i_, hi_ with
  | 0, _ => exact stepV rfl rfl (execAsgB rfl rfl) ⟨⟨_, rfl, rfl⟩, rfl⟩
  | k_ + 1, h_ => exact absurd h_ (by simp)
 intro a h1 h2 h3 h4
 have t0 : a.eval (.tmp 0) = .slice ia J ic := (h3 0 (by decide)).trans rfl
 have t1 : a.eval (.tmp 1) = .slice ja m jc := (h3 1 (by decide)).trans rfl
 have A : a.tmps.size = 31 ∧ a.defers = [] := ⟨h1, h2⟩
 have BW : Below V.heap.size V V := Below.refl _ _
 clear h1 h2 h3 h4
 have BB := BW
 have hsum := okS_sum hok
 refine wp_seq (wp_seq ?_)
 by_cases hm : m = sumN (gN sf) J
 ·refine wp_se 31 [1, 3, 4] [] (fun _ s X => Below V.heap.size V X) (fun s => fun i_ => match i_ with | 1 => .int .i64 ((m : Nat) : Int) | 3 => .int .i64 ((sumN (gN sf) J : Nat) : Int) | 4 => .bool false | _ => undef) () A (BB) (And.intro ?_ (And.intro ?_ (And.intro ?_ trivial))) ?_
  ·exact fun s a X e hS => stepV rfl rfl (execLenI (len := m) rfl ((e (.tmp 8)).trans t1) ((FJ.on hS)).shp) ⟨s, ⟨_, rfl, rfl⟩, hS, ar⟩
  ·exact fun s a X e hS => stepC rfl rfl (execCall1 Try.func70 (by kernel_rfl) (by kernel_rfl) rfl ((e (.tmp 10)).trans t0)) (psum sf J _ X (FI.on hS) (by omega) (fun j hj => (okS_iff.1 hok j hj).1) (by omega)) fun e w' hh => ⟨_, hh.1, s, ⟨_, rfl, rfl⟩, (hS).trans ((hh.2).mono (hS).size), ar⟩
  ·exact fun s a X e hS => stepV rfl rfl (execDec (execNeN (p := m) (q := sumN (gN sf) J) rfl (e (.tmp 9)) (e (.tmp 11))) (decide_eq_false (by omega))) ⟨s, ⟨_, rfl, rfl⟩, hS, ar⟩
  rintro _ a X1 A e (BB : Below V.heap.size V X1)
  have t12 : a.eval (.tmp 12) = .bool false := e _
  replace t0 := kt e t0
  replace t1 := kt e t1
  clear e
  refine wp_cond_false t12 (wp_skip ?_)
  clear t12
  rw [decide_eq_true hm, Bool.true_and]
  refine wp_seq ?_
  refine wp_se 31 [] [] (fun _ s X => Below V.heap.size V X) (fun s => fun _ => undef) () A (BB) trivial ?_
  rintro _ a X3 A e (BB : Below V.heap.size V X3)
  have t5 : a.eval (.tmp 5) = .int .i64 ((0 : Nat) : Int) := e _
  replace t0 := kt e t0
  replace t1 := kt e t1
  clear e
  refine wp_seq (wp_seq ?_)
  refine wp_se 31 [1] [] (fun _ s X => Below V.heap.size V X) (fun s => fun i_ => match i_ with | 1 => .int .i64 ((J : Nat) : Int) | _ => undef) () A (BB) (And.intro ?_ trivial) ?_
  ·exact fun s a X e hS => stepV rfl rfl (execLenI (len := J) rfl ((e (.tmp 13)).trans t0) ((FI.on hS)).shp) ⟨s, ⟨_, rfl, rfl⟩, hS, ar⟩
  rintro _ a X4 A e (BB : Below V.heap.size V X4)
  have t13 : a.eval (.tmp 13) = .slice ia J ic := (e _).trans t0
  have t14 : a.eval (.tmp 14) = .int .i64 ((J : Nat) : Int) := e _
  have t15 : a.eval (.tmp 15) = .int .i64 ((0 : Nat) : Int) := e _
  replace t1 := kt e t1
  replace t5 := kt e t5
  clear e t0
  refine wp_block ?_
  refine wp_loop (fun a W => ∃ (i : Nat), i ≤ J ∧ (allB (ofB sf vf) i = true) ∧ (a.tmps.size = 31 ∧ a.defers = []) ∧ a.eval (.tmp 1) = .slice ja m jc ∧ a.eval (.tmp 5) = .int .i64 ((sumN (gN sf) i : Nat) : Int) ∧ a.eval (.tmp 13) = .slice ia J ic ∧ a.eval (.tmp 14) = .int .i64 ((J : Nat) : Int) ∧ a.eval (.tmp 15) = .int .i64 ((i : Nat) : Int) ∧ Below V.heap.size V W) (fun a _ => J - (intOf (a.eval (.tmp 15))).toNat) ⟨0, Nat.zero_le _, rfl, A, t1, t5, t13, t14, t15, BB⟩ ?_
  rintro a XL5 ⟨i, hi, hall, A, t1, t5, t13, t14, t15, BB⟩
  have esi := t15
  refine wp_seq ?_
  refine wp_se 31 [0] [] (fun _ s X => Below V.heap.size V X) (fun s => fun i_ => match i_ with | 0 => .bool (decide (i < J)) | _ => undef) () A (BB) (And.intro ?_ trivial) ?_
  ·exact fun s a X e hS => stepV rfl rfl (execLtW (p := i) (q := J) rfl ((e (.tmp 15)).trans t15) ((e (.tmp 14)).trans t14)) ⟨s, ⟨_, rfl, rfl⟩, hS, ar⟩
  rintro _ a X5 A e (BB : Below V.heap.size V X5)
  have t16 : a.eval (.tmp 16) = .bool (decide (i < J)) := e _
  replace t1 := kt e t1
  replace t5 := kt e t5
  replace t13 := kt e t13
  replace t14 := kt e t14
  replace t15 := kt e t15
  clear e
  refine wp_seq ?_
  by_cases lti : i < J
  ·rw [decide_eq_true lti] at t16
   refine wp_cond_true t16 (wp_skip ?_)
   clear t16
   refine wp_seq (wp_block ?_)
   obtain ⟨ib, io, rfl, hib, hcell⟩ := hsh (by omega)
   have cI : ∀ k, k < J → ∀ X, Below V.heap.size V X → X.cell? ⟨ib, io + k, none⟩ = some (.int .i64 (sf k)) := fun k hk X hX => by rw [cell_below hX hib]; exact hcell k hk
   obtain ⟨w, ew⟩ : ∃ w : Nat, sf i = w := ⟨(sf i).toNat, by have := (okS_iff.1 hok i lti).1; omega⟩
   have cW : ∀ X, Below V.heap.size V X → X.cell? ⟨ib, io + i, none⟩ = some (.int .i64 ((w : Nat) : Int)) := fun X hX => by rw [cI i lti X hX, ew]
   have hg : gN sf i = w := by show (sf i).toNat = w; omega
   have e3 : sumN (gN sf) i + w = sumN (gN sf) (i + 1) := by show _ = sumN (gN sf) i + (sf i).toNat; omega
   have hb3 := sumN_mono (r := gN sf) (show i + 1 ≤ J by omega)
   have hjc : m ≤ jc := hjm
   have cF : ∀ X, Below V.heap.size V X → Calls Try.prog 71 #[sliced ja (sumN (gN sf) i) (sumN (gN sf) i + w) jc 1] X fun e w' => e = .returned (.bool (ofB sf vf i)) ∧ Below X.heap.size X w' := fun X hX => by
    have h_ := pareFalling (fun k => vf (sumN (gN sf) i + k)) (sumN (gN sf) i + w - sumN (gN sf) i) _ X (SliceI.sub (FJ.on hX) (sumN (gN sf) i) (sumN (gN sf) i + w) (by omega) (by omega)) (by omega)
    rw [show sumN (gN sf) i + w - sumN (gN sf) i = gN sf i by omega] at h_
    exact h_
   refine wp_seq ?_
   refine wp_se 31 [0, 1] [] (fun _ s X => Below V.heap.size V X) (fun s => fun i_ => match i_ with | 0 => .pointer (some ⟨ib, io + i, none⟩) | 1 => .int .i64 ((w : Nat) : Int) | _ => undef) () A (BB) (And.intro ?_ (And.intro ?_ trivial)) ?_
   ·exact fun s a X e hS => stepV rfl rfl (execIdxN (k := i) rfl ((e (.tmp 13)).trans t13) ((e (.tmp 15)).trans t15) lti) ⟨s, ⟨_, rfl, rfl⟩, hS, ar⟩
   ·exact fun s a X e hS => stepV rfl rfl (execLd3 rfl (e (.tmp 17)) (cW X hS)) ⟨s, ⟨_, rfl, rfl⟩, hS, ar⟩
   rintro _ a X6 A e (BB : Below V.heap.size V X6)
   have t7 : a.eval (.tmp 7) = .int .i64 ((w : Nat) : Int) := e _
   replace t1 := kt e t1
   replace t5 := kt e t5
   replace t13 := kt e t13
   replace t14 := kt e t14
   replace t15 := kt e t15
   clear e
   refine wp_seq (wp_seq ?_)
   cases hq : ofB sf vf i with
   | true =>
    refine wp_se 31 [4, 5, 6, 7] [] (fun _ s X => Below V.heap.size V X) (fun s => fun i_ => match i_ with | 4 => .int .i64 ((sumN (gN sf) i + w : Nat) : Int) | 5 => sliced ja (sumN (gN sf) i) (sumN (gN sf) i + w) jc 1 | 6 => .bool true | 7 => .bool false | _ => undef) () A (BB) (And.intro ?_ (And.intro ?_ (And.intro ?_ (And.intro ?_ trivial)))) ?_
    ·exact fun s a X e hS => stepV rfl rfl (execAd8 (p := sumN (gN sf) i) (q := w) rfl ((e (.tmp 21)).trans t5) ((e (.tmp 22)).trans t7) (by omega)) ⟨s, ⟨_, rfl, rfl⟩, hS, ar⟩
    ·exact fun s a X e hS => stepV rfl rfl (execSlLH9 rfl ((e (.tmp 19)).trans t1) ((e (.tmp 20)).trans t5) (e (.tmp 23)) (sl_lhA ja m jc (sumN (gN sf) i) (sumN (gN sf) i + w) (by omega) (by omega) X)) ⟨s, ⟨_, rfl, rfl⟩, hS, ar⟩
    ·exact fun s a X e hS => stepC rfl rfl (execCall1 Try.func71 (by kernel_rfl) (by kernel_rfl) rfl (e (.tmp 24))) (hq ▸ cF X hS) fun e w' hh => ⟨_, hh.1, s, ⟨_, rfl, rfl⟩, (hS).trans ((hh.2).mono (hS).size), ar⟩
    ·exact fun s a X e hS => stepV rfl rfl (execNot8 rfl (e (.tmp 25))) ⟨s, ⟨_, rfl, rfl⟩, hS, ar⟩
    rintro _ a X7 A e (BB : Below V.heap.size V X7)
    have t26 : a.eval (.tmp 26) = .bool false := e _
    replace t1 := kt e t1
    replace t5 := kt e t5
    replace t13 := kt e t13
    replace t14 := kt e t14
    replace t15 := kt e t15
    replace t7 := kt e t7
    clear e
    refine wp_cond_false t26 (wp_skip ?_)
    clear t26
    refine wp_se 31 [2] [] (fun _ s X => Below V.heap.size V X) (fun s => fun i_ => match i_ with | 2 => .int .i64 ((sumN (gN sf) i + w : Nat) : Int) | _ => undef) () A (BB) (And.intro ?_ trivial) ?_
    ·exact fun s a X e hS => stepV rfl rfl (execAd8 (p := sumN (gN sf) i) (q := w) rfl ((e (.tmp 27)).trans t5) ((e (.tmp 28)).trans t7) (by omega)) ⟨s, ⟨_, rfl, rfl⟩, hS, ar⟩
    rintro _ a X9 A e (BB : Below V.heap.size V X9)
    replace t5 : a.eval (.tmp 5) = .int .i64 ((sumN (gN sf) i + w : Nat) : Int) := e _
    replace t1 := kt e t1
    replace t13 := kt e t13
    replace t14 := kt e t14
    replace t15 := kt e t15
    clear e t7
    rw [e3] at t5
    refine wp_se 31 [0] [] (fun _ s X => Below V.heap.size V X) (fun s => fun i_ => match i_ with | 0 => .int .i64 ((i + 1 : Nat) : Int) | _ => undef) () A (BB) (And.intro ?_ trivial) ?_
    ·exact fun s a X e hS => stepV rfl rfl (execAd8 (p := i) (q := 1) rfl ((e (.tmp 15)).trans t15) rfl (by omega)) ⟨s, ⟨_, rfl, rfl⟩, hS, ar⟩
    rintro _ a X10 A e (BB : Below V.heap.size V X10)
    replace t15 : a.eval (.tmp 15) = .int .i64 ((i + 1 : Nat) : Int) := e _
    replace t1 := kt e t1
    replace t5 := kt e t5
    replace t13 := kt e t13
    replace t14 := kt e t14
    clear e
    exact ⟨⟨i + 1, lti, allB_succ hall hq, A, t1, t5, t13, t14, t15, BB⟩, by show J - (intOf (a.eval (.tmp 15))).toNat < J - (intOf (Act.eval _ (.tmp 15))).toNat; rw [t15, esi]; show J - (i + 1) < J - i; omega⟩
   | false =>
    refine wp_se 31 [4, 5, 6, 7] [] (fun _ s X => Below V.heap.size V X) (fun s => fun i_ => match i_ with | 4 => .int .i64 ((sumN (gN sf) i + w : Nat) : Int) | 5 => sliced ja (sumN (gN sf) i) (sumN (gN sf) i + w) jc 1 | 6 => .bool false | 7 => .bool true | _ => undef) () A (BB) (And.intro ?_ (And.intro ?_ (And.intro ?_ (And.intro ?_ trivial)))) ?_
    ·exact fun s a X e hS => stepV rfl rfl (execAd8 (p := sumN (gN sf) i) (q := w) rfl ((e (.tmp 21)).trans t5) ((e (.tmp 22)).trans t7) (by omega)) ⟨s, ⟨_, rfl, rfl⟩, hS, ar⟩
    ·exact fun s a X e hS => stepV rfl rfl (execSlLH9 rfl ((e (.tmp 19)).trans t1) ((e (.tmp 20)).trans t5) (e (.tmp 23)) (sl_lhA ja m jc (sumN (gN sf) i) (sumN (gN sf) i + w) (by omega) (by omega) X)) ⟨s, ⟨_, rfl, rfl⟩, hS, ar⟩
    ·exact fun s a X e hS => stepC rfl rfl (execCall1 Try.func71 (by kernel_rfl) (by kernel_rfl) rfl (e (.tmp 24))) (hq ▸ cF X hS) fun e w' hh => ⟨_, hh.1, s, ⟨_, rfl, rfl⟩, (hS).trans ((hh.2).mono (hS).size), ar⟩
    ·exact fun s a X e hS => stepV rfl rfl (execNot8 rfl (e (.tmp 25))) ⟨s, ⟨_, rfl, rfl⟩, hS, ar⟩
    rintro _ a X7 A e (BB : Below V.heap.size V X7)
    have t26 : a.eval (.tmp 26) = .bool true := e _
    replace t1 := kt e t1
    replace t5 := kt e t5
    replace t13 := kt e t13
    replace t14 := kt e t14
    replace t15 := kt e t15
    replace t7 := kt e t7
    clear e
    refine wp_cond_true t26 ?_
    refine wp_seq ?_
    refine wp_se 31 [] [] (fun _ s X => Below V.heap.size V X) (fun s => fun _ => undef) () A (BB) trivial ?_
    rintro _ a X8 A e (BB : Below V.heap.size V X8)
    have t4 : a.eval (.tmp 4) = .bool false := e _
    clear e t1 t5 t13 t14 t15 t7
    have hE : ofQ sf J vf = false := allB_bad lti (by rw [hq]; decide)
    rw [hE]
    refine wp_ret ?_
    repeat (first | with_reducible refine ret_in ?_ | with_reducible refine ret_then ?_)
    refine bodyPost_ret (results_tmp rfl _ _ _) A.2 ⟨?_, BB⟩
    show Ending.returned (a.eval (.tmp 4)) = _
    rw [t4]
  ·rw [decide_eq_false lti] at t16
   refine wp_cond_false t16 ?_
   refine wp_exit ?_
   first | with_reducible refine exit_in ?_ | with_reducible refine exit_then (exit_in ?_) | with_reducible refine exit_then (exit_then (exit_in ?_)) | refine exit_in ?_ | refine exit_then (exit_in ?_) | refine exit_then (exit_then (exit_in ?_))
   clear t16 esi
   obtain rfl : i = J := by omega
   have hE : ofQ sf i vf = true := hall
   rw [hE]
   clear t1 t5 t13 t14 t15
   refine wp_seq ?_
   refine wp_se 31 [] [] (fun _ s X => Below V.heap.size V X) (fun s => fun _ => undef) () A (BB) trivial ?_
   rintro _ a X11 A e (BB : Below V.heap.size V X11)
   have t4 : a.eval (.tmp 4) = .bool true := e _
   clear e
   refine wp_ret ?_
   repeat (first | with_reducible refine ret_in ?_ | with_reducible refine ret_then ?_)
   refine bodyPost_ret (results_tmp rfl _ _ _) A.2 ⟨?_, BB⟩
   show Ending.returned (a.eval (.tmp 4)) = _
   rw [t4]
 ·refine wp_se 31 [1, 3, 4] [] (fun _ s X => Below V.heap.size V X) (fun s => fun i_ => match i_ with | 1 => .int .i64 ((m : Nat) : Int) | 3 => .int .i64 ((sumN (gN sf) J : Nat) : Int) | 4 => .bool true | _ => undef) () A (BB) (And.intro ?_ (And.intro ?_ (And.intro ?_ trivial))) ?_
  ·exact fun s a X e hS => stepV rfl rfl (execLenI (len := m) rfl ((e (.tmp 8)).trans t1) ((FJ.on hS)).shp) ⟨s, ⟨_, rfl, rfl⟩, hS, ar⟩
  ·exact fun s a X e hS => stepC rfl rfl (execCall1 Try.func70 (by kernel_rfl) (by kernel_rfl) rfl ((e (.tmp 10)).trans t0)) (psum sf J _ X (FI.on hS) (by omega) (fun j hj => (okS_iff.1 hok j hj).1) (by omega)) fun e w' hh => ⟨_, hh.1, s, ⟨_, rfl, rfl⟩, (hS).trans ((hh.2).mono (hS).size), ar⟩
  ·exact fun s a X e hS => stepV rfl rfl (execDec (execNeN (p := m) (q := sumN (gN sf) J) rfl (e (.tmp 9)) (e (.tmp 11))) (decide_eq_true (by omega))) ⟨s, ⟨_, rfl, rfl⟩, hS, ar⟩
  rintro _ a X1 A e (BB : Below V.heap.size V X1)
  have t12 : a.eval (.tmp 12) = .bool true := e _
  clear e t0 t1
  refine wp_cond_true t12 ?_
  refine wp_seq ?_
  refine wp_se 31 [] [] (fun _ s X => Below V.heap.size V X) (fun s => fun _ => undef) () A (BB) trivial ?_
  rintro _ a X2 A e (BB : Below V.heap.size V X2)
  have t4 : a.eval (.tmp 4) = .bool false := e _
  clear e
  rw [decide_eq_false hm, Bool.false_and]
  refine wp_ret ?_
  repeat (first | with_reducible refine ret_in ?_ | with_reducible refine ret_then ?_)
  refine bodyPost_ret (results_tmp rfl _ _ _) A.2 ⟨?_, BB⟩
  show Ending.returned (a.eval (.tmp 4)) = _
  rw [t4]
end Go.Proofs.Ytmjpneaccjlpkaa.Brd
