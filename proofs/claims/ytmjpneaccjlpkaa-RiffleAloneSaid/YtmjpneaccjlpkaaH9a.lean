import Derived.Test.YtmjpneaccjlpkaaF9a
import Derived.Test.YtmjpneaccjlpkaaG9k
namespace Go.Proofs.Ytmjpneaccjlpkaa.Drw
open Go.RowKit Gf8 Aes By8 Cel Cf Tap
/- The program's isBound, areBounds, areDraws, Below. Written by tools/mkH9a.py. -/
theorem top_iff (x b : Nat) (hb : 0 < b) : x < 256 - 256 % b ↔ x / b < 256 / b := by
 have h := Nat.div_add_mod 256 b
 rw [Nat.div_lt_iff_lt_mul hb, Nat.mul_comm (256 / b) b]
 omega
def plOf (W : World) (g : Nat) : Nat := match W.heap[g]? with | some (.cells c _ _) => (intOf (c.getD 1 undef)).toNat | _ => 0
theorem plOf_tp {W : World} {g : Nat} {p : Nat → Nat} {l at' : Nat} {t : TypeId} (h : W.heap[g]? = some (.cells (tpC p l at') t)) : plOf W g = at' := by
 unfold plOf
 rw [h]
 rfl
def bV (p : Nat → Nat) (l i : Nat) : Nat := if i < l then p i else 0
def bL (l i : Nat) : Nat := if i < l then l else 0
def bN (l i : Nat) : Nat := if i < l then i + 1 else 0
def bE (l i : Nat) : Nat := if i < l then 0 else 3
set_option maxRecDepth 20000 in
theorem isBound_yes (b : Int) (V : World) (h : ¬ bad b) :
  Calls Try.prog 84 #[.int .i64 b] V fun e w' => e = .returned (.bool true) ∧ Below V.heap.size V w' := by
 have h1 : 1 ≤ b := by unfold bad at h; omega
 have h2 : b ≤ 256 := by unfold bad at h; omega
 clear h
 go_enter Try.func84, Try.ntmps84
 go_wp2
 refine bodyPost_ret (results_tmp rfl _ _ _) rfl ⟨rfl, Below.refl _ _⟩
set_option maxRecDepth 20000 in
theorem isBound_no (b : Int) (V : World) (h : bad b) :
  Calls Try.prog 84 #[.int .i64 b] V fun e w' => e = .returned (.bool false) ∧ Below V.heap.size V w' := by
 by_cases h1 : 1 ≤ b
 ·have h2 : ¬ b ≤ 256 := by unfold bad at h; omega
  clear h
  go_enter Try.func84, Try.ntmps84
  go_wp2
  refine bodyPost_ret (results_tmp rfl _ _ _) rfl ⟨rfl, Below.refl _ _⟩
 ·clear h
  go_enter Try.func84, Try.ntmps84
  go_wp2
  refine bodyPost_ret (results_tmp rfl _ _ _) rfl ⟨rfl, Below.refl _ _⟩
set_option maxRecDepth 100000 in
set_option maxHeartbeats 4000000 in
theorem areBounds_any (f : Nat → Int) (n : Nat) (v : Value) (V : World) (hv : SliceI V v n f) (hn : n ≤ 17592186044416) :
  Calls Try.prog 65 #[v] V fun e w' => e = .returned (.bool (!anyB f n)) ∧ Below V.heap.size V w' := by
 obtain ⟨ia, ic, rfl, -, -, hsh⟩ := id hv.shape
 have FI := hv
 go_enter Try.func65, Try.ntmps65
 refine wp_seq ?_
 refine wp_region_sqK 15 [(0, 2)] (fun i_ => match i_ with | 0 => .bool false | _ => undef) rfl (by kernel_rfl) (by decide) (by decide) ?_ ?_
 ·intro i_ hi_ a hf hv hn
  match i_, hi_ with
  | 0, _ => exact stepV rfl rfl (execAsgB rfl rfl) ⟨⟨_, rfl, rfl⟩, rfl⟩
  | k_ + 1, h_ => exact absurd h_ (by simp)
 intro a h1 h2 h3 h4
 have t0 : a.eval (.tmp 0) = .slice ia n ic := (h3 0 (by decide)).trans rfl
 have A : a.tmps.size = 15 ∧ a.defers = [] := ⟨h1, h2⟩
 have BW : Below V.heap.size V V := Below.refl _ _
 clear h1 h2 h3 h4
 have BB := BW
 refine wp_seq (wp_seq ?_)
 refine wp_se 15 [1] [] (fun _ s X => Below V.heap.size V X) (fun s => fun i_ => match i_ with | 1 => .int .i64 ((n : Nat) : Int) | _ => undef) () A (BB) (And.intro ?_ trivial) ?_
 ·exact fun s a X e hS => stepV rfl rfl (execLenI (len := n) rfl ((e (.tmp 5)).trans t0) ((FI.on hS)).shp) ⟨s, ⟨_, rfl, rfl⟩, hS, ar⟩
 rintro _ a X1 A e (BB : Below V.heap.size V X1)
 have t5 : a.eval (.tmp 5) = .slice ia n ic := (e _).trans t0
 have t6 : a.eval (.tmp 6) = .int .i64 ((n : Nat) : Int) := e _
 have t7 : a.eval (.tmp 7) = .int .i64 ((0 : Nat) : Int) := e _
 clear e t0
 refine wp_block ?_
 refine wp_loop (fun a W => ∃ i : Nat, i ≤ n ∧ anyB f i = false ∧ (a.tmps.size = 15 ∧ a.defers = []) ∧ a.eval (.tmp 5) = .slice ia n ic ∧ a.eval (.tmp 6) = .int .i64 ((n : Nat) : Int) ∧ a.eval (.tmp 7) = .int .i64 ((i : Nat) : Int) ∧ Below V.heap.size V W) (fun a _ => n - (intOf (a.eval (.tmp 7))).toNat) ⟨0, Nat.zero_le _, rfl, A, t5, t6, t7, BB⟩ ?_
 rintro a XL ⟨i, hi, hno, A, t5, t6, t7, BB⟩
 have e7 := t7
 refine wp_seq ?_
 refine wp_se 15 [0] [] (fun _ s X => Below V.heap.size V X) (fun s => fun i_ => match i_ with | 0 => .bool (decide (i < n)) | _ => undef) () A (BB) (And.intro ?_ trivial) ?_
 ·exact fun s a X e hS => stepV rfl rfl (execLtW (p := i) (q := n) rfl ((e (.tmp 7)).trans t7) ((e (.tmp 6)).trans t6)) ⟨s, ⟨_, rfl, rfl⟩, hS, ar⟩
 rintro _ a X2 A e (BB : Below V.heap.size V X2)
 have t8 : a.eval (.tmp 8) = .bool (decide (i < n)) := e _
 replace t5 := kt e t5
 replace t6 := kt e t6
 replace t7 := kt e t7
 clear e
 refine wp_seq ?_
 by_cases hlt : i < n
 ·rw [decide_eq_true hlt] at t8
  refine wp_cond_true t8 (wp_skip ?_)
  clear t8
  obtain ⟨ib, io, rfl, hib, hcell⟩ := hsh (by omega)
  have cI : ∀ X, Below V.heap.size V X → X.cell? ⟨ib, io + i, none⟩ = some (.int .i64 (f i)) := fun X hX => by rw [cell_below hX hib]; exact hcell i hlt
  refine wp_seq (wp_block ?_)
  refine wp_seq ?_
  refine wp_se 15 [0, 1] [] (fun _ s X => Below V.heap.size V X) (fun s => fun i_ => match i_ with | 0 => .pointer (some ⟨ib, io + i, none⟩) | 1 => .int .i64 (f i) | _ => undef) () A (BB) (And.intro ?_ (And.intro ?_ trivial)) ?_
  ·exact fun s a X e hS => stepV rfl rfl (execIdxN (k := i) rfl ((e (.tmp 5)).trans t5) ((e (.tmp 7)).trans t7) hlt) ⟨s, ⟨_, rfl, rfl⟩, hS, ar⟩
  ·exact fun s a X e hS => stepV rfl rfl (execLd3 rfl (e (.tmp 9)) (cI X hS)) ⟨s, ⟨_, rfl, rfl⟩, hS, ar⟩
  rintro _ a X3 A e (BB : Below V.heap.size V X3)
  have t4 : a.eval (.tmp 4) = .int .i64 (f i) := e _
  replace t5 := kt e t5
  replace t6 := kt e t6
  replace t7 := kt e t7
  clear e
  by_cases hbd : bad (f i)
  ·refine wp_seq ?_
   refine wp_se 15 [1, 2] [] (fun _ s X => Below V.heap.size V X) (fun s => fun i_ => match i_ with | 1 => .bool false | 2 => .bool true | _ => undef) () A (BB) (And.intro ?_ (And.intro ?_ trivial)) ?_
   ·exact fun s a X e hS => stepC rfl rfl (execCall1 Try.func84 (by kernel_rfl) (by kernel_rfl) rfl ((e (.tmp 11)).trans t4)) (isBound_no (f i) X hbd) fun e w' hh => ⟨_, hh.1, s, ⟨_, rfl, rfl⟩, (hS).trans ((hh.2).mono (hS).size), ar⟩
   ·exact fun s a X e hS => stepV rfl rfl (execNot8 rfl (e (.tmp 12))) ⟨s, ⟨_, rfl, rfl⟩, hS, ar⟩
   rintro _ a X4 A e (BB : Below V.heap.size V X4)
   have t13 : a.eval (.tmp 13) = .bool true := e _
   replace t5 := kt e t5
   replace t6 := kt e t6
   replace t7 := kt e t7
   clear e t4
   refine wp_cond_true t13 ?_
   refine wp_seq ?_
   refine wp_se 15 [] [] (fun _ s X => Below V.heap.size V X) (fun s => fun _ => undef) () A (BB) trivial ?_
   rintro _ a X5 A e (BB : Below V.heap.size V X5)
   have t2 : a.eval (.tmp 2) = .bool false := e _
   clear e t5 t6 t7 t13
   have hy : anyB f n = true := anyB_yes hlt hbd
   rw [hy]
   refine wp_ret ?_
   repeat (first | with_reducible refine ret_in ?_ | with_reducible refine ret_then ?_)
   refine bodyPost_ret (results_tmp rfl _ _ _) A.2 ⟨?_, BB⟩
   show Ending.returned (a.eval (.tmp 2)) = _
   rw [t2]
   rfl
  ·refine wp_seq ?_
   refine wp_se 15 [1, 2] [] (fun _ s X => Below V.heap.size V X) (fun s => fun i_ => match i_ with | 1 => .bool true | 2 => .bool false | _ => undef) () A (BB) (And.intro ?_ (And.intro ?_ trivial)) ?_
   ·exact fun s a X e hS => stepC rfl rfl (execCall1 Try.func84 (by kernel_rfl) (by kernel_rfl) rfl ((e (.tmp 11)).trans t4)) (isBound_yes (f i) X hbd) fun e w' hh => ⟨_, hh.1, s, ⟨_, rfl, rfl⟩, (hS).trans ((hh.2).mono (hS).size), ar⟩
   ·exact fun s a X e hS => stepV rfl rfl (execNot8 rfl (e (.tmp 12))) ⟨s, ⟨_, rfl, rfl⟩, hS, ar⟩
   rintro _ a X4 A e (BB : Below V.heap.size V X4)
   have t13 : a.eval (.tmp 13) = .bool false := e _
   replace t5 := kt e t5
   replace t6 := kt e t6
   replace t7 := kt e t7
   clear e t4
   refine wp_cond_false t13 (wp_skip ?_)
   clear t13
   refine wp_se 15 [0] [] (fun _ s X => Below V.heap.size V X) (fun s => fun i_ => match i_ with | 0 => .int .i64 ((i + 1 : Nat) : Int) | _ => undef) () A (BB) (And.intro ?_ trivial) ?_
   ·exact fun s a X e hS => stepV rfl rfl (execAd8 (p := i) (q := 1) rfl ((e (.tmp 7)).trans t7) rfl (by omega)) ⟨s, ⟨_, rfl, rfl⟩, hS, ar⟩
   rintro _ a X6 A e (BB : Below V.heap.size V X6)
   replace t7 : a.eval (.tmp 7) = .int .i64 ((i + 1 : Nat) : Int) := e _
   replace t5 := kt e t5
   replace t6 := kt e t6
   clear e
   exact ⟨⟨i + 1, hlt, by simp only [anyB, hno, Bool.false_or, decide_eq_false_iff_not]; exact hbd, A, t5, t6, t7, BB⟩, by show n - (intOf (a.eval (.tmp 7))).toNat < n - (intOf (Act.eval _ (.tmp 7))).toNat; rw [t7, e7]; show n - (i + 1) < n - i; omega⟩
 ·rw [decide_eq_false hlt] at t8
  refine wp_cond_false t8 ?_
  refine wp_exit ?_
  first | with_reducible refine exit_in ?_ | with_reducible refine exit_then (exit_in ?_) | with_reducible refine exit_then (exit_then (exit_in ?_)) | refine exit_in ?_ | refine exit_then (exit_in ?_) | refine exit_then (exit_then (exit_in ?_))
  clear t8
  have hin : i = n := by omega
  rw [hin] at hno
  rw [hno]
  refine wp_seq ?_
  refine wp_se 15 [] [] (fun _ s X => Below V.heap.size V X) (fun s => fun _ => undef) () A (BB) trivial ?_
  rintro _ a X7 A e (BB : Below V.heap.size V X7)
  have t2 : a.eval (.tmp 2) = .bool true := e _
  clear e t5 t6 t7
  refine wp_ret ?_
  repeat (first | with_reducible refine ret_in ?_ | with_reducible refine ret_then ?_)
  refine bodyPost_ret (results_tmp rfl _ _ _) A.2 ⟨?_, BB⟩
  show Ending.returned (a.eval (.tmp 2)) = _
  rw [t2]
  rfl
set_option maxRecDepth 100000 in
set_option maxHeartbeats 4000000 in
theorem areDraws_any (ws bs : Nat → Int) (m n : Nat) (wv bv : Value) (V : World) (hwv : SliceI V wv m ws) (hm17 : m ≤ 17592186044416) (hb : SliceI V bv n bs) (hn17 : n ≤ 17592186044416) :
  Calls Try.prog 83 #[wv, bv] V fun e w' => e = .returned (.bool (decide (m = n) && !anyW bs ws m)) ∧ Below V.heap.size V w' := by
 obtain ⟨ia, ic, rfl, -, -, hsh⟩ := id hb.shape
 obtain ⟨ja, jc, rfl, -, -, hsj⟩ := id hwv.shape
 have FI := hb
 have FJ := hwv
 go_enter Try.func83, Try.ntmps83
 refine wp_seq ?_
 refine wp_region_sqK 30 [(0, 4)] (fun i_ => match i_ with | 0 => .bool false | _ => undef) rfl (by kernel_rfl) (by decide) (by decide) ?_ ?_
 ·intro i_ hi_ a hf hv hn
  match i_, hi_ with
  | 0, _ => exact stepV rfl rfl (execAsgB rfl rfl) ⟨⟨_, rfl, rfl⟩, rfl⟩
  | k_ + 1, h_ => exact absurd h_ (by simp)
 intro a h1 h2 h3 h4
 have t0 : a.eval (.tmp 0) = .slice ja m jc := (h3 0 (by decide)).trans rfl
 have t1 : a.eval (.tmp 1) = .slice ia n ic := (h3 1 (by decide)).trans rfl
 have A : a.tmps.size = 30 ∧ a.defers = [] := ⟨h1, h2⟩
 have BW : Below V.heap.size V V := Below.refl _ _
 clear h1 h2 h3 h4
 have BB := BW
 refine wp_seq (wp_seq ?_)
 refine wp_se 30 [1, 3, 4] [] (fun _ s X => Below V.heap.size V X) (fun s => fun i_ => match i_ with | 1 => .int .i64 ((m : Nat) : Int) | 3 => .int .i64 ((n : Nat) : Int) | 4 => .bool (decide (m ≠ n)) | _ => undef) () A (BB) (And.intro ?_ (And.intro ?_ (And.intro ?_ trivial))) ?_
 ·exact fun s a X e hS => stepV rfl rfl (execLenI (len := m) rfl ((e (.tmp 7)).trans t0) ((FJ.on hS)).shp) ⟨s, ⟨_, rfl, rfl⟩, hS, ar⟩
 ·exact fun s a X e hS => stepV rfl rfl (execLenI (len := n) rfl ((e (.tmp 9)).trans t1) ((FI.on hS)).shp) ⟨s, ⟨_, rfl, rfl⟩, hS, ar⟩
 ·exact fun s a X e hS => stepV rfl rfl (execNeN (p := m) (q := n) rfl (e (.tmp 8)) (e (.tmp 10))) ⟨s, ⟨_, rfl, rfl⟩, hS, ar⟩
 rintro _ a X1 A e (BB : Below V.heap.size V X1)
 have t11 : a.eval (.tmp 11) = .bool (decide (m ≠ n)) := e _
 replace t0 := kt e t0
 replace t1 := kt e t1
 clear e
 by_cases hmn : m = n
 ·rw [decide_eq_false (fun q => q hmn)] at t11
  refine wp_cond_false t11 (wp_skip ?_)
  clear t11
  rw [decide_eq_true hmn, Bool.true_and]
  subst hmn
  refine wp_seq (wp_seq ?_)
  refine wp_se 30 [1] [] (fun _ s X => Below V.heap.size V X) (fun s => fun i_ => match i_ with | 1 => .int .i64 ((m : Nat) : Int) | _ => undef) () A (BB) (And.intro ?_ trivial) ?_
  ·exact fun s a X e hS => stepV rfl rfl (execLenI (len := m) rfl ((e (.tmp 12)).trans t0) ((FJ.on hS)).shp) ⟨s, ⟨_, rfl, rfl⟩, hS, ar⟩
  rintro _ a X3 A e (BB : Below V.heap.size V X3)
  have t12 : a.eval (.tmp 12) = .slice ja m jc := (e _).trans t0
  have t13 : a.eval (.tmp 13) = .int .i64 ((m : Nat) : Int) := e _
  have t14 : a.eval (.tmp 14) = .int .i64 ((0 : Nat) : Int) := e _
  replace t1 := kt e t1
  clear e t0
  refine wp_block ?_
  refine wp_loop (fun a W => ∃ i : Nat, i ≤ m ∧ anyW bs ws i = false ∧ (a.tmps.size = 30 ∧ a.defers = []) ∧ a.eval (.tmp 1) = .slice ia m ic ∧ a.eval (.tmp 12) = .slice ja m jc ∧ a.eval (.tmp 13) = .int .i64 ((m : Nat) : Int) ∧ a.eval (.tmp 14) = .int .i64 ((i : Nat) : Int) ∧ Below V.heap.size V W) (fun a _ => m - (intOf (a.eval (.tmp 14))).toNat) ⟨0, Nat.zero_le _, rfl, A, t1, t12, t13, t14, BB⟩ ?_
  rintro a XL ⟨i, hi, hnw, A, t1, t12, t13, t14, BB⟩
  have e14 := t14
  refine wp_seq ?_
  refine wp_se 30 [0] [] (fun _ s X => Below V.heap.size V X) (fun s => fun i_ => match i_ with | 0 => .bool (decide (i < m)) | _ => undef) () A (BB) (And.intro ?_ trivial) ?_
  ·exact fun s a X e hS => stepV rfl rfl (execLtW (p := i) (q := m) rfl ((e (.tmp 14)).trans t14) ((e (.tmp 13)).trans t13)) ⟨s, ⟨_, rfl, rfl⟩, hS, ar⟩
  rintro _ a X4 A e (BB : Below V.heap.size V X4)
  have t15 : a.eval (.tmp 15) = .bool (decide (i < m)) := e _
  replace t1 := kt e t1
  replace t12 := kt e t12
  replace t13 := kt e t13
  replace t14 := kt e t14
  clear e
  refine wp_seq ?_
  by_cases hlt : i < m
  ·rw [decide_eq_true hlt] at t15
   refine wp_cond_true t15 (wp_skip ?_)
   clear t15
   obtain ⟨ib, io, rfl, hib, hcell⟩ := hsh (by omega)
   obtain ⟨jb, jo, rfl, hjb, hcelj⟩ := hsj (by omega)
   have cI : ∀ X, Below V.heap.size V X → X.cell? ⟨ib, io + i, none⟩ = some (.int .i64 (bs i)) := fun X hX => by rw [cell_below hX hib]; exact hcell i hlt
   have cJ : ∀ X, Below V.heap.size V X → X.cell? ⟨jb, jo + i, none⟩ = some (.int .i64 (ws i)) := fun X hX => by rw [cell_below hX hjb]; exact hcelj i hlt
   refine wp_seq (wp_block ?_)
   refine wp_seq ?_
   refine wp_se 30 [1, 2] [] (fun _ s X => Below V.heap.size V X) (fun s => fun i_ => match i_ with | 1 => .pointer (some ⟨jb, jo + i, none⟩) | 2 => .int .i64 (ws i) | _ => undef) () A (BB) (And.intro ?_ (And.intro ?_ trivial)) ?_
   ·exact fun s a X e hS => stepV rfl rfl (execIdxN (k := i) rfl ((e (.tmp 12)).trans t12) ((e (.tmp 14)).trans t14) hlt) ⟨s, ⟨_, rfl, rfl⟩, hS, ar⟩
   ·exact fun s a X e hS => stepV rfl rfl (execLd3 rfl (e (.tmp 17)) (cJ X hS)) ⟨s, ⟨_, rfl, rfl⟩, hS, ar⟩
   rintro _ a X5 A e (BB : Below V.heap.size V X5)
   have t5 : a.eval (.tmp 5) = .int .i64 ((i : Nat) : Int) := (e _).trans t14
   have t6 : a.eval (.tmp 6) = .int .i64 (ws i) := e _
   replace t1 := kt e t1
   replace t12 := kt e t12
   replace t13 := kt e t13
   replace t14 := kt e t14
   clear e
   by_cases h1 : ws i < 0
   ·refine wp_seq ?_
    refine wp_se 30 [1] [] (fun _ s X => Below V.heap.size V X) (fun s => fun i_ => match i_ with | 1 => .bool true | _ => undef) () A (BB) (And.intro ?_ trivial) ?_
    ·exact fun s a X e hS => stepV rfl rfl (execLtCt (p := (ws i)) (q := 0) rfl ((e (.tmp 19)).trans t6) (by exact h1)) ⟨s, ⟨_, rfl, rfl⟩, hS, ar⟩
    rintro _ a X6 A e (BB : Below V.heap.size V X6)
    have t28 : a.eval (.tmp 28) = .bool true := e _
    replace t1 := kt e t1
    replace t12 := kt e t12
    replace t13 := kt e t13
    replace t14 := kt e t14
    clear e t5 t6
    refine wp_cond_true t28 ?_
    refine wp_seq ?_
    refine wp_se 30 [] [] (fun _ s X => Below V.heap.size V X) (fun s => fun _ => undef) () A (BB) trivial ?_
    rintro _ a X7 A e (BB : Below V.heap.size V X7)
    have t4 : a.eval (.tmp 4) = .bool false := e _
    clear e t1 t12 t13 t14 t28
    have hyw : anyW bs ws m = true := anyW_yes hlt (Or.inl h1)
    rw [hyw]
    refine wp_ret ?_
    repeat (first | with_reducible refine ret_in ?_ | with_reducible refine ret_then ?_)
    refine bodyPost_ret (results_tmp rfl _ _ _) A.2 ⟨?_, BB⟩
    show Ending.returned (a.eval (.tmp 4)) = _
    rw [t4]
    rfl
   ·by_cases h2 : bs i ≤ ws i
    ·refine wp_seq ?_
     refine wp_se 30 [1, 6, 7, 8] [] (fun _ s X => Below V.heap.size V X) (fun s => fun i_ => match i_ with | 1 => .bool false | 6 => .pointer (some ⟨ib, io + i, none⟩) | 7 => .int .i64 (bs i) | 8 => .bool true | _ => undef) () A (BB) (And.intro ?_ (And.intro ?_ (And.intro ?_ (And.intro ?_ trivial)))) ?_
     ·exact fun s a X e hS => stepV rfl rfl (execLtCf (p := (ws i)) (q := 0) rfl ((e (.tmp 19)).trans t6) (by exact h1)) ⟨s, ⟨_, rfl, rfl⟩, hS, ar⟩
     ·exact fun s a X e hS => stepV rfl (wy rfl rfl rfl (e (.tmp 21))) (execIdxN (k := i) rfl ((e (.tmp 23)).trans t1) ((e (.tmp 24)).trans t5) hlt) ⟨s, ⟨_, rfl, rfl⟩, hS, ar⟩
     ·exact fun s a X e hS => stepV rfl (wy rfl rfl rfl (e (.tmp 21))) (execLd3 rfl (e (.tmp 25)) (cI X hS)) ⟨s, ⟨_, rfl, rfl⟩, hS, ar⟩
     ·exact fun s a X e hS => stepV rfl (wy rfl rfl rfl (e (.tmp 21))) (execGeIt rfl ((e (.tmp 22)).trans t6) (e (.tmp 26)) h2) ⟨s, ⟨_, rfl, rfl⟩, hS, ar⟩
     rintro _ a X6 A e (BB : Below V.heap.size V X6)
     have t28 : a.eval (.tmp 28) = .bool true := e _
     replace t1 := kt e t1
     replace t12 := kt e t12
     replace t13 := kt e t13
     replace t14 := kt e t14
     clear e t5 t6
     refine wp_cond_true t28 ?_
     refine wp_seq ?_
     refine wp_se 30 [] [] (fun _ s X => Below V.heap.size V X) (fun s => fun _ => undef) () A (BB) trivial ?_
     rintro _ a X7 A e (BB : Below V.heap.size V X7)
     have t4 : a.eval (.tmp 4) = .bool false := e _
     clear e t1 t12 t13 t14 t28
     have hyw : anyW bs ws m = true := anyW_yes hlt (Or.inr h2)
     rw [hyw]
     refine wp_ret ?_
     repeat (first | with_reducible refine ret_in ?_ | with_reducible refine ret_then ?_)
     refine bodyPost_ret (results_tmp rfl _ _ _) A.2 ⟨?_, BB⟩
     show Ending.returned (a.eval (.tmp 4)) = _
     rw [t4]
     rfl
    ·refine wp_seq ?_
     refine wp_se 30 [1, 6, 7, 8] [] (fun _ s X => Below V.heap.size V X) (fun s => fun i_ => match i_ with | 1 => .bool false | 6 => .pointer (some ⟨ib, io + i, none⟩) | 7 => .int .i64 (bs i) | 8 => .bool false | _ => undef) () A (BB) (And.intro ?_ (And.intro ?_ (And.intro ?_ (And.intro ?_ trivial)))) ?_
     ·exact fun s a X e hS => stepV rfl rfl (execLtCf (p := (ws i)) (q := 0) rfl ((e (.tmp 19)).trans t6) (by exact h1)) ⟨s, ⟨_, rfl, rfl⟩, hS, ar⟩
     ·exact fun s a X e hS => stepV rfl (wy rfl rfl rfl (e (.tmp 21))) (execIdxN (k := i) rfl ((e (.tmp 23)).trans t1) ((e (.tmp 24)).trans t5) hlt) ⟨s, ⟨_, rfl, rfl⟩, hS, ar⟩
     ·exact fun s a X e hS => stepV rfl (wy rfl rfl rfl (e (.tmp 21))) (execLd3 rfl (e (.tmp 25)) (cI X hS)) ⟨s, ⟨_, rfl, rfl⟩, hS, ar⟩
     ·exact fun s a X e hS => stepV rfl (wy rfl rfl rfl (e (.tmp 21))) (execGeIf rfl ((e (.tmp 22)).trans t6) (e (.tmp 26)) h2) ⟨s, ⟨_, rfl, rfl⟩, hS, ar⟩
     rintro _ a X6 A e (BB : Below V.heap.size V X6)
     have t28 : a.eval (.tmp 28) = .bool false := e _
     replace t1 := kt e t1
     replace t12 := kt e t12
     replace t13 := kt e t13
     replace t14 := kt e t14
     clear e t5 t6
     refine wp_cond_false t28 (wp_skip ?_)
     clear t28
     refine wp_se 30 [0] [] (fun _ s X => Below V.heap.size V X) (fun s => fun i_ => match i_ with | 0 => .int .i64 ((i + 1 : Nat) : Int) | _ => undef) () A (BB) (And.intro ?_ trivial) ?_
     ·exact fun s a X e hS => stepV rfl rfl (execAd8 (p := i) (q := 1) rfl ((e (.tmp 14)).trans t14) rfl (by omega)) ⟨s, ⟨_, rfl, rfl⟩, hS, ar⟩
     rintro _ a X8 A e (BB : Below V.heap.size V X8)
     replace t14 : a.eval (.tmp 14) = .int .i64 ((i + 1 : Nat) : Int) := e _
     replace t1 := kt e t1
     replace t12 := kt e t12
     replace t13 := kt e t13
     clear e
     exact ⟨⟨i + 1, hlt, by simp only [anyW, hnw, Bool.false_or, decide_eq_false_iff_not]; omega, A, t1, t12, t13, t14, BB⟩, by show m - (intOf (a.eval (.tmp 14))).toNat < m - (intOf (Act.eval _ (.tmp 14))).toNat; rw [t14, e14]; show m - (i + 1) < m - i; omega⟩
  ·rw [decide_eq_false hlt] at t15
   refine wp_cond_false t15 ?_
   refine wp_exit ?_
   first | with_reducible refine exit_in ?_ | with_reducible refine exit_then (exit_in ?_) | with_reducible refine exit_then (exit_then (exit_in ?_)) | refine exit_in ?_ | refine exit_then (exit_in ?_) | refine exit_then (exit_then (exit_in ?_))
   clear t15
   have hin : i = m := by omega
   rw [hin] at hnw
   rw [hnw]
   refine wp_seq ?_
   refine wp_se 30 [] [] (fun _ s X => Below V.heap.size V X) (fun s => fun _ => undef) () A (BB) trivial ?_
   rintro _ a X9 A e (BB : Below V.heap.size V X9)
   have t4 : a.eval (.tmp 4) = .bool true := e _
   clear e t1 t12 t13 t14
   refine wp_ret ?_
   repeat (first | with_reducible refine ret_in ?_ | with_reducible refine ret_then ?_)
   refine bodyPost_ret (results_tmp rfl _ _ _) A.2 ⟨?_, BB⟩
   show Ending.returned (a.eval (.tmp 4)) = _
   rw [t4]
   rfl
 ·rw [decide_eq_true hmn] at t11
  refine wp_cond_true t11 ?_
  refine wp_seq ?_
  refine wp_se 30 [] [] (fun _ s X => Below V.heap.size V X) (fun s => fun _ => undef) () A (BB) trivial ?_
  rintro _ a X2 A e (BB : Below V.heap.size V X2)
  have t4 : a.eval (.tmp 4) = .bool false := e _
  clear e t0 t1
  rw [decide_eq_false hmn]
  refine wp_ret ?_
  repeat (first | with_reducible refine ret_in ?_ | with_reducible refine ret_then ?_)
  refine bodyPost_ret (results_tmp rfl _ _ _) A.2 ⟨?_, BB⟩
  show Ending.returned (a.eval (.tmp 4)) = _
  rw [t4]
  rfl
end Go.Proofs.Ytmjpneaccjlpkaa.Drw
