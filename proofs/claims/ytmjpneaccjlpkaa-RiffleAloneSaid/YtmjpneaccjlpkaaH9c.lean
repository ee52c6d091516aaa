import Derived.Test.YtmjpneaccjlpkaaF9a
import Derived.Test.YtmjpneaccjlpkaaH9b
namespace Go.Proofs.Ytmjpneaccjlpkaa.Drw
open Go.RowKit Gf8 Aes By8 Cel Cf Tap
/- The program's All. Written by tools/mkH9c.py. -/
theorem own_setI {W : World} {B n g cap i l : Nat} {p : Nat → Nat} {bs : Nat → Int} (h : W.ownsRow B 3 1 (.slice (some ⟨g, 0, none⟩) n cap) n (intsL n (fun j => if j < i then (dA p l bs j : Int) else 0))) : (W.setCell ⟨g, 0 + i, none⟩ (.int .i64 ((dV p l (plA p l bs i) (bs i) : Nat) : Int))).ownsRow B 3 1 (.slice (some ⟨g, 0, none⟩) n cap) n (intsL n (fun j => if j < (i + 1) then (dA p l bs j : Int) else 0)) := by
 have h2 := own_setF (k := i) ((dV p l (plA p l bs i) (bs i) : Nat) : Int) h
 rw [intsL_congr (g := fun j => if j < (i + 1) then (dA p l bs j : Int) else 0) (fun j _ => ?_)] at h2
 ·exact h2
 ·by_cases q : j = i
  ·subst q
   rw [if_pos rfl, if_pos (by omega)]
   rfl
  ·rw [if_neg q]
   by_cases q2 : j < i
   ·rw [if_pos q2, if_pos (by omega)]
   ·rw [if_neg q2, if_neg (by omega)]
set_option maxRecDepth 100000 in
set_option maxHeartbeats 4000000 in
theorem pall_any (p : Nat → Nat) (l : Nat) (bs : Nat → Int) (n : Nat) (pv bv : Value) (V : World) (hp : SliceN V pv l p) (hl : l ≤ 140737488351232) (hb : SliceI V bv n bs) (hn17 : n ≤ 17592186044416) :
  Calls Try.prog 41 #[pv, bv] V fun e w' => ∃ r, e = .returned (.tuple #[r, .int .i64 ((allK p l bs n : Nat) : Int), .int .i64 ((allE p l bs n : Nat) : Int)]) ∧ w'.ownsRow V.heap.size 3 1 r (allN p l bs n) (intsL (allN p l bs n) (fun i => (dA p l bs i : Int))) ∧ Below V.heap.size V w' := by
 obtain ⟨ia, ic, rfl, -, -, hsh⟩ := id hb.shape
 have FI := hb
 have hpb := hp.bytes
 go_enter Try.func41, Try.ntmps41
 refine wp_seq ?_
 refine wp_region_sqK 48 [(0, 4), (1, 5), (2, 6)] (fun i_ => match i_ with | 0 => .slice none 0 0 | 1 => .int .i64 ((0 : Nat) : Int) | 2 => .int .i64 ((0 : Nat) : Int) | _ => undef) rfl (by kernel_rfl) (by decide) (by decide) ?_ ?_
 ·intro i_ hi_ a hf hv hn
  match i_, hi_ with
  | 0, _ => exact stepV rfl rfl (execAsgB rfl rfl) ⟨⟨_, rfl, rfl⟩, rfl⟩
  | 1, _ => exact stepV rfl rfl (execAsgB rfl rfl) ⟨⟨_, rfl, rfl⟩, rfl⟩
  | 2, _ => exact stepV rfl rfl (execAsgB rfl rfl) ⟨⟨_, rfl, rfl⟩, rfl⟩
  | k_ + 3, h_ => exact absurd h_ (by simp)
 intro a h1 h2 h3 h4
 have t0 : a.eval (.tmp 0) = pv := (h3 0 (by decide)).trans rfl
 have t1 : a.eval (.tmp 1) = .slice ia n ic := (h3 1 (by decide)).trans rfl
 have A : a.tmps.size = 48 ∧ a.defers = [] := ⟨h1, h2⟩
 have BW : Below V.heap.size V V := Below.refl _ _
 clear h1 h2 h3 h4
 have BB := BW
 refine wp_seq (wp_seq ?_)
 by_cases hw : anyB bs n = true
 ·have hwr : ∀ X, Below V.heap.size V X → Calls Try.prog 65 #[.slice ia n ic] X fun e w' => e = .returned (.bool false) ∧ Below X.heap.size X w' := fun X hX => by have h_ := areBounds_any bs n _ X (FI.on hX) hn17; rw [hw] at h_; exact h_
  refine wp_se 48 [1, 2] [] (fun _ s X => Below V.heap.size V X) (fun s => fun i_ => match i_ with | 1 => .bool false | 2 => .bool true | _ => undef) () A (BB) (And.intro ?_ (And.intro ?_ trivial)) ?_
  ·exact fun s a X e hS => stepC rfl rfl (execCall1 Try.func65 (by kernel_rfl) (by kernel_rfl) rfl ((e (.tmp 14)).trans t1)) (hwr X hS) fun e w' hh => ⟨_, hh.1, s, ⟨_, rfl, rfl⟩, (hS).trans ((hh.2).mono (hS).size), ar⟩
  ·exact fun s a X e hS => stepV rfl rfl (execNot8 rfl (e (.tmp 15))) ⟨s, ⟨_, rfl, rfl⟩, hS, ar⟩
  rintro _ a X1 A e (BB : Below V.heap.size V X1)
  have t16 : a.eval (.tmp 16) = .bool true := e _
  replace t0 := kt e t0
  replace t1 := kt e t1
  clear e
  refine wp_cond_true t16 ?_
  refine wp_seq ?_
  refine wp_se 48 [] [] (fun _ s X => Below V.heap.size V X) (fun s => fun _ => undef) () A (BB) trivial ?_
  rintro _ a X2 A e (BB : Below V.heap.size V X2)
  have t4 : a.eval (.tmp 4) = .slice none 0 0 := e _
  have t5 : a.eval (.tmp 5) = .int .i64 ((0 : Nat) : Int) := e _
  have t6 : a.eval (.tmp 6) = .int .i64 ((2 : Nat) : Int) := e _
  clear e t0 t1
  have hE : allE p l bs n = 2 := by unfold allE; rw [if_pos hw]
  have hN : allN p l bs n = 0 := by unfold allN; rw [if_neg (by rw [hE]; decide)]
  have hK : allK p l bs n = 0 := by unfold allK; rw [if_neg (by rw [hE]; decide)]
  rw [hE, hN, hK]
  refine wp_ret ?_
  repeat (first | with_reducible refine ret_in ?_ | with_reducible refine ret_then ?_)
  refine bodyPost_ret (results_tmp3 rfl _ _ _) A.2 ⟨_, ?_, World.ownsRow_nil _ _ _ _, BB⟩
  show Ending.returned (.tuple #[a.eval (.tmp 4), a.eval (.tmp 5), a.eval (.tmp 6)]) = _
  rw [t4, t5, t6]
 ·have hwf := Bool.eq_false_iff.2 hw
  have hwr : ∀ X, Below V.heap.size V X → Calls Try.prog 65 #[.slice ia n ic] X fun e w' => e = .returned (.bool true) ∧ Below X.heap.size X w' := fun X hX => by have h_ := areBounds_any bs n _ X (FI.on hX) hn17; rw [hwf] at h_; exact h_
  refine wp_se 48 [1, 2] [] (fun _ s X => Below V.heap.size V X) (fun s => fun i_ => match i_ with | 1 => .bool true | 2 => .bool false | _ => undef) () A (BB) (And.intro ?_ (And.intro ?_ trivial)) ?_
  ·exact fun s a X e hS => stepC rfl rfl (execCall1 Try.func65 (by kernel_rfl) (by kernel_rfl) rfl ((e (.tmp 14)).trans t1)) (hwr X hS) fun e w' hh => ⟨_, hh.1, s, ⟨_, rfl, rfl⟩, (hS).trans ((hh.2).mono (hS).size), ar⟩
  ·exact fun s a X e hS => stepV rfl rfl (execNot8 rfl (e (.tmp 15))) ⟨s, ⟨_, rfl, rfl⟩, hS, ar⟩
  rintro _ a X1 A e (BB : Below V.heap.size V X1)
  have t16 : a.eval (.tmp 16) = .bool false := e _
  replace t0 := kt e t0
  replace t1 := kt e t1
  clear e
  refine wp_cond_false t16 (wp_skip ?_)
  clear t16
  have hno := anyB_no hwf
  refine wp_seq ?_
  refine wp_se (σ := Nat) 48 [1, 2, 3] [2, 3] (fun k_ s X => match k_ with | 0 => Below V.heap.size V X | 1 => Below V.heap.size V X ∧ X.heap[s]? = some (.cells (tpC (fun _ => 0) 0 0) 108) ∧ (V.heap.size ≤ s) | _ => Below V.heap.size V X ∧ (V.heap.size ≤ s) ∧ X.heap[s]? = some (.cells (tpC p l 0) 108)) (fun s => fun i_ => match i_ with | 1 => .agg (tpC p l 0) | 2 => .pointer (some ⟨s, 0, none⟩) | _ => undef) 0 A (BB) (And.intro ?_ (And.intro ?_ (And.intro ?_ trivial))) ?_
  ·exact fun s a X e hS => stepC rfl rfl (execCall1 Try.func66 (by kernel_rfl) (by kernel_rfl) rfl ((e (.tmp 17)).trans t0)) (new_any p l _ X (hp.on hS)) fun e w' hh => ⟨_, hh.1, s, ⟨_, rfl, rfl⟩, (hS).trans ((hh.2).mono (hS).size), ar⟩
  ·intro s a X e hS
   refine stepV rfl rfl (execAllTp rfl (fun _ => 0)) ⟨X.heap.size, ⟨_, rfl, rfl⟩, ⟨(hS).trans (((belNew X _)).mono (hS).size), heapNew X _, (hS).size⟩, (And.intro (fun _ => rfl) (And.intro (fun h => absurd h (by decide)) (And.intro (fun h => absurd h (by decide)) trivial)))⟩
  ·exact fun s a X e hS => stepS rfl rfl (execStTp rfl (e (.tmp 7)) (e (.tmp 18)) hS.2.1 rfl) ⟨s, ⟨_, rfl, rfl⟩, ⟨below4 hS.1 hS.2.2 _, hS.2.2, setRow_heap _ _ _ _ _ _ hS.2.1⟩, ar⟩
  rintro g7 a X3 A e (hS : Below V.heap.size V X3 ∧ (V.heap.size ≤ g7) ∧ X3.heap[g7]? = some (.cells (tpC p l 0) 108))
  obtain ⟨BB, Fge7, F7⟩ := hS
  have t7 : a.eval (.tmp 7) = .pointer (some ⟨g7, 0, none⟩) := e _
  replace t0 := kt e t0
  replace t1 := kt e t1
  clear e
  refine wp_seq ?_
  refine wp_se (σ := Nat) 48 [1, 2] [2] (fun k_ s X => match k_ with | 0 => Below V.heap.size V X ∧ (V.heap.size ≤ g7) ∧ X.heap[g7]? = some (.cells (tpC p l 0) 108) | _ => Below V.heap.size V X ∧ (V.heap.size ≤ g7) ∧ X.heap[g7]? = some (.cells (tpC p l 0) 108) ∧ (X.ownsRow V.heap.size 3 1 (.slice (some ⟨s, 0, none⟩) n n) n (intsL n (fun j => if j < 0 then (dA p l bs j : Int) else 0))) ∧ (V.heap.size ≤ s)) (fun s => fun i_ => match i_ with | 1 => .int .i64 ((n : Nat) : Int) | 2 => .slice (some ⟨s, 0, none⟩) n n | _ => undef) 0 A ⟨BB, Fge7, F7⟩ (And.intro ?_ (And.intro ?_ trivial)) ?_
  ·exact fun s a X e hS => stepV rfl rfl (execLenI (len := n) rfl ((e (.tmp 19)).trans t1) ((FI.on hS.1)).shp) ⟨s, ⟨_, rfl, rfl⟩, hS, ar⟩
  ·intro s a X e hS
   refine stepV rfl rfl (execMkN rfl (e (.tmp 20)) (e (.tmp 20)) hn17) ⟨X.heap.size, ⟨_, rfl, rfl⟩, ⟨(hS.1).trans (((belNew X _)).mono (hS.1).size), hS.2.1, (on9 hS.2.2 (belNew X _)), ownD_base (own_mkZ X n _ hn17 (fun j_ _ => if_neg (Nat.not_lt_zero _))) (hS.1).size, (hS.1).size⟩, (And.intro (fun _ => rfl) (And.intro (fun h => absurd h (by decide)) trivial))⟩
  rintro g8 a X4 A e (hS : Below V.heap.size V X4 ∧ (V.heap.size ≤ g7) ∧ X4.heap[g7]? = some (.cells (tpC p l 0) 108) ∧ (X4.ownsRow V.heap.size 3 1 (.slice (some ⟨g8, 0, none⟩) n n) n (intsL n (fun j => if j < 0 then (dA p l bs j : Int) else 0))) ∧ (V.heap.size ≤ g8))
  obtain ⟨BB, Fge7, F7, FO, Fg8⟩ := hS
  have t8 : a.eval (.tmp 8) = .slice (some ⟨g8, 0, none⟩) n n := e _
  replace t1 := kt e t1
  replace t7 := kt e t7
  clear e t0
  refine wp_seq (wp_seq ?_)
  refine wp_se 48 [1] [] (fun _ s X => Below V.heap.size V X ∧ (V.heap.size ≤ g7) ∧ X.heap[g7]? = some (.cells (tpC p l 0) 108) ∧ (X.ownsRow V.heap.size 3 1 (.slice (some ⟨g8, 0, none⟩) n n) n (intsL n (fun j => if j < 0 then (dA p l bs j : Int) else 0))) ∧ (V.heap.size ≤ g8)) (fun s => fun i_ => match i_ with | 1 => .int .i64 ((n : Nat) : Int) | _ => undef) () A ⟨BB, Fge7, F7, FO, Fg8⟩ (And.intro ?_ trivial) ?_
  ·exact fun s a X e hS => stepV rfl rfl (execLenI (len := n) rfl ((e (.tmp 22)).trans t1) ((FI.on hS.1)).shp) ⟨s, ⟨_, rfl, rfl⟩, hS, ar⟩
  rintro _ a X5 A e (hS : Below V.heap.size V X5 ∧ (V.heap.size ≤ g7) ∧ X5.heap[g7]? = some (.cells (tpC p l 0) 108) ∧ (X5.ownsRow V.heap.size 3 1 (.slice (some ⟨g8, 0, none⟩) n n) n (intsL n (fun j => if j < 0 then (dA p l bs j : Int) else 0))) ∧ (V.heap.size ≤ g8))
  obtain ⟨BB, Fge7, F7, FO, Fg8⟩ := hS
  have t22 : a.eval (.tmp 22) = .slice ia n ic := (e _).trans t1
  have t23 : a.eval (.tmp 23) = .int .i64 ((n : Nat) : Int) := e _
  have t24 : a.eval (.tmp 24) = .int .i64 ((0 : Nat) : Int) := e _
  replace t7 := kt e t7
  replace t8 := kt e t8
  clear e t1
  refine wp_block ?_
  refine wp_loop (fun a W => ∃ (i : Nat), i ≤ n ∧ okA p l bs i ∧ (a.tmps.size = 48 ∧ a.defers = []) ∧ a.eval (.tmp 7) = .pointer (some ⟨g7, 0, none⟩) ∧ a.eval (.tmp 8) = .slice (some ⟨g8, 0, none⟩) n n ∧ a.eval (.tmp 22) = .slice ia n ic ∧ a.eval (.tmp 23) = .int .i64 ((n : Nat) : Int) ∧ a.eval (.tmp 24) = .int .i64 ((i : Nat) : Int) ∧ Below V.heap.size V W ∧ W.heap[g7]? = some (.cells (tpC p l (plA p l bs i)) 108) ∧ W.ownsRow V.heap.size 3 1 (.slice (some ⟨g8, 0, none⟩) n n) n (intsL n (fun j => if j < i then (dA p l bs j : Int) else 0))) (fun a _ => n - (intOf (a.eval (.tmp 24))).toNat) ⟨0, Nat.zero_le _, (fun i hi => absurd hi (Nat.not_lt_zero _)), A, t7, t8, t22, t23, t24, BB, F7, FO⟩ ?_
  rintro a XL ⟨i, hi, hok, A, t7, t8, t22, t23, t24, BB, F7, FO⟩
  have e24 := t24
  refine wp_seq ?_
  refine wp_se 48 [0] [] (fun _ s X => Below V.heap.size V X ∧ X.heap[g7]? = some (.cells (tpC p l (plA p l bs i)) 108) ∧ (X.ownsRow V.heap.size 3 1 (.slice (some ⟨g8, 0, none⟩) n n) n (intsL n (fun j => if j < i then (dA p l bs j : Int) else 0))) ∧ (V.heap.size ≤ g7)) (fun s => fun i_ => match i_ with | 0 => .bool (decide (i < n)) | _ => undef) () A ⟨BB, F7, FO, Fge7⟩ (And.intro ?_ trivial) ?_
  ·exact fun s a X e hS => stepV rfl rfl (execLtW (p := i) (q := n) rfl ((e (.tmp 24)).trans t24) ((e (.tmp 23)).trans t23)) ⟨s, ⟨_, rfl, rfl⟩, hS, ar⟩
  rintro _ a X6 A e (hS : Below V.heap.size V X6 ∧ X6.heap[g7]? = some (.cells (tpC p l (plA p l bs i)) 108) ∧ (X6.ownsRow V.heap.size 3 1 (.slice (some ⟨g8, 0, none⟩) n n) n (intsL n (fun j => if j < i then (dA p l bs j : Int) else 0))) ∧ (V.heap.size ≤ g7))
  obtain ⟨BB, F7, FO, Fge7⟩ := hS
  have t25 : a.eval (.tmp 25) = .bool (decide (i < n)) := e _
  replace t7 := kt e t7
  replace t8 := kt e t8
  replace t22 := kt e t22
  replace t23 := kt e t23
  replace t24 := kt e t24
  clear e
  refine wp_seq ?_
  by_cases hlt : i < n
  ·rw [decide_eq_true hlt] at t25
   refine wp_cond_true t25 (wp_skip ?_)
   clear t25
   obtain ⟨ib, io, rfl, hib, hcell⟩ := hsh (by omega)
   have cI : ∀ X, Below V.heap.size V X → X.cell? ⟨ib, io + i, none⟩ = some (.int .i64 (bs i)) := fun X hX => by rw [cell_below hX hib]; exact hcell i hlt
   refine wp_seq (wp_block ?_)
   refine wp_seq ?_
   refine wp_se 48 [1, 2] [] (fun _ s X => Below V.heap.size V X ∧ X.heap[g7]? = some (.cells (tpC p l (plA p l bs i)) 108) ∧ (X.ownsRow V.heap.size 3 1 (.slice (some ⟨g8, 0, none⟩) n n) n (intsL n (fun j => if j < i then (dA p l bs j : Int) else 0))) ∧ (V.heap.size ≤ g7)) (fun s => fun i_ => match i_ with | 1 => .pointer (some ⟨ib, io + i, none⟩) | 2 => .int .i64 (bs i) | _ => undef) () A ⟨BB, F7, FO, Fge7⟩ (And.intro ?_ (And.intro ?_ trivial)) ?_
   ·exact fun s a X e hS => stepV rfl rfl (execIdxN (k := i) rfl ((e (.tmp 22)).trans t22) ((e (.tmp 24)).trans t24) hlt) ⟨s, ⟨_, rfl, rfl⟩, hS, ar⟩
   ·exact fun s a X e hS => stepV rfl rfl (execLd3 rfl (e (.tmp 27)) (cI X hS.1)) ⟨s, ⟨_, rfl, rfl⟩, hS, ar⟩
   rintro _ a X7 A e (hS : Below V.heap.size V X7 ∧ X7.heap[g7]? = some (.cells (tpC p l (plA p l bs i)) 108) ∧ (X7.ownsRow V.heap.size 3 1 (.slice (some ⟨g8, 0, none⟩) n n) n (intsL n (fun j => if j < i then (dA p l bs j : Int) else 0))) ∧ (V.heap.size ≤ g7))
   obtain ⟨BB, F7, FO, Fge7⟩ := hS
   have t9 : a.eval (.tmp 9) = .int .i64 ((i : Nat) : Int) := (e _).trans t24
   have t10 : a.eval (.tmp 10) = .int .i64 (bs i) := e _
   replace t7 := kt e t7
   replace t8 := kt e t8
   replace t22 := kt e t22
   replace t23 := kt e t23
   replace t24 := kt e t24
   clear e
   refine wp_seq ?_
   refine wp_se (σ := Nat) 48 [0, 2, 7, 9] [7, 9] (fun k_ s X => match k_ with | 0 => Below V.heap.size V X ∧ X.heap[g7]? = some (.cells (tpC p l (plA p l bs i)) 108) ∧ (X.ownsRow V.heap.size 3 1 (.slice (some ⟨g8, 0, none⟩) n n) n (intsL n (fun j => if j < i then (dA p l bs j : Int) else 0))) ∧ (V.heap.size ≤ g7) | 1 => Below V.heap.size V X ∧ X.heap[g7]? = some (.cells (tpC p l (plA p l bs i)) 108) ∧ (X.ownsRow V.heap.size 3 1 (.slice (some ⟨g8, 0, none⟩) n n) n (intsL n (fun j => if j < i then (dA p l bs j : Int) else 0))) ∧ (V.heap.size ≤ g7) ∧ X.heap[s]? = some (.cells (tpC (fun _ => 0) 0 0) 108) ∧ (V.heap.size ≤ s) ∧ (g7 ≠ s) | _ => Below V.heap.size V X ∧ X.heap[g7]? = some (.cells (tpC p l (plA p l bs i)) 108) ∧ (X.ownsRow V.heap.size 3 1 (.slice (some ⟨g8, 0, none⟩) n n) n (intsL n (fun j => if j < i then (dA p l bs j : Int) else 0))) ∧ (V.heap.size ≤ g7) ∧ (V.heap.size ≤ s) ∧ (g7 ≠ s) ∧ X.heap[s]? = some (.cells (tpC p (if dE p l (plA p l bs i) (bs i) = 0 then l else 0) (dN p l (plA p l bs i) (bs i))) 108)) (fun s => fun i_ => match i_ with | 0 => .agg (tpC p l (plA p l bs i)) | 2 => .tuple #[.int .i64 ((dV p l (plA p l bs i) (bs i) : Nat) : Int), .agg (tpC p (if dE p l (plA p l bs i) (bs i) = 0 then l else 0) (dN p l (plA p l bs i) (bs i))), .int .i64 ((dE p l (plA p l bs i) (bs i) : Nat) : Int)] | 7 => .pointer (some ⟨s, 0, none⟩) | _ => undef) 0 A ⟨BB, F7, FO, Fge7⟩ (And.intro ?_ (And.intro ?_ (And.intro ?_ (And.intro ?_ trivial)))) ?_
   ·exact fun s a X e hS => stepV rfl rfl (execLdTp rfl ((e (.tmp 7)).trans t7) hS.2.1) ⟨s, ⟨_, rfl, rfl⟩, hS, ar⟩
   ·exact fun s a X e hS => stepC rfl rfl (execCall2 Try.func67 (by kernel_rfl) (by kernel_rfl) rfl (e (.tmp 30)) ((e (.tmp 31)).trans t10)) (pbelow_any p l (plA p l bs i) (bs i) X (plA_le p l bs i) hl hpb) fun e w' hh => ⟨_, hh.1, s, ⟨_, rfl, rfl⟩, ⟨(hS.1).trans ((hh.2).mono (hS.1).size), (on9 hS.2.1 hh.2), (ownD_below hS.2.2.1 hh.2), hS.2.2.2⟩, ar⟩
   ·intro s a X e hS
    refine stepV rfl rfl (execAllTp rfl (fun _ => 0)) ⟨X.heap.size, ⟨_, rfl, rfl⟩, ⟨(hS.1).trans (((belNew X _)).mono (hS.1).size), (on9 hS.2.1 (belNew X _)), (ownD_below hS.2.2.1 (belNew X _)), hS.2.2.2, heapNew X _, (hS.1).size, ne9 hS.2.1⟩, (And.intro (fun _ => rfl) (And.intro (fun _ => rfl) (And.intro (fun h => absurd h (by decide)) (And.intro (fun h => absurd h (by decide)) trivial))))⟩
   ·exact fun s a X e hS => stepS rfl rfl (execStTp rfl (e (.tmp 12)) (e (.tmp 34)) hS.2.2.2.2.1 rfl) ⟨s, ⟨_, rfl, rfl⟩, ⟨below4 hS.1 hS.2.2.2.2.2.1 _, (by rw [setRow_other _ _ _ _ (hS.2.2.2.2.2.2)]; exact hS.2.1), (own_setT hS.2.2.1 hS.2.2.2.2.1 (by decide)), hS.2.2.2.1, hS.2.2.2.2.2.1, hS.2.2.2.2.2.2, setRow_heap _ _ _ _ _ _ hS.2.2.2.2.1⟩, ar⟩
   rintro g12 a X8 A e (hS : Below V.heap.size V X8 ∧ X8.heap[g7]? = some (.cells (tpC p l (plA p l bs i)) 108) ∧ (X8.ownsRow V.heap.size 3 1 (.slice (some ⟨g8, 0, none⟩) n n) n (intsL n (fun j => if j < i then (dA p l bs j : Int) else 0))) ∧ (V.heap.size ≤ g7) ∧ (V.heap.size ≤ g12) ∧ (g7 ≠ g12) ∧ X8.heap[g12]? = some (.cells (tpC p (if dE p l (plA p l bs i) (bs i) = 0 then l else 0) (dN p l (plA p l bs i) (bs i))) 108))
   obtain ⟨BB, F7, FO, Fge7, Fge12, Fn12F7, F12⟩ := hS
   have t11 : a.eval (.tmp 11) = .int .i64 ((dV p l (plA p l bs i) (bs i) : Nat) : Int) := e _
   have t12 : a.eval (.tmp 12) = .pointer (some ⟨g12, 0, none⟩) := e _
   have t13 : a.eval (.tmp 13) = .int .i64 ((dE p l (plA p l bs i) (bs i) : Nat) : Int) := e _
   replace t7 := kt e t7
   replace t8 := kt e t8
   replace t22 := kt e t22
   replace t23 := kt e t23
   replace t24 := kt e t24
   replace t9 := kt e t9
   clear e t10
   refine wp_seq (wp_seq ?_)
   refine wp_se 48 [1] [] (fun _ s X => Below V.heap.size V X ∧ X.heap[g7]? = some (.cells (tpC p l (plA p l bs i)) 108) ∧ (X.ownsRow V.heap.size 3 1 (.slice (some ⟨g8, 0, none⟩) n n) n (intsL n (fun j => if j < i then (dA p l bs j : Int) else 0))) ∧ (V.heap.size ≤ g7) ∧ (V.heap.size ≤ g12) ∧ (g7 ≠ g12) ∧ X.heap[g12]? = some (.cells (tpC p (if dE p l (plA p l bs i) (bs i) = 0 then l else 0) (dN p l (plA p l bs i) (bs i))) 108)) (fun s => fun i_ => match i_ with | 1 => .bool (decide (dE p l (plA p l bs i) (bs i) ≠ 0)) | _ => undef) () A ⟨BB, F7, FO, Fge7, Fge12, Fn12F7, F12⟩ (And.intro ?_ trivial) ?_
   ·exact fun s a X e hS => stepV rfl rfl (execNeE (p := dE p l (plA p l bs i) (bs i)) (q := 0) rfl ((e (.tmp 36)).trans t13) rfl) ⟨s, ⟨_, rfl, rfl⟩, hS, ar⟩
   rintro _ a X9 A e (hS : Below V.heap.size V X9 ∧ X9.heap[g7]? = some (.cells (tpC p l (plA p l bs i)) 108) ∧ (X9.ownsRow V.heap.size 3 1 (.slice (some ⟨g8, 0, none⟩) n n) n (intsL n (fun j => if j < i then (dA p l bs j : Int) else 0))) ∧ (V.heap.size ≤ g7) ∧ (V.heap.size ≤ g12) ∧ (g7 ≠ g12) ∧ X9.heap[g12]? = some (.cells (tpC p (if dE p l (plA p l bs i) (bs i) = 0 then l else 0) (dN p l (plA p l bs i) (bs i))) 108))
   obtain ⟨BB, F7, FO, Fge7, Fge12, Fn12F7, F12⟩ := hS
   have t37 : a.eval (.tmp 37) = .bool (decide (dE p l (plA p l bs i) (bs i) ≠ 0)) := e _
   replace t7 := kt e t7
   replace t8 := kt e t8
   replace t22 := kt e t22
   replace t23 := kt e t23
   replace t24 := kt e t24
   replace t9 := kt e t9
   replace t11 := kt e t11
   replace t12 := kt e t12
   replace t13 := kt e t13
   clear e
   by_cases hE0 : dE p l (plA p l bs i) (bs i) = 0
   ·rw [decide_eq_false (by omega)] at t37
    refine wp_cond_false t37 (wp_skip ?_)
    clear t37 t13
    rw [if_pos hE0] at F12
    have Fn7F12 := Fn12F7.symm
    refine wp_region_stB (σ := Unit) 48 [(0, 39), (1, 40), (2, 41), (3, 42), (4, 43)] (fun l_ s X => Below V.heap.size V X ∧ (l_ 6 = false → X.heap[g7]? = some (.cells (tpC p l (plA p l bs i)) 108)) ∧ (l_ 5 = false → (X.ownsRow V.heap.size 3 1 (.slice (some ⟨g8, 0, none⟩) n n) n (intsL n (fun j => if j < i then (dA p l bs j : Int) else 0)))) ∧ ((V.heap.size ≤ g7)) ∧ ((V.heap.size ≤ g12)) ∧ ((g7 ≠ g12)) ∧ (X.heap[g12]? = some (.cells (tpC p l (dN p l (plA p l bs i) (bs i))) 108)) ∧ ((g12 ≠ g7)) ∧ (l_ 5 = true → (X.ownsRow V.heap.size 3 1 (.slice (some ⟨g8, 0, none⟩) n n) n (intsL n (fun j => if j < (i + 1) then (dA p l bs j : Int) else 0)))) ∧ (l_ 6 = true → X.heap[g7]? = some (.cells (tpC p l (dN p l (plA p l bs i) (bs i))) 108))) (fun s => fun i_ => match i_ with | 0 => .slice (some ⟨g8, 0, none⟩) n n | 1 => .int .i64 ((i : Nat) : Int) | 2 => .int .i64 ((dV p l (plA p l bs i) (bs i) : Nat) : Int) | 3 => .agg (tpC p l (dN p l (plA p l bs i) (bs i))) | 4 => .pointer (some ⟨g8, 0 + i, none⟩) | 5 => undef | 6 => undef | _ => undef) () (by kernel_rfl) (by kernel_rfl) A.1 (by kernel_rfl) (by decide) (by decide) ⟨(BB.drew), (fun _ => (on9 F7 (Below.refl _ _).drew)), (fun _ => (ownD_below FO (Below.refl _ _).drew)), (Fge7), (Fge12), (Fn12F7), ((on9 F12 (Below.refl _ _).drew)), (Fn7F12), (fun q0_ => by cases q0_), (fun q0_ => by cases q0_)⟩ ?_ ?_
    ·intro i_ hi_ l_ s a X hl_ hf hdep hl2 hcl hno hT
     have up : ∀ j x, x ≠ j → updB l_ j x = l_ x := fun j x hj => by unfold updB; simp [hj]
     match i_, hi_ with
     | 0, _ => exact stepV rfl rfl (execMvB rfl ((hf 8 (by decide)).trans t8)) ⟨s, ⟨_, rfl, rfl⟩, ⟨hT.1, (fun q0_ => (hT.2.1 (by rw [up 0 6 (by decide)] at q0_; exact q0_))), (fun q0_ => (hT.2.2.1 (by rw [up 0 5 (by decide)] at q0_; exact q0_))), (hT.2.2.2.1), (hT.2.2.2.2.1), (hT.2.2.2.2.2.1), (hT.2.2.2.2.2.2.1), (hT.2.2.2.2.2.2.2.1), (fun q0_ => absurd (hl_.symm.trans (hcl 5 _ rfl ((up 0 5 (by decide)).symm.trans q0_) 0 rfl)) (by decide)), (fun q0_ => absurd (hl_.symm.trans (hcl 6 _ rfl ((up 0 6 (by decide)).symm.trans q0_) 0 rfl)) (by decide))⟩, fun _ _ _ => rfl⟩
     | 1, _ => exact stepV rfl rfl (execMvB rfl ((hf 9 (by decide)).trans t9)) ⟨s, ⟨_, rfl, rfl⟩, ⟨hT.1, (fun q0_ => (hT.2.1 (by rw [up 1 6 (by decide)] at q0_; exact q0_))), (fun q0_ => (hT.2.2.1 (by rw [up 1 5 (by decide)] at q0_; exact q0_))), (hT.2.2.2.1), (hT.2.2.2.2.1), (hT.2.2.2.2.2.1), (hT.2.2.2.2.2.2.1), (hT.2.2.2.2.2.2.2.1), (fun q0_ => absurd (hl_.symm.trans (hcl 5 _ rfl ((up 1 5 (by decide)).symm.trans q0_) 1 rfl)) (by decide)), (fun q0_ => absurd (hl_.symm.trans (hcl 6 _ rfl ((up 1 6 (by decide)).symm.trans q0_) 1 rfl)) (by decide))⟩, fun _ _ _ => rfl⟩
     | 2, _ => exact stepV rfl rfl (execMvB rfl ((hf 11 (by decide)).trans t11)) ⟨s, ⟨_, rfl, rfl⟩, ⟨hT.1, (fun q0_ => (hT.2.1 (by rw [up 2 6 (by decide)] at q0_; exact q0_))), (fun q0_ => (hT.2.2.1 (by rw [up 2 5 (by decide)] at q0_; exact q0_))), (hT.2.2.2.1), (hT.2.2.2.2.1), (hT.2.2.2.2.2.1), (hT.2.2.2.2.2.2.1), (hT.2.2.2.2.2.2.2.1), (fun q0_ => absurd (hl_.symm.trans (hcl 5 _ rfl ((up 2 5 (by decide)).symm.trans q0_) 2 rfl)) (by decide)), (fun q0_ => absurd (hl_.symm.trans (hcl 6 _ rfl ((up 2 6 (by decide)).symm.trans q0_) 2 rfl)) (by decide))⟩, fun _ _ _ => rfl⟩
     | 3, _ => exact stepV rfl rfl (execLdTp rfl ((hf 12 (by decide)).trans t12) hT.2.2.2.2.2.2.1) ⟨s, ⟨_, rfl, rfl⟩, ⟨hT.1, (fun q0_ => (hT.2.1 (by rw [up 3 6 (by decide)] at q0_; exact q0_))), (fun q0_ => (hT.2.2.1 (by rw [up 3 5 (by decide)] at q0_; exact q0_))), (hT.2.2.2.1), (hT.2.2.2.2.1), (hT.2.2.2.2.2.1), (hT.2.2.2.2.2.2.1), (hT.2.2.2.2.2.2.2.1), (fun q0_ => (hT.2.2.2.2.2.2.2.2.1 (by rw [up 3 5 (by decide)] at q0_; exact q0_))), (fun q0_ => absurd (hl_.symm.trans (hcl 6 _ rfl ((up 3 6 (by decide)).symm.trans q0_) 3 rfl)) (by decide))⟩, fun _ _ _ => rfl⟩
     | 4, _ => exact stepV rfl rfl (execIdxN (k := i) rfl (hdep _ rfl 0 rfl _ rfl _ rfl) (hdep _ rfl 1 rfl _ rfl _ rfl) hlt) ⟨s, ⟨_, rfl, rfl⟩, ⟨hT.1, (fun q0_ => (hT.2.1 (by rw [up 4 6 (by decide)] at q0_; exact q0_))), (fun q0_ => (hT.2.2.1 (by rw [up 4 5 (by decide)] at q0_; exact q0_))), (hT.2.2.2.1), (hT.2.2.2.2.1), (hT.2.2.2.2.2.1), (hT.2.2.2.2.2.2.1), (hT.2.2.2.2.2.2.2.1), (fun q0_ => absurd (hl_.symm.trans (hcl 5 _ rfl ((up 4 5 (by decide)).symm.trans q0_) 4 rfl)) (by decide)), (fun q0_ => absurd (hl_.symm.trans (hcl 6 _ rfl ((up 4 6 (by decide)).symm.trans q0_) 4 rfl)) (by decide))⟩, fun _ _ _ => rfl⟩
     | 5, _ =>
      obtain ⟨hc_, hf_⟩ := own_cellI (hT.2.2.1 hl_) hlt
      refine stepS rfl rfl (execStI9 rfl (hdep _ rfl 4 rfl _ rfl _ rfl) (hdep _ rfl 2 rfl _ rfl _ rfl) hc_ hf_) ⟨s, ⟨_, rfl, rfl⟩, ⟨(hT.1).setCell Fg8 _, (fun q0_ => (off_own (hT.2.2.1 hl_) (hT.2.1 (by rw [up 5 6 (by decide)] at q0_; exact q0_)) (by decide))), (fun q0_ => absurd q0_ (by unfold updB; simp)), (hT.2.2.2.1), (hT.2.2.2.2.1), (hT.2.2.2.2.2.1), ((off_own (hT.2.2.1 hl_) hT.2.2.2.2.2.2.1 (by decide))), (hT.2.2.2.2.2.2.2.1), (fun _q0_ => own_setI (hT.2.2.1 hl_)), (fun q0_ => absurd (hl_.symm.trans (hcl 6 _ rfl ((up 5 6 (by decide)).symm.trans q0_) 5 rfl)) (by decide))⟩, fun i hi hli => ?_⟩
      match i, hi with
      | 0, _ => rfl
      | 1, _ => rfl
      | 2, _ => rfl
      | 3, _ => rfl
      | 4, _ => rfl
      | 5, _ => exact absurd (hl_.symm.trans hli) (by decide)
      | 6, _ => rfl
      | k_ + 7, h_ => exact absurd h_ (by simp)
     | 6, _ => exact stepS rfl rfl (execStTp rfl ((hf 7 (by decide)).trans t7) (hdep _ rfl 3 rfl _ rfl _ rfl) (hT.2.1 hl_) rfl) ⟨s, ⟨_, rfl, rfl⟩, ⟨below4 hT.1 hT.2.2.2.1 _, (fun q0_ => absurd q0_ (by unfold updB; simp)), (fun q0_ => absurd (q0_.symm.trans ((up 6 5 (by decide)).trans (hl2 _ rfl 5 rfl))) (by decide)), (hT.2.2.2.1), (hT.2.2.2.2.1), (hT.2.2.2.2.2.1), ((by rw [setRow_other _ _ _ _ (hT.2.2.2.2.2.2.2.1)]; exact hT.2.2.2.2.2.2.1)), (hT.2.2.2.2.2.2.2.1), (fun q0_ => (own_setT (hT.2.2.2.2.2.2.2.2.1 (by rw [up 6 5 (by decide)] at q0_; exact q0_)) (hT.2.1 hl_) (by decide))), (fun _q0_ => setRow_heap _ _ _ _ _ _ (hT.2.1 hl_))⟩, fun _ _ _ => rfl⟩
     | k_ + 7, h_ => exact absurd h_ (by simp)
    rintro l_ _ a X11 h1 h2 h3 h4 hall hT
    clear BB
    clear F7
    clear FO
    clear Fge7
    clear Fge12
    clear Fn12F7
    clear F12
    clear Fn7F12
    obtain ⟨BB, F7, FO, Fge7, Fge12, Fn12F7, F12, Fn7F12, FO2, F7s⟩ := hT
    clear F7
    clear FO
    replace Fge7 : (V.heap.size ≤ g7) := Fge7
    replace Fge12 : (V.heap.size ≤ g12) := Fge12
    replace Fn12F7 : (g7 ≠ g12) := Fn12F7
    replace F12 : X11.heap[g12]? = some (.cells (tpC p l (dN p l (plA p l bs i) (bs i))) 108) := F12
    replace Fn7F12 : (g12 ≠ g7) := Fn7F12
    replace FO2 : (X11.ownsRow V.heap.size 3 1 (.slice (some ⟨g8, 0, none⟩) n n) n (intsL n (fun j => if j < (i + 1) then (dA p l bs j : Int) else 0))) := FO2 (hall 5 (by decide))
    replace F7s : X11.heap[g7]? = some (.cells (tpC p l (dN p l (plA p l bs i) (bs i))) 108) := F7s (hall 6 (by decide))
    clear hall
    replace t7 := (h3 7 (by decide)).trans t7
    replace t8 := (h3 8 (by decide)).trans t8
    replace t22 := (h3 22 (by decide)).trans t22
    replace t23 := (h3 23 (by decide)).trans t23
    replace t24 := (h3 24 (by decide)).trans t24
    replace A := (⟨h1, h2.trans A.2⟩ : a.tmps.size = 48 ∧ a.defers = [])
    clear h1 h2 h3 h4
    clear t9 t11 t12
    refine wp_se 48 [0] [] (fun _ s X => Below V.heap.size V X ∧ (V.heap.size ≤ g7) ∧ (V.heap.size ≤ g12) ∧ (g7 ≠ g12) ∧ X.heap[g12]? = some (.cells (tpC p l (dN p l (plA p l bs i) (bs i))) 108) ∧ (g12 ≠ g7) ∧ (X.ownsRow V.heap.size 3 1 (.slice (some ⟨g8, 0, none⟩) n n) n (intsL n (fun j => if j < (i + 1) then (dA p l bs j : Int) else 0))) ∧ X.heap[g7]? = some (.cells (tpC p l (dN p l (plA p l bs i) (bs i))) 108)) (fun s => fun i_ => match i_ with | 0 => .int .i64 ((i + 1 : Nat) : Int) | _ => undef) () A ⟨BB, Fge7, Fge12, Fn12F7, F12, Fn7F12, FO2, F7s⟩ (And.intro ?_ trivial) ?_
    ·exact fun s a X e hS => stepV rfl rfl (execAd8 (p := i) (q := 1) rfl ((e (.tmp 24)).trans t24) rfl (by clear hS; omega)) ⟨s, ⟨_, rfl, rfl⟩, hS, ar⟩
    rintro _ a X12 A e (hS : Below V.heap.size V X12 ∧ (V.heap.size ≤ g7) ∧ (V.heap.size ≤ g12) ∧ (g7 ≠ g12) ∧ X12.heap[g12]? = some (.cells (tpC p l (dN p l (plA p l bs i) (bs i))) 108) ∧ (g12 ≠ g7) ∧ (X12.ownsRow V.heap.size 3 1 (.slice (some ⟨g8, 0, none⟩) n n) n (intsL n (fun j => if j < (i + 1) then (dA p l bs j : Int) else 0))) ∧ X12.heap[g7]? = some (.cells (tpC p l (dN p l (plA p l bs i) (bs i))) 108))
    obtain ⟨BB, Fge7, Fge12, Fn12F7, F12, Fn7F12, FO2, F7s⟩ := hS
    replace t24 : a.eval (.tmp 24) = .int .i64 ((i + 1 : Nat) : Int) := e _
    replace t7 := kt e t7
    replace t8 := kt e t8
    replace t22 := kt e t22
    replace t23 := kt e t23
    clear e
    exact ⟨⟨i + 1, hlt, okA_succ hok hE0, A, t7, t8, t22, t23, t24, BB, F7s, FO2⟩, by show n - (intOf (a.eval (.tmp 24))).toNat < n - (intOf (Act.eval _ (.tmp 24))).toNat; rw [t24, e24]; show n - (i + 1) < n - i; omega⟩
   ·rw [decide_eq_true hE0] at t37
    refine wp_cond_true t37 ?_
    refine wp_seq ?_
    refine wp_se 48 [] [] (fun _ s X => Below V.heap.size V X ∧ X.heap[g7]? = some (.cells (tpC p l (plA p l bs i)) 108) ∧ (X.ownsRow V.heap.size 3 1 (.slice (some ⟨g8, 0, none⟩) n n) n (intsL n (fun j => if j < i then (dA p l bs j : Int) else 0))) ∧ (V.heap.size ≤ g7) ∧ (V.heap.size ≤ g12) ∧ (g7 ≠ g12) ∧ X.heap[g12]? = some (.cells (tpC p (if dE p l (plA p l bs i) (bs i) = 0 then l else 0) (dN p l (plA p l bs i) (bs i))) 108)) (fun s => fun _ => undef) () A ⟨BB, F7, FO, Fge7, Fge12, Fn12F7, F12⟩ trivial ?_
    rintro _ a X10 A e (hS : Below V.heap.size V X10 ∧ X10.heap[g7]? = some (.cells (tpC p l (plA p l bs i)) 108) ∧ (X10.ownsRow V.heap.size 3 1 (.slice (some ⟨g8, 0, none⟩) n n) n (intsL n (fun j => if j < i then (dA p l bs j : Int) else 0))) ∧ (V.heap.size ≤ g7) ∧ (V.heap.size ≤ g12) ∧ (g7 ≠ g12) ∧ X10.heap[g12]? = some (.cells (tpC p (if dE p l (plA p l bs i) (bs i) = 0 then l else 0) (dN p l (plA p l bs i) (bs i))) 108))
    obtain ⟨BB, F7, FO, Fge7, Fge12, Fn12F7, F12⟩ := hS
    have t4 : a.eval (.tmp 4) = .slice none 0 0 := e _
    have t5 : a.eval (.tmp 5) = .int .i64 ((0 : Nat) : Int) := e _
    have t6 : a.eval (.tmp 6) = .int .i64 ((dE p l (plA p l bs i) (bs i) : Nat) : Int) := (e _).trans t13
    clear e t7 t8 t22 t23 t24 t9 t11 t12 t13
    have hE3 : dE p l (plA p l bs i) (bs i) = 3 := (dE_good (hno i hlt)).resolve_left hE0
    rw [hE3] at t6
    have hE : allE p l bs n = 3 := by unfold allE; rw [if_neg hw, if_neg (fun q => hE0 (okB_iff.1 q i hlt))]
    have hN : allN p l bs n = 0 := by unfold allN; rw [if_neg (by rw [hE]; decide)]
    have hK : allK p l bs n = 0 := by unfold allK; rw [if_neg (by rw [hE]; decide)]
    rw [hE, hN, hK]
    refine wp_ret ?_
    repeat (first | with_reducible refine ret_in ?_ | with_reducible refine ret_then ?_)
    refine bodyPost_ret (results_tmp3 rfl _ _ _) A.2 ⟨_, ?_, World.ownsRow_nil _ _ _ _, BB⟩
    show Ending.returned (.tuple #[a.eval (.tmp 4), a.eval (.tmp 5), a.eval (.tmp 6)]) = _
    rw [t4, t5, t6]
  ·rw [decide_eq_false hlt] at t25
   refine wp_cond_false t25 ?_
   refine wp_exit ?_
   first | with_reducible refine exit_in ?_ | with_reducible refine exit_then (exit_in ?_) | with_reducible refine exit_then (exit_then (exit_in ?_)) | refine exit_in ?_ | refine exit_then (exit_in ?_) | refine exit_then (exit_then (exit_in ?_))
   clear t25
   have hin : i = n := by omega
   rw [hin] at hok F7
   rw [intsL_congr (g := fun i => (dA p l bs i : Int)) (fun j hj => if_pos (by omega))] at FO
   refine wp_seq ?_
   refine wp_se 48 [1, 2] [] (fun _ s X => Below V.heap.size V X ∧ X.heap[g7]? = some (.cells (tpC p l (plA p l bs n)) 108) ∧ (X.ownsRow V.heap.size 3 1 (.slice (some ⟨g8, 0, none⟩) n n) n (intsL n (fun i => (dA p l bs i : Int)))) ∧ (V.heap.size ≤ g7)) (fun s => fun i_ => match i_ with | 1 => .agg (tpC p l (plA p l bs n)) | 2 => .int .i64 (((plA p l bs n) : Nat) : Int) | _ => undef) () A ⟨BB, F7, FO, Fge7⟩ (And.intro ?_ (And.intro ?_ trivial)) ?_
   ·exact fun s a X e hS => stepV rfl rfl (execLdTp rfl ((e (.tmp 7)).trans t7) hS.2.1) ⟨s, ⟨_, rfl, rfl⟩, hS, ar⟩
   ·exact fun s a X e hS => stepC rfl rfl (execCall1 Try.func68 (by kernel_rfl) (by kernel_rfl) rfl (e (.tmp 46))) (used_any p l (plA p l bs n) X) fun e w' hh => ⟨_, hh.1, s, ⟨_, rfl, rfl⟩, ⟨(hS.1).trans ((hh.2).mono (hS.1).size), (on9 hS.2.1 hh.2), (ownD_below hS.2.2.1 hh.2), hS.2.2.2⟩, ar⟩
   rintro _ a X13 A e (hS : Below V.heap.size V X13 ∧ X13.heap[g7]? = some (.cells (tpC p l (plA p l bs n)) 108) ∧ (X13.ownsRow V.heap.size 3 1 (.slice (some ⟨g8, 0, none⟩) n n) n (intsL n (fun i => (dA p l bs i : Int)))) ∧ (V.heap.size ≤ g7))
   obtain ⟨BB, F7, FO, Fge7⟩ := hS
   have t4 : a.eval (.tmp 4) = .slice (some ⟨g8, 0, none⟩) n n := (e _).trans t8
   have t5 : a.eval (.tmp 5) = .int .i64 (((plA p l bs n) : Nat) : Int) := e _
   have t6 : a.eval (.tmp 6) = .int .i64 ((0 : Nat) : Int) := e _
   clear e t7 t8 t22 t23 t24
   have hE : allE p l bs n = 0 := by unfold allE; rw [if_neg hw, if_pos (okB_iff.2 hok)]
   have hN : allN p l bs n = n := by unfold allN; rw [if_pos hE]
   have hK : allK p l bs n = plA p l bs n := by unfold allK; rw [if_pos hE]
   rw [hE, hN, hK]
   refine wp_ret ?_
   refine bodyPost_ret (results_tmp3 rfl _ _ _) A.2 ⟨_, ?_, FO, BB⟩
   show Ending.returned (.tuple #[a.eval (.tmp 4), a.eval (.tmp 5), a.eval (.tmp 6)]) = _
   rw [t4, t5, t6]
end Go.Proofs.Ytmjpneaccjlpkaa.Drw
