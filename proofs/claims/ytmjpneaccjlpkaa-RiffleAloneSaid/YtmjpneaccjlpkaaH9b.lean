import Derived.Test.YtmjpneaccjlpkaaF9a
import Derived.Test.YtmjpneaccjlpkaaH9a
namespace Go.Proofs.Ytmjpneaccjlpkaa.Drw
open Go.RowKit Gf8 Aes By8 Cel Cf Tap
/- The program's Below. Written by tools/mkH9a.py. -/
set_option maxRecDepth 100000 in
set_option maxHeartbeats 4000000 in
theorem below_bad (p : Nat → Nat) (l at' : Nat) (b : Int) (hbd : bad b) (V : World) :
  Calls Try.prog 67 #[.agg (tpC p l at'), .int .i64 b] V fun e w' => e = .returned (.tuple #[.int .i64 ((dV p l at' b : Nat) : Int), .agg (tpC p (if dE p l at' b = 0 then l else 0) (dN p l at' b)), .int .i64 ((dE p l at' b : Nat) : Int)]) ∧ Below V.heap.size V w' := by
 have hE : dE p l at' b = 2 := if_pos hbd
 have hV : dV p l at' b = 0 := by unfold dV; rw [if_neg (fun q => by rw [hE] at q; omega)]
 have hN : dN p l at' b = 0 := by unfold dN; rw [if_neg (by rw [hE]; decide)]
 rw [hE, hV, hN]
 rw [if_neg (by decide)]
 obtain ⟨V1, hV1⟩ : ∃ V1, V1 = V.alloc (.cells (tpC p l at') 108) := ⟨_, rfl⟩
 obtain ⟨V2, hV2⟩ : ∃ V2, V2 = V1.alloc (.cells (tpC p 0 0) 108) := ⟨_, rfl⟩
 have F2 : V1.heap[V.heap.size]? = some (.cells (tpC p l at') 108) := by rw [hV1]; exact heapNew V _
 have b1 : Below V.heap.size V V1 := by rw [hV1]; exact belNew V _
 have F5 : V2.heap[V1.heap.size]? = some (.cells (tpC p 0 0) 108) := by rw [hV2]; exact heapNew V1 _
 have b2 : Below V1.heap.size V1 V2 := by rw [hV2]; exact belNew V1 _
 have F2 := on9 F2 b2
 have BB : Below V.heap.size V V2 := b1.trans (b2.mono b1.size)
 have Fn5F2 : V.heap.size ≠ V1.heap.size := by rw [hV1]; simp
 have Fn2F5 : V1.heap.size ≠ V.heap.size := Fn5F2.symm
 have Fge2 : V.heap.size ≤ V.heap.size := Nat.le_refl _
 have Fge5 : V.heap.size ≤ V1.heap.size := b1.size
 go_enter Try.func67, Try.ntmps67
 refine wp_seq ?_
 refine wp_region_sqW 49 [(0, 2), (1, 4), (2, 5), (3, 6)] (fun i_ => match i_ with | 0 => .pointer (some ⟨V.heap.size, 0, none⟩) | 1 => .int .i64 0 | 2 => .pointer (some ⟨V1.heap.size, 0, none⟩) | 3 => .int .i64 0 | _ => undef) (fun i_ => match i_ with | 0 => V | 1 => V1 | 2 => V1 | _ => V2) rfl (by kernel_rfl) (by decide) (by decide) ?_ ?_
 ·intro i_ hi_ a hf hv hn
  match i_, hi_ with
  | 0, _ => exact stepV rfl rfl (by rw [hV1]; exact execBoxTp rfl ((hf 0 (by decide)).trans rfl)) ⟨⟨_, rfl, rfl⟩, rfl⟩
  | 1, _ => exact stepV rfl rfl (execAsgB rfl rfl) ⟨⟨_, rfl, rfl⟩, rfl⟩
  | 2, _ => exact stepV rfl rfl (by rw [hV2]; exact execAllTp rfl p) ⟨⟨_, rfl, rfl⟩, rfl⟩
  | 3, _ => exact stepV rfl rfl (execAsgB rfl rfl) ⟨⟨_, rfl, rfl⟩, rfl⟩
  | k_ + 4, h_ => exact absurd h_ (by simp)
 intro a h1 h2 h3 h4
 have t1 : a.eval (.tmp 1) = .int .i64 b := (h3 1 (by decide)).trans rfl
 have t2 : a.eval (.tmp 2) = .pointer (some ⟨V.heap.size, 0, none⟩) := h4 0 _ rfl _ rfl
 have t5 : a.eval (.tmp 5) = .pointer (some ⟨V1.heap.size, 0, none⟩) := h4 2 _ rfl _ rfl
 have A : a.tmps.size = 49 ∧ a.defers = [] := ⟨h1, h2⟩
 clear h1 h2 h3 h4 b1 b2 hV1 hV2
 obtain ⟨g2, hg2⟩ : ∃ g2, g2 = V.heap.size := ⟨_, rfl⟩
 obtain ⟨g5, hg5⟩ : ∃ g5, g5 = V1.heap.size := ⟨_, rfl⟩
 rw [← hg5] at F5 Fn5F2 Fn2F5 Fge5 t5
 clear hg5
 have k2 : V.heap.size ≤ g2 := by omega
 rw [← hg2] at F2 Fn5F2 Fn2F5 t2
 clear hg2 Fge2
 have Fge2 := k2
 clear k2
 refine wp_seq (wp_seq ?_)
 refine wp_se 49 [1, 2] [] (fun _ s X => Below V.heap.size V X ∧ X.heap[g2]? = some (.cells (tpC p l at') 108) ∧ X.heap[g5]? = some (.cells (tpC p 0 0) 108) ∧ (g2 ≠ g5) ∧ (g5 ≠ g2) ∧ (V.heap.size ≤ g2) ∧ (V.heap.size ≤ g5)) (fun s => fun i_ => match i_ with | 1 => .bool false | 2 => .bool true | _ => undef) () A ⟨BB, F2, F5, Fn5F2, Fn2F5, Fge2, Fge5⟩ (And.intro ?_ (And.intro ?_ trivial)) ?_
 ·exact fun s a X e hS => stepC rfl rfl (execCall1 Try.func84 (by kernel_rfl) (by kernel_rfl) rfl ((e (.tmp 10)).trans t1)) (isBound_no b X hbd) fun e w' hh => ⟨_, hh.1, s, ⟨_, rfl, rfl⟩, ⟨(hS.1).trans ((hh.2).mono (hS.1).size), (on9 hS.2.1 hh.2), (on9 hS.2.2.1 hh.2), hS.2.2.2.1, hS.2.2.2.2.1, hS.2.2.2.2.2.1, hS.2.2.2.2.2.2⟩, ar⟩
 ·exact fun s a X e hS => stepV rfl rfl (execNot8 rfl (e (.tmp 11))) ⟨s, ⟨_, rfl, rfl⟩, hS, ar⟩
 rintro _ a X1 A e (hS : Below V.heap.size V X1 ∧ X1.heap[g2]? = some (.cells (tpC p l at') 108) ∧ X1.heap[g5]? = some (.cells (tpC p 0 0) 108) ∧ (g2 ≠ g5) ∧ (g5 ≠ g2) ∧ (V.heap.size ≤ g2) ∧ (V.heap.size ≤ g5))
 obtain ⟨BB, F2, F5, Fn5F2, Fn2F5, Fge2, Fge5⟩ := hS
 have t12 : a.eval (.tmp 12) = .bool true := e _
 replace t1 := kt e t1
 replace t2 := kt e t2
 replace t5 := kt e t5
 clear e
 refine wp_cond_true t12 ?_
 refine wp_seq ?_
 refine wp_se 49 [0, 2] [2] (fun k_ s X => match k_ with | 0 => Below V.heap.size V X ∧ X.heap[g2]? = some (.cells (tpC p l at') 108) ∧ X.heap[g5]? = some (.cells (tpC p 0 0) 108) ∧ (g2 ≠ g5) ∧ (g5 ≠ g2) ∧ (V.heap.size ≤ g2) ∧ (V.heap.size ≤ g5) | _ => Below V.heap.size V X ∧ X.heap[g2]? = some (.cells (tpC p l at') 108) ∧ (g2 ≠ g5) ∧ (g5 ≠ g2) ∧ (V.heap.size ≤ g2) ∧ (V.heap.size ≤ g5) ∧ X.heap[g5]? = some (.cells (tpC p 0 0) 108)) (fun s => fun i_ => match i_ with | 0 => .agg (tpC p 0 0) | _ => undef) () A ⟨BB, F2, F5, Fn5F2, Fn2F5, Fge2, Fge5⟩ (And.intro ?_ (And.intro ?_ trivial)) ?_
 ·exact fun s a X e hS => stepV rfl rfl (execBldTp rfl p) ⟨s, ⟨_, rfl, rfl⟩, hS, ar⟩
 ·exact fun s a X e hS => stepS rfl rfl (execStTp rfl ((e (.tmp 5)).trans t5) (e (.tmp 13)) hS.2.2.1 rfl) ⟨s, ⟨_, rfl, rfl⟩, ⟨below4 hS.1 hS.2.2.2.2.2.2 _, (by rw [setRow_other _ _ _ _ (hS.2.2.2.1)]; exact hS.2.1), hS.2.2.2.1, hS.2.2.2.2.1, hS.2.2.2.2.2.1, hS.2.2.2.2.2.2, setRow_heap _ _ _ _ _ _ hS.2.2.1⟩, ar⟩
 rintro _ a X2 A e (hS : Below V.heap.size V X2 ∧ X2.heap[g2]? = some (.cells (tpC p l at') 108) ∧ (g2 ≠ g5) ∧ (g5 ≠ g2) ∧ (V.heap.size ≤ g2) ∧ (V.heap.size ≤ g5) ∧ X2.heap[g5]? = some (.cells (tpC p 0 0) 108))
 obtain ⟨BB, F2, Fn5F2, Fn2F5, Fge2, Fge5, F5⟩ := hS
 have t4 : a.eval (.tmp 4) = .int .i64 ((0 : Nat) : Int) := e _
 have t6 : a.eval (.tmp 6) = .int .i64 ((2 : Nat) : Int) := e _
 replace t5 := kt e t5
 clear e t1 t2
 refine wp_ret ?_
 repeat (first | with_reducible refine ret_in ?_ | with_reducible refine ret_then ?_)
 refine bodyPost_ret (results_tct9 (cs := tpC p 0 0) rfl _ _ g5 108 (0, 0) _ t5 F5 Try.underlying108 rfl (size_tp _ _ _)) A.2 ⟨?_, BB⟩
 show Ending.returned (.tuple #[a.eval (.tmp 4), .agg (tpC p 0 0), a.eval (.tmp 6)]) = _
 rw [t4, t6]
set_option maxRecDepth 100000 in
set_option maxHeartbeats 4000000 in
theorem below_one (p : Nat → Nat) (l at' : Nat)  (V : World) :
  Calls Try.prog 67 #[.agg (tpC p l at'), .int .i64 1] V fun e w' => e = .returned (.tuple #[.int .i64 ((dV p l at' 1 : Nat) : Int), .agg (tpC p (if dE p l at' 1 = 0 then l else 0) (dN p l at' 1)), .int .i64 ((dE p l at' 1 : Nat) : Int)]) ∧ Below V.heap.size V w' := by
 have hbd : ¬ bad 1 := by unfold bad; omega
 have hE : dE p l at' 1 = 0 := by unfold dE; rw [if_neg (by omega), if_pos rfl]
 have hV : dV p l at' 1 = 0 := by unfold dV; rw [if_neg (fun q => q.2 rfl)]
 have hN : dN p l at' 1 = at' := by unfold dN; rw [if_pos hE, if_pos rfl]
 rw [hE, hV, hN, if_pos rfl]
 obtain ⟨V1, hV1⟩ : ∃ V1, V1 = V.alloc (.cells (tpC p l at') 108) := ⟨_, rfl⟩
 obtain ⟨V2, hV2⟩ : ∃ V2, V2 = V1.alloc (.cells (tpC p 0 0) 108) := ⟨_, rfl⟩
 have F2 : V1.heap[V.heap.size]? = some (.cells (tpC p l at') 108) := by rw [hV1]; exact heapNew V _
 have b1 : Below V.heap.size V V1 := by rw [hV1]; exact belNew V _
 have F5 : V2.heap[V1.heap.size]? = some (.cells (tpC p 0 0) 108) := by rw [hV2]; exact heapNew V1 _
 have b2 : Below V1.heap.size V1 V2 := by rw [hV2]; exact belNew V1 _
 have F2 := on9 F2 b2
 have BB : Below V.heap.size V V2 := b1.trans (b2.mono b1.size)
 have Fn5F2 : V.heap.size ≠ V1.heap.size := by rw [hV1]; simp
 have Fn2F5 : V1.heap.size ≠ V.heap.size := Fn5F2.symm
 have Fge2 : V.heap.size ≤ V.heap.size := Nat.le_refl _
 have Fge5 : V.heap.size ≤ V1.heap.size := b1.size
 go_enter Try.func67, Try.ntmps67
 refine wp_seq ?_
 refine wp_region_sqW 49 [(0, 2), (1, 4), (2, 5), (3, 6)] (fun i_ => match i_ with | 0 => .pointer (some ⟨V.heap.size, 0, none⟩) | 1 => .int .i64 0 | 2 => .pointer (some ⟨V1.heap.size, 0, none⟩) | 3 => .int .i64 0 | _ => undef) (fun i_ => match i_ with | 0 => V | 1 => V1 | 2 => V1 | _ => V2) rfl (by kernel_rfl) (by decide) (by decide) ?_ ?_
 ·intro i_ hi_ a hf hv hn
  match i_, hi_ with
  | 0, _ => exact stepV rfl rfl (by rw [hV1]; exact execBoxTp rfl ((hf 0 (by decide)).trans rfl)) ⟨⟨_, rfl, rfl⟩, rfl⟩
  | 1, _ => exact stepV rfl rfl (execAsgB rfl rfl) ⟨⟨_, rfl, rfl⟩, rfl⟩
  | 2, _ => exact stepV rfl rfl (by rw [hV2]; exact execAllTp rfl p) ⟨⟨_, rfl, rfl⟩, rfl⟩
  | 3, _ => exact stepV rfl rfl (execAsgB rfl rfl) ⟨⟨_, rfl, rfl⟩, rfl⟩
  | k_ + 4, h_ => exact absurd h_ (by simp)
 intro a h1 h2 h3 h4
 have t1 : a.eval (.tmp 1) = .int .i64 1 := (h3 1 (by decide)).trans rfl
 have t2 : a.eval (.tmp 2) = .pointer (some ⟨V.heap.size, 0, none⟩) := h4 0 _ rfl _ rfl
 have t5 : a.eval (.tmp 5) = .pointer (some ⟨V1.heap.size, 0, none⟩) := h4 2 _ rfl _ rfl
 have A : a.tmps.size = 49 ∧ a.defers = [] := ⟨h1, h2⟩
 clear h1 h2 h3 h4 b1 b2 hV1 hV2
 obtain ⟨g2, hg2⟩ : ∃ g2, g2 = V.heap.size := ⟨_, rfl⟩
 obtain ⟨g5, hg5⟩ : ∃ g5, g5 = V1.heap.size := ⟨_, rfl⟩
 rw [← hg5] at F5 Fn5F2 Fn2F5 Fge5 t5
 clear hg5
 have k2 : V.heap.size ≤ g2 := by omega
 rw [← hg2] at F2 Fn5F2 Fn2F5 t2
 clear hg2 Fge2
 have Fge2 := k2
 clear k2
 refine wp_seq (wp_seq ?_)
 refine wp_se 49 [1, 2] [] (fun _ s X => Below V.heap.size V X ∧ X.heap[g2]? = some (.cells (tpC p l at') 108) ∧ X.heap[g5]? = some (.cells (tpC p 0 0) 108) ∧ (g2 ≠ g5) ∧ (g5 ≠ g2) ∧ (V.heap.size ≤ g2) ∧ (V.heap.size ≤ g5)) (fun s => fun i_ => match i_ with | 1 => .bool true | 2 => .bool false | _ => undef) () A ⟨BB, F2, F5, Fn5F2, Fn2F5, Fge2, Fge5⟩ (And.intro ?_ (And.intro ?_ trivial)) ?_
 ·exact fun s a X e hS => stepC rfl rfl (execCall1 Try.func84 (by kernel_rfl) (by kernel_rfl) rfl ((e (.tmp 10)).trans t1)) (isBound_yes 1 X hbd) fun e w' hh => ⟨_, hh.1, s, ⟨_, rfl, rfl⟩, ⟨(hS.1).trans ((hh.2).mono (hS.1).size), (on9 hS.2.1 hh.2), (on9 hS.2.2.1 hh.2), hS.2.2.2.1, hS.2.2.2.2.1, hS.2.2.2.2.2.1, hS.2.2.2.2.2.2⟩, ar⟩
 ·exact fun s a X e hS => stepV rfl rfl (execNot8 rfl (e (.tmp 11))) ⟨s, ⟨_, rfl, rfl⟩, hS, ar⟩
 rintro _ a X1 A e (hS : Below V.heap.size V X1 ∧ X1.heap[g2]? = some (.cells (tpC p l at') 108) ∧ X1.heap[g5]? = some (.cells (tpC p 0 0) 108) ∧ (g2 ≠ g5) ∧ (g5 ≠ g2) ∧ (V.heap.size ≤ g2) ∧ (V.heap.size ≤ g5))
 obtain ⟨BB, F2, F5, Fn5F2, Fn2F5, Fge2, Fge5⟩ := hS
 have t12 : a.eval (.tmp 12) = .bool false := e _
 replace t1 := kt e t1
 replace t2 := kt e t2
 replace t5 := kt e t5
 clear e
 refine wp_cond_false t12 (wp_skip ?_)
 clear t12
 replace t1 : a.eval (.tmp 1) = .int .i64 ((1 : Nat) : Int) := t1
 refine wp_seq (wp_seq ?_)
 refine wp_se 49 [1] [] (fun _ s X => Below V.heap.size V X ∧ X.heap[g2]? = some (.cells (tpC p l at') 108) ∧ X.heap[g5]? = some (.cells (tpC p 0 0) 108) ∧ (g2 ≠ g5) ∧ (g5 ≠ g2) ∧ (V.heap.size ≤ g2) ∧ (V.heap.size ≤ g5)) (fun s => fun i_ => match i_ with | 1 => .bool true | _ => undef) () A ⟨BB, F2, F5, Fn5F2, Fn2F5, Fge2, Fge5⟩ (And.intro ?_ trivial) ?_
 ·exact fun s a X e hS => stepV rfl rfl (execDec (execEqN (p := 1) (q := 1) rfl ((e (.tmp 14)).trans t1) rfl) (decide_eq_true (by rfl))) ⟨s, ⟨_, rfl, rfl⟩, hS, ar⟩
 rintro _ a X3 A e (hS : Below V.heap.size V X3 ∧ X3.heap[g2]? = some (.cells (tpC p l at') 108) ∧ X3.heap[g5]? = some (.cells (tpC p 0 0) 108) ∧ (g2 ≠ g5) ∧ (g5 ≠ g2) ∧ (V.heap.size ≤ g2) ∧ (V.heap.size ≤ g5))
 obtain ⟨BB, F2, F5, Fn5F2, Fn2F5, Fge2, Fge5⟩ := hS
 have t15 : a.eval (.tmp 15) = .bool true := e _
 replace t2 := kt e t2
 replace t5 := kt e t5
 clear e t1
 refine wp_cond_true t15 ?_
 refine wp_seq ?_
 clear t15
 refine wp_region_stB (σ := Unit) 49 [(0, 16), (1, 4), (3, 6)] (fun l_ s X => Below V.heap.size V X ∧ (X.heap[g2]? = some (.cells (tpC p l at') 108)) ∧ (l_ 2 = false → X.heap[g5]? = some (.cells (tpC p 0 0) 108)) ∧ ((g2 ≠ g5)) ∧ ((g5 ≠ g2)) ∧ ((V.heap.size ≤ g2)) ∧ ((V.heap.size ≤ g5)) ∧ (l_ 2 = true → X.heap[g5]? = some (.cells (tpC p l at') 108))) (fun s => fun i_ => match i_ with | 0 => .agg (tpC p l at') | 1 => .int .i64 ((0 : Nat) : Int) | 2 => undef | 3 => .int .i64 ((0 : Nat) : Int) | _ => undef) () (by kernel_rfl) (by kernel_rfl) A.1 (by kernel_rfl) (by decide) (by decide) ⟨(BB.drew), ((on9 F2 (Below.refl _ _).drew)), (fun _ => (on9 F5 (Below.refl _ _).drew)), (Fn5F2), (Fn2F5), (Fge2), (Fge5), (fun q0_ => by cases q0_)⟩ ?_ ?_
 ·intro i_ hi_ l_ s a X hl_ hf hdep hl2 hcl hno hT
  have up : ∀ j x, x ≠ j → updB l_ j x = l_ x := fun j x hj => by unfold updB; simp [hj]
  match i_, hi_ with
  | 0, _ => exact stepV rfl rfl (execLdTp rfl ((hf 2 (by decide)).trans t2) hT.2.1) ⟨s, ⟨_, rfl, rfl⟩, ⟨hT.1, (hT.2.1), (fun q0_ => (hT.2.2.1 (by rw [up 0 2 (by decide)] at q0_; exact q0_))), (hT.2.2.2.1), (hT.2.2.2.2.1), (hT.2.2.2.2.2.1), (hT.2.2.2.2.2.2.1), (fun q0_ => absurd (hl_.symm.trans (hcl 2 _ rfl ((up 0 2 (by decide)).symm.trans q0_) 0 rfl)) (by decide))⟩, fun _ _ _ => rfl⟩
  | 1, _ => exact stepV rfl rfl (execAsgB rfl rfl) ⟨s, ⟨_, rfl, rfl⟩, ⟨hT.1, (hT.2.1), (fun q0_ => (hT.2.2.1 (by rw [up 1 2 (by decide)] at q0_; exact q0_))), (hT.2.2.2.1), (hT.2.2.2.2.1), (hT.2.2.2.2.2.1), (hT.2.2.2.2.2.2.1), (fun q0_ => absurd (hl_.symm.trans (hcl 2 _ rfl ((up 1 2 (by decide)).symm.trans q0_) 1 rfl)) (by decide))⟩, fun _ _ _ => rfl⟩
  | 2, _ => exact stepS rfl rfl (execStTp rfl ((hf 5 (by decide)).trans t5) (hdep _ rfl 0 rfl _ rfl _ rfl) (hT.2.2.1 hl_) rfl) ⟨s, ⟨_, rfl, rfl⟩, ⟨below4 hT.1 hT.2.2.2.2.2.2.1 _, ((by rw [setRow_other _ _ _ _ (hT.2.2.2.1)]; exact hT.2.1)), (fun q0_ => absurd q0_ (by unfold updB; simp)), (hT.2.2.2.1), (hT.2.2.2.2.1), (hT.2.2.2.2.2.1), (hT.2.2.2.2.2.2.1), (fun _q0_ => setRow_heap _ _ _ _ _ _ (hT.2.2.1 hl_))⟩, fun _ _ _ => rfl⟩
  | 3, _ => exact stepV rfl rfl (execAsgB rfl rfl) ⟨s, ⟨_, rfl, rfl⟩, ⟨hT.1, (hT.2.1), (fun q0_ => absurd (q0_.symm.trans ((up 3 2 (by decide)).trans (hl2 _ rfl 2 rfl))) (by decide)), (hT.2.2.2.1), (hT.2.2.2.2.1), (hT.2.2.2.2.2.1), (hT.2.2.2.2.2.2.1), (fun q0_ => (hT.2.2.2.2.2.2.2 (by rw [up 3 2 (by decide)] at q0_; exact q0_)))⟩, fun _ _ _ => rfl⟩
  | k_ + 4, h_ => exact absurd h_ (by simp)
 rintro l_ _ a X4 h1 h2 h3 h4 hall hT
 clear BB
 clear F2
 clear F5
 clear Fn5F2
 clear Fn2F5
 clear Fge2
 clear Fge5
 obtain ⟨BB, F2, F5, Fn5F2, Fn2F5, Fge2, Fge5, F5s⟩ := hT
 replace F2 : X4.heap[g2]? = some (.cells (tpC p l at') 108) := F2
 clear F5
 replace Fn5F2 : (g2 ≠ g5) := Fn5F2
 replace Fn2F5 : (g5 ≠ g2) := Fn2F5
 replace Fge2 : (V.heap.size ≤ g2) := Fge2
 replace Fge5 : (V.heap.size ≤ g5) := Fge5
 replace F5s : X4.heap[g5]? = some (.cells (tpC p l at') 108) := F5s (hall 2 (by decide))
 clear hall
 have t4 : a.eval (.tmp 4) = .int .i64 ((0 : Nat) : Int) := h4 (1, 4) (by decide)
 replace t5 := (h3 5 (by decide)).trans t5
 have t6 : a.eval (.tmp 6) = .int .i64 ((0 : Nat) : Int) := h4 (3, 6) (by decide)
 replace A := (⟨h1, h2.trans A.2⟩ : a.tmps.size = 49 ∧ a.defers = [])
 clear h1 h2 h3 h4
 clear t2
 refine wp_ret ?_
 repeat (first | with_reducible refine ret_in ?_ | with_reducible refine ret_then ?_)
 refine bodyPost_ret (results_tct9 (cs := tpC p l at') rfl _ _ g5 108 (0, 0) _ t5 F5s Try.underlying108 rfl (size_tp _ _ _)) A.2 ⟨?_, BB⟩
 show Ending.returned (.tuple #[a.eval (.tmp 4), .agg (tpC p l at'), a.eval (.tmp 6)]) = _
 rw [t4, t6]
set_option maxRecDepth 100000 in
set_option maxHeartbeats 4000000 in
theorem below_ok (p : Nat → Nat) (l at' : Nat) (b : Nat) (hb2 : 2 ≤ b) (hb : b ≤ 256) (V : World) (hat : at' ≤ l) (hl : l ≤ 140737488351232) (hp : ∀ j, j < l → p j < 256) :
  Calls Try.prog 67 #[.agg (tpC p l at'), .int .i64 ((b : Nat) : Int)] V fun e w' => e = .returned (.tuple #[.int .i64 ((dV p l at' ((b : Nat) : Int) : Nat) : Int), .agg (tpC p (if dE p l at' ((b : Nat) : Int) = 0 then l else 0) (dN p l at' ((b : Nat) : Int))), .int .i64 ((dE p l at' ((b : Nat) : Int) : Nat) : Int)]) ∧ Below V.heap.size V w' := by
 have hbd : ¬ bad (b : Int) := by unfold bad; omega
 obtain ⟨V1, hV1⟩ : ∃ V1, V1 = V.alloc (.cells (tpC p l at') 108) := ⟨_, rfl⟩
 obtain ⟨V2, hV2⟩ : ∃ V2, V2 = V1.alloc (.cells (tpC p 0 0) 108) := ⟨_, rfl⟩
 have F2 : V1.heap[V.heap.size]? = some (.cells (tpC p l at') 108) := by rw [hV1]; exact heapNew V _
 have b1 : Below V.heap.size V V1 := by rw [hV1]; exact belNew V _
 have F5 : V2.heap[V1.heap.size]? = some (.cells (tpC p 0 0) 108) := by rw [hV2]; exact heapNew V1 _
 have b2 : Below V1.heap.size V1 V2 := by rw [hV2]; exact belNew V1 _
 have F2 := on9 F2 b2
 have BB : Below V.heap.size V V2 := b1.trans (b2.mono b1.size)
 have Fn5F2 : V.heap.size ≠ V1.heap.size := by rw [hV1]; simp
 have Fn2F5 : V1.heap.size ≠ V.heap.size := Fn5F2.symm
 have Fge2 : V.heap.size ≤ V.heap.size := Nat.le_refl _
 have Fge5 : V.heap.size ≤ V1.heap.size := b1.size
 go_enter Try.func67, Try.ntmps67
 refine wp_seq ?_
 refine wp_region_sqW 49 [(0, 2), (1, 4), (2, 5), (3, 6)] (fun i_ => match i_ with | 0 => .pointer (some ⟨V.heap.size, 0, none⟩) | 1 => .int .i64 0 | 2 => .pointer (some ⟨V1.heap.size, 0, none⟩) | 3 => .int .i64 0 | _ => undef) (fun i_ => match i_ with | 0 => V | 1 => V1 | 2 => V1 | _ => V2) rfl (by kernel_rfl) (by decide) (by decide) ?_ ?_
 ·intro i_ hi_ a hf hv hn
  match i_, hi_ with
  | 0, _ => exact stepV rfl rfl (by rw [hV1]; exact execBoxTp rfl ((hf 0 (by decide)).trans rfl)) ⟨⟨_, rfl, rfl⟩, rfl⟩
  | 1, _ => exact stepV rfl rfl (execAsgB rfl rfl) ⟨⟨_, rfl, rfl⟩, rfl⟩
  | 2, _ => exact stepV rfl rfl (by rw [hV2]; exact execAllTp rfl p) ⟨⟨_, rfl, rfl⟩, rfl⟩
  | 3, _ => exact stepV rfl rfl (execAsgB rfl rfl) ⟨⟨_, rfl, rfl⟩, rfl⟩
  | k_ + 4, h_ => exact absurd h_ (by simp)
 intro a h1 h2 h3 h4
 have t1 : a.eval (.tmp 1) = .int .i64 ((b : Nat) : Int) := (h3 1 (by decide)).trans rfl
 have t2 : a.eval (.tmp 2) = .pointer (some ⟨V.heap.size, 0, none⟩) := h4 0 _ rfl _ rfl
 have t5 : a.eval (.tmp 5) = .pointer (some ⟨V1.heap.size, 0, none⟩) := h4 2 _ rfl _ rfl
 have A : a.tmps.size = 49 ∧ a.defers = [] := ⟨h1, h2⟩
 clear h1 h2 h3 h4 b1 b2 hV1 hV2
 obtain ⟨g2, hg2⟩ : ∃ g2, g2 = V.heap.size := ⟨_, rfl⟩
 obtain ⟨g5, hg5⟩ : ∃ g5, g5 = V1.heap.size := ⟨_, rfl⟩
 rw [← hg5] at F5 Fn5F2 Fn2F5 Fge5 t5
 clear hg5
 have k2 : V.heap.size ≤ g2 := by omega
 rw [← hg2] at F2 Fn5F2 Fn2F5 t2
 clear hg2 Fge2
 have Fge2 := k2
 clear k2
 refine wp_seq (wp_seq ?_)
 refine wp_se 49 [1, 2] [] (fun _ s X => Below V.heap.size V X ∧ X.heap[g2]? = some (.cells (tpC p l at') 108) ∧ X.heap[g5]? = some (.cells (tpC p 0 0) 108) ∧ (g2 ≠ g5) ∧ (g5 ≠ g2) ∧ (V.heap.size ≤ g2) ∧ (V.heap.size ≤ g5)) (fun s => fun i_ => match i_ with | 1 => .bool true | 2 => .bool false | _ => undef) () A ⟨BB, F2, F5, Fn5F2, Fn2F5, Fge2, Fge5⟩ (And.intro ?_ (And.intro ?_ trivial)) ?_
 ·exact fun s a X e hS => stepC rfl rfl (execCall1 Try.func84 (by kernel_rfl) (by kernel_rfl) rfl ((e (.tmp 10)).trans t1)) (isBound_yes ((b : Nat) : Int) X hbd) fun e w' hh => ⟨_, hh.1, s, ⟨_, rfl, rfl⟩, ⟨(hS.1).trans ((hh.2).mono (hS.1).size), (on9 hS.2.1 hh.2), (on9 hS.2.2.1 hh.2), hS.2.2.2.1, hS.2.2.2.2.1, hS.2.2.2.2.2.1, hS.2.2.2.2.2.2⟩, ar⟩
 ·exact fun s a X e hS => stepV rfl rfl (execNot8 rfl (e (.tmp 11))) ⟨s, ⟨_, rfl, rfl⟩, hS, ar⟩
 rintro _ a X1 A e (hS : Below V.heap.size V X1 ∧ X1.heap[g2]? = some (.cells (tpC p l at') 108) ∧ X1.heap[g5]? = some (.cells (tpC p 0 0) 108) ∧ (g2 ≠ g5) ∧ (g5 ≠ g2) ∧ (V.heap.size ≤ g2) ∧ (V.heap.size ≤ g5))
 obtain ⟨BB, F2, F5, Fn5F2, Fn2F5, Fge2, Fge5⟩ := hS
 have t12 : a.eval (.tmp 12) = .bool false := e _
 replace t1 := kt e t1
 replace t2 := kt e t2
 replace t5 := kt e t5
 clear e
 refine wp_cond_false t12 (wp_skip ?_)
 clear t12
 refine wp_seq (wp_seq ?_)
 refine wp_se 49 [1] [] (fun _ s X => Below V.heap.size V X ∧ X.heap[g2]? = some (.cells (tpC p l at') 108) ∧ X.heap[g5]? = some (.cells (tpC p 0 0) 108) ∧ (g2 ≠ g5) ∧ (g5 ≠ g2) ∧ (V.heap.size ≤ g2) ∧ (V.heap.size ≤ g5)) (fun s => fun i_ => match i_ with | 1 => .bool false | _ => undef) () A ⟨BB, F2, F5, Fn5F2, Fn2F5, Fge2, Fge5⟩ (And.intro ?_ trivial) ?_
 ·exact fun s a X e hS => stepV rfl rfl (execDec (execEqN (p := b) (q := 1) rfl ((e (.tmp 14)).trans t1) rfl) (decide_eq_false (by clear hS; omega))) ⟨s, ⟨_, rfl, rfl⟩, hS, ar⟩
 rintro _ a X3 A e (hS : Below V.heap.size V X3 ∧ X3.heap[g2]? = some (.cells (tpC p l at') 108) ∧ X3.heap[g5]? = some (.cells (tpC p 0 0) 108) ∧ (g2 ≠ g5) ∧ (g5 ≠ g2) ∧ (V.heap.size ≤ g2) ∧ (V.heap.size ≤ g5))
 obtain ⟨BB, F2, F5, Fn5F2, Fn2F5, Fge2, Fge5⟩ := hS
 have t15 : a.eval (.tmp 15) = .bool false := e _
 replace t1 := kt e t1
 replace t2 := kt e t2
 replace t5 := kt e t5
 clear e
 refine wp_cond_false t15 (wp_skip ?_)
 clear t15
 refine wp_seq ?_
 refine wp_se 49 [1, 2] [] (fun _ s X => Below V.heap.size V X ∧ X.heap[g2]? = some (.cells (tpC p l at') 108) ∧ X.heap[g5]? = some (.cells (tpC p 0 0) 108) ∧ (g2 ≠ g5) ∧ (g5 ≠ g2) ∧ (V.heap.size ≤ g2) ∧ (V.heap.size ≤ g5)) (fun s => fun i_ => match i_ with | 1 => .int .i64 ((256 % b : Nat) : Int) | 2 => .int .i64 ((256 - (256 % b) : Nat) : Int) | _ => undef) () A ⟨BB, F2, F5, Fn5F2, Fn2F5, Fge2, Fge5⟩ (And.intro ?_ (And.intro ?_ trivial)) ?_
 ·exact fun s a X e hS => stepV rfl rfl (Aes.execRemI (p := 256) (q := b) rfl rfl ((e (.tmp 17)).trans t1) (by clear hS; omega)) ⟨s, ⟨_, rfl, rfl⟩, hS, ar⟩
 ·exact fun s a X e hS => stepV rfl rfl (By8.execSubI (p := 256) (q := 256 % b) rfl rfl (e (.tmp 18)) (by have := Nat.mod_le 256 b; omega) (by clear hS; omega)) ⟨s, ⟨_, rfl, rfl⟩, hS, ar⟩
 rintro _ a X5 A e (hS : Below V.heap.size V X5 ∧ X5.heap[g2]? = some (.cells (tpC p l at') 108) ∧ X5.heap[g5]? = some (.cells (tpC p 0 0) 108) ∧ (g2 ≠ g5) ∧ (g5 ≠ g2) ∧ (V.heap.size ≤ g2) ∧ (V.heap.size ≤ g5))
 obtain ⟨BB, F2, F5, Fn5F2, Fn2F5, Fge2, Fge5⟩ := hS
 have t7 : a.eval (.tmp 7) = .int .i64 ((256 - (256 % b) : Nat) : Int) := e _
 replace t1 := kt e t1
 replace t2 := kt e t2
 replace t5 := kt e t5
 clear e
 refine wp_seq ?_
 refine wp_se 49 [0, 1, 7] [7] (fun k_ s X => match k_ with | 0 => Below V.heap.size V X ∧ X.heap[g2]? = some (.cells (tpC p l at') 108) ∧ X.heap[g5]? = some (.cells (tpC p 0 0) 108) ∧ (g2 ≠ g5) ∧ (g5 ≠ g2) ∧ (V.heap.size ≤ g2) ∧ (V.heap.size ≤ g5) | _ => Below V.heap.size V X ∧ X.heap[g5]? = some (.cells (tpC p 0 0) 108) ∧ (g2 ≠ g5) ∧ (g5 ≠ g2) ∧ (V.heap.size ≤ g2) ∧ (V.heap.size ≤ g5) ∧ X.heap[g2]? = some (.cells (tpC p (bL l at') (bN l at')) 108)) (fun s => fun i_ => match i_ with | 0 => .agg (tpC p l at') | 1 => .tuple #[.int .u8 ((bV p l at' : Nat) : Int), .agg (tpC p (bL l at') (bN l at')), .int .i64 ((bE l at' : Nat) : Int)] | _ => undef) () A ⟨BB, F2, F5, Fn5F2, Fn2F5, Fge2, Fge5⟩ (And.intro ?_ (And.intro ?_ (And.intro ?_ trivial))) ?_
 ·exact fun s a X e hS => stepV rfl rfl (execLdTp rfl ((e (.tmp 2)).trans t2) hS.2.1) ⟨s, ⟨_, rfl, rfl⟩, hS, ar⟩
 ·exact fun s a X e hS => stepC rfl rfl (execCall1 Try.func85 (by kernel_rfl) (by kernel_rfl) rfl (e (.tmp 21))) (byte_any p l at' X (by omega) hl hp) fun e w' hh => ⟨_, hh.1, s, ⟨_, rfl, rfl⟩, ⟨(hS.1).trans ((hh.2).mono (hS.1).size), (on9 hS.2.1 hh.2), (on9 hS.2.2.1 hh.2), hS.2.2.2.1, hS.2.2.2.2.1, hS.2.2.2.2.2.1, hS.2.2.2.2.2.2⟩, ar⟩
 ·exact fun s a X e hS => stepS rfl rfl (execStTp rfl ((e (.tmp 2)).trans t2) (e (.tmp 24)) hS.2.1 rfl) ⟨s, ⟨_, rfl, rfl⟩, ⟨below4 hS.1 hS.2.2.2.2.2.1 _, (by rw [setRow_other _ _ _ _ (hS.2.2.2.2.1)]; exact hS.2.2.1), hS.2.2.2.1, hS.2.2.2.2.1, hS.2.2.2.2.2.1, hS.2.2.2.2.2.2, setRow_heap _ _ _ _ _ _ hS.2.1⟩, ar⟩
 rintro _ a X6 A e (hS : Below V.heap.size V X6 ∧ X6.heap[g5]? = some (.cells (tpC p 0 0) 108) ∧ (g2 ≠ g5) ∧ (g5 ≠ g2) ∧ (V.heap.size ≤ g2) ∧ (V.heap.size ≤ g5) ∧ X6.heap[g2]? = some (.cells (tpC p (bL l at') (bN l at')) 108))
 obtain ⟨BB, F5, Fn5F2, Fn2F5, Fge2, Fge5, F2⟩ := hS
 have t8 : a.eval (.tmp 8) = .int .u8 ((bV p l at' : Nat) : Int) := e _
 have t9 : a.eval (.tmp 9) = .int .i64 ((bE l at' : Nat) : Int) := e _
 replace t1 := kt e t1
 replace t2 := kt e t2
 replace t5 := kt e t5
 replace t7 := kt e t7
 clear e
 refine wp_seq (wp_block ?_)
 refine wp_loop (fun a W => ∃ i : Nat, at' ≤ i ∧ i ≤ l ∧ scan p b (l - i) i = scan p b (l - at') at' ∧ (a.tmps.size = 49 ∧ a.defers = []) ∧ a.eval (.tmp 1) = .int .i64 ((b : Nat) : Int) ∧ a.eval (.tmp 2) = .pointer (some ⟨g2, 0, none⟩) ∧ a.eval (.tmp 5) = .pointer (some ⟨g5, 0, none⟩) ∧ a.eval (.tmp 7) = .int .i64 ((256 - (256 % b) : Nat) : Int) ∧ a.eval (.tmp 8) = .int .u8 ((bV p l i : Nat) : Int) ∧ a.eval (.tmp 9) = .int .i64 ((bE l i : Nat) : Int) ∧ Below V.heap.size V W ∧ W.heap[g2]? = some (.cells (tpC p (bL l i) (bN l i)) 108) ∧ W.heap[g5]? = some (.cells (tpC p 0 0) 108)) (fun a W => if intOf (a.eval (.tmp 9)) = 0 then l + 1 - plOf W g2 else 0) ⟨at', Nat.le_refl _, hat, rfl, A, t1, t2, t5, t7, t8, t9, BB, F2, F5⟩ ?_
 rintro a XL ⟨i, hai, hil, hsc, A, t1, t2, t5, t7, t8, t9, BB, F2, F5⟩
 refine wp_seq (wp_seq ?_)
 have hv256 : bV p l i < 256 := by
  unfold bV
  by_cases q : i < l
  ·rw [if_pos q]; exact hp i q
  ·rw [if_neg q]; omega
 by_cases hlt : i < l
 ·have eV : bV p l i = p i := if_pos hlt
  have eL : bL l i = l := if_pos hlt
  have eN : bN l i = i + 1 := if_pos hlt
  have eE : bE l i = 0 := if_pos hlt
  rw [eL, eN] at F2
  rw [eE] at t9
  rw [eV] at t8 hv256
  have hstep : scan p b (l - i) i = if p i / b < 256 / b then i else scan p b (l - (i + 1)) (i + 1) := by rw [show l - i = (l - (i + 1)) + 1 by omega]; rfl
  have htop := top_iff (p i) b (by omega)
  by_cases hq : p i / b < 256 / b
  ·rw [if_pos hq] at hstep
   refine wp_se 49 [1, 4, 6] [] (fun _ s X => Below V.heap.size V X ∧ X.heap[g2]? = some (.cells (tpC p l (i + 1)) 108) ∧ X.heap[g5]? = some (.cells (tpC p 0 0) 108)) (fun s => fun i_ => match i_ with | 1 => .bool true | 4 => .int .i64 ((p i : Nat) : Int) | 6 => .bool false | _ => undef) () A ⟨BB, F2, F5⟩ (And.intro ?_ (And.intro ?_ (And.intro ?_ trivial))) ?_
   ·exact fun s a X e hS => stepV rfl rfl (execDec (execEqE (p := 0) (q := 0) rfl ((e (.tmp 26)).trans t9) rfl) (decide_eq_true (by rfl))) ⟨s, ⟨_, rfl, rfl⟩, hS, ar⟩
   ·exact fun s a X e hS => stepV rfl (wy rfl rfl rfl (e (.tmp 28))) (execCv53 rfl ((e (.tmp 29)).trans t8) hv256) ⟨s, ⟨_, rfl, rfl⟩, hS, ar⟩
   ·exact fun s a X e hS => stepV rfl (wy rfl rfl rfl (e (.tmp 28))) (execDec (execGe8 (p := p i) (q := 256 - (256 % b)) rfl (e (.tmp 30)) ((e (.tmp 31)).trans t7)) (decide_eq_false (by have := htop.2 hq; omega))) ⟨s, ⟨_, rfl, rfl⟩, hS, ar⟩
   rintro _ a X7 A e (hS : Below V.heap.size V X7 ∧ X7.heap[g2]? = some (.cells (tpC p l (i + 1)) 108) ∧ X7.heap[g5]? = some (.cells (tpC p 0 0) 108))
   obtain ⟨BB, F2, F5⟩ := hS
   have t33 : a.eval (.tmp 33) = .bool false := e _
   replace t1 := kt e t1
   replace t2 := kt e t2
   replace t5 := kt e t5
   replace t7 := kt e t7
   replace t8 := kt e t8
   replace t9 := kt e t9
   clear e
   refine wp_cond_false t33 ?_
   refine wp_exit ?_
   first | with_reducible refine exit_in ?_ | with_reducible refine exit_then (exit_in ?_) | with_reducible refine exit_then (exit_then (exit_in ?_)) | refine exit_in ?_ | refine exit_then (exit_in ?_) | refine exit_then (exit_then (exit_in ?_))
   clear t33
   refine wp_seq (wp_seq ?_)
   refine wp_se 49 [1] [] (fun _ s X => Below V.heap.size V X ∧ X.heap[g2]? = some (.cells (tpC p l (i + 1)) 108) ∧ X.heap[g5]? = some (.cells (tpC p 0 0) 108)) (fun s => fun i_ => match i_ with | 1 => .bool false | _ => undef) () A ⟨BB, F2, F5⟩ (And.intro ?_ trivial) ?_
   ·exact fun s a X e hS => stepV rfl rfl (execDec (execNeE (p := 0) (q := 0) rfl ((e (.tmp 40)).trans t9) rfl) (decide_eq_false (by omega))) ⟨s, ⟨_, rfl, rfl⟩, hS, ar⟩
   rintro _ a X9 A e (hS : Below V.heap.size V X9 ∧ X9.heap[g2]? = some (.cells (tpC p l (i + 1)) 108) ∧ X9.heap[g5]? = some (.cells (tpC p 0 0) 108))
   obtain ⟨BB, F2, F5⟩ := hS
   have t41 : a.eval (.tmp 41) = .bool false := e _
   replace t1 := kt e t1
   replace t2 := kt e t2
   replace t5 := kt e t5
   replace t8 := kt e t8
   clear e t7 t9
   refine wp_cond_false t41 (wp_skip ?_)
   clear t41
   refine wp_seq ?_
   refine wp_region_stB (σ := Unit) 49 [(0, 44), (1, 45), (2, 46), (3, 47), (4, 48), (5, 4), (7, 6)] (fun l_ s X => Below V.heap.size V X ∧ (X.heap[g2]? = some (.cells (tpC p l (i + 1)) 108)) ∧ (l_ 6 = false → X.heap[g5]? = some (.cells (tpC p 0 0) 108)) ∧ ((g2 ≠ g5)) ∧ ((g5 ≠ g2)) ∧ ((V.heap.size ≤ g2)) ∧ ((V.heap.size ≤ g5)) ∧ (l_ 6 = true → X.heap[g5]? = some (.cells (tpC p l (i + 1)) 108))) (fun s => fun i_ => match i_ with | 0 => .int .u8 ((p i : Nat) : Int) | 1 => .int .i64 ((p i : Nat) : Int) | 2 => .int .i64 ((b : Nat) : Int) | 3 => .int .i64 (((p i) % b : Nat) : Int) | 4 => .agg (tpC p l (i + 1)) | 5 => .int .i64 (((p i) % b : Nat) : Int) | 6 => undef | 7 => .int .i64 ((0 : Nat) : Int) | _ => undef) () (by kernel_rfl) (by kernel_rfl) A.1 (by kernel_rfl) (by decide) (by decide) ⟨(BB.drew), ((on9 F2 (Below.refl _ _).drew)), (fun _ => (on9 F5 (Below.refl _ _).drew)), (Fn5F2), (Fn2F5), (Fge2), (Fge5), (fun q0_ => by cases q0_)⟩ ?_ ?_
   ·intro i_ hi_ l_ s a X hl_ hf hdep hl2 hcl hno hT
    have up : ∀ j x, x ≠ j → updB l_ j x = l_ x := fun j x hj => by unfold updB; simp [hj]
    match i_, hi_ with
    | 0, _ => exact stepV rfl rfl (execMvB rfl ((hf 8 (by decide)).trans t8)) ⟨s, ⟨_, rfl, rfl⟩, ⟨hT.1, (hT.2.1), (fun q0_ => (hT.2.2.1 (by rw [up 0 6 (by decide)] at q0_; exact q0_))), (hT.2.2.2.1), (hT.2.2.2.2.1), (hT.2.2.2.2.2.1), (hT.2.2.2.2.2.2.1), (fun q0_ => absurd (hl_.symm.trans (hcl 6 _ rfl ((up 0 6 (by decide)).symm.trans q0_) 0 rfl)) (by decide))⟩, fun _ _ _ => rfl⟩
    | 1, _ => exact stepV rfl rfl (execCv53 rfl (hdep _ rfl 0 rfl _ rfl _ rfl) hv256) ⟨s, ⟨_, rfl, rfl⟩, ⟨hT.1, (hT.2.1), (fun q0_ => (hT.2.2.1 (by rw [up 1 6 (by decide)] at q0_; exact q0_))), (hT.2.2.2.1), (hT.2.2.2.2.1), (hT.2.2.2.2.2.1), (hT.2.2.2.2.2.2.1), (fun q0_ => absurd (hl_.symm.trans (hcl 6 _ rfl ((up 1 6 (by decide)).symm.trans q0_) 1 rfl)) (by decide))⟩, fun _ _ _ => rfl⟩
    | 2, _ => exact stepV rfl rfl (execMvB rfl ((hf 1 (by decide)).trans t1)) ⟨s, ⟨_, rfl, rfl⟩, ⟨hT.1, (hT.2.1), (fun q0_ => (hT.2.2.1 (by rw [up 2 6 (by decide)] at q0_; exact q0_))), (hT.2.2.2.1), (hT.2.2.2.2.1), (hT.2.2.2.2.2.1), (hT.2.2.2.2.2.2.1), (fun q0_ => absurd (hl_.symm.trans (hcl 6 _ rfl ((up 2 6 (by decide)).symm.trans q0_) 2 rfl)) (by decide))⟩, fun _ _ _ => rfl⟩
    | 3, _ => exact stepV rfl rfl (Aes.execRemI (p := p i) (q := b) rfl (hdep _ rfl 1 rfl _ rfl _ rfl) (hdep _ rfl 2 rfl _ rfl _ rfl) (by omega)) ⟨s, ⟨_, rfl, rfl⟩, ⟨hT.1, (hT.2.1), (fun q0_ => (hT.2.2.1 (by rw [up 3 6 (by decide)] at q0_; exact q0_))), (hT.2.2.2.1), (hT.2.2.2.2.1), (hT.2.2.2.2.2.1), (hT.2.2.2.2.2.2.1), (fun q0_ => absurd (hl_.symm.trans (hcl 6 _ rfl ((up 3 6 (by decide)).symm.trans q0_) 3 rfl)) (by decide))⟩, fun _ _ _ => rfl⟩
    | 4, _ => exact stepV rfl rfl (execLdTp rfl ((hf 2 (by decide)).trans t2) hT.2.1) ⟨s, ⟨_, rfl, rfl⟩, ⟨hT.1, (hT.2.1), (fun q0_ => (hT.2.2.1 (by rw [up 4 6 (by decide)] at q0_; exact q0_))), (hT.2.2.2.1), (hT.2.2.2.2.1), (hT.2.2.2.2.2.1), (hT.2.2.2.2.2.2.1), (fun q0_ => absurd (hl_.symm.trans (hcl 6 _ rfl ((up 4 6 (by decide)).symm.trans q0_) 4 rfl)) (by decide))⟩, fun _ _ _ => rfl⟩
    | 5, _ => exact stepV rfl rfl (execAsgB rfl (hdep _ rfl 3 rfl _ rfl _ rfl)) ⟨s, ⟨_, rfl, rfl⟩, ⟨hT.1, (hT.2.1), (fun q0_ => (hT.2.2.1 (by rw [up 5 6 (by decide)] at q0_; exact q0_))), (hT.2.2.2.1), (hT.2.2.2.2.1), (hT.2.2.2.2.2.1), (hT.2.2.2.2.2.2.1), (fun q0_ => absurd (hl_.symm.trans (hcl 6 _ rfl ((up 5 6 (by decide)).symm.trans q0_) 5 rfl)) (by decide))⟩, fun _ _ _ => rfl⟩
    | 6, _ => exact stepS rfl rfl (execStTp rfl ((hf 5 (by decide)).trans t5) (hdep _ rfl 4 rfl _ rfl _ rfl) (hT.2.2.1 hl_) rfl) ⟨s, ⟨_, rfl, rfl⟩, ⟨below4 hT.1 hT.2.2.2.2.2.2.1 _, ((by rw [setRow_other _ _ _ _ (hT.2.2.2.1)]; exact hT.2.1)), (fun q0_ => absurd q0_ (by unfold updB; simp)), (hT.2.2.2.1), (hT.2.2.2.2.1), (hT.2.2.2.2.2.1), (hT.2.2.2.2.2.2.1), (fun _q0_ => setRow_heap _ _ _ _ _ _ (hT.2.2.1 hl_))⟩, fun _ _ _ => rfl⟩
    | 7, _ => exact stepV rfl rfl (execAsgB rfl rfl) ⟨s, ⟨_, rfl, rfl⟩, ⟨hT.1, (hT.2.1), (fun q0_ => absurd (q0_.symm.trans ((up 7 6 (by decide)).trans (hl2 _ rfl 6 rfl))) (by decide)), (hT.2.2.2.1), (hT.2.2.2.2.1), (hT.2.2.2.2.2.1), (hT.2.2.2.2.2.2.1), (fun q0_ => (hT.2.2.2.2.2.2.2 (by rw [up 7 6 (by decide)] at q0_; exact q0_)))⟩, fun _ _ _ => rfl⟩
    | k_ + 8, h_ => exact absurd h_ (by simp)
   rintro l_ _ a X11 h1 h2 h3 h4 hall hT
   clear BB
   clear F2
   clear F5
   clear Fn5F2
   clear Fn2F5
   clear Fge2
   clear Fge5
   obtain ⟨BB, F2, F5, Fn5F2, Fn2F5, Fge2, Fge5, F5s⟩ := hT
   replace F2 : X11.heap[g2]? = some (.cells (tpC p l (i + 1)) 108) := F2
   clear F5
   replace Fn5F2 : (g2 ≠ g5) := Fn5F2
   replace Fn2F5 : (g5 ≠ g2) := Fn2F5
   replace Fge2 : (V.heap.size ≤ g2) := Fge2
   replace Fge5 : (V.heap.size ≤ g5) := Fge5
   replace F5s : X11.heap[g5]? = some (.cells (tpC p l (i + 1)) 108) := F5s (hall 6 (by decide))
   clear hall
   have t4 : a.eval (.tmp 4) = .int .i64 (((p i) % b : Nat) : Int) := h4 (5, 4) (by decide)
   replace t5 := (h3 5 (by decide)).trans t5
   have t6 : a.eval (.tmp 6) = .int .i64 ((0 : Nat) : Int) := h4 (7, 6) (by decide)
   replace A := (⟨h1, h2.trans A.2⟩ : a.tmps.size = 49 ∧ a.defers = [])
   clear h1 h2 h3 h4
   clear t1 t2 t8
   have hS : dS p l at' (b : Int) = i := by show scan p (b : Int).toNat (l - at') at' = i; rw [Int.toNat_natCast, ← hsc, hstep]
   have hE : dE p l at' (b : Int) = 0 := by unfold dE; rw [if_neg (by omega), if_neg (by omega), hS, if_pos hlt]
   have hV : dV p l at' (b : Int) = p i % b := by unfold dV; rw [if_pos ⟨hE, by omega⟩, hS, Int.toNat_natCast]
   have hN : dN p l at' (b : Int) = i + 1 := by unfold dN; rw [if_pos hE, if_neg (by omega), hS]
   rw [hE, hV, hN, if_pos rfl]
   refine wp_ret ?_
   repeat (first | with_reducible refine ret_in ?_ | with_reducible refine ret_then ?_)
   refine bodyPost_ret (results_tct9 (cs := tpC p l (i + 1)) rfl _ _ g5 108 (0, 0) _ t5 F5s Try.underlying108 rfl (size_tp _ _ _)) A.2 ⟨?_, BB⟩
   show Ending.returned (.tuple #[a.eval (.tmp 4), .agg (tpC p l (i + 1)), a.eval (.tmp 6)]) = _
   rw [t4, t6]
  ·have eμ : (if intOf (a.eval (.tmp 9)) = 0 then l + 1 - plOf XL g2 else 0) = l - i := by rw [t9, plOf_tp F2]; show (if ((0 : Nat) : Int) = 0 then l + 1 - (i + 1) else 0) = l - i; rw [if_pos (by decide)]; omega
   rw [if_neg hq] at hstep
   refine wp_se 49 [1, 4, 6] [] (fun _ s X => Below V.heap.size V X ∧ X.heap[g2]? = some (.cells (tpC p l (i + 1)) 108) ∧ X.heap[g5]? = some (.cells (tpC p 0 0) 108)) (fun s => fun i_ => match i_ with | 1 => .bool true | 4 => .int .i64 ((p i : Nat) : Int) | 6 => .bool true | _ => undef) () A ⟨BB, F2, F5⟩ (And.intro ?_ (And.intro ?_ (And.intro ?_ trivial))) ?_
   ·exact fun s a X e hS => stepV rfl rfl (execDec (execEqE (p := 0) (q := 0) rfl ((e (.tmp 26)).trans t9) rfl) (decide_eq_true (by rfl))) ⟨s, ⟨_, rfl, rfl⟩, hS, ar⟩
   ·exact fun s a X e hS => stepV rfl (wy rfl rfl rfl (e (.tmp 28))) (execCv53 rfl ((e (.tmp 29)).trans t8) hv256) ⟨s, ⟨_, rfl, rfl⟩, hS, ar⟩
   ·exact fun s a X e hS => stepV rfl (wy rfl rfl rfl (e (.tmp 28))) (execDec (execGe8 (p := p i) (q := 256 - (256 % b)) rfl (e (.tmp 30)) ((e (.tmp 31)).trans t7)) (decide_eq_true (by have := fun q => hq (htop.1 q); omega))) ⟨s, ⟨_, rfl, rfl⟩, hS, ar⟩
   rintro _ a X7 A e (hS : Below V.heap.size V X7 ∧ X7.heap[g2]? = some (.cells (tpC p l (i + 1)) 108) ∧ X7.heap[g5]? = some (.cells (tpC p 0 0) 108))
   obtain ⟨BB, F2, F5⟩ := hS
   have t33 : a.eval (.tmp 33) = .bool true := e _
   replace t1 := kt e t1
   replace t2 := kt e t2
   replace t5 := kt e t5
   replace t7 := kt e t7
   replace t8 := kt e t8
   replace t9 := kt e t9
   clear e
   refine wp_cond_true t33 (wp_skip ?_)
   clear t33
   refine wp_block ?_
   refine wp_se 49 [0, 1, 7] [7] (fun k_ s X => match k_ with | 0 => Below V.heap.size V X ∧ X.heap[g2]? = some (.cells (tpC p l (i + 1)) 108) ∧ X.heap[g5]? = some (.cells (tpC p 0 0) 108) ∧ (g2 ≠ g5) ∧ (g5 ≠ g2) ∧ (V.heap.size ≤ g2) ∧ (V.heap.size ≤ g5) | _ => Below V.heap.size V X ∧ X.heap[g5]? = some (.cells (tpC p 0 0) 108) ∧ (g2 ≠ g5) ∧ (g5 ≠ g2) ∧ (V.heap.size ≤ g2) ∧ (V.heap.size ≤ g5) ∧ X.heap[g2]? = some (.cells (tpC p (bL l (i + 1)) (bN l (i + 1))) 108)) (fun s => fun i_ => match i_ with | 0 => .agg (tpC p l (i + 1)) | 1 => .tuple #[.int .u8 ((bV p l (i + 1) : Nat) : Int), .agg (tpC p (bL l (i + 1)) (bN l (i + 1))), .int .i64 ((bE l (i + 1) : Nat) : Int)] | _ => undef) () A ⟨BB, F2, F5, Fn5F2, Fn2F5, Fge2, Fge5⟩ (And.intro ?_ (And.intro ?_ (And.intro ?_ trivial))) ?_
   ·exact fun s a X e hS => stepV rfl rfl (execLdTp rfl ((e (.tmp 2)).trans t2) hS.2.1) ⟨s, ⟨_, rfl, rfl⟩, hS, ar⟩
   ·exact fun s a X e hS => stepC rfl rfl (execCall1 Try.func85 (by kernel_rfl) (by kernel_rfl) rfl (e (.tmp 35))) (byte_any p l (i + 1) X (by omega) hl hp) fun e w' hh => ⟨_, hh.1, s, ⟨_, rfl, rfl⟩, ⟨(hS.1).trans ((hh.2).mono (hS.1).size), (on9 hS.2.1 hh.2), (on9 hS.2.2.1 hh.2), hS.2.2.2.1, hS.2.2.2.2.1, hS.2.2.2.2.2.1, hS.2.2.2.2.2.2⟩, ar⟩
   ·exact fun s a X e hS => stepS rfl rfl (execStTp rfl ((e (.tmp 2)).trans t2) (e (.tmp 38)) hS.2.1 rfl) ⟨s, ⟨_, rfl, rfl⟩, ⟨below4 hS.1 hS.2.2.2.2.2.1 _, (by rw [setRow_other _ _ _ _ (hS.2.2.2.2.1)]; exact hS.2.2.1), hS.2.2.2.1, hS.2.2.2.2.1, hS.2.2.2.2.2.1, hS.2.2.2.2.2.2, setRow_heap _ _ _ _ _ _ hS.2.1⟩, ar⟩
   rintro _ a X8 A e (hS : Below V.heap.size V X8 ∧ X8.heap[g5]? = some (.cells (tpC p 0 0) 108) ∧ (g2 ≠ g5) ∧ (g5 ≠ g2) ∧ (V.heap.size ≤ g2) ∧ (V.heap.size ≤ g5) ∧ X8.heap[g2]? = some (.cells (tpC p (bL l (i + 1)) (bN l (i + 1))) 108))
   obtain ⟨BB, F5, Fn5F2, Fn2F5, Fge2, Fge5, F2⟩ := hS
   replace t8 : a.eval (.tmp 8) = .int .u8 ((bV p l (i + 1) : Nat) : Int) := e _
   replace t9 : a.eval (.tmp 9) = .int .i64 ((bE l (i + 1) : Nat) : Int) := e _
   replace t1 := kt e t1
   replace t2 := kt e t2
   replace t5 := kt e t5
   replace t7 := kt e t7
   clear e
   refine ⟨⟨i + 1, by omega, hlt, by rw [← hstep, hsc], A, t1, t2, t5, t7, t8, t9, BB, F2, F5⟩, Nat.lt_of_lt_of_eq (m := l - i) ?_ eμ.symm⟩
   show (if intOf (a.eval (.tmp 9)) = 0 then l + 1 - plOf X8 g2 else 0) < l - i
   rw [t9, plOf_tp F2]
   show (if ((bE l (i + 1) : Nat) : Int) = 0 then l + 1 - bN l (i + 1) else 0) < l - i
   unfold bE bN
   by_cases q : i + 1 < l
   ·rw [if_pos q, if_pos q, if_pos (by decide)]; omega
   ·rw [if_neg q, if_neg q, if_neg (by decide)]; omega
 ·have eE : bE l i = 3 := if_neg hlt
  rw [eE] at t9
  refine wp_se 49 [1] [] (fun _ s X => Below V.heap.size V X ∧ X.heap[g2]? = some (.cells (tpC p (bL l i) (bN l i)) 108) ∧ X.heap[g5]? = some (.cells (tpC p 0 0) 108)) (fun s => fun i_ => match i_ with | 1 => .bool false | _ => undef) () A ⟨BB, F2, F5⟩ (And.intro ?_ trivial) ?_
  ·exact fun s a X e hS => stepV rfl rfl (execDec (execEqE (p := 3) (q := 0) rfl ((e (.tmp 26)).trans t9) rfl) (decide_eq_false (by decide))) ⟨s, ⟨_, rfl, rfl⟩, hS, ar⟩
  rintro _ a X7 A e (hS : Below V.heap.size V X7 ∧ X7.heap[g2]? = some (.cells (tpC p (bL l i) (bN l i)) 108) ∧ X7.heap[g5]? = some (.cells (tpC p 0 0) 108))
  obtain ⟨BB, F2, F5⟩ := hS
  have t33 : a.eval (.tmp 33) = .bool false := e _
  replace t1 := kt e t1
  replace t2 := kt e t2
  replace t5 := kt e t5
  replace t9 := kt e t9
  clear e t7 t8
  refine wp_cond_false t33 ?_
  refine wp_exit ?_
  first | with_reducible refine exit_in ?_ | with_reducible refine exit_then (exit_in ?_) | with_reducible refine exit_then (exit_then (exit_in ?_)) | refine exit_in ?_ | refine exit_then (exit_in ?_) | refine exit_then (exit_then (exit_in ?_))
  clear t33
  refine wp_seq (wp_seq ?_)
  refine wp_se 49 [1] [] (fun _ s X => Below V.heap.size V X ∧ X.heap[g2]? = some (.cells (tpC p (bL l i) (bN l i)) 108) ∧ X.heap[g5]? = some (.cells (tpC p 0 0) 108)) (fun s => fun i_ => match i_ with | 1 => .bool true | _ => undef) () A ⟨BB, F2, F5⟩ (And.intro ?_ trivial) ?_
  ·exact fun s a X e hS => stepV rfl rfl (execDec (execNeE (p := 3) (q := 0) rfl ((e (.tmp 40)).trans t9) rfl) (decide_eq_true (by decide))) ⟨s, ⟨_, rfl, rfl⟩, hS, ar⟩
  rintro _ a X9 A e (hS : Below V.heap.size V X9 ∧ X9.heap[g2]? = some (.cells (tpC p (bL l i) (bN l i)) 108) ∧ X9.heap[g5]? = some (.cells (tpC p 0 0) 108))
  obtain ⟨BB, F2, F5⟩ := hS
  have t41 : a.eval (.tmp 41) = .bool true := e _
  replace t1 := kt e t1
  replace t2 := kt e t2
  replace t5 := kt e t5
  replace t9 := kt e t9
  clear e
  refine wp_cond_true t41 ?_
  refine wp_seq ?_
  clear t41
  refine wp_se 49 [0, 3] [3] (fun k_ s X => match k_ with | 0 => Below V.heap.size V X ∧ X.heap[g2]? = some (.cells (tpC p (bL l i) (bN l i)) 108) ∧ X.heap[g5]? = some (.cells (tpC p 0 0) 108) ∧ (g2 ≠ g5) ∧ (g5 ≠ g2) ∧ (V.heap.size ≤ g2) ∧ (V.heap.size ≤ g5) | _ => Below V.heap.size V X ∧ X.heap[g2]? = some (.cells (tpC p (bL l i) (bN l i)) 108) ∧ (g2 ≠ g5) ∧ (g5 ≠ g2) ∧ (V.heap.size ≤ g2) ∧ (V.heap.size ≤ g5) ∧ X.heap[g5]? = some (.cells (tpC p 0 0) 108)) (fun s => fun i_ => match i_ with | 0 => .agg (tpC p 0 0) | _ => undef) () A ⟨BB, F2, F5, Fn5F2, Fn2F5, Fge2, Fge5⟩ (And.intro ?_ (And.intro ?_ trivial)) ?_
  ·exact fun s a X e hS => stepV rfl rfl (execBldTp rfl p) ⟨s, ⟨_, rfl, rfl⟩, hS, ar⟩
  ·exact fun s a X e hS => stepS rfl rfl (execStTp rfl ((e (.tmp 5)).trans t5) (e (.tmp 42)) hS.2.2.1 rfl) ⟨s, ⟨_, rfl, rfl⟩, ⟨below4 hS.1 hS.2.2.2.2.2.2 _, (by rw [setRow_other _ _ _ _ (hS.2.2.2.1)]; exact hS.2.1), hS.2.2.2.1, hS.2.2.2.2.1, hS.2.2.2.2.2.1, hS.2.2.2.2.2.2, setRow_heap _ _ _ _ _ _ hS.2.2.1⟩, ar⟩
  rintro _ a X10 A e (hS : Below V.heap.size V X10 ∧ X10.heap[g2]? = some (.cells (tpC p (bL l i) (bN l i)) 108) ∧ (g2 ≠ g5) ∧ (g5 ≠ g2) ∧ (V.heap.size ≤ g2) ∧ (V.heap.size ≤ g5) ∧ X10.heap[g5]? = some (.cells (tpC p 0 0) 108))
  obtain ⟨BB, F2, Fn5F2, Fn2F5, Fge2, Fge5, F5⟩ := hS
  have t4 : a.eval (.tmp 4) = .int .i64 ((0 : Nat) : Int) := e _
  have t6 : a.eval (.tmp 6) = .int .i64 ((3 : Nat) : Int) := (e _).trans t9
  replace t5 := kt e t5
  clear e t1 t2 t9
  have hS : dS p l at' (b : Int) = l := by
   show scan p (b : Int).toNat (l - at') at' = l
   rw [Int.toNat_natCast, ← hsc, show l - i = 0 by omega]
   show i = l
   omega
  have hE : dE p l at' (b : Int) = 3 := by unfold dE; rw [if_neg (by omega), if_neg (by omega), hS, if_neg (Nat.lt_irrefl _)]
  have hV : dV p l at' (b : Int) = 0 := by unfold dV; rw [if_neg (fun q => by rw [hE] at q; omega)]
  have hN : dN p l at' (b : Int) = 0 := by unfold dN; rw [if_neg (by rw [hE]; decide)]
  rw [hE, hV, hN, if_neg (by decide)]
  refine wp_ret ?_
  repeat (first | with_reducible refine ret_in ?_ | with_reducible refine ret_then ?_)
  refine bodyPost_ret (results_tct9 (cs := tpC p 0 0) rfl _ _ g5 108 (0, 0) _ t5 F5 Try.underlying108 rfl (size_tp _ _ _)) A.2 ⟨?_, BB⟩
  show Ending.returned (.tuple #[a.eval (.tmp 4), .agg (tpC p 0 0), a.eval (.tmp 6)]) = _
  rw [t4, t6]
theorem pbelow_any (p : Nat → Nat) (l at' : Nat) (b : Int) (V : World) (hat : at' ≤ l) (hl : l ≤ 140737488351232) (hp : ∀ j, j < l → p j < 256) :
  Calls Try.prog 67 #[.agg (tpC p l at'), .int .i64 b] V fun e w' => e = .returned (.tuple #[.int .i64 ((dV p l at' b : Nat) : Int), .agg (tpC p (if dE p l at' b = 0 then l else 0) (dN p l at' b)), .int .i64 ((dE p l at' b : Nat) : Int)]) ∧ Below V.heap.size V w' := by
 by_cases h : bad b
 ·exact below_bad p l at' b h V
 ·by_cases h1 : b = 1
  ·subst h1
   exact below_one p l at' V
  ·obtain ⟨c, rfl⟩ : ∃ c : Nat, b = c := ⟨b.toNat, by unfold bad at h; omega⟩
   exact below_ok p l at' c (by unfold bad at h; omega) (by unfold bad at h; omega) V hat hl hp
end Go.Proofs.Ytmjpneaccjlpkaa.Drw
