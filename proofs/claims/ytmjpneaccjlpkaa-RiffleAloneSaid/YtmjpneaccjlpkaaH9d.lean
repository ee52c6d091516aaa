import Derived.Test.YtmjpneaccjlpkaaF9a
import Derived.Test.YtmjpneaccjlpkaaH9c
namespace Go.Proofs.Ytmjpneaccjlpkaa.Drw
open Go.RowKit Gf8 Aes By8 Cel Cf Tap
/- The program's Turn; Drw.impl. Written by tools/mkH9c.py. -/
theorem nodraws {bs ws : Nat → Int} {m n : Nat} (h : (decide (m = n) && !anyW bs ws m) = false) : m ≠ n ∨ anyW bs ws m = true := by
 by_cases q : m = n
 ·rw [decide_eq_true q, Bool.true_and] at h
  right
  cases h2 : anyW bs ws m
  ·rw [h2] at h; cases h
  ·rfl
 ·exact Or.inl q
theorem alldraws {bs ws : Nat → Int} {m n : Nat} (h : (decide (m = n) && !anyW bs ws m) = true) : m = n ∧ anyW bs ws m = false := by
 rw [Bool.and_eq_true, decide_eq_true_eq, Bool.not_eq_true'] at h
 exact h
theorem own_tk {W : World} {B n : Nat} {v : Value} {f : Nat → Nat} (h : W.ownsRow B 5 1 v n (bytesL n f)) (hf : ∀ j, j < n → f j < 256) : TkA W B v n f := by
 rcases h.2 with e | ⟨g, cap, cur, rfl, hB, hg, h1, h2, h3, h4⟩
 ·exact Or.inl e
 ·refine Or.inr ⟨g, cap, cur, _, rfl, hB, hg, h1, h2, by simpa using h3, fun j hj => ?_, hf, Or.inr rfl⟩
  have h5 : (cur.toList.take (n * 1))[j]? = some (.int .u8 (f j : Nat)) := by rw [h4]; simp [bytesL, hj]
  rw [List.getElem?_take_of_lt (by omega), Array.getElem?_toList] at h5
  exact h5
section
variable {o : Oper} {a : Act} {w : World}
theorem execSubU9 {x y : Operand} {p q : Nat} (ho : o.op = .binOp .sub 5 x y 5) (hx : a.eval x = .int .u8 (p : Int)) (hy : a.eval y = .int .u8 (q : Int)) (h : q ≤ p) (hp : p < 256) : (execOp a.eval o).run Try.prog w = .ok (.value (.int .u8 ((p - q : Nat) : Int))) w := by
 unfold execOp
 simp only [ho, hx, hy]
 simp [go_sem, IntKind.wrap, show IntKind.u8.signed = false from rfl]
 omega
theorem execAddU9 {x y : Operand} {p q : Nat} (ho : o.op = .binOp .add 5 x y 5) (hx : a.eval x = .int .u8 (p : Int)) (hy : a.eval y = .int .u8 (q : Int)) (h : p + q < 256) : (execOp a.eval o).run Try.prog w = .ok (.value (.int .u8 ((p + q : Nat) : Int))) w := by
 unfold execOp
 simp only [ho, hx, hy]
 simp [go_sem, IntKind.wrap, show IntKind.u8.signed = false from rfl]
 omega
end
set_option maxRecDepth 100000 in
set_option maxHeartbeats 8000000 in
theorem pturn_any (p : Nat → Nat) (l : Nat) (bs ws : Nat → Int) (n m : Nat) (pv bv wv : Value) (V : World) (hp : SliceN V pv l p) (hl : l ≤ 140737488351232) (hb : SliceI V bv n bs) (hn17 : n ≤ 17592186044416) (hwv : SliceI V wv m ws) (hm17 : m ≤ 17592186044416) :
  Calls Try.prog 62 #[pv, bv, wv] V fun e w' => ∃ r, e = .returned (.tuple #[r, .int .i64 ((trE p l bs n ws m : Nat) : Int)]) ∧ TkA w' V.heap.size r (trN p l bs n ws m) (trF p l bs ws n) ∧ Below V.heap.size V w' := by
 obtain ⟨pa, pc, rfl, -, -, hsp⟩ := id hp.shape
 obtain ⟨ia, ic, rfl, -, -, hsh⟩ := id hb.shape
 obtain ⟨ja, jc, rfl, -, -, hsj⟩ := id hwv.shape
 have FI := hb
 have FJ := hwv
 have hpb := hp.bytes
 go_enter Try.func62, Try.ntmps62
 refine wp_seq ?_
 refine wp_region_sqK 70 [(0, 6), (1, 7)] (fun i_ => match i_ with | 0 => .slice none 0 0 | 1 => .int .i64 ((0 : Nat) : Int) | _ => undef) rfl (by kernel_rfl) (by decide) (by decide) ?_ ?_
 ·intro i_ hi_ a hf hv hn
  match i_, hi_ with
  | 0, _ => exact stepV rfl rfl (execAsgB rfl rfl) ⟨⟨_, rfl, rfl⟩, rfl⟩
  | 1, _ => exact stepV rfl rfl (execAsgB rfl rfl) ⟨⟨_, rfl, rfl⟩, rfl⟩
  | k_ + 2, h_ => exact absurd h_ (by simp)
 intro a h1 h2 h3 h4
 have t0 : a.eval (.tmp 0) = .slice pa l pc := (h3 0 (by decide)).trans rfl
 have t1 : a.eval (.tmp 1) = .slice ia n ic := (h3 1 (by decide)).trans rfl
 have t2 : a.eval (.tmp 2) = .slice ja m jc := (h3 2 (by decide)).trans rfl
 have A : a.tmps.size = 70 ∧ a.defers = [] := ⟨h1, h2⟩
 have BW : Below V.heap.size V V := Below.refl _ _
 clear h1 h2 h3 h4
 have BB := BW
 refine wp_seq (wp_seq ?_)
 by_cases hw : anyB bs n = true
 ·have hwr : ∀ X, Below V.heap.size V X → Calls Try.prog 65 #[.slice ia n ic] X fun e w' => e = .returned (.bool false) ∧ Below X.heap.size X w' := fun X hX => by have h_ := areBounds_any bs n _ X (FI.on hX) hn17; rw [hw] at h_; exact h_
  refine wp_se 70 [1, 2] [] (fun _ s X => Below V.heap.size V X) (fun s => fun i_ => match i_ with | 1 => .bool false | 2 => .bool true | _ => undef) () A (BB) (And.intro ?_ (And.intro ?_ trivial)) ?_
  ·exact fun s a X e hS => stepC rfl rfl (execCall1 Try.func65 (by kernel_rfl) (by kernel_rfl) rfl ((e (.tmp 16)).trans t1)) (hwr X hS) fun e w' hh => ⟨_, hh.1, s, ⟨_, rfl, rfl⟩, (hS).trans ((hh.2).mono (hS).size), ar⟩
  ·exact fun s a X e hS => stepV rfl rfl (execNot8 rfl (e (.tmp 17))) ⟨s, ⟨_, rfl, rfl⟩, hS, ar⟩
  rintro _ a X1 A e (BB : Below V.heap.size V X1)
  have t24 : a.eval (.tmp 24) = .bool true := e _
  replace t0 := kt e t0
  replace t1 := kt e t1
  replace t2 := kt e t2
  clear e
  refine wp_cond_true t24 ?_
  refine wp_seq ?_
  refine wp_se 70 [] [] (fun _ s X => Below V.heap.size V X) (fun s => fun _ => undef) () A (BB) trivial ?_
  rintro _ a X2 A e (BB : Below V.heap.size V X2)
  have t6 : a.eval (.tmp 6) = .slice none 0 0 := e _
  have t7 : a.eval (.tmp 7) = .int .i64 ((2 : Nat) : Int) := e _
  clear e t0 t1 t2
  have hE : trE p l bs n ws m = 2 := by unfold trE; rw [if_pos (Or.inl hw)]
  have hN : trN p l bs n ws m = 0 := by unfold trN; rw [if_neg (by rw [hE]; decide)]
  rw [hE, hN]
  refine wp_ret ?_
  repeat (first | with_reducible refine ret_in ?_ | with_reducible refine ret_then ?_)
  refine bodyPost_ret (results_tmp2 rfl _ _ _) A.2 ⟨_, ?_, Or.inl ⟨rfl, rfl⟩, BB⟩
  show Ending.returned (.tuple #[a.eval (.tmp 6), a.eval (.tmp 7)]) = _
  rw [t6, t7]
 ·have hwf := Bool.eq_false_iff.2 hw
  have hno := anyB_no hwf
  have hwr : ∀ X, Below V.heap.size V X → Calls Try.prog 65 #[.slice ia n ic] X fun e w' => e = .returned (.bool true) ∧ Below X.heap.size X w' := fun X hX => by have h_ := areBounds_any bs n _ X (FI.on hX) hn17; rw [hwf] at h_; exact h_
  by_cases hq : (decide (m = n) && !anyW bs ws m) = true
  ·have hwd : ∀ X, Below V.heap.size V X → Calls Try.prog 83 #[.slice ja m jc, .slice ia n ic] X fun e w' => e = .returned (.bool true) ∧ Below X.heap.size X w' := fun X hX => by have h_ := areDraws_any ws bs m n _ _ X (FJ.on hX) hm17 (FI.on hX) hn17; rw [hq] at h_; exact h_
   refine wp_se 70 [1, 2, 6, 7] [] (fun _ s X => Below V.heap.size V X) (fun s => fun i_ => match i_ with | 1 => .bool true | 2 => .bool false | 6 => .bool true | 7 => .bool false | _ => undef) () A (BB) (And.intro ?_ (And.intro ?_ (And.intro ?_ (And.intro ?_ trivial)))) ?_
   ·exact fun s a X e hS => stepC rfl rfl (execCall1 Try.func65 (by kernel_rfl) (by kernel_rfl) rfl ((e (.tmp 16)).trans t1)) (hwr X hS) fun e w' hh => ⟨_, hh.1, s, ⟨_, rfl, rfl⟩, (hS).trans ((hh.2).mono (hS).size), ar⟩
   ·exact fun s a X e hS => stepV rfl rfl (execNot8 rfl (e (.tmp 17))) ⟨s, ⟨_, rfl, rfl⟩, hS, ar⟩
   ·exact fun s a X e hS => stepC rfl (wy rfl rfl rfl (e (.tmp 19))) (execCall2 Try.func83 (by kernel_rfl) (by kernel_rfl) rfl ((e (.tmp 20)).trans t2) ((e (.tmp 21)).trans t1)) (hwd X hS) fun e w' hh => ⟨_, hh.1, s, ⟨_, rfl, rfl⟩, (hS).trans ((hh.2).mono (hS).size), ar⟩
   ·exact fun s a X e hS => stepV rfl (wy rfl rfl rfl (e (.tmp 19))) (execNot8 rfl (e (.tmp 22))) ⟨s, ⟨_, rfl, rfl⟩, hS, ar⟩
   rintro _ a X1 A e (BB : Below V.heap.size V X1)
   have t24 : a.eval (.tmp 24) = .bool false := e _
   replace t0 := kt e t0
   replace t1 := kt e t1
   replace t2 := kt e t2
   clear e
   refine wp_cond_false t24 (wp_skip ?_)
   clear t24 hwr hwd
   obtain ⟨hmn, hnm⟩ := alldraws hq
   subst hmn
   have hwo := anyW_no.1 hnm
   clear hq
   refine wp_seq ?_
   refine wp_se (σ := Nat) 70 [1, 2, 3] [2, 3] (fun k_ s X => match k_ with | 0 => Below V.heap.size V X | 1 => Below V.heap.size V X ∧ X.heap[s]? = some (.cells (tpC (fun _ => 0) 0 0) 108) ∧ (V.heap.size ≤ s) | _ => Below V.heap.size V X ∧ (V.heap.size ≤ s) ∧ X.heap[s]? = some (.cells (tpC p l 0) 108)) (fun s => fun i_ => match i_ with | 1 => .agg (tpC p l 0) | 2 => .pointer (some ⟨s, 0, none⟩) | _ => undef) 0 A (BB) (And.intro ?_ (And.intro ?_ (And.intro ?_ trivial))) ?_
   ·exact fun s a X e hS => stepC rfl rfl (execCall1 Try.func66 (by kernel_rfl) (by kernel_rfl) rfl ((e (.tmp 25)).trans t0)) (new_any p l _ X (hp.on hS)) fun e w' hh => ⟨_, hh.1, s, ⟨_, rfl, rfl⟩, (hS).trans ((hh.2).mono (hS).size), ar⟩
   ·intro s a X e hS
    refine stepV rfl rfl (execAllTp rfl (fun _ => 0)) ⟨X.heap.size, ⟨_, rfl, rfl⟩, ⟨(hS).trans (((belNew X _)).mono (hS).size), heapNew X _, (hS).size⟩, (And.intro (fun _ => rfl) (And.intro (fun h => absurd h (by decide)) (And.intro (fun h => absurd h (by decide)) trivial)))⟩
   ·exact fun s a X e hS => stepS rfl rfl (execStTp rfl (e (.tmp 8)) (e (.tmp 26)) hS.2.1 rfl) ⟨s, ⟨_, rfl, rfl⟩, ⟨below4 hS.1 hS.2.2 _, hS.2.2, setRow_heap _ _ _ _ _ _ hS.2.1⟩, ar⟩
   rintro g8 a X3 A e (hS : Below V.heap.size V X3 ∧ (V.heap.size ≤ g8) ∧ X3.heap[g8]? = some (.cells (tpC p l 0) 108))
   obtain ⟨BB, Fge8, F8⟩ := hS
   have t8 : a.eval (.tmp 8) = .pointer (some ⟨g8, 0, none⟩) := e _
   replace t0 := kt e t0
   replace t1 := kt e t1
   replace t2 := kt e t2
   clear e
   refine wp_seq ?_
   refine wp_se (σ := Value) 70 [1] [1] (fun k_ s X => match k_ with | 0 => Below V.heap.size V X ∧ (V.heap.size ≤ g8) ∧ X.heap[g8]? = some (.cells (tpC p l 0) 108) | _ => Below V.heap.size V X ∧ (V.heap.size ≤ g8) ∧ X.heap[g8]? = some (.cells (tpC p l 0) 108) ∧ (X.ownsRow V.heap.size 5 1 s l (bytesL l p))) (fun s => fun i_ => match i_ with | 1 => s | _ => undef) undef A ⟨BB, Fge8, F8⟩ (And.intro ?_ trivial) ?_
   ·intro s a X e hS
    refine stepC rfl rfl (execCall1 Try.func39 (by kernel_rfl) (by kernel_rfl) rfl ((e (.tmp 27)).trans t0)) (clone9 p l _ X (hp.on hS.1) hl) fun e w' hh => ?_
    obtain ⟨r_, he, hk, hb⟩ := hh
    refine ⟨_, he, r_, ⟨_, rfl, rfl⟩, ⟨(hS.1).trans ((hb).mono (hS.1).size), hS.2.1, (on9 hS.2.2 hb), ownD_base hk (hS.1).size⟩, (And.intro (fun h => absurd h (by decide)) trivial)⟩
   rintro u9 a X4 A e (hS : Below V.heap.size V X4 ∧ (V.heap.size ≤ g8) ∧ X4.heap[g8]? = some (.cells (tpC p l 0) 108) ∧ (X4.ownsRow V.heap.size 5 1 u9 l (bytesL l p)))
   obtain ⟨BB, Fge8, F8, FQ⟩ := hS
   have t9 : a.eval (.tmp 9) = u9 := e _
   replace t0 := kt e t0
   replace t1 := kt e t1
   replace t2 := kt e t2
   replace t8 := kt e t8
   clear e
   refine wp_seq (wp_seq ?_)
   refine wp_se 70 [1] [] (fun _ s X => Below V.heap.size V X ∧ (V.heap.size ≤ g8) ∧ X.heap[g8]? = some (.cells (tpC p l 0) 108) ∧ (X.ownsRow V.heap.size 5 1 u9 l (bytesL l p))) (fun s => fun i_ => match i_ with | 1 => .int .i64 ((m : Nat) : Int) | _ => undef) () A ⟨BB, Fge8, F8, FQ⟩ (And.intro ?_ trivial) ?_
   ·exact fun s a X e hS => stepV rfl rfl (execLenI (len := m) rfl ((e (.tmp 29)).trans t1) ((FI.on hS.1)).shp) ⟨s, ⟨_, rfl, rfl⟩, hS, ar⟩
   rintro _ a X5 A e (hS : Below V.heap.size V X5 ∧ (V.heap.size ≤ g8) ∧ X5.heap[g8]? = some (.cells (tpC p l 0) 108) ∧ (X5.ownsRow V.heap.size 5 1 u9 l (bytesL l p)))
   obtain ⟨BB, Fge8, F8, FQ⟩ := hS
   have t29 : a.eval (.tmp 29) = .slice ia m ic := (e _).trans t1
   have t30 : a.eval (.tmp 30) = .int .i64 ((m : Nat) : Int) := e _
   have t31 : a.eval (.tmp 31) = .int .i64 ((0 : Nat) : Int) := e _
   replace t0 := kt e t0
   replace t2 := kt e t2
   replace t8 := kt e t8
   replace t9 := kt e t9
   clear e t1
   refine wp_block ?_
   refine wp_loop (fun a W => ∃ (i : Nat) (u : Value), i ≤ m ∧ okA p l bs i ∧ (a.tmps.size = 70 ∧ a.defers = []) ∧ a.eval (.tmp 0) = .slice pa l pc ∧ a.eval (.tmp 2) = .slice ja m jc ∧ a.eval (.tmp 8) = .pointer (some ⟨g8, 0, none⟩) ∧ a.eval (.tmp 9) = u ∧ a.eval (.tmp 29) = .slice ia m ic ∧ a.eval (.tmp 30) = .int .i64 ((m : Nat) : Int) ∧ a.eval (.tmp 31) = .int .i64 ((i : Nat) : Int) ∧ Below V.heap.size V W ∧ W.heap[g8]? = some (.cells (tpC p l (plA p l bs i)) 108) ∧ W.ownsRow V.heap.size 5 1 u l (bytesL l (trF p l bs ws i))) (fun a _ => m - (intOf (a.eval (.tmp 31))).toNat) ⟨0, _, Nat.zero_le _, (fun i hi => absurd hi (Nat.not_lt_zero _)), A, t0, t2, t8, t9, t29, t30, t31, BB, F8, FQ⟩ ?_
   rintro a XM ⟨i, u, hi, hok, A, t0, t2, t8, t9, t29, t30, t31, BB, F8, FQ⟩
   have e31 := t31
   refine wp_seq ?_
   refine wp_se 70 [0] [] (fun _ s X => Below V.heap.size V X ∧ X.heap[g8]? = some (.cells (tpC p l (plA p l bs i)) 108) ∧ (X.ownsRow V.heap.size 5 1 u l (bytesL l (trF p l bs ws (i)))) ∧ (V.heap.size ≤ g8)) (fun s => fun i_ => match i_ with | 0 => .bool (decide (i < m)) | _ => undef) () A ⟨BB, F8, FQ, Fge8⟩ (And.intro ?_ trivial) ?_
   ·exact fun s a X e hS => stepV rfl rfl (execLtW (p := i) (q := m) rfl ((e (.tmp 31)).trans t31) ((e (.tmp 30)).trans t30)) ⟨s, ⟨_, rfl, rfl⟩, hS, ar⟩
   rintro _ a X6 A e (hS : Below V.heap.size V X6 ∧ X6.heap[g8]? = some (.cells (tpC p l (plA p l bs i)) 108) ∧ (X6.ownsRow V.heap.size 5 1 u l (bytesL l (trF p l bs ws (i)))) ∧ (V.heap.size ≤ g8))
   obtain ⟨BB, F8, FQ, Fge8⟩ := hS
   have t32 : a.eval (.tmp 32) = .bool (decide (i < m)) := e _
   replace t0 := kt e t0
   replace t2 := kt e t2
   replace t8 := kt e t8
   replace t9 := kt e t9
   replace t29 := kt e t29
   replace t30 := kt e t30
   replace t31 := kt e t31
   clear e
   refine wp_seq ?_
   by_cases hlt : i < m
   ·rw [decide_eq_true hlt] at t32
    refine wp_cond_true t32 (wp_skip ?_)
    clear t32
    obtain ⟨ib, io, rfl, hib, hcell⟩ := hsh (by omega)
    obtain ⟨jb, jo, rfl, hjb, hcelj⟩ := hsj (by omega)
    have cI : ∀ X, Below V.heap.size V X → X.cell? ⟨ib, io + i, none⟩ = some (.int .i64 (bs i)) := fun X hX => by rw [cell_below hX hib]; exact hcell i hlt
    have cJ : ∀ X, Below V.heap.size V X → X.cell? ⟨jb, jo + i, none⟩ = some (.int .i64 (ws i)) := fun X hX => by rw [cell_below hX hjb]; exact hcelj i hlt
    refine wp_seq (wp_block ?_)
    refine wp_seq ?_
    refine wp_se 70 [1, 2] [] (fun _ s X => Below V.heap.size V X ∧ X.heap[g8]? = some (.cells (tpC p l (plA p l bs i)) 108) ∧ (X.ownsRow V.heap.size 5 1 u l (bytesL l (trF p l bs ws (i)))) ∧ (V.heap.size ≤ g8)) (fun s => fun i_ => match i_ with | 1 => .pointer (some ⟨ib, io + i, none⟩) | 2 => .int .i64 (bs i) | _ => undef) () A ⟨BB, F8, FQ, Fge8⟩ (And.intro ?_ (And.intro ?_ trivial)) ?_
    ·exact fun s a X e hS => stepV rfl rfl (execIdxN (k := i) rfl ((e (.tmp 29)).trans t29) ((e (.tmp 31)).trans t31) hlt) ⟨s, ⟨_, rfl, rfl⟩, hS, ar⟩
    ·exact fun s a X e hS => stepV rfl rfl (execLd3 rfl (e (.tmp 34)) (cI X hS.1)) ⟨s, ⟨_, rfl, rfl⟩, hS, ar⟩
    rintro _ a X7 A e (hS : Below V.heap.size V X7 ∧ X7.heap[g8]? = some (.cells (tpC p l (plA p l bs i)) 108) ∧ (X7.ownsRow V.heap.size 5 1 u l (bytesL l (trF p l bs ws (i)))) ∧ (V.heap.size ≤ g8))
    obtain ⟨BB, F8, FQ, Fge8⟩ := hS
    have t10 : a.eval (.tmp 10) = .int .i64 ((i : Nat) : Int) := (e _).trans t31
    have t11 : a.eval (.tmp 11) = .int .i64 (bs i) := e _
    replace t0 := kt e t0
    replace t2 := kt e t2
    replace t8 := kt e t8
    replace t9 := kt e t9
    replace t29 := kt e t29
    replace t30 := kt e t30
    replace t31 := kt e t31
    clear e
    refine wp_seq ?_
    refine wp_se (σ := Nat) 70 [0, 2, 7, 9] [7, 9] (fun k_ s X => match k_ with | 0 => Below V.heap.size V X ∧ X.heap[g8]? = some (.cells (tpC p l (plA p l bs i)) 108) ∧ (X.ownsRow V.heap.size 5 1 u l (bytesL l (trF p l bs ws (i)))) ∧ (V.heap.size ≤ g8) | 1 => Below V.heap.size V X ∧ X.heap[g8]? = some (.cells (tpC p l (plA p l bs i)) 108) ∧ (X.ownsRow V.heap.size 5 1 u l (bytesL l (trF p l bs ws (i)))) ∧ (V.heap.size ≤ g8) ∧ X.heap[s]? = some (.cells (tpC (fun _ => 0) 0 0) 108) ∧ (V.heap.size ≤ s) ∧ (g8 ≠ s) | _ => Below V.heap.size V X ∧ X.heap[g8]? = some (.cells (tpC p l (plA p l bs i)) 108) ∧ (X.ownsRow V.heap.size 5 1 u l (bytesL l (trF p l bs ws (i)))) ∧ (V.heap.size ≤ g8) ∧ (V.heap.size ≤ s) ∧ (g8 ≠ s) ∧ X.heap[s]? = some (.cells (tpC p (if dE p l (plA p l bs i) (bs i) = 0 then l else 0) (dN p l (plA p l bs i) (bs i))) 108)) (fun s => fun i_ => match i_ with | 0 => .agg (tpC p l (plA p l bs i)) | 2 => .tuple #[.int .i64 ((dV p l (plA p l bs i) (bs i) : Nat) : Int), .agg (tpC p (if dE p l (plA p l bs i) (bs i) = 0 then l else 0) (dN p l (plA p l bs i) (bs i))), .int .i64 ((dE p l (plA p l bs i) (bs i) : Nat) : Int)] | 7 => .pointer (some ⟨s, 0, none⟩) | _ => undef) 0 A ⟨BB, F8, FQ, Fge8⟩ (And.intro ?_ (And.intro ?_ (And.intro ?_ (And.intro ?_ trivial)))) ?_
    ·exact fun s a X e hS => stepV rfl rfl (execLdTp rfl ((e (.tmp 8)).trans t8) hS.2.1) ⟨s, ⟨_, rfl, rfl⟩, hS, ar⟩
    ·exact fun s a X e hS => stepC rfl rfl (execCall2 Try.func67 (by kernel_rfl) (by kernel_rfl) rfl (e (.tmp 37)) ((e (.tmp 38)).trans t11)) (pbelow_any p l (plA p l bs i) (bs i) X (plA_le p l bs i) hl hpb) fun e w' hh => ⟨_, hh.1, s, ⟨_, rfl, rfl⟩, ⟨(hS.1).trans ((hh.2).mono (hS.1).size), (on9 hS.2.1 hh.2), (ownD_below hS.2.2.1 hh.2), hS.2.2.2⟩, ar⟩
    ·intro s a X e hS
     refine stepV rfl rfl (execAllTp rfl (fun _ => 0)) ⟨X.heap.size, ⟨_, rfl, rfl⟩, ⟨(hS.1).trans (((belNew X _)).mono (hS.1).size), (on9 hS.2.1 (belNew X _)), (ownD_below hS.2.2.1 (belNew X _)), hS.2.2.2, heapNew X _, (hS.1).size, ne9 hS.2.1⟩, (And.intro (fun _ => rfl) (And.intro (fun _ => rfl) (And.intro (fun h => absurd h (by decide)) (And.intro (fun h => absurd h (by decide)) trivial))))⟩
    ·exact fun s a X e hS => stepS rfl rfl (execStTp rfl (e (.tmp 13)) (e (.tmp 41)) hS.2.2.2.2.1 rfl) ⟨s, ⟨_, rfl, rfl⟩, ⟨below4 hS.1 hS.2.2.2.2.2.1 _, (by rw [setRow_other _ _ _ _ (hS.2.2.2.2.2.2)]; exact hS.2.1), (own_setT hS.2.2.1 hS.2.2.2.2.1 (by decide)), hS.2.2.2.1, hS.2.2.2.2.2.1, hS.2.2.2.2.2.2, setRow_heap _ _ _ _ _ _ hS.2.2.2.2.1⟩, ar⟩
    rintro g13 a X8 A e (hS : Below V.heap.size V X8 ∧ X8.heap[g8]? = some (.cells (tpC p l (plA p l bs i)) 108) ∧ (X8.ownsRow V.heap.size 5 1 u l (bytesL l (trF p l bs ws (i)))) ∧ (V.heap.size ≤ g8) ∧ (V.heap.size ≤ g13) ∧ (g8 ≠ g13) ∧ X8.heap[g13]? = some (.cells (tpC p (if dE p l (plA p l bs i) (bs i) = 0 then l else 0) (dN p l (plA p l bs i) (bs i))) 108))
    obtain ⟨BB, F8, FQ, Fge8, Fge13, Fn13F8, F13⟩ := hS
    have t12 : a.eval (.tmp 12) = .int .i64 ((dV p l (plA p l bs i) (bs i) : Nat) : Int) := e _
    have t13 : a.eval (.tmp 13) = .pointer (some ⟨g13, 0, none⟩) := e _
    have t14 : a.eval (.tmp 14) = .int .i64 ((dE p l (plA p l bs i) (bs i) : Nat) : Int) := e _
    replace t0 := kt e t0
    replace t2 := kt e t2
    replace t8 := kt e t8
    replace t9 := kt e t9
    replace t29 := kt e t29
    replace t30 := kt e t30
    replace t31 := kt e t31
    replace t10 := kt e t10
    replace t11 := kt e t11
    clear e
    refine wp_seq (wp_seq ?_)
    refine wp_se 70 [1] [] (fun _ s X => Below V.heap.size V X ∧ X.heap[g8]? = some (.cells (tpC p l (plA p l bs i)) 108) ∧ (X.ownsRow V.heap.size 5 1 u l (bytesL l (trF p l bs ws (i)))) ∧ (V.heap.size ≤ g8) ∧ (V.heap.size ≤ g13) ∧ (g8 ≠ g13) ∧ X.heap[g13]? = some (.cells (tpC p (if dE p l (plA p l bs i) (bs i) = 0 then l else 0) (dN p l (plA p l bs i) (bs i))) 108)) (fun s => fun i_ => match i_ with | 1 => .bool (decide (dE p l (plA p l bs i) (bs i) ≠ 0)) | _ => undef) () A ⟨BB, F8, FQ, Fge8, Fge13, Fn13F8, F13⟩ (And.intro ?_ trivial) ?_
    ·exact fun s a X e hS => stepV rfl rfl (execNeE (p := dE p l (plA p l bs i) (bs i)) (q := 0) rfl ((e (.tmp 43)).trans t14) rfl) ⟨s, ⟨_, rfl, rfl⟩, hS, ar⟩
    rintro _ a X9 A e (hS : Below V.heap.size V X9 ∧ X9.heap[g8]? = some (.cells (tpC p l (plA p l bs i)) 108) ∧ (X9.ownsRow V.heap.size 5 1 u l (bytesL l (trF p l bs ws (i)))) ∧ (V.heap.size ≤ g8) ∧ (V.heap.size ≤ g13) ∧ (g8 ≠ g13) ∧ X9.heap[g13]? = some (.cells (tpC p (if dE p l (plA p l bs i) (bs i) = 0 then l else 0) (dN p l (plA p l bs i) (bs i))) 108))
    obtain ⟨BB, F8, FQ, Fge8, Fge13, Fn13F8, F13⟩ := hS
    have t44 : a.eval (.tmp 44) = .bool (decide (dE p l (plA p l bs i) (bs i) ≠ 0)) := e _
    replace t0 := kt e t0
    replace t2 := kt e t2
    replace t8 := kt e t8
    replace t9 := kt e t9
    replace t29 := kt e t29
    replace t30 := kt e t30
    replace t31 := kt e t31
    replace t10 := kt e t10
    replace t11 := kt e t11
    replace t12 := kt e t12
    replace t13 := kt e t13
    replace t14 := kt e t14
    clear e
    by_cases hE0 : dE p l (plA p l bs i) (bs i) = 0
    ·rw [decide_eq_false (by omega)] at t44
     refine wp_cond_false t44 (wp_skip ?_)
     clear t44 t14
     rw [if_pos hE0] at F13
     have hok2 := okA_succ hok hE0
     replace F13 : X9.heap[g13]? = some (.cells (tpC p l (plA p l bs (i + 1))) 108) := F13
     refine wp_seq ?_
     refine wp_se 70 [0, 1] [1] (fun k_ s X => match k_ with | 0 => Below V.heap.size V X ∧ X.heap[g8]? = some (.cells (tpC p l (plA p l bs i)) 108) ∧ (X.ownsRow V.heap.size 5 1 u l (bytesL l (trF p l bs ws (i)))) ∧ (V.heap.size ≤ g8) ∧ (V.heap.size ≤ g13) ∧ (g8 ≠ g13) ∧ X.heap[g13]? = some (.cells (tpC p l (plA p l bs (i + 1))) 108) | _ => Below V.heap.size V X ∧ (X.ownsRow V.heap.size 5 1 u l (bytesL l (trF p l bs ws (i)))) ∧ (V.heap.size ≤ g8) ∧ (V.heap.size ≤ g13) ∧ (g8 ≠ g13) ∧ X.heap[g8]? = some (.cells (tpC p l (plA p l bs (i + 1))) 108)) (fun s => fun i_ => match i_ with | 0 => .agg (tpC p l (plA p l bs (i + 1))) | _ => undef) () A ⟨BB, F8, FQ, Fge8, Fge13, Fn13F8, F13⟩ (And.intro ?_ (And.intro ?_ trivial)) ?_
     ·exact fun s a X e hS => stepV rfl rfl (execLdTp rfl ((e (.tmp 13)).trans t13) hS.2.2.2.2.2.2) ⟨s, ⟨_, rfl, rfl⟩, hS, ar⟩
     ·exact fun s a X e hS => stepS rfl rfl (execStTp rfl ((e (.tmp 8)).trans t8) (e (.tmp 46)) hS.2.1 rfl) ⟨s, ⟨_, rfl, rfl⟩, ⟨below4 hS.1 hS.2.2.2.1 _, (own_setT hS.2.2.1 hS.2.1 (by decide)), hS.2.2.2.1, hS.2.2.2.2.1, hS.2.2.2.2.2.1, setRow_heap _ _ _ _ _ _ hS.2.1⟩, ar⟩
     rintro _ a X11 A e (hS : Below V.heap.size V X11 ∧ (X11.ownsRow V.heap.size 5 1 u l (bytesL l (trF p l bs ws (i)))) ∧ (V.heap.size ≤ g8) ∧ (V.heap.size ≤ g13) ∧ (g8 ≠ g13) ∧ X11.heap[g8]? = some (.cells (tpC p l (plA p l bs (i + 1))) 108))
     obtain ⟨BB, FQ, Fge8, Fge13, Fn13F8, F8⟩ := hS
     replace t0 := kt e t0
     replace t2 := kt e t2
     replace t8 := kt e t8
     replace t9 := kt e t9
     replace t29 := kt e t29
     replace t30 := kt e t30
     replace t31 := kt e t31
     replace t10 := kt e t10
     replace t11 := kt e t11
     replace t12 := kt e t12
     clear e t13
     refine wp_seq ?_
     by_cases hb1 : bs i = 1
     ·refine wp_se 70 [1] [] (fun _ s X => Below V.heap.size V X ∧ (X.ownsRow V.heap.size 5 1 u l (bytesL l (trF p l bs ws (i)))) ∧ (V.heap.size ≤ g8) ∧ (V.heap.size ≤ g13) ∧ (g8 ≠ g13) ∧ X.heap[g8]? = some (.cells (tpC p l (plA p l bs (i + 1))) 108)) (fun s => fun i_ => match i_ with | 1 => .bool false | _ => undef) () A ⟨BB, FQ, Fge8, Fge13, Fn13F8, F8⟩ (And.intro ?_ trivial) ?_
      ·exact fun s a X e hS => stepV rfl rfl (execGtCf (p := (bs i)) (q := 1) rfl ((e (.tmp 47)).trans t11) (by clear hS; omega)) ⟨s, ⟨_, rfl, rfl⟩, hS, ar⟩
      rintro _ a X12 A e (hS : Below V.heap.size V X12 ∧ (X12.ownsRow V.heap.size 5 1 u l (bytesL l (trF p l bs ws (i)))) ∧ (V.heap.size ≤ g8) ∧ (V.heap.size ≤ g13) ∧ (g8 ≠ g13) ∧ X12.heap[g8]? = some (.cells (tpC p l (plA p l bs (i + 1))) 108))
      obtain ⟨BB, FQ, Fge8, Fge13, Fn13F8, F8⟩ := hS
      have t48 : a.eval (.tmp 48) = .bool false := e _
      replace t0 := kt e t0
      replace t2 := kt e t2
      replace t8 := kt e t8
      replace t9 := kt e t9
      replace t29 := kt e t29
      replace t30 := kt e t30
      replace t31 := kt e t31
      clear e t10 t11 t12
      refine wp_cond_false t48 (wp_skip ?_)
      clear t48
      have FQ2 : X12.ownsRow V.heap.size 5 1 u l (bytesL l (trF p l bs ws (i + 1))) := by rw [bytesL_congr (f := trF p l bs ws (i + 1)) (g := trF p l bs ws i) (fun j _ => if_neg (fun q => q.1 hb1))]; exact FQ
      clear FQ
      refine wp_se 70 [0] [] (fun _ s X => Below V.heap.size V X ∧ (V.heap.size ≤ g8) ∧ (V.heap.size ≤ g13) ∧ (g8 ≠ g13) ∧ X.heap[g8]? = some (.cells (tpC p l (plA p l bs (i + 1))) 108) ∧ (X.ownsRow V.heap.size 5 1 u l (bytesL l (trF p l bs ws (i + 1))))) (fun s => fun i_ => match i_ with | 0 => .int .i64 ((i + 1 : Nat) : Int) | _ => undef) () A ⟨BB, Fge8, Fge13, Fn13F8, F8, FQ2⟩ (And.intro ?_ trivial) ?_
      ·exact fun s a X e hS => stepV rfl rfl (execAd8 (p := i) (q := 1) rfl ((e (.tmp 31)).trans t31) rfl (by clear hS; omega)) ⟨s, ⟨_, rfl, rfl⟩, hS, ar⟩
      rintro _ a X15 A e (hS : Below V.heap.size V X15 ∧ (V.heap.size ≤ g8) ∧ (V.heap.size ≤ g13) ∧ (g8 ≠ g13) ∧ X15.heap[g8]? = some (.cells (tpC p l (plA p l bs (i + 1))) 108) ∧ (X15.ownsRow V.heap.size 5 1 u l (bytesL l (trF p l bs ws (i + 1)))))
      obtain ⟨BB, Fge8, Fge13, Fn13F8, F8, FQ2⟩ := hS
      replace t31 : a.eval (.tmp 31) = .int .i64 ((i + 1 : Nat) : Int) := e _
      replace t0 := kt e t0
      replace t2 := kt e t2
      replace t8 := kt e t8
      replace t9 := kt e t9
      replace t29 := kt e t29
      replace t30 := kt e t30
      clear e
      exact ⟨⟨i + 1, _, hlt, hok2, A, t0, t2, t8, t9, t29, t30, t31, BB, F8, FQ2⟩, by show m - (intOf (a.eval (.tmp 31))).toNat < m - (intOf (Act.eval _ (.tmp 31))).toNat; rw [t31, e31]; show m - (i + 1) < m - i; omega⟩
     ·obtain ⟨hS1, hSl, hSg⟩ := (plA_step hok2 (Nat.lt_succ_self i)).2 hb1
      have hDA := dA_is hok2 (Nat.lt_succ_self i) hb1
      have hTP := (tp_is hok2 (Nat.lt_succ_self i) hb1).1
      obtain ⟨S, eS⟩ : ∃ S, dS p l (plA p l bs i) (bs i) = S := ⟨_, rfl⟩
      rw [eS] at hS1 hSl hSg hTP
      obtain ⟨D, eD⟩ : ∃ D, dV p l (plA p l bs i) (bs i) = D := ⟨_, rfl⟩
      have hDS : D = p S % (bs i).toNat := by rw [← eD, ← hTP]; exact hDA
      have hDle : D ≤ p S := by rw [hDS]; exact Nat.mod_le _ _
      rw [hS1] at F8
      rw [eD] at t12
      obtain ⟨w0, ew⟩ : ∃ w0 : Nat, ws i = w0 := ⟨(ws i).toNat, by have := hwo i hlt; omega⟩
      have hpS := hp.bytes S hSl
      have hbp := ok_pos hok2 (Nat.lt_succ_self i)
      have hwl : w0 < (bs i).toNat := by have := hwo i hlt; omega
      have hb256 : (bs i).toNat ≤ 256 := by have := hno i hlt; unfold bad at this; omega
      have hhit : p S / (bs i).toNat < 256 / (bs i).toNat := by
       have h9 := scan_hit p (bs i).toNat (l - plA p l bs i) (plA p l bs i) (by
        have : scan p (bs i).toNat (l - plA p l bs i) (plA p l bs i) = S := eS
        rw [this]
        omega)
       have h10 : scan p (bs i).toNat (l - plA p l bs i) (plA p l bs i) = S := eS
       rw [h10] at h9
       exact h9
      have hz256 : p S - D + w0 < 256 := by rw [hDS]; exact turned_lt _ _ _ hwl hhit (by omega)
      have cJ2 : ∀ X, Below V.heap.size V X → X.cell? ⟨jb, jo + i, none⟩ = some (.int .i64 ((w0 : Nat) : Int)) := fun X hX => by rw [cJ X hX, ew]
      obtain ⟨pb, po, rfl, hpb2, hcp⟩ := hsp (by omega)
      have cP : ∀ X, Below V.heap.size V X → X.cell? ⟨pb, po + S, none⟩ = some (.int .u8 ((p S : Nat) : Int)) := fun X hX => by rw [cell_below hX hpb2]; exact hcp S hSl
      obtain ⟨qg, qc, rfl, hqV, _⟩ := ownL_some9 FQ (by omega)
      refine wp_se 70 [1] [] (fun _ s X => Below V.heap.size V X ∧ (X.ownsRow V.heap.size 5 1 (.slice (some ⟨qg, 0, none⟩) l qc) l (bytesL l (trF p l bs ws (i)))) ∧ (V.heap.size ≤ g8) ∧ (V.heap.size ≤ g13) ∧ (g8 ≠ g13) ∧ X.heap[g8]? = some (.cells (tpC p l (S + 1)) 108)) (fun s => fun i_ => match i_ with | 1 => .bool true | _ => undef) () A ⟨BB, FQ, Fge8, Fge13, Fn13F8, F8⟩ (And.intro ?_ trivial) ?_
      ·exact fun s a X e hS => stepV rfl rfl (execGtCt (p := (bs i)) (q := 1) rfl ((e (.tmp 47)).trans t11) (by clear hS; omega)) ⟨s, ⟨_, rfl, rfl⟩, hS, ar⟩
      rintro _ a X12 A e (hS : Below V.heap.size V X12 ∧ (X12.ownsRow V.heap.size 5 1 (.slice (some ⟨qg, 0, none⟩) l qc) l (bytesL l (trF p l bs ws (i)))) ∧ (V.heap.size ≤ g8) ∧ (V.heap.size ≤ g13) ∧ (g8 ≠ g13) ∧ X12.heap[g8]? = some (.cells (tpC p l (S + 1)) 108))
      obtain ⟨BB, FQ, Fge8, Fge13, Fn13F8, F8⟩ := hS
      have t48 : a.eval (.tmp 48) = .bool true := e _
      replace t0 := kt e t0
      replace t2 := kt e t2
      replace t8 := kt e t8
      replace t9 := kt e t9
      replace t29 := kt e t29
      replace t30 := kt e t30
      replace t31 := kt e t31
      replace t10 := kt e t10
      replace t12 := kt e t12
      clear e t11
      refine wp_cond_true t48 ?_
      clear t48
      refine wp_seq ?_
      refine wp_se 70 [0, 1, 2] [] (fun _ s X => Below V.heap.size V X ∧ (X.ownsRow V.heap.size 5 1 (.slice (some ⟨qg, 0, none⟩) l qc) l (bytesL l (trF p l bs ws (i)))) ∧ (V.heap.size ≤ g8) ∧ (V.heap.size ≤ g13) ∧ (g8 ≠ g13) ∧ X.heap[g8]? = some (.cells (tpC p l (S + 1)) 108)) (fun s => fun i_ => match i_ with | 0 => .agg (tpC p l (S + 1)) | 1 => .int .i64 (((S + 1) : Nat) : Int) | 2 => .int .i64 ((S : Nat) : Int) | _ => undef) () A ⟨BB, FQ, Fge8, Fge13, Fn13F8, F8⟩ (And.intro ?_ (And.intro ?_ (And.intro ?_ trivial))) ?_
      ·exact fun s a X e hS => stepV rfl rfl (execLdTp rfl ((e (.tmp 8)).trans t8) hS.2.2.2.2.2) ⟨s, ⟨_, rfl, rfl⟩, hS, ar⟩
      ·exact fun s a X e hS => stepC rfl rfl (execCall1 Try.func68 (by kernel_rfl) (by kernel_rfl) rfl (e (.tmp 49))) (used_any p l (S + 1) X) fun e w' hh => ⟨_, hh.1, s, ⟨_, rfl, rfl⟩, ⟨(hS.1).trans ((hh.2).mono (hS.1).size), (ownD_below hS.2.1 hh.2), hS.2.2.1, hS.2.2.2.1, hS.2.2.2.2.1, (on9 hS.2.2.2.2.2 hh.2)⟩, ar⟩
      ·exact fun s a X e hS => stepV rfl rfl (By8.execSubI (p := S + 1) (q := 1) rfl (e (.tmp 50)) rfl (by clear hS; omega) (by clear hS; omega)) ⟨s, ⟨_, rfl, rfl⟩, hS, ar⟩
      rintro _ a X13 A e (hS : Below V.heap.size V X13 ∧ (X13.ownsRow V.heap.size 5 1 (.slice (some ⟨qg, 0, none⟩) l qc) l (bytesL l (trF p l bs ws (i)))) ∧ (V.heap.size ≤ g8) ∧ (V.heap.size ≤ g13) ∧ (g8 ≠ g13) ∧ X13.heap[g8]? = some (.cells (tpC p l (S + 1)) 108))
      obtain ⟨BB, FQ, Fge8, Fge13, Fn13F8, F8⟩ := hS
      have t15 : a.eval (.tmp 15) = .int .i64 ((S : Nat) : Int) := e _
      replace t0 := kt e t0
      replace t2 := kt e t2
      replace t8 := kt e t8
      replace t9 := kt e t9
      replace t29 := kt e t29
      replace t30 := kt e t30
      replace t31 := kt e t31
      replace t10 := kt e t10
      replace t12 := kt e t12
      clear e
      refine wp_region_stB (σ := Unit) 70 [(0, 52), (1, 53), (2, 54), (3, 55), (4, 56), (5, 57), (6, 58), (7, 59), (8, 60), (9, 61), (10, 62), (11, 63), (12, 64), (13, 65), (14, 66), (15, 67)] (fun l_ s X => Below V.heap.size V X ∧ (l_ 16 = false → (X.ownsRow V.heap.size 5 1 (.slice (some ⟨qg, 0, none⟩) l qc) l (bytesL l (trF p l bs ws (i))))) ∧ ((V.heap.size ≤ g8)) ∧ ((V.heap.size ≤ g13)) ∧ ((g8 ≠ g13)) ∧ (X.heap[g8]? = some (.cells (tpC p l (S + 1)) 108)) ∧ (l_ 16 = true → (X.ownsRow V.heap.size 5 1 (.slice (some ⟨qg, 0, none⟩) l qc) l (bytesL l (trF p l bs ws (i + 1)))))) (fun s => fun i_ => match i_ with | 0 => .slice (some ⟨qg, 0, none⟩) l qc | 1 => .int .i64 ((S : Nat) : Int) | 2 => .slice (some ⟨pb, po, none⟩) l pc | 3 => .int .i64 ((S : Nat) : Int) | 4 => .pointer (some ⟨pb, po + S, none⟩) | 5 => .int .u8 ((p S : Nat) : Int) | 6 => .int .i64 ((D : Nat) : Int) | 7 => .int .u8 ((D : Nat) : Int) | 8 => .int .u8 ((p S - D : Nat) : Int) | 9 => .slice (some ⟨jb, jo, none⟩) m jc | 10 => .int .i64 ((i : Nat) : Int) | 11 => .pointer (some ⟨jb, jo + i, none⟩) | 12 => .int .i64 ((w0 : Nat) : Int) | 13 => .int .u8 ((w0 : Nat) : Int) | 14 => .int .u8 ((p S - D + w0 : Nat) : Int) | 15 => .pointer (some ⟨qg, 0 + S, none⟩) | 16 => undef | _ => undef) () (by kernel_rfl) (by kernel_rfl) A.1 (by kernel_rfl) (by decide) (by decide) ⟨(BB.drew), (fun _ => (ownD_below FQ (Below.refl _ _).drew)), (Fge8), (Fge13), (Fn13F8), ((on9 F8 (Below.refl _ _).drew)), (fun q0_ => by cases q0_)⟩ ?_ ?_
      ·intro i_ hi_ l_ s a X hl_ hf hdep hl2 hcl hno hT
       have up : ∀ j x, x ≠ j → updB l_ j x = l_ x := fun j x hj => by unfold updB; simp [hj]
       match i_, hi_ with
       | 0, _ => exact stepV rfl rfl (execMvB rfl ((hf 9 (by decide)).trans t9)) ⟨s, ⟨_, rfl, rfl⟩, ⟨hT.1, (fun q0_ => (hT.2.1 (by rw [up 0 16 (by decide)] at q0_; exact q0_))), (hT.2.2.1), (hT.2.2.2.1), (hT.2.2.2.2.1), (hT.2.2.2.2.2.1), (fun q0_ => absurd (hl_.symm.trans (hcl 16 _ rfl ((up 0 16 (by decide)).symm.trans q0_) 0 rfl)) (by decide))⟩, fun _ _ _ => rfl⟩
       | 1, _ => exact stepV rfl rfl (execMvB rfl ((hf 15 (by decide)).trans t15)) ⟨s, ⟨_, rfl, rfl⟩, ⟨hT.1, (fun q0_ => (hT.2.1 (by rw [up 1 16 (by decide)] at q0_; exact q0_))), (hT.2.2.1), (hT.2.2.2.1), (hT.2.2.2.2.1), (hT.2.2.2.2.2.1), (fun q0_ => absurd (hl_.symm.trans (hcl 16 _ rfl ((up 1 16 (by decide)).symm.trans q0_) 1 rfl)) (by decide))⟩, fun _ _ _ => rfl⟩
       | 2, _ => exact stepV rfl rfl (execMvB rfl ((hf 0 (by decide)).trans t0)) ⟨s, ⟨_, rfl, rfl⟩, ⟨hT.1, (fun q0_ => (hT.2.1 (by rw [up 2 16 (by decide)] at q0_; exact q0_))), (hT.2.2.1), (hT.2.2.2.1), (hT.2.2.2.2.1), (hT.2.2.2.2.2.1), (fun q0_ => absurd (hl_.symm.trans (hcl 16 _ rfl ((up 2 16 (by decide)).symm.trans q0_) 2 rfl)) (by decide))⟩, fun _ _ _ => rfl⟩
       | 3, _ => exact stepV rfl rfl (execMvB rfl ((hf 15 (by decide)).trans t15)) ⟨s, ⟨_, rfl, rfl⟩, ⟨hT.1, (fun q0_ => (hT.2.1 (by rw [up 3 16 (by decide)] at q0_; exact q0_))), (hT.2.2.1), (hT.2.2.2.1), (hT.2.2.2.2.1), (hT.2.2.2.2.2.1), (fun q0_ => absurd (hl_.symm.trans (hcl 16 _ rfl ((up 3 16 (by decide)).symm.trans q0_) 3 rfl)) (by decide))⟩, fun _ _ _ => rfl⟩
       | 4, _ => exact stepV rfl rfl (execIdxB9 (k := S) rfl (hdep _ rfl 2 rfl _ rfl _ rfl) (hdep _ rfl 3 rfl _ rfl _ rfl) hSl) ⟨s, ⟨_, rfl, rfl⟩, ⟨hT.1, (fun q0_ => (hT.2.1 (by rw [up 4 16 (by decide)] at q0_; exact q0_))), (hT.2.2.1), (hT.2.2.2.1), (hT.2.2.2.2.1), (hT.2.2.2.2.2.1), (fun q0_ => absurd (hl_.symm.trans (hcl 16 _ rfl ((up 4 16 (by decide)).symm.trans q0_) 4 rfl)) (by decide))⟩, fun _ _ _ => rfl⟩
       | 5, _ => exact stepV rfl rfl (execLdB rfl (hdep _ rfl 4 rfl _ rfl _ rfl) (cP X hT.1)) ⟨s, ⟨_, rfl, rfl⟩, ⟨hT.1, (fun q0_ => (hT.2.1 (by rw [up 5 16 (by decide)] at q0_; exact q0_))), (hT.2.2.1), (hT.2.2.2.1), (hT.2.2.2.2.1), (hT.2.2.2.2.2.1), (fun q0_ => absurd (hl_.symm.trans (hcl 16 _ rfl ((up 5 16 (by decide)).symm.trans q0_) 5 rfl)) (by decide))⟩, fun _ _ _ => rfl⟩
       | 6, _ => exact stepV rfl rfl (execMvB rfl ((hf 12 (by decide)).trans t12)) ⟨s, ⟨_, rfl, rfl⟩, ⟨hT.1, (fun q0_ => (hT.2.1 (by rw [up 6 16 (by decide)] at q0_; exact q0_))), (hT.2.2.1), (hT.2.2.2.1), (hT.2.2.2.2.1), (hT.2.2.2.2.2.1), (fun q0_ => absurd (hl_.symm.trans (hcl 16 _ rfl ((up 6 16 (by decide)).symm.trans q0_) 6 rfl)) (by decide))⟩, fun _ _ _ => rfl⟩
       | 7, _ => exact stepV rfl rfl (execU8S rfl (hdep _ rfl 6 rfl _ rfl _ rfl) (by omega)) ⟨s, ⟨_, rfl, rfl⟩, ⟨hT.1, (fun q0_ => (hT.2.1 (by rw [up 7 16 (by decide)] at q0_; exact q0_))), (hT.2.2.1), (hT.2.2.2.1), (hT.2.2.2.2.1), (hT.2.2.2.2.2.1), (fun q0_ => absurd (hl_.symm.trans (hcl 16 _ rfl ((up 7 16 (by decide)).symm.trans q0_) 7 rfl)) (by decide))⟩, fun _ _ _ => rfl⟩
       | 8, _ => exact stepV rfl rfl (execSubU9 (p := p S) (q := D) rfl (hdep _ rfl 5 rfl _ rfl _ rfl) (hdep _ rfl 7 rfl _ rfl _ rfl) hDle hpS) ⟨s, ⟨_, rfl, rfl⟩, ⟨hT.1, (fun q0_ => (hT.2.1 (by rw [up 8 16 (by decide)] at q0_; exact q0_))), (hT.2.2.1), (hT.2.2.2.1), (hT.2.2.2.2.1), (hT.2.2.2.2.2.1), (fun q0_ => absurd (hl_.symm.trans (hcl 16 _ rfl ((up 8 16 (by decide)).symm.trans q0_) 8 rfl)) (by decide))⟩, fun _ _ _ => rfl⟩
       | 9, _ => exact stepV rfl rfl (execMvB rfl ((hf 2 (by decide)).trans t2)) ⟨s, ⟨_, rfl, rfl⟩, ⟨hT.1, (fun q0_ => (hT.2.1 (by rw [up 9 16 (by decide)] at q0_; exact q0_))), (hT.2.2.1), (hT.2.2.2.1), (hT.2.2.2.2.1), (hT.2.2.2.2.2.1), (fun q0_ => absurd (hl_.symm.trans (hcl 16 _ rfl ((up 9 16 (by decide)).symm.trans q0_) 9 rfl)) (by decide))⟩, fun _ _ _ => rfl⟩
       | 10, _ => exact stepV rfl rfl (execMvB rfl ((hf 10 (by decide)).trans t10)) ⟨s, ⟨_, rfl, rfl⟩, ⟨hT.1, (fun q0_ => (hT.2.1 (by rw [up 10 16 (by decide)] at q0_; exact q0_))), (hT.2.2.1), (hT.2.2.2.1), (hT.2.2.2.2.1), (hT.2.2.2.2.2.1), (fun q0_ => absurd (hl_.symm.trans (hcl 16 _ rfl ((up 10 16 (by decide)).symm.trans q0_) 10 rfl)) (by decide))⟩, fun _ _ _ => rfl⟩
       | 11, _ => exact stepV rfl rfl (execIdxN (k := i) rfl (hdep _ rfl 9 rfl _ rfl _ rfl) (hdep _ rfl 10 rfl _ rfl _ rfl) hlt) ⟨s, ⟨_, rfl, rfl⟩, ⟨hT.1, (fun q0_ => (hT.2.1 (by rw [up 11 16 (by decide)] at q0_; exact q0_))), (hT.2.2.1), (hT.2.2.2.1), (hT.2.2.2.2.1), (hT.2.2.2.2.2.1), (fun q0_ => absurd (hl_.symm.trans (hcl 16 _ rfl ((up 11 16 (by decide)).symm.trans q0_) 11 rfl)) (by decide))⟩, fun _ _ _ => rfl⟩
       | 12, _ => exact stepV rfl rfl (execLd3 rfl (hdep _ rfl 11 rfl _ rfl _ rfl) (cJ2 X hT.1)) ⟨s, ⟨_, rfl, rfl⟩, ⟨hT.1, (fun q0_ => (hT.2.1 (by rw [up 12 16 (by decide)] at q0_; exact q0_))), (hT.2.2.1), (hT.2.2.2.1), (hT.2.2.2.2.1), (hT.2.2.2.2.2.1), (fun q0_ => absurd (hl_.symm.trans (hcl 16 _ rfl ((up 12 16 (by decide)).symm.trans q0_) 12 rfl)) (by decide))⟩, fun _ _ _ => rfl⟩
       | 13, _ => exact stepV rfl rfl (execU8S rfl (hdep _ rfl 12 rfl _ rfl _ rfl) (by omega)) ⟨s, ⟨_, rfl, rfl⟩, ⟨hT.1, (fun q0_ => (hT.2.1 (by rw [up 13 16 (by decide)] at q0_; exact q0_))), (hT.2.2.1), (hT.2.2.2.1), (hT.2.2.2.2.1), (hT.2.2.2.2.2.1), (fun q0_ => absurd (hl_.symm.trans (hcl 16 _ rfl ((up 13 16 (by decide)).symm.trans q0_) 13 rfl)) (by decide))⟩, fun _ _ _ => rfl⟩
       | 14, _ => exact stepV rfl rfl (execAddU9 (p := p S - D) (q := w0) rfl (hdep _ rfl 8 rfl _ rfl _ rfl) (hdep _ rfl 13 rfl _ rfl _ rfl) hz256) ⟨s, ⟨_, rfl, rfl⟩, ⟨hT.1, (fun q0_ => (hT.2.1 (by rw [up 14 16 (by decide)] at q0_; exact q0_))), (hT.2.2.1), (hT.2.2.2.1), (hT.2.2.2.2.1), (hT.2.2.2.2.2.1), (fun q0_ => absurd (hl_.symm.trans (hcl 16 _ rfl ((up 14 16 (by decide)).symm.trans q0_) 14 rfl)) (by decide))⟩, fun _ _ _ => rfl⟩
       | 15, _ => exact stepV rfl rfl (execIdxB9 (k := S) rfl (hdep _ rfl 0 rfl _ rfl _ rfl) (hdep _ rfl 1 rfl _ rfl _ rfl) hSl) ⟨s, ⟨_, rfl, rfl⟩, ⟨hT.1, (fun q0_ => (hT.2.1 (by rw [up 15 16 (by decide)] at q0_; exact q0_))), (hT.2.2.1), (hT.2.2.2.1), (hT.2.2.2.2.1), (hT.2.2.2.2.2.1), (fun q0_ => absurd (hl_.symm.trans (hcl 16 _ rfl ((up 15 16 (by decide)).symm.trans q0_) 15 rfl)) (by decide))⟩, fun _ _ _ => rfl⟩
       | 16, _ =>
        obtain ⟨hc_, hf_⟩ := own_cell9 (hT.2.1 hl_) hSl
        refine stepS rfl rfl (execStB9d rfl (hdep _ rfl 15 rfl _ rfl _ rfl) (hdep _ rfl 14 rfl _ rfl _ rfl) hc_ hf_) ⟨s, ⟨_, rfl, rfl⟩, ⟨(hT.1).setCell hqV _, (fun q0_ => absurd q0_ (by unfold updB; simp)), (hT.2.2.1), (hT.2.2.2.1), (hT.2.2.2.2.1), ((off_own (hT.2.1 hl_) hT.2.2.2.2.2.1 (by decide))), (fun _q0_ => trS (hT.2.1 hl_) hb1 hS1 eD ew)⟩, fun i hi hli => ?_⟩
        match i, hi with
        | 0, _ => rfl
        | 1, _ => rfl
        | 2, _ => rfl
        | 3, _ => rfl
        | 4, _ => rfl
        | 5, _ => rfl
        | 6, _ => rfl
        | 7, _ => rfl
        | 8, _ => rfl
        | 9, _ => rfl
        | 10, _ => rfl
        | 11, _ => rfl
        | 12, _ => rfl
        | 13, _ => rfl
        | 14, _ => rfl
        | 15, _ => rfl
        | 16, _ => exact absurd (hl_.symm.trans hli) (by decide)
        | k_ + 17, h_ => exact absurd h_ (by simp)
       | k_ + 17, h_ => exact absurd h_ (by simp)
      rintro l_ _ a X14 h1 h2 h3 h4 hall hT
      clear BB
      clear FQ
      clear Fge8
      clear Fge13
      clear Fn13F8
      clear F8
      obtain ⟨BB, FQ, Fge8, Fge13, Fn13F8, F8, FQ2⟩ := hT
      clear FQ
      replace Fge8 : (V.heap.size ≤ g8) := Fge8
      replace Fge13 : (V.heap.size ≤ g13) := Fge13
      replace Fn13F8 : (g8 ≠ g13) := Fn13F8
      replace F8 : X14.heap[g8]? = some (.cells (tpC p l (S + 1)) 108) := F8
      replace FQ2 : (X14.ownsRow V.heap.size 5 1 (.slice (some ⟨qg, 0, none⟩) l qc) l (bytesL l (trF p l bs ws (i + 1)))) := FQ2 (hall 16 (by decide))
      clear hall
      replace t0 := (h3 0 (by decide)).trans t0
      replace t2 := (h3 2 (by decide)).trans t2
      replace t8 := (h3 8 (by decide)).trans t8
      replace t9 := (h3 9 (by decide)).trans t9
      replace t29 := (h3 29 (by decide)).trans t29
      replace t30 := (h3 30 (by decide)).trans t30
      replace t31 := (h3 31 (by decide)).trans t31
      replace A := (⟨h1, h2.trans A.2⟩ : a.tmps.size = 70 ∧ a.defers = [])
      clear h1 h2 h3 h4
      clear t10 t12 t15
      refine wp_se 70 [0] [] (fun _ s X => Below V.heap.size V X ∧ (V.heap.size ≤ g8) ∧ (V.heap.size ≤ g13) ∧ (g8 ≠ g13) ∧ X.heap[g8]? = some (.cells (tpC p l (S + 1)) 108) ∧ (X.ownsRow V.heap.size 5 1 (.slice (some ⟨qg, 0, none⟩) l qc) l (bytesL l (trF p l bs ws (i + 1))))) (fun s => fun i_ => match i_ with | 0 => .int .i64 ((i + 1 : Nat) : Int) | _ => undef) () A ⟨BB, Fge8, Fge13, Fn13F8, F8, FQ2⟩ (And.intro ?_ trivial) ?_
      ·exact fun s a X e hS => stepV rfl rfl (execAd8 (p := i) (q := 1) rfl ((e (.tmp 31)).trans t31) rfl (by clear hS; omega)) ⟨s, ⟨_, rfl, rfl⟩, hS, ar⟩
      rintro _ a X15 A e (hS : Below V.heap.size V X15 ∧ (V.heap.size ≤ g8) ∧ (V.heap.size ≤ g13) ∧ (g8 ≠ g13) ∧ X15.heap[g8]? = some (.cells (tpC p l (S + 1)) 108) ∧ (X15.ownsRow V.heap.size 5 1 (.slice (some ⟨qg, 0, none⟩) l qc) l (bytesL l (trF p l bs ws (i + 1)))))
      obtain ⟨BB, Fge8, Fge13, Fn13F8, F8, FQ2⟩ := hS
      replace t31 : a.eval (.tmp 31) = .int .i64 ((i + 1 : Nat) : Int) := e _
      replace t0 := kt e t0
      replace t2 := kt e t2
      replace t8 := kt e t8
      replace t9 := kt e t9
      replace t29 := kt e t29
      replace t30 := kt e t30
      clear e
      rw [← hS1] at F8
      exact ⟨⟨i + 1, _, hlt, hok2, A, t0, t2, t8, t9, t29, t30, t31, BB, F8, FQ2⟩, by show m - (intOf (a.eval (.tmp 31))).toNat < m - (intOf (Act.eval _ (.tmp 31))).toNat; rw [t31, e31]; show m - (i + 1) < m - i; omega⟩
    ·rw [decide_eq_true hE0] at t44
     refine wp_cond_true t44 ?_
     refine wp_seq ?_
     refine wp_se 70 [] [] (fun _ s X => Below V.heap.size V X ∧ X.heap[g8]? = some (.cells (tpC p l (plA p l bs i)) 108) ∧ (X.ownsRow V.heap.size 5 1 u l (bytesL l (trF p l bs ws (i)))) ∧ (V.heap.size ≤ g8) ∧ (V.heap.size ≤ g13) ∧ (g8 ≠ g13) ∧ X.heap[g13]? = some (.cells (tpC p (if dE p l (plA p l bs i) (bs i) = 0 then l else 0) (dN p l (plA p l bs i) (bs i))) 108)) (fun s => fun _ => undef) () A ⟨BB, F8, FQ, Fge8, Fge13, Fn13F8, F13⟩ trivial ?_
     rintro _ a X10 A e (hS : Below V.heap.size V X10 ∧ X10.heap[g8]? = some (.cells (tpC p l (plA p l bs i)) 108) ∧ (X10.ownsRow V.heap.size 5 1 u l (bytesL l (trF p l bs ws (i)))) ∧ (V.heap.size ≤ g8) ∧ (V.heap.size ≤ g13) ∧ (g8 ≠ g13) ∧ X10.heap[g13]? = some (.cells (tpC p (if dE p l (plA p l bs i) (bs i) = 0 then l else 0) (dN p l (plA p l bs i) (bs i))) 108))
     obtain ⟨BB, F8, FQ, Fge8, Fge13, Fn13F8, F13⟩ := hS
     have t6 : a.eval (.tmp 6) = .slice none 0 0 := e _
     have t7 : a.eval (.tmp 7) = .int .i64 ((dE p l (plA p l bs i) (bs i) : Nat) : Int) := (e _).trans t14
     clear e t0 t2 t8 t9 t29 t30 t31 t10 t11 t12 t13 t14
     have hE3 : dE p l (plA p l bs i) (bs i) = 3 := (dE_good (hno i hlt)).resolve_left hE0
     rw [hE3] at t7
     have hE : trE p l bs m ws m = 3 := by unfold trE; rw [if_neg (fun q => by rcases q with q | q | q <;> simp_all), if_neg (fun q => hE0 (okB_iff.1 q i hlt))]
     have hN : trN p l bs m ws m = 0 := by unfold trN; rw [if_neg (by rw [hE]; decide)]
     rw [hE, hN]
     refine wp_ret ?_
     repeat (first | with_reducible refine ret_in ?_ | with_reducible refine ret_then ?_)
     refine bodyPost_ret (results_tmp2 rfl _ _ _) A.2 ⟨_, ?_, Or.inl ⟨rfl, rfl⟩, BB⟩
     show Ending.returned (.tuple #[a.eval (.tmp 6), a.eval (.tmp 7)]) = _
     rw [t6, t7]
   ·rw [decide_eq_false hlt] at t32
    refine wp_cond_false t32 ?_
    refine wp_exit ?_
    first | with_reducible refine exit_in ?_ | with_reducible refine exit_then (exit_in ?_) | with_reducible refine exit_then (exit_then (exit_in ?_)) | refine exit_in ?_ | refine exit_then (exit_in ?_) | refine exit_then (exit_then (exit_in ?_))
    clear t32
    have hin : i = m := by omega
    rw [hin] at hok FQ
    clear F8
    refine wp_seq ?_
    refine wp_se 70 [] [] (fun _ s X => Below V.heap.size V X ∧ (X.ownsRow V.heap.size 5 1 u l (bytesL l (trF p l bs ws (m))))) (fun s => fun _ => undef) () A ⟨BB, FQ⟩ trivial ?_
    rintro _ a X16 A e (hS : Below V.heap.size V X16 ∧ (X16.ownsRow V.heap.size 5 1 u l (bytesL l (trF p l bs ws (m)))))
    obtain ⟨BB, FQ⟩ := hS
    have t6 : a.eval (.tmp 6) = u := (e _).trans t9
    have t7 : a.eval (.tmp 7) = .int .i64 ((0 : Nat) : Int) := e _
    clear e t0 t2 t8 t9 t29 t30 t31
    have hE : trE p l bs m ws m = 0 := by unfold trE; rw [if_neg (fun q => by rcases q with q | q | q <;> simp_all), if_pos (okB_iff.2 hok)]
    have hN : trN p l bs m ws m = l := by unfold trN; rw [if_pos hE]
    rw [hE, hN]
    refine wp_ret ?_
    refine bodyPost_ret (results_tmp2 rfl _ _ _) A.2 ⟨u, ?_, own_tk FQ (fun j hj => turn_byte hok hwo hpb hj), BB⟩
    show Ending.returned (.tuple #[a.eval (.tmp 6), a.eval (.tmp 7)]) = _
    rw [t6, t7]
  ·have hqf := Bool.eq_false_iff.2 hq
   have hwd : ∀ X, Below V.heap.size V X → Calls Try.prog 83 #[.slice ja m jc, .slice ia n ic] X fun e w' => e = .returned (.bool false) ∧ Below X.heap.size X w' := fun X hX => by have h_ := areDraws_any ws bs m n _ _ X (FJ.on hX) hm17 (FI.on hX) hn17; rw [hqf] at h_; exact h_
   refine wp_se 70 [1, 2, 6, 7] [] (fun _ s X => Below V.heap.size V X) (fun s => fun i_ => match i_ with | 1 => .bool true | 2 => .bool false | 6 => .bool false | 7 => .bool true | _ => undef) () A (BB) (And.intro ?_ (And.intro ?_ (And.intro ?_ (And.intro ?_ trivial)))) ?_
   ·exact fun s a X e hS => stepC rfl rfl (execCall1 Try.func65 (by kernel_rfl) (by kernel_rfl) rfl ((e (.tmp 16)).trans t1)) (hwr X hS) fun e w' hh => ⟨_, hh.1, s, ⟨_, rfl, rfl⟩, (hS).trans ((hh.2).mono (hS).size), ar⟩
   ·exact fun s a X e hS => stepV rfl rfl (execNot8 rfl (e (.tmp 17))) ⟨s, ⟨_, rfl, rfl⟩, hS, ar⟩
   ·exact fun s a X e hS => stepC rfl (wy rfl rfl rfl (e (.tmp 19))) (execCall2 Try.func83 (by kernel_rfl) (by kernel_rfl) rfl ((e (.tmp 20)).trans t2) ((e (.tmp 21)).trans t1)) (hwd X hS) fun e w' hh => ⟨_, hh.1, s, ⟨_, rfl, rfl⟩, (hS).trans ((hh.2).mono (hS).size), ar⟩
   ·exact fun s a X e hS => stepV rfl (wy rfl rfl rfl (e (.tmp 19))) (execNot8 rfl (e (.tmp 22))) ⟨s, ⟨_, rfl, rfl⟩, hS, ar⟩
   rintro _ a X1 A e (BB : Below V.heap.size V X1)
   have t24 : a.eval (.tmp 24) = .bool true := e _
   replace t0 := kt e t0
   replace t1 := kt e t1
   replace t2 := kt e t2
   clear e
   refine wp_cond_true t24 ?_
   refine wp_seq ?_
   refine wp_se 70 [] [] (fun _ s X => Below V.heap.size V X) (fun s => fun _ => undef) () A (BB) trivial ?_
   rintro _ a X2 A e (BB : Below V.heap.size V X2)
   have t6 : a.eval (.tmp 6) = .slice none 0 0 := e _
   have t7 : a.eval (.tmp 7) = .int .i64 ((2 : Nat) : Int) := e _
   clear e t0 t1 t2
   have hE : trE p l bs n ws m = 2 := by unfold trE; rw [if_pos (Or.inr (nodraws hqf))]
   have hN : trN p l bs n ws m = 0 := by unfold trN; rw [if_neg (by rw [hE]; decide)]
   rw [hE, hN]
   refine wp_ret ?_
   repeat (first | with_reducible refine ret_in ?_ | with_reducible refine ret_then ?_)
   refine bodyPost_ret (results_tmp2 rfl _ _ _) A.2 ⟨_, ?_, Or.inl ⟨rfl, rfl⟩, BB⟩
   show Ending.returned (.tuple #[a.eval (.tmp 6), a.eval (.tmp 7)]) = _
   rw [t6, t7]
theorem impl : Impl where
 below := fun p l at' b V h hl hp => pbelow_any p l at' b V h hl hp
 all := fun p l bs n pv bv V hp hl hb hn => pall_any p l bs n pv bv V hp hl hb hn
 turn := fun p l bs ws n m pv bv wv V hp hl _ hb hn hw hm => pturn_any p l bs ws n m pv bv wv V hp hl hb hn hw hm
end Go.Proofs.Ytmjpneaccjlpkaa.Drw
