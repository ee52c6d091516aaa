import Derived.Test.YtmjpneaccjlpkaaF9a
import Derived.Test.YtmjpneaccjlpkaaQ9m
namespace Go.Proofs.Ytmjpneaccjlpkaa.Brd
open Go.RowKit Gf8 Aes By8 Cel Cf Tap Drw Prm
/- Package braid as it landed: Draws. Written by tools/mkQ9n.py. -/
def x3 (a l x : Value) (t : Nat) : Value := if t = 0 then a else if t = 1 then l else x
def n3 (n J t : Nat) : Nat := if t = 0 then n else J
def ffD (sf cf vf : Nat → Int) (i t : Nat) : Nat → Int :=
 if t = 0 then fun k => if k < i then dwF sf cf vf k else 0 else if t = 1 then fun j => (lefC (gN sf) (gN cf) i j : Int) else fun j => ((sumN (gN sf) j + cntC (gN cf) j i : Nat) : Int)
theorem fm3 {B C n J : Nat} {a l x : Value} {f0 : Nat → Int} {gg : Nat → Nat → Int} {W : World} (h0 : W.ownsRow B 3 1 a n (intsL n f0)) (ha : ∀ k, a.ownBlock = some k → k < C) (h2 : FmI C 2 (x2 l x) (fun _ => J) gg W) (hBC : B ≤ C) : FmI B 3 (x3 a l x) (n3 n J) (fun t => if t = 0 then f0 else if t = 1 then gg 0 else gg 1) W := by
 have r0 := h2.rows 0 (by omega)
 have r1 := h2.rows 1 (by omega)
 have d01 := h2.dis 0 1 (by omega) (by omega) (by omega)
 have hl : ∀ k, l.ownBlock = some k → C ≤ k := fun k e => (r0.lt k e).1
 have hx : ∀ k, x.ownBlock = some k → C ≤ k := fun k e => (r1.lt k e).1
 refine ⟨fun t ht => ?_, fun s t hs ht hst k e => ?_⟩
 ·match t, ht with
  | 0, _ => exact h0
  | 1, _ => exact ownD_base r0 hBC
  | 2, _ => exact ownD_base r1 hBC
  | t + 3, h => omega
 ·match s, hs, t, ht, hst, e with
  | 0, _, 0, _, h, _ => exact absurd rfl h
  | 0, _, 1, _, _, e => exact fun z => by have := ha k e; have := hl k z; omega
  | 0, _, 2, _, _, e => exact fun z => by have := ha k e; have := hx k z; omega
  | 1, _, 0, _, _, e => exact fun z => by have := ha k z; have := hl k e; omega
  | 1, _, 1, _, h, _ => exact absurd rfl h
  | 1, _, 2, _, _, e => exact d01 k e
  | 2, _, 0, _, _, e => exact fun z => by have := ha k z; have := hx k e; omega
  | 2, _, 1, _, _, e => exact fun z => d01 k z e
  | 2, _, 2, _, h, _ => exact absurd rfl h
  | s + 3, h, _, _, _, _ => omega
  | _, _, t + 3, h, _, _ => omega
theorem ffD_zero (sf cf vf : Nat → Int) (n J : Nat) : ∀ t, t < 3 → ∀ j, j < n3 n J t → (fun t => if t = 0 then (fun _ => 0) else if t = 1 then ffB sf 0 else ffB sf 1 : Nat → Nat → Int) t j = ffD sf cf vf 0 t j := fun t ht j _ => by
 match t, ht with
 | 0, _ => rfl
 | 1, _ => rfl
 | 2, _ => rfl
 | t + 3, h => omega
theorem ffD_next (sf cf vf : Nat → Int) (n J : Nat) {i c o p q : Nat} (ec : gN cf i = c) (eo : vf p = (o : Int)) (ep : sumN (gN sf) c + cntC (gN cf) c i = p) (eq : lefC (gN sf) (gN cf) i c = q) (hp0 : poC (gN sf) (gN cf) i = sumN (gN sf) c + cntC (gN cf) c i) :
  ∀ t, t < 3 → ∀ j, j < n3 n J t → updF (updF (updF (ffD sf cf vf i) 2 c ((p + 1 : Nat) : Int)) 1 c ((q - 1 : Nat) : Int)) 0 i ((sumN (lefC (gN sf) (gN cf) i) c + o : Nat) : Int) t j = ffD sf cf vf (i + 1) t j := fun t ht j _ => by
 match t, ht with
 | 0, _ =>
  rw [updF_at, updF_o (by omega), updF_o (by omega)]
  show (if j = i then ((sumN (lefC (gN sf) (gN cf) i) c + o : Nat) : Int) else if j < i then dwF sf cf vf j else 0) = if j < i + 1 then dwF sf cf vf j else 0
  by_cases e : j = i
  ·subst e
   rw [if_pos rfl, if_pos (by omega)]
   show _ = (((vf (poC (gN sf) (gN cf) j)).toNat + sumN (lefC (gN sf) (gN cf) j) (gN cf j) : Nat) : Int)
   rw [hp0, ep, eo, ec, Int.toNat_natCast, Nat.add_comm]
  ·rw [if_neg e]
   by_cases e2 : j < i
   ·rw [if_pos e2, if_pos (by omega)]
   ·rw [if_neg e2, if_neg (by omega)]
 | 1, _ =>
  rw [updF_o (by omega), updF_at, updF_o (by omega)]
  show (if j = c then ((q - 1 : Nat) : Int) else ((lefC _ _ i j : Nat) : Int)) = ((lefC (gN sf) (gN cf) (i + 1) j : Nat) : Int)
  rw [lefC_succ, ec]
  by_cases e : j = c
  ·subst e
   rw [if_pos rfl, dec1_at, eq]
  ·rw [if_neg e, dec1_o e]
 | 2, _ =>
  rw [updF_o (by omega), updF_o (by omega), updF_at]
  show (if j = c then ((p + 1 : Nat) : Int) else ((sumN (gN sf) j + cntC _ j i : Nat) : Int)) = ((sumN (gN sf) j + (cntC (gN cf) j i + if gN cf i = j then 1 else 0) : Nat) : Int)
  rw [ec]
  by_cases e : j = c
  ·subst e
   rw [if_pos rfl, if_pos rfl, ← ep, Nat.add_assoc]
  ·rw [if_neg e, if_neg (fun z => e z.symm), Nat.add_zero]
 | t + 3, h => omega
theorem lefC_fits (sf cf : Nat → Int) {J : Nat} (i j : Nat) (hok : okS sf J = true) (hj : j < J) : -9223372036854775808 ≤ ((lefC (gN sf) (gN cf) i j : Nat) : Int) ∧ ((lefC (gN sf) (gN cf) i j : Nat) : Int) < 9223372036854775808 := by
 have h1 : lefC (gN sf) (gN cf) i j ≤ gN sf j := Nat.sub_le _ _
 have h2 := sumN_at (r := gN sf) hj
 have h3 := okS_sum hok
 omega
set_option maxRecDepth 100000 in
set_option maxHeartbeats 4000000 in
theorem pdraws12 (sf cf vf : Nat → Int) (J n m : Nat) (v u0 u1 : Value) (V : World) (hv : SliceI V v J sf) (hJ17 : J ≤ 17592186044416) (hv2 : SliceI V u0 n cf) (hn17 : n ≤ 17592186044416) (hv3 : SliceI V u1 m vf) :
  Calls Try.prog 61 #[v, u0, u1] V fun e w' => ∃ r, e = .returned (.tuple #[r, .int .i64 ((drE sf J cf n vf m : Nat) : Int)]) ∧ w'.ownsRow V.heap.size 3 1 r (zl (drE sf J cf n vf m) n) (intsL (zl (drE sf J cf n vf m) n) (dwF sf cf vf)) ∧ Below V.heap.size V w' := by
 obtain ⟨ia, ic, rfl, -, -, hsh⟩ := id hv.shape
 obtain ⟨ja, jc, rfl, -, -, hsj⟩ := id hv2.shape
 obtain ⟨ka, kc, rfl, -, -, hsk⟩ := id hv3.shape
 have FI := hv
 have FJ := hv2
 have FK := hv3
 go_enter Try.func61, Try.ntmps61
 refine wp_seq ?_
 refine wp_region_sqK 58 [(0, 6), (1, 7)] (fun i_ => match i_ with | 0 => .slice none 0 0 | 1 => .int .i64 ((0 : Nat) : Int) | _ => undef) rfl (by kernel_rfl) (by decide) (by decide) ?_ ?_
 ·intro i_ hi_ a hf hv hn
  match i_, hi_ with
  | 0, _ => exact stepV rfl rfl (execAsgB rfl rfl) ⟨⟨_, rfl, rfl⟩, rfl⟩
  | 1, _ => exact stepV rfl rfl (execAsgB rfl rfl) ⟨⟨_, rfl, rfl⟩, rfl⟩
  | k_ + 2, h_ => exact absurd h_ (by simp)
 intro a h1 h2 h3 h4
 have t0 : a.eval (.tmp 0) = .slice ia J ic := (h3 0 (by decide)).trans rfl
 have t1 : a.eval (.tmp 1) = .slice ja n jc := (h3 1 (by decide)).trans rfl
 have t2 : a.eval (.tmp 2) = .slice ka m kc := (h3 2 (by decide)).trans rfl
 have A : a.tmps.size = 58 ∧ a.defers = [] := ⟨h1, h2⟩
 have BW : Below V.heap.size V V := Below.refl _ _
 clear h1 h2 h3 h4
 have BB := BW
 refine wp_seq (wp_seq ?_)
 cases hs : szQ sf J with
 | false =>
  refine wp_se 58 [1, 2] [] (fun _ s X => Below V.heap.size V X) (fun s => fun i_ => match i_ with | 1 => .bool false | 2 => .bool true | _ => undef) () A (BB) (And.intro ?_ (And.intro ?_ trivial)) ?_
  ·exact fun s a X e hS => stepC rfl rfl (execCall1 Try.func69 (by kernel_rfl) (by kernel_rfl) rfl ((e (.tmp 13)).trans t0)) (hs ▸ pareSizes sf J _ X (FI.on hS) hJ17) fun e w' hh => ⟨_, hh.1, s, ⟨_, rfl, rfl⟩, (hS).trans ((hh.2).mono (hS).size), ar⟩
  ·exact fun s a X e hS => stepV rfl rfl (execNot8 rfl (e (.tmp 14))) ⟨s, ⟨_, rfl, rfl⟩, hS, ar⟩
  rintro _ a X1 A e (BB : Below V.heap.size V X1)
  have t27 : a.eval (.tmp 27) = .bool true := e _
  replace t0 := kt e t0
  replace t1 := kt e t1
  replace t2 := kt e t2
  clear e
  refine wp_cond_true t27 ?_
  refine wp_seq ?_
  refine wp_se 58 [] [] (fun _ s X => Below V.heap.size V X) (fun s => fun _ => undef) () A (BB) trivial ?_
  rintro _ a X2 A e (BB : Below V.heap.size V X2)
  have t6 : a.eval (.tmp 6) = .slice none 0 0 := e _
  have t7 : a.eval (.tmp 7) = .int .i64 ((2 : Nat) : Int) := e _
  clear e t0 t1 t2
  have hE : drE sf J cf n vf m = 2 := drE_no fun q => by have := (drQ_iff.1 q).1; rw [hs] at this; cases this
  rw [hE, zl_no (by decide)]
  refine wp_ret ?_
  repeat (first | with_reducible refine ret_in ?_ | with_reducible refine ret_then ?_)
  refine bodyPost_ret (results_tmp2 rfl _ _ _) A.2 ⟨_, ?_, World.ownsRow_nil _ _ _ _, BB⟩
  show Ending.returned (.tuple #[a.eval (.tmp 6), a.eval (.tmp 7)]) = _
  rw [t6, t7]
 | true =>
  have hok : okS sf J = true := (szQ_iff.1 hs).2
  have hJ64 : J ≤ 64 := (szQ_iff.1 hs).1.2
  cases hst : stQ cf n sf J with
  | false =>
   refine wp_se 58 [1, 2, 6, 7] [] (fun _ s X => Below V.heap.size V X) (fun s => fun i_ => match i_ with | 1 => .bool true | 2 => .bool false | 6 => .bool false | 7 => .bool true | _ => undef) () A (BB) (And.intro ?_ (And.intro ?_ (And.intro ?_ (And.intro ?_ trivial)))) ?_
   ·exact fun s a X e hS => stepC rfl rfl (execCall1 Try.func69 (by kernel_rfl) (by kernel_rfl) rfl ((e (.tmp 13)).trans t0)) (hs ▸ pareSizes sf J _ X (FI.on hS) hJ17) fun e w' hh => ⟨_, hh.1, s, ⟨_, rfl, rfl⟩, (hS).trans ((hh.2).mono (hS).size), ar⟩
   ·exact fun s a X e hS => stepV rfl rfl (execNot8 rfl (e (.tmp 14))) ⟨s, ⟨_, rfl, rfl⟩, hS, ar⟩
   ·exact fun s a X e hS => stepC rfl (wy rfl rfl rfl (e (.tmp 16))) (execCall2 Try.func47 (by kernel_rfl) (by kernel_rfl) rfl ((e (.tmp 17)).trans t1) ((e (.tmp 18)).trans t0)) (hst ▸ pstands cf sf n J _ _ X (FJ.on hS) hn17 (FI.on hS) hJ17 (fun j hj => (okS_iff.1 hok j hj).1)) fun e w' hh => ⟨_, hh.1, s, ⟨_, rfl, rfl⟩, (hS).trans ((hh.2).mono (hS).size), ar⟩
   ·exact fun s a X e hS => stepV rfl (wy rfl rfl rfl (e (.tmp 16))) (execNot8 rfl (e (.tmp 19))) ⟨s, ⟨_, rfl, rfl⟩, hS, ar⟩
   rintro _ a X1 A e (BB : Below V.heap.size V X1)
   have t27 : a.eval (.tmp 27) = .bool true := e _
   replace t0 := kt e t0
   replace t1 := kt e t1
   replace t2 := kt e t2
   clear e
   refine wp_cond_true t27 ?_
   refine wp_seq ?_
   refine wp_se 58 [] [] (fun _ s X => Below V.heap.size V X) (fun s => fun _ => undef) () A (BB) trivial ?_
   rintro _ a X2 A e (BB : Below V.heap.size V X2)
   have t6 : a.eval (.tmp 6) = .slice none 0 0 := e _
   have t7 : a.eval (.tmp 7) = .int .i64 ((2 : Nat) : Int) := e _
   clear e t0 t1 t2
   have hE : drE sf J cf n vf m = 2 := drE_no fun q => by have := (drQ_iff.1 q).2.1; rw [hst] at this; cases this
   rw [hE, zl_no (by decide)]
   refine wp_ret ?_
   repeat (first | with_reducible refine ret_in ?_ | with_reducible refine ret_then ?_)
   refine bodyPost_ret (results_tmp2 rfl _ _ _) A.2 ⟨_, ?_, World.ownsRow_nil _ _ _ _, BB⟩
   show Ending.returned (.tuple #[a.eval (.tmp 6), a.eval (.tmp 7)]) = _
   rw [t6, t7]
  | true =>
   cases hof : (decide (m = sumN (gN sf) J) && ofQ sf J vf) with
   | false =>
    refine wp_se 58 [1, 2, 6, 7, 12, 13] [] (fun _ s X => Below V.heap.size V X) (fun s => fun i_ => match i_ with | 1 => .bool true | 2 => .bool false | 6 => .bool true | 7 => .bool false | 12 => .bool false | 13 => .bool true | _ => undef) () A (BB) (And.intro ?_ (And.intro ?_ (And.intro ?_ (And.intro ?_ (And.intro ?_ (And.intro ?_ trivial)))))) ?_
    ·exact fun s a X e hS => stepC rfl rfl (execCall1 Try.func69 (by kernel_rfl) (by kernel_rfl) rfl ((e (.tmp 13)).trans t0)) (hs ▸ pareSizes sf J _ X (FI.on hS) hJ17) fun e w' hh => ⟨_, hh.1, s, ⟨_, rfl, rfl⟩, (hS).trans ((hh.2).mono (hS).size), ar⟩
    ·exact fun s a X e hS => stepV rfl rfl (execNot8 rfl (e (.tmp 14))) ⟨s, ⟨_, rfl, rfl⟩, hS, ar⟩
    ·exact fun s a X e hS => stepC rfl (wy rfl rfl rfl (e (.tmp 16))) (execCall2 Try.func47 (by kernel_rfl) (by kernel_rfl) rfl ((e (.tmp 17)).trans t1) ((e (.tmp 18)).trans t0)) (hst ▸ pstands cf sf n J _ _ X (FJ.on hS) hn17 (FI.on hS) hJ17 (fun j hj => (okS_iff.1 hok j hj).1)) fun e w' hh => ⟨_, hh.1, s, ⟨_, rfl, rfl⟩, (hS).trans ((hh.2).mono (hS).size), ar⟩
    ·exact fun s a X e hS => stepV rfl (wy rfl rfl rfl (e (.tmp 16))) (execNot8 rfl (e (.tmp 19))) ⟨s, ⟨_, rfl, rfl⟩, hS, ar⟩
    ·exact fun s a X e hS => stepC rfl (wy rfl rfl rfl (e (.tmp 22))) (execCall2 Try.func82 (by kernel_rfl) (by kernel_rfl) rfl ((e (.tmp 23)).trans t0) ((e (.tmp 24)).trans t2)) (hof ▸ pareOffsets sf vf J m _ _ X (FI.on hS) hJ64 hok (FK.on hS)) fun e w' hh => ⟨_, hh.1, s, ⟨_, rfl, rfl⟩, (hS).trans ((hh.2).mono (hS).size), ar⟩
    ·exact fun s a X e hS => stepV rfl (wy rfl rfl rfl (e (.tmp 22))) (execNot8 rfl (e (.tmp 25))) ⟨s, ⟨_, rfl, rfl⟩, hS, ar⟩
    rintro _ a X1 A e (BB : Below V.heap.size V X1)
    have t27 : a.eval (.tmp 27) = .bool true := e _
    replace t0 := kt e t0
    replace t1 := kt e t1
    replace t2 := kt e t2
    clear e
    refine wp_cond_true t27 ?_
    refine wp_seq ?_
    refine wp_se 58 [] [] (fun _ s X => Below V.heap.size V X) (fun s => fun _ => undef) () A (BB) trivial ?_
    rintro _ a X2 A e (BB : Below V.heap.size V X2)
    have t6 : a.eval (.tmp 6) = .slice none 0 0 := e _
    have t7 : a.eval (.tmp 7) = .int .i64 ((2 : Nat) : Int) := e _
    clear e t0 t1 t2
    have hE : drE sf J cf n vf m = 2 := drE_no fun q => by obtain ⟨_, _, q3, q4⟩ := drQ_iff.1 q; rw [decide_eq_true q3, q4] at hof; cases hof
    rw [hE, zl_no (by decide)]
    refine wp_ret ?_
    repeat (first | with_reducible refine ret_in ?_ | with_reducible refine ret_then ?_)
    refine bodyPost_ret (results_tmp2 rfl _ _ _) A.2 ⟨_, ?_, World.ownsRow_nil _ _ _ _, BB⟩
    show Ending.returned (.tuple #[a.eval (.tmp 6), a.eval (.tmp 7)]) = _
    rw [t6, t7]
   | true =>
    refine wp_se 58 [1, 2, 6, 7, 12, 13] [] (fun _ s X => Below V.heap.size V X) (fun s => fun i_ => match i_ with | 1 => .bool true | 2 => .bool false | 6 => .bool true | 7 => .bool false | 12 => .bool true | 13 => .bool false | _ => undef) () A (BB) (And.intro ?_ (And.intro ?_ (And.intro ?_ (And.intro ?_ (And.intro ?_ (And.intro ?_ trivial)))))) ?_
    ·exact fun s a X e hS => stepC rfl rfl (execCall1 Try.func69 (by kernel_rfl) (by kernel_rfl) rfl ((e (.tmp 13)).trans t0)) (hs ▸ pareSizes sf J _ X (FI.on hS) hJ17) fun e w' hh => ⟨_, hh.1, s, ⟨_, rfl, rfl⟩, (hS).trans ((hh.2).mono (hS).size), ar⟩
    ·exact fun s a X e hS => stepV rfl rfl (execNot8 rfl (e (.tmp 14))) ⟨s, ⟨_, rfl, rfl⟩, hS, ar⟩
    ·exact fun s a X e hS => stepC rfl (wy rfl rfl rfl (e (.tmp 16))) (execCall2 Try.func47 (by kernel_rfl) (by kernel_rfl) rfl ((e (.tmp 17)).trans t1) ((e (.tmp 18)).trans t0)) (hst ▸ pstands cf sf n J _ _ X (FJ.on hS) hn17 (FI.on hS) hJ17 (fun j hj => (okS_iff.1 hok j hj).1)) fun e w' hh => ⟨_, hh.1, s, ⟨_, rfl, rfl⟩, (hS).trans ((hh.2).mono (hS).size), ar⟩
    ·exact fun s a X e hS => stepV rfl (wy rfl rfl rfl (e (.tmp 16))) (execNot8 rfl (e (.tmp 19))) ⟨s, ⟨_, rfl, rfl⟩, hS, ar⟩
    ·exact fun s a X e hS => stepC rfl (wy rfl rfl rfl (e (.tmp 22))) (execCall2 Try.func82 (by kernel_rfl) (by kernel_rfl) rfl ((e (.tmp 23)).trans t0) ((e (.tmp 24)).trans t2)) (hof ▸ pareOffsets sf vf J m _ _ X (FI.on hS) hJ64 hok (FK.on hS)) fun e w' hh => ⟨_, hh.1, s, ⟨_, rfl, rfl⟩, (hS).trans ((hh.2).mono (hS).size), ar⟩
    ·exact fun s a X e hS => stepV rfl (wy rfl rfl rfl (e (.tmp 22))) (execNot8 rfl (e (.tmp 25))) ⟨s, ⟨_, rfl, rfl⟩, hS, ar⟩
    rintro _ a X1 A e (BB : Below V.heap.size V X1)
    have t27 : a.eval (.tmp 27) = .bool false := e _
    replace t0 := kt e t0
    replace t1 := kt e t1
    replace t2 := kt e t2
    clear e
    refine wp_cond_false t27 (wp_skip ?_)
    clear t27
    obtain ⟨hmd, hoq⟩ := Bool.and_eq_true _ _ ▸ hof
    have hmS : m = sumN (gN sf) J := of_decide_eq_true hmd
    have hdr : drQ sf J cf n vf m = true := drQ_iff.2 ⟨hs, hst, hmS, hoq⟩
    have hE : drE sf J cf n vf m = 0 := drE_ok hdr
    rw [hE, zl_ok]
    obtain ⟨hnS, _, hrd⟩ := (rd_dr hs).2 hdr
    have hpt := stQ_pat hst
    have hsum := okS_sum hok
    refine wp_seq ?_
    refine wp_se (σ := Value) 58 [1, 2] [2] (fun k_ s X => match k_ with | 0 => Below V.heap.size V X | _ => Below V.heap.size V X ∧ (X.ownsRow V.heap.size 3 1 s (n) (intsL (n) (fun _ => 0))) ∧ (∀ b, s.ownBlock = some b → b < X.heap.size)) (fun s => fun i_ => match i_ with | 1 => .int .i64 ((n : Nat) : Int) | 2 => s | _ => undef) undef A (BB) (And.intro ?_ (And.intro ?_ trivial)) ?_
    ·exact fun s a X e hS => stepV rfl rfl (execLenI (len := n) rfl ((e (.tmp 28)).trans t1) ((FJ.on hS)).shp) ⟨s, ⟨_, rfl, rfl⟩, hS, ar⟩
    ·intro s a X e hS
     refine stepV rfl rfl (execMkN rfl (e (.tmp 29)) (e (.tmp 29)) hn17) ⟨.slice (some ⟨X.heap.size, 0, none⟩) n n, ⟨_, rfl, rfl⟩, ⟨(hS).trans (((belNew X _)).mono (hS).size), ownD_base (own_mkZ X n (fun _ => 0) hn17 (fun _ _ => rfl)) (hS).size, fun b e => by have e1 : X.heap.size = b := Option.some.inj e; have e2 : (X.alloc (.cells (madeCells #[.int .i64 0] n) 3)).heap.size = X.heap.size + 1 := (by simp); omega⟩, (And.intro (fun _ => rfl) (And.intro (fun h => absurd h (by decide)) trivial))⟩
    rintro v30 a X3 A e (hS : Below V.heap.size V X3 ∧ (X3.ownsRow V.heap.size 3 1 v30 (n) (intsL (n) (fun _ => 0))) ∧ (∀ b, v30.ownBlock = some b → b < X3.heap.size))
    obtain ⟨BB, FD, Fb30⟩ := hS
    have t8 : a.eval (.tmp 8) = v30 := e _
    replace t0 := kt e t0
    replace t1 := kt e t1
    replace t2 := kt e t2
    clear e
    refine wp_seq ?_
    refine wp_se (σ := Value × Value × Nat) 58 [1, 2, 3] [1, 2, 3] (fun k_ s X => match k_ with | 0 => Below V.heap.size V X ∧ (X.ownsRow V.heap.size 3 1 v30 (n) (intsL (n) (fun _ => 0))) ∧ (∀ b, v30.ownBlock = some b → b < X.heap.size) | 1 => Below V.heap.size V X ∧ (FmI V.heap.size 3 (x3 v30 s.1 s.2.1) (n3 n J) (ffD sf cf vf 0) X) ∧ (∃ g_ n_ c_, s.1 = .slice g_ n_ c_) ∧ (∃ g_ n_ c_, s.2.1 = .slice g_ n_ c_) | 2 => Below V.heap.size V X ∧ (FmI V.heap.size 3 (x3 v30 s.1 s.2.1) (n3 n J) (ffD sf cf vf 0) X) ∧ (∃ g_ n_ c_, s.1 = .slice g_ n_ c_) ∧ (∃ g_ n_ c_, s.2.1 = .slice g_ n_ c_) ∧ (X.heap[s.2.2]? = some (.cells (rsC (.slice none 0 0) (.slice none 0 0)) 114)) ∧ (V.heap.size ≤ s.2.2) | _ => Below V.heap.size V X ∧ (FmI V.heap.size 3 (x3 v30 s.1 s.2.1) (n3 n J) (ffD sf cf vf 0) X) ∧ (∃ g_ n_ c_, s.1 = .slice g_ n_ c_) ∧ (∃ g_ n_ c_, s.2.1 = .slice g_ n_ c_) ∧ (V.heap.size ≤ s.2.2) ∧ (X.heap[s.2.2]? = some (.cells (rsC (s.1) (s.2.1)) 114))) (fun s => fun i_ => match i_ with | 1 => .agg (rsC (s.1) (s.2.1)) | 2 => .pointer (some ⟨s.2.2, 0, none⟩) | _ => undef) (undef, undef, 0) A ⟨BB, FD, Fb30⟩ (And.intro ?_ (And.intro ?_ (And.intro ?_ trivial))) ?_
    ·intro s a X e hS
     refine stepC rfl rfl (execCall1 Try.func72 (by kernel_rfl) (by kernel_rfl) rfl ((e (.tmp 31)).trans t0)) (pbegin sf J _ X (FI.on hS.1) hJ64 hok) fun e w' hh => ?_
     obtain ⟨l_, x_, he, hk, hb⟩ := hh
     refine ⟨_, he, (l_, x_, s.2.2), ⟨_, rfl, rfl⟩, ⟨(hS.1).trans ((hb).mono (hS.1).size), FmI.cgF (fm3 (ownD_below hS.2.1 hb) hS.2.2 hk (hS.1).size) (ffD_zero sf cf vf n J), shp3 (hk.rows 0 (by omega)), shp3 (hk.rows 1 (by omega))⟩, (And.intro (fun h => absurd h (by decide)) (And.intro (fun h => absurd h (by decide)) (And.intro (fun h => absurd h (by decide)) trivial)))⟩
    ·intro s a X e hS
     refine stepV rfl rfl (execAllRs rfl) ⟨(s.1, s.2.1, X.heap.size), ⟨_, rfl, rfl⟩, ⟨(hS.1).trans (((belNew X _)).mono (hS.1).size), (hS.2.1.on (belNew X _)), hS.2.2.1, hS.2.2.2, heapNew X _, (hS.1).size⟩, (And.intro (fun _ => rfl) (And.intro (fun h => absurd h (by decide)) (And.intro (fun h => absurd h (by decide)) trivial)))⟩
    ·intro s a X e hS
     refine stepS rfl rfl (execStRs rfl (e (.tmp 9)) (e (.tmp 32)) hS.2.2.2.2.1 hS.2.2.1 hS.2.2.2.1) ⟨s, ⟨_, rfl, rfl⟩, ⟨below4 hS.1 hS.2.2.2.2.2 _, (hS.2.1.setT hS.2.2.2.2.1 (by decide)), hS.2.2.1, hS.2.2.2.1, hS.2.2.2.2.2, setRow_heap _ _ _ _ _ _ hS.2.2.2.2.1⟩, ar⟩
    rintro ⟨lv, xv, g9⟩ a X4 A e (hS : Below V.heap.size V X4 ∧ (FmI V.heap.size 3 (x3 v30 lv xv) (n3 n J) (ffD sf cf vf 0) X4) ∧ (∃ g_ n_ c_, lv = .slice g_ n_ c_) ∧ (∃ g_ n_ c_, xv = .slice g_ n_ c_) ∧ (V.heap.size ≤ g9) ∧ (X4.heap[g9]? = some (.cells (rsC (lv) (xv)) 114)))
    obtain ⟨BB, FM, Fhl, Fhx, F9g, F9B⟩ := hS
    have t9 : a.eval (.tmp 9) = .pointer (some ⟨g9, 0, none⟩) := e _
    replace t1 := kt e t1
    replace t2 := kt e t2
    replace t8 := kt e t8
    clear e t0
    refine wp_seq (wp_seq ?_)
    refine wp_se 58 [1] [] (fun _ s X => Below V.heap.size V X ∧ (FmI V.heap.size 3 (x3 v30 lv xv) (n3 n J) (ffD sf cf vf 0) X) ∧ (X.heap[g9]? = some (.cells (rsC (lv) (xv)) 114))) (fun s => fun i_ => match i_ with | 1 => .int .i64 ((n : Nat) : Int) | _ => undef) () A ⟨BB, FM, F9B⟩ (And.intro ?_ trivial) ?_
    ·exact fun s a X e hS => stepV rfl rfl (execLenI (len := n) rfl ((e (.tmp 33)).trans t1) ((FJ.on hS.1)).shp) ⟨s, ⟨_, rfl, rfl⟩, hS, ar⟩
    rintro _ a X5 A e (hS : Below V.heap.size V X5 ∧ (FmI V.heap.size 3 (x3 v30 lv xv) (n3 n J) (ffD sf cf vf 0) X5) ∧ (X5.heap[g9]? = some (.cells (rsC (lv) (xv)) 114)))
    obtain ⟨BB, FM, F9B⟩ := hS
    have t33 : a.eval (.tmp 33) = .slice ja n jc := (e _).trans t1
    have t34 : a.eval (.tmp 34) = .int .i64 ((n : Nat) : Int) := e _
    have t35 : a.eval (.tmp 35) = .int .i64 ((0 : Nat) : Int) := e _
    replace t2 := kt e t2
    replace t8 := kt e t8
    replace t9 := kt e t9
    clear e t1
    refine wp_block ?_
    refine wp_loop (fun a W => ∃ (i : Nat), i ≤ n ∧ (a.tmps.size = 58 ∧ a.defers = []) ∧ a.eval (.tmp 2) = .slice ka m kc ∧ a.eval (.tmp 8) = v30 ∧ a.eval (.tmp 9) = .pointer (some ⟨g9, 0, none⟩) ∧ a.eval (.tmp 33) = .slice ja n jc ∧ a.eval (.tmp 34) = .int .i64 ((n : Nat) : Int) ∧ a.eval (.tmp 35) = .int .i64 ((i : Nat) : Int) ∧ Below V.heap.size V W ∧ (W.heap[g9]? = some (.cells (rsC (lv) (xv)) 114)) ∧ (FmI V.heap.size 3 (x3 v30 lv xv) (n3 n J) (ffD sf cf vf i) W)) (fun a _ => n - (intOf (a.eval (.tmp 35))).toNat) ⟨0, Nat.zero_le _, A, t2, t8, t9, t33, t34, t35, BB, F9B, FM⟩ ?_
    rintro a XL6 ⟨i, hi, A, t2, t8, t9, t33, t34, t35, BB, F9B, FM⟩
    have esi := t35
    refine wp_seq ?_
    refine wp_se 58 [0] [] (fun _ s X => Below V.heap.size V X ∧ (X.heap[g9]? = some (.cells (rsC (lv) (xv)) 114)) ∧ (FmI V.heap.size 3 (x3 v30 lv xv) (n3 n J) (ffD sf cf vf i) X)) (fun s => fun i_ => match i_ with | 0 => .bool (decide (i < n)) | _ => undef) () A ⟨BB, F9B, FM⟩ (And.intro ?_ trivial) ?_
    ·exact fun s a X e hS => stepV rfl rfl (execLtW (p := i) (q := n) rfl ((e (.tmp 35)).trans t35) ((e (.tmp 34)).trans t34)) ⟨s, ⟨_, rfl, rfl⟩, hS, ar⟩
    rintro _ a X6 A e (hS : Below V.heap.size V X6 ∧ (X6.heap[g9]? = some (.cells (rsC (lv) (xv)) 114)) ∧ (FmI V.heap.size 3 (x3 v30 lv xv) (n3 n J) (ffD sf cf vf i) X6))
    obtain ⟨BB, F9B, FM⟩ := hS
    have t36 : a.eval (.tmp 36) = .bool (decide (i < n)) := e _
    replace t2 := kt e t2
    replace t8 := kt e t8
    replace t9 := kt e t9
    replace t33 := kt e t33
    replace t34 := kt e t34
    replace t35 := kt e t35
    clear e
    refine wp_seq ?_
    by_cases lti : i < n
    ·rw [decide_eq_true lti] at t36
     refine wp_cond_true t36 (wp_skip ?_)
     clear t36
     refine wp_seq (wp_block ?_)
     obtain ⟨jb, jo, rfl, hjb, hcelj⟩ := hsj (by omega)
     have cJ : ∀ k, k < n → ∀ X, Below V.heap.size V X → X.cell? ⟨jb, jo + k, none⟩ = some (.int .i64 (cf k)) := fun k hk X hX => by rw [cell_below hX hjb]; exact hcelj k hk
     obtain ⟨c, ec0⟩ : ∃ c : Nat, cf i = c := ⟨(cf i).toNat, by have := ((stQ_iff.1 hst).1 i lti).1; omega⟩
     have cW : ∀ X, Below V.heap.size V X → X.cell? ⟨jb, jo + i, none⟩ = some (.int .i64 ((c : Nat) : Int)) := fun X hX => by rw [cJ i lti X hX, ec0]
     clear hsh hsj
     have ec : gN cf i = c := by show (cf i).toNat = c; omega
     have hcJ : c < J := by rw [← ec]; exact hpt.lt i lti
     have hp0 : poC (gN sf) (gN cf) i = sumN (gN sf) c + cntC (gN cf) c i := by rw [← ec]; rfl
     have hpm : sumN (gN sf) c + cntC (gN cf) c i < m := by rw [← hp0, hmS, ← hnS]; exact poC_lt hnS.symm hpt lti
     have hro := (rdB_iff.1 (allB_iff.1 hrd i lti)).2
     rw [ec, hp0] at hro
     have hsl : sumN (lefC (gN sf) (gN cf) i) J = n - i := lefC_sum hnS.symm hpt.lt (o := vfO sf cf vf) (fun k hk => (rd_lt hrd hk).2) (by omega)
     obtain ⟨p_, ep⟩ : ∃ p_, sumN (gN sf) c + cntC (gN cf) c i = p_ := ⟨_, rfl⟩
     obtain ⟨q_, eq⟩ : ∃ q_, lefC (gN sf) (gN cf) i c = q_ := ⟨_, rfl⟩
     rw [ep] at hpm hro
     rw [eq] at hro
     have hqs : q_ ≤ 256 := by
      have h1 : q_ ≤ gN sf c := by rw [← eq]; exact Nat.sub_le _ _
      have h2 := sumN_at (r := gN sf) hcJ
      omega
     obtain ⟨kb, ko, rfl, hkb, hcelk⟩ := hsk (by omega)
     clear hsk
     obtain ⟨o_, eo⟩ : ∃ o_ : Nat, vf p_ = o_ := ⟨(vf p_).toNat, by omega⟩
     have cK : ∀ X, Below V.heap.size V X → X.cell? ⟨kb, ko + p_, none⟩ = some (.int .i64 ((o_ : Nat) : Int)) := fun X hX => by rw [cell_below hX hkb, hcelk p_ hpm, eo]
     obtain ⟨gl, cl, el, hBl, _⟩ := ownL_some9 (FM.rows 1 (by omega)) (show 0 < J by omega)
     have el' : lv = .slice (some ⟨gl, 0, none⟩) J cl := el
     obtain ⟨g30, c30, e30, hB30, _⟩ := ownL_some9 (FM.rows 0 (by omega)) (show 0 < n by omega)
     have e30' : v30 = .slice (some ⟨g30, 0, none⟩) n c30 := e30
     have n30 : g9 ≠ g30 := fun q => FM.notT (t := 0) (by omega) F9B (by decide) (by rw [e30, q]; rfl)
     have hah : sumN (lefC (gN sf) (gN cf) i) c ≤ n := by have := sumN_mono (r := lefC (gN sf) (gN cf) i) (show c ≤ J by omega); omega
     have hcl : J ≤ cl := by have h_ := FM.rows 1 (by omega); rw [el] at h_; exact own_cap h_
     have cS : ∀ X, FmI V.heap.size 3 (x3 v30 lv xv) (n3 n J) (ffD sf cf vf i) X → Calls Try.prog 70 #[.slice (some ⟨gl, 0, none⟩) c cl] X fun e w' => e = .returned (.int .i64 ((sumN (lefC (gN sf) (gN cf) i) c : Nat) : Int)) ∧ Below X.heap.size X w' := fun X hX => by
      have h_ := hX.rows 1 (by omega)
      rw [el] at h_
      exact psum (fun j => ((lefC (gN sf) (gN cf) i j : Nat) : Int)) c _ X (own_ints (own_takeI h_ (show c ≤ J by omega)) (fun j hj => lefC_fits sf cf i j hok (show j < J by omega))) (by omega) (fun j _ => Int.natCast_nonneg _) (show sumN (lefC (gN sf) (gN cf) i) c ≤ 1000000 by omega)
     refine wp_seq ?_
     refine wp_se 58 [1, 2] [] (fun _ s X => Below V.heap.size V X ∧ (X.heap[g9]? = some (.cells (rsC (lv) (xv)) 114)) ∧ (FmI V.heap.size 3 (x3 v30 lv xv) (n3 n J) (ffD sf cf vf i) X)) (fun s => fun i_ => match i_ with | 1 => .pointer (some ⟨jb, jo + i, none⟩) | 2 => .int .i64 ((c : Nat) : Int) | _ => undef) () A ⟨BB, F9B, FM⟩ (And.intro ?_ (And.intro ?_ trivial)) ?_
     ·exact fun s a X e hS => stepV rfl rfl (execIdxN (k := i) rfl ((e (.tmp 33)).trans t33) ((e (.tmp 35)).trans t35) lti) ⟨s, ⟨_, rfl, rfl⟩, hS, ar⟩
     ·exact fun s a X e hS => stepV rfl rfl (execLd3 rfl (e (.tmp 38)) (cW X hS.1)) ⟨s, ⟨_, rfl, rfl⟩, hS, ar⟩
     rintro _ a X7 A e (hS : Below V.heap.size V X7 ∧ (X7.heap[g9]? = some (.cells (rsC (lv) (xv)) 114)) ∧ (FmI V.heap.size 3 (x3 v30 lv xv) (n3 n J) (ffD sf cf vf i) X7))
     obtain ⟨BB, F9B, FM⟩ := hS
     have t10 : a.eval (.tmp 10) = .int .i64 ((i : Nat) : Int) := (e _).trans t35
     have t11 : a.eval (.tmp 11) = .int .i64 ((c : Nat) : Int) := e _
     replace t2 := kt e t2
     replace t8 := kt e t8
     replace t9 := kt e t9
     replace t33 := kt e t33
     replace t34 := kt e t34
     replace t35 := kt e t35
     clear e
     refine wp_seq ?_
     refine wp_se 58 [0, 1, 3, 4] [] (fun _ s X => Below V.heap.size V X ∧ (X.heap[g9]? = some (.cells (rsC (lv) (xv)) 114)) ∧ (FmI V.heap.size 3 (x3 v30 lv xv) (n3 n J) (ffD sf cf vf i) X)) (fun s => fun i_ => match i_ with | 0 => .pointer (some ⟨g9, 0, none⟩) | 1 => lv | 3 => .slice (some ⟨gl, 0, none⟩) c cl | 4 => .int .i64 ((sumN (lefC (gN sf) (gN cf) i) c : Nat) : Int) | _ => undef) () A ⟨BB, F9B, FM⟩ (And.intro ?_ (And.intro ?_ (And.intro ?_ (And.intro ?_ trivial)))) ?_
     ·exact fun s a X e hS => stepV rfl rfl (execFldRs0 rfl ((e (.tmp 9)).trans t9)) ⟨s, ⟨_, rfl, rfl⟩, hS, ar⟩
     ·exact fun s a X e hS => stepV rfl rfl (execLdLI (v := lv) rfl (e (.tmp 40)) (rs_at0 hS.2.1)) ⟨s, ⟨_, rfl, rfl⟩, hS, ar⟩
     ·exact fun s a X e hS => stepV rfl rfl (By8.execSlH rfl ((e (.tmp 41)).trans el') ((e (.tmp 42)).trans t11) (sl_hI gl J cl c (by omega) X)) ⟨s, ⟨_, rfl, rfl⟩, hS, ar⟩
     ·exact fun s a X e hS => stepC rfl rfl (execCall1 Try.func70 (by kernel_rfl) (by kernel_rfl) rfl (e (.tmp 43))) (cS X hS.2.2) fun e w' hh => ⟨_, hh.1, s, ⟨_, rfl, rfl⟩, ⟨(hS.1).trans ((hh.2).mono (hS.1).size), (on9 hS.2.1 hh.2), (hS.2.2.on hh.2)⟩, ar⟩
     rintro _ a X8 A e (hS : Below V.heap.size V X8 ∧ (X8.heap[g9]? = some (.cells (rsC (lv) (xv)) 114)) ∧ (FmI V.heap.size 3 (x3 v30 lv xv) (n3 n J) (ffD sf cf vf i) X8))
     obtain ⟨BB, F9B, FM⟩ := hS
     have t12 : a.eval (.tmp 12) = .int .i64 ((sumN (lefC (gN sf) (gN cf) i) c : Nat) : Int) := e _
     replace t2 := kt e t2
     replace t8 := kt e t8
     replace t9 := kt e t9
     replace t33 := kt e t33
     replace t34 := kt e t34
     replace t35 := kt e t35
     replace t10 := kt e t10
     replace t11 := kt e t11
     clear e
     refine wp_se 58 [4, 6, 7, 8, 9, 10, 11] [6, 11] (fun k_ s X => match k_ with | 0 => Below V.heap.size V X ∧ (X.heap[g9]? = some (.cells (rsC (lv) (xv)) 114)) ∧ (FmI V.heap.size 3 (x3 v30 lv xv) (n3 n J) (ffD sf cf vf i) X) | 1 => Below V.heap.size V X ∧ (X.heap[g9]? = some (.cells (rsC (lv) (xv)) 114)) ∧ (FmI V.heap.size 3 (x3 v30 lv xv) (n3 n J) (updF (updF (ffD sf cf vf i) 2 c ((p_ + 1 : Nat) : Int)) 1 c ((q_ - 1 : Nat) : Int)) X) | _ => Below V.heap.size V X ∧ (X.heap[g9]? = some (.cells (rsC (lv) (xv)) 114)) ∧ (FmI V.heap.size 3 (x3 v30 lv xv) (n3 n J) (updF (updF (updF (ffD sf cf vf i) 2 c ((p_ + 1 : Nat) : Int)) 1 c ((q_ - 1 : Nat) : Int)) 0 i ((sumN (lefC (gN sf) (gN cf) i) c + o_ : Nat) : Int)) X)) (fun s => fun i_ => match i_ with | 4 => .agg (rsC (lv) (xv)) | 6 => .int .i64 ((p_ : Nat) : Int) | 7 => .pointer (some ⟨kb, ko + p_, none⟩) | 8 => .int .i64 ((o_ : Nat) : Int) | 9 => .int .i64 ((sumN (lefC (gN sf) (gN cf) i) c + o_ : Nat) : Int) | 10 => .pointer (some ⟨g30, 0 + i, none⟩) | _ => undef) () A ⟨BB, F9B, FM⟩ (And.intro ?_ (And.intro ?_ (And.intro ?_ (And.intro ?_ (And.intro ?_ (And.intro ?_ (And.intro ?_ trivial))))))) ?_
     ·exact fun s a X e hS => stepV rfl rfl (execLdRs rfl ((e (.tmp 9)).trans t9) hS.2.1) ⟨s, ⟨_, rfl, rfl⟩, hS, ar⟩
     ·intro s a X e hS
      refine stepC rfl rfl (execCall2 Try.func74 (by kernel_rfl) (by kernel_rfl) rfl (e (.tmp 49)) ((e (.tmp 50)).trans t11)) (pvisit V X 3 1 2 c p_ q_ (x3 v30 lv xv) (n3 n J) (ffD sf cf vf i) hS.1 hS.2.2 (by omega) (by omega) (by omega) hcJ hcJ (by rw [← ep]; rfl) (by rw [← eq]; rfl) (by omega) (by omega) (by omega)) fun e w' hh => ?_
      obtain ⟨he, hk, hsv, hb⟩ := hh
      refine ⟨_, he, s, ⟨_, rfl, rfl⟩, ⟨hb, (hp_saved hS.2.1 hsv (fun z => z.elim (hS.2.2.notT (t := 1) (by omega) hS.2.1 (by decide)) (hS.2.2.notT (t := 2) (by omega) hS.2.1 (by decide)))), hk⟩, ar⟩
     ·exact fun s a X e hS => stepV rfl rfl (execIdxN (k := p_) rfl ((e (.tmp 48)).trans t2) (e (.tmp 51)) hpm) ⟨s, ⟨_, rfl, rfl⟩, hS, ar⟩
     ·exact fun s a X e hS => stepV rfl rfl (execLd3 rfl (e (.tmp 52)) (cK X hS.1)) ⟨s, ⟨_, rfl, rfl⟩, hS, ar⟩
     ·exact fun s a X e hS => stepV rfl rfl (execAd8 (p := sumN (lefC (gN sf) (gN cf) i) c) (q := o_) rfl ((e (.tmp 47)).trans t12) (e (.tmp 53)) (by omega)) ⟨s, ⟨_, rfl, rfl⟩, hS, ar⟩
     ·exact fun s a X e hS => stepV rfl rfl (execIdxN (k := i) rfl (((e (.tmp 45)).trans t8).trans e30') ((e (.tmp 46)).trans t10) lti) ⟨s, ⟨_, rfl, rfl⟩, hS, ar⟩
     ·intro s a X e hS
      obtain ⟨hc_, hf_⟩ := hS.2.2.cell (t := 0) (by omega) e30 lti
      refine stepS rfl rfl (execStI9 rfl (e (.tmp 55)) (e (.tmp 54)) hc_ hf_) ⟨s, ⟨_, rfl, rfl⟩, ⟨(hS.1).setCell hB30 _, ((Below.heap_setCell _ _ _ _ n30).trans hS.2.1), hS.2.2.set (t := 0) (by omega) e30 _⟩, ar⟩
     rintro _ a X9 A e (hS : Below V.heap.size V X9 ∧ (X9.heap[g9]? = some (.cells (rsC (lv) (xv)) 114)) ∧ (FmI V.heap.size 3 (x3 v30 lv xv) (n3 n J) (updF (updF (updF (ffD sf cf vf i) 2 c ((p_ + 1 : Nat) : Int)) 1 c ((q_ - 1 : Nat) : Int)) 0 i ((sumN (lefC (gN sf) (gN cf) i) c + o_ : Nat) : Int)) X9))
     obtain ⟨BB, F9B, FM3⟩ := hS
     replace t2 := kt e t2
     replace t8 := kt e t8
     replace t9 := kt e t9
     replace t33 := kt e t33
     replace t34 := kt e t34
     replace t35 := kt e t35
     clear e t10 t11 t12
     have FM4 := FmI.cgF FM3 (ffD_next sf cf vf n J ec eo ep eq hp0)
     clear FM3
     refine wp_se 58 [0] [] (fun _ s X => Below V.heap.size V X ∧ (X.heap[g9]? = some (.cells (rsC (lv) (xv)) 114)) ∧ (FmI V.heap.size 3 (x3 v30 lv xv) (n3 n J) (ffD sf cf vf (i + 1)) X)) (fun s => fun i_ => match i_ with | 0 => .int .i64 ((i + 1 : Nat) : Int) | _ => undef) () A ⟨BB, F9B, FM4⟩ (And.intro ?_ trivial) ?_
     ·exact fun s a X e hS => stepV rfl rfl (execAd8 (p := i) (q := 1) rfl ((e (.tmp 35)).trans t35) rfl (by omega)) ⟨s, ⟨_, rfl, rfl⟩, hS, ar⟩
     rintro _ a X10 A e (hS : Below V.heap.size V X10 ∧ (X10.heap[g9]? = some (.cells (rsC (lv) (xv)) 114)) ∧ (FmI V.heap.size 3 (x3 v30 lv xv) (n3 n J) (ffD sf cf vf (i + 1)) X10))
     obtain ⟨BB, F9B, FM4⟩ := hS
     replace t35 : a.eval (.tmp 35) = .int .i64 ((i + 1 : Nat) : Int) := e _
     replace t2 := kt e t2
     replace t8 := kt e t8
     replace t9 := kt e t9
     replace t33 := kt e t33
     replace t34 := kt e t34
     clear e
     exact ⟨⟨i + 1, lti, A, t2, t8, t9, t33, t34, t35, BB, F9B, FM4⟩, by show n - (intOf (a.eval (.tmp 35))).toNat < n - (intOf (Act.eval _ (.tmp 35))).toNat; rw [t35, esi]; show n - (i + 1) < n - i; omega⟩
    ·rw [decide_eq_false lti] at t36
     refine wp_cond_false t36 ?_
     refine wp_exit ?_
     first | with_reducible refine exit_in ?_ | with_reducible refine exit_then (exit_in ?_) | with_reducible refine exit_then (exit_then (exit_in ?_)) | refine exit_in ?_ | refine exit_then (exit_in ?_) | refine exit_then (exit_then (exit_in ?_))
     clear t36 esi
     obtain rfl : i = n := by omega
     clear t2 t9 t33 t34 t35 F9B
     refine wp_seq ?_
     refine wp_se 58 [] [] (fun _ s X => Below V.heap.size V X ∧ (FmI V.heap.size 3 (x3 v30 lv xv) (n3 i J) (ffD sf cf vf i) X)) (fun s => fun _ => undef) () A ⟨BB, FM⟩ trivial ?_
     rintro _ a X11 A e (hS : Below V.heap.size V X11 ∧ (FmI V.heap.size 3 (x3 v30 lv xv) (n3 i J) (ffD sf cf vf i) X11))
     obtain ⟨BB, FM⟩ := hS
     have t6 : a.eval (.tmp 6) = v30 := (e _).trans t8
     have t7 : a.eval (.tmp 7) = .int .i64 ((0 : Nat) : Int) := e _
     clear e t8
     have FO : X11.ownsRow V.heap.size 3 1 v30 i (intsL i (fun k => if k < i then dwF sf cf vf k else 0)) := FM.rows 0 (by omega)
     rw [intsL_congr (g := dwF sf cf vf) (fun j hj => if_pos hj)] at FO
     refine wp_ret ?_
     refine bodyPost_ret (results_tmp2 rfl _ _ _) A.2 ⟨v30, ?_, FO, BB⟩
     show Ending.returned (.tuple #[a.eval (.tmp 6), a.eval (.tmp 7)]) = _
     rw [t6, t7]
end Go.Proofs.Ytmjpneaccjlpkaa.Brd
