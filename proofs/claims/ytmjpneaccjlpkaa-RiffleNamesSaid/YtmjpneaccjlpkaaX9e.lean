import Derived.Test.YtmjpneaccjlpkaaF9c
import Derived.Test.YtmjpneaccjlpkaaF9b
import Derived.Test.YtmjpneaccjlpkaaF9a
import Derived.Test.YtmjpneaccjlpkaaX9d
namespace Go.Proofs.Ytmjpneaccjlpkaa.Rif
open Go.RowKit Gf8 Aes By8 Cel Cf Tap Drw Prm Brd
/- Package riffle's turnedBraid, turnedChunks. Written by tools/mkX9e.py. -/
theorem dw0 (sf cf vf : Nat → Int) (J n m : Nat) (v u0 u1 : Value) (V : World) (hv : SliceI V v J sf) (hJ17 : J ≤ 17592186044416) (hv2 : SliceI V u0 n cf) (hn17 : n ≤ 256) (hv3 : SliceI V u1 m vf) (hq : drQ sf J cf n vf m = true) :
  Calls Try.prog 61 #[v, u0, u1] V fun e w' => ∃ r, e = .returned (.tuple #[r, .int .i64 ((0 : Nat) : Int)]) ∧ SliceI w' r n (dwF sf cf vf) ∧ Below V.heap.size V w' :=
 Calls.mono (pdraws12 sf cf vf J n m v u0 u1 V hv hJ17 hv2 (by omega) hv3) fun e w' ⟨r, g1, g2, g3⟩ => by
  have hE : drE sf J cf n vf m = 0 := drE_ok hq
  have hf := dw_fits (sf := sf) (J := J) (cf := cf) (n := n) (vf := vf) (m := m) (by omega)
  rw [hE] at g1
  rw [hE, zl_ok] at g2
  rw [hE, zl_ok] at hf
  exact ⟨r, g1, own_ints g2 hf, g3⟩
theorem dr0 (f : Nat → Int) (n : Nat) (v : Value) (V : World) (hv : SliceI V v n f) (hn : n ≤ 256) (hE : pE f n = 0) :
  Calls Try.prog 63 #[v] V fun e w' => ∃ r, e = .returned (.tuple #[r, .int .i64 ((0 : Nat) : Int)]) ∧ SliceI w' r (n - 1) (fun j => (drD n (gN f) j : Int)) ∧ Below V.heap.size V w' :=
 Calls.mono (pdraws f n v V hv (by omega)) fun e w' ⟨r, g1, g2, g3⟩ => by
  rw [hE] at g1
  rw [hE, zl_ok] at g2
  refine ⟨r, g1, own_ints g2 (fun j hj => ?_), g3⟩
  have h3 := drD_lt (n := n) (f := gN f) (k := j) (by omega)
  omega
theorem poQ_fits {q : Nat → Nat} {l N J : Nat} : ∀ j, j < N → -9223372036854775808 ≤ poF (sI N J) J (dQ q l N) N j ∧ poF (sI N J) J (dQ q l N) N j < 9223372036854775808 := by
 have h := po_fits (E := 0) (sf := sI N J) (J := J) (df := dQ q l N) (m := N) (fun j hj => dA_fits _ _ _ N j hj)
 rw [zl_ok] at h
 exact h
theorem tkA_base {W : World} {B C n : Nat} {v : Value} {q : Nat → Nat} (h : TkA W C v n q) (hB : B ≤ C) : TkA W B v n q := by
 rcases h with h | h
 ·exact Or.inl h
 ·exact Or.inr (h.base hB)
section
variable (q : Nat → Nat) (l : Nat) (bs ws : Nat → Int) (n : Nat) (pv bv wv : Value) (V : World)
theorem tu0 (FP : SliceN V pv l q) (hl : l ≤ 140737488351232) (hz : ∀ l c, pv = .slice none l c → c = 0) (FB : SliceI V bv n bs) (hn : n ≤ 17592186044416) (FW : SliceI V wv n ws) (hT : trE q l bs n ws n = 0) :
  Calls Try.prog 62 #[pv, bv, wv] V fun e w' => ∃ r, e = .returned (.tuple #[r, .int .i64 ((0 : Nat) : Int)]) ∧ TkA w' V.heap.size r l (trF q l bs ws n) ∧ Below V.heap.size V w' :=
 Calls.mono (Drw.impl.turn q l bs ws n n pv bv wv V FP hl hz FB hn FW hn) fun e w' ⟨r, g1, g2, g3⟩ => by
  have hN : trN q l bs n ws n = l := if_pos hT
  rw [hT] at g1
  rw [hN] at g2
  exact ⟨r, g1, g2, g3⟩
theorem tu3 (FP : SliceN V pv l q) (hl : l ≤ 140737488351232) (hz : ∀ l c, pv = .slice none l c → c = 0) (FB : SliceI V bv n bs) (hn : n ≤ 17592186044416) (FW : SliceI V wv n ws) (hT : trE q l bs n ws n = 3) :
  Calls Try.prog 62 #[pv, bv, wv] V fun e w' => ∃ r, e = .returned (.tuple #[r, .int .i64 ((3 : Nat) : Int)]) ∧ Below V.heap.size V w' :=
 Calls.mono (Drw.impl.turn q l bs ws n n pv bv wv V FP hl hz FB hn FW hn) fun e w' ⟨r, g1, g2, g3⟩ => ⟨r, by rw [hT] at g1; exact g1, g3⟩
end
theorem trE_bI3 {p : Nat → Nat} {l n m : Nat} {ws : Nat → Int} (hn : n ≤ 256) (hm : m ≤ n) (ho : okB p l (bI n) m = false) (hw : wOk (bI n) ws m) : trE p l (bI n) m ws m = 3 := by
 unfold trE
 rw [if_neg (by rw [bI_any hn hm, anyW_no.2 hw]; simp), if_neg (by rw [ho]; decide)]
section
variable {L J n : Nat} {s p w : Nat → Nat}
theorem bW_okB (hn : sumN s J = n) (hb : okA (brP p) (lb L) (bI n) n) (hw : IsP w n) : wOk (bI n) (bW L J n s p w) n := fun i hi => by
 have hd : ∀ k, k < n → dB L n p k < n - k := fun k hk => by
  have : (dB L n p k : Int) < (n : Int) - (k : Int) := dA_lt' hb hk
  omega
 have hp : IsPat s J n (ptT L J n s p) := chD_pat hn hd
 have g := drC_lt (o := cyO s J n (ptT L J n s p) (ofT L J n s p) (wC s J w)) hn (wC_pat hn hw).lt (fun _ q => cyO_lt hn hp (fun _ q => ofD_lt hn hd q) (wC_pat hn hw) q) hi
 constructor
 ·show (0 : Int) ≤ ((_ : Nat) : Int)
  omega
 ·show ((drC s (wC s J w) (cyO s J n (ptT L J n s p) (ofT L J n s p) (wC s J w)) i : Nat) : Int) < (n : Int) - (i : Int)
  omega
theorem dr_okB (hn : n ≤ 256) (h1 : 1 ≤ J) (h2 : J ≤ 64) (hb : okA (brP p) (lb L) (bI n) n) (hw : IsP w n) : drQ (sI n J) J (wCI J n w) n (poF (sI n J) J (dQ (brP p) (lb L) n) n) n = true := by
 have hp : paQ (sI n J) J (dQ (brP p) (lb L) n) n = true := paQ_iff.2 ⟨sI_szQ hn h1 h2, by rw [sI_g, szF_sum n h1], dA_fa hb⟩
 have hc := wC_pat (szF_sum n h1) hw
 refine drQ_iff.2 ⟨sI_szQ hn h1 h2, stQ_iff.2 ⟨fun i hi => ?_, fun j hj => ?_⟩, by rw [sI_g, szF_sum n h1], (drQ_iff.1 (carry hp hp)).2.2.2⟩
 ·have := hc.lt i hi
  show 0 ≤ ((wC (szF n J) J w i : Nat) : Int) ∧ ((wC (szF n J) J w i : Nat) : Int) < _
  omega
 ·show ((szF n J j : Nat) : Int) = ((cntC (wC (szF n J) J w) j n : Nat) : Int)
  rw [hc.cnt j hj]
end
def tkF (L J N : Nat) (p w : Nat → Nat) (x : Nat) : Nat := tuK L J N (szF N J) p w (x / lq L J) (x % lq L J)
theorem tk_at {L J N j k : Nat} {p w : Nat → Nat} (hk : k < lq L J) : tkF L J N p w (j * lq L J + k) = tuK L J N (szF N J) p w j k := by
 unfold tkF
 rw [show j * lq L J + k = k + lq L J * j by rw [Nat.mul_comm, Nat.add_comm], Nat.add_mul_div_left _ _ (by omega), Nat.add_mul_mod_self_left, Nat.div_eq_of_lt hk, Nat.mod_eq_of_lt hk, Nat.zero_add]
set_option maxRecDepth 100000 in
set_option maxHeartbeats 4000000 in
theorem tb0 (p : Nat → Nat) (L N J : Nat) (w : Nat → Nat) (bv sv uv : Value) (V : World) (FB : SliceN V bv (lb L) (brP p)) (hlb : lb L ≤ 140737488351232) (hz : ∀ l c, bv = .slice none l c → c = 0) (FXs : SliceI V sv J (sI N J)) (FU : SliceI V uv N (wCI J N w)) (hN : N ≤ 256) (h1 : 1 ≤ J) (h2 : J ≤ 64) (hw : IsP w N) (hbr : okB (brP p) (lb L) (bI N) N = true) :
  Calls Try.prog 36 #[bv, sv, uv] V fun e w' => ∃ r, e = .returned (.tuple #[r, .int .i64 ((0 : Nat) : Int)]) ∧ TkA w' V.heap.size r (lb L) (tuB L J N (szF N J) p w) ∧ Below V.heap.size V w' := by
 go_enter Try.func36, Try.ntmps36
 refine wp_seq ?_
 refine wp_region_sqK 43 [(0, 6), (1, 7)] (fun i_ => match i_ with | 0 => .slice none 0 0 | 1 => .int .i64 ((0 : Nat) : Int) | _ => undef) rfl (by kernel_rfl) (by decide) (by decide) ?_ ?_
 ·intro i_ hi_ a hf hv hn
  match i_, hi_ with
  | 0, _ => exact stepV rfl rfl (execAsgB rfl rfl) ⟨⟨_, rfl, rfl⟩, rfl⟩
  | 1, _ => exact stepV rfl rfl (execAsgB rfl rfl) ⟨⟨_, rfl, rfl⟩, rfl⟩
  | k_ + 2, h_ => exact absurd h_ (by simp)
 intro a h1 h2 h3 h4
 have t0 : a.eval (.tmp 0) = bv := (h3 0 (by decide)).trans rfl
 have t1 : a.eval (.tmp 1) = sv := (h3 1 (by decide)).trans rfl
 have t2 : a.eval (.tmp 2) = uv := (h3 2 (by decide)).trans rfl
 have A : a.tmps.size = 43 ∧ a.defers = [] := ⟨h1, h2⟩
 have BW : Below V.heap.size V V := Below.refl _ _
 clear h1 h2 h3 h4
 refine wp_seq ?_
 refine wp_se 43 [1] [] (fun _ s X => Below V.heap.size V X) (fun s => fun i_ => match i_ with | 1 => .int .i64 ((N : Nat) : Int) | _ => undef) () A (Below.refl _ _) (And.intro ?_ trivial) ?_
 ·exact fun s a X e hS => stepV rfl rfl (execLenI (len := N) rfl ((e (.tmp 13)).trans t2) ((FU.on hS)).shp) ⟨s, ⟨_, rfl, rfl⟩, hS, ar⟩
 rintro _ a X1 A e (bX : Below V.heap.size V X1)
 have t8 : a.eval (.tmp 8) = .int .i64 ((N : Nat) : Int) := e _
 replace t0 := kt e t0
 replace t1 := kt e t1
 replace t2 := kt e t2
 replace FB := (FB.on bX)
 replace FXs := (FXs.on bX)
 replace FU := (FU.on bX)
 have ZX1 := bX.size
 replace BW := BW.trans (bX.mono BW.size)
 clear bX
 clear e
 refine wp_seq ?_
 refine wp_se (σ := Value × Value) 43 [3] [3] (fun k_ s X => match k_ with | 0 => Below X1.heap.size X1 X | _ => Below X1.heap.size X1 X ∧ (SliceI X s.2 (N) (poF (sI N J) J (dQ (brP p) (lb L) N) N))) (fun s => fun i_ => match i_ with | 3 => .tuple #[s.1, s.2, .int .i64 ((0 : Nat) : Int)] | _ => undef) (undef, undef) A (Below.refl _ _) (And.intro ?_ trivial) ?_
 ·intro s a X e hS
  refine stepC rfl rfl (execCall3 Try.func21 (by kernel_rfl) (by kernel_rfl) rfl ((e (.tmp 16)).trans t0) ((e (.tmp 17)).trans t8) ((e (.tmp 18)).trans t1)) (br0 (brP p) (lb L) N J _ _ X (FB.on hS) hlb (FXs.on hS) hN h1 h2 hbr) fun e w' hh => ?_
  obtain ⟨r1_, r2_, he, hk, hb⟩ := hh
  refine ⟨_, he, (r1_, r2_), ⟨_, rfl, rfl⟩, ⟨(hS).trans ((hb).mono (hS).size), own_ints (hk.rows 1 (by omega)) poQ_fits⟩, (And.intro (fun h => absurd h (by decide)) trivial)⟩
 rintro ⟨u_, w_⟩ a X2 A e (hS : Below X1.heap.size X1 X2 ∧ (SliceI X2 w_ (N) (poF (sI N J) J (dQ (brP p) (lb L) N) N)))
 obtain ⟨bX, Fo⟩ := hS
 have t10 : a.eval (.tmp 10) = w_ := e _
 have t11 : a.eval (.tmp 11) = .int .i64 ((0 : Nat) : Int) := e _
 replace t0 := kt e t0
 replace t1 := kt e t1
 replace t2 := kt e t2
 replace t8 := kt e t8
 replace FB := (FB.on bX)
 replace FXs := (FXs.on bX)
 replace FU := (FU.on bX)
 have ZX2 := bX.size
 replace BW := BW.trans (bX.mono BW.size)
 clear bX
 clear e
 refine wp_seq (wp_seq ?_)
 refine wp_se 43 [1] [] (fun _ s X => Below X2.heap.size X2 X) (fun s => fun i_ => match i_ with | 1 => .bool false | _ => undef) () A (Below.refl _ _) (And.intro ?_ trivial) ?_
 ·exact fun s a X e hS => stepV rfl rfl (execDec (execNeE (p := 0) (q := 0) rfl ((e (.tmp 23)).trans t11) rfl) (decide_eq_false (by decide))) ⟨s, ⟨_, rfl, rfl⟩, hS, ar⟩
 rintro _ a X3 A e (bX : Below X2.heap.size X2 X3)
 have t24 : a.eval (.tmp 24) = .bool false := e _
 replace t0 := kt e t0
 replace t1 := kt e t1
 replace t2 := kt e t2
 replace t8 := kt e t8
 replace t10 := kt e t10
 replace FB := (FB.on bX)
 replace FXs := (FXs.on bX)
 replace FU := (FU.on bX)
 replace Fo := (Fo.on bX)
 have ZX3 := bX.size
 replace BW := BW.trans (bX.mono BW.size)
 clear bX
 clear e t11
 refine wp_cond_false t24 (wp_skip ?_)
 clear t24
 refine wp_seq ?_
 refine wp_se (σ := Value) 43 [3] [3] (fun k_ s X => match k_ with | 0 => Below X3.heap.size X3 X | _ => Below X3.heap.size X3 X ∧ (SliceI X s (N) (bW L J N (szF N J) p w))) (fun s => fun i_ => match i_ with | 3 => .tuple #[s, .int .i64 ((0 : Nat) : Int)] | _ => undef) undef A (Below.refl _ _) (And.intro ?_ trivial) ?_
 ·intro s a X e hS
  refine stepC rfl rfl (execCall3 Try.func61 (by kernel_rfl) (by kernel_rfl) rfl ((e (.tmp 27)).trans t1) ((e (.tmp 28)).trans t2) ((e (.tmp 29)).trans t10)) (dw0 (sI N J) (wCI J N w) (poF (sI N J) J (dQ (brP p) (lb L) N) N) J N N _ _ _ X (FXs.on hS) (by omega) (FU.on hS) (by omega) (Fo.on hS) (dr_okB hN h1 h2 (okB_iff.1 hbr) hw)) fun e w' hh => ?_
  obtain ⟨r_, he, hk, hb⟩ := hh
  refine ⟨_, he, r_, ⟨_, rfl, rfl⟩, ⟨(hS).trans ((hb).mono (hS).size), hk⟩, (And.intro (fun h => absurd h (by decide)) trivial)⟩
 rintro d_ a X5 A e (hS : Below X3.heap.size X3 X5 ∧ (SliceI X5 d_ (N) (bW L J N (szF N J) p w)))
 obtain ⟨bX, Fd⟩ := hS
 have t11 : a.eval (.tmp 11) = .int .i64 ((0 : Nat) : Int) := e _
 have t12 : a.eval (.tmp 12) = d_ := e _
 replace t0 := kt e t0
 replace t8 := kt e t8
 replace FB := (FB.on bX)
 replace FXs := (FXs.on bX)
 replace FU := (FU.on bX)
 replace Fo := (Fo.on bX)
 have ZX5 := bX.size
 replace BW := BW.trans (bX.mono BW.size)
 clear bX
 clear e t1 t2 t10
 refine wp_seq (wp_seq ?_)
 refine wp_se 43 [1] [] (fun _ s X => Below X5.heap.size X5 X) (fun s => fun i_ => match i_ with | 1 => .bool false | _ => undef) () A (Below.refl _ _) (And.intro ?_ trivial) ?_
 ·exact fun s a X e hS => stepV rfl rfl (execDec (execNeE (p := 0) (q := 0) rfl ((e (.tmp 33)).trans t11) rfl) (decide_eq_false (by decide))) ⟨s, ⟨_, rfl, rfl⟩, hS, ar⟩
 rintro _ a X6 A e (bX : Below X5.heap.size X5 X6)
 have t34 : a.eval (.tmp 34) = .bool false := e _
 replace t0 := kt e t0
 replace t8 := kt e t8
 replace t12 := kt e t12
 replace FB := (FB.on bX)
 replace FXs := (FXs.on bX)
 replace FU := (FU.on bX)
 replace Fo := (Fo.on bX)
 replace Fd := (Fd.on bX)
 have ZX6 := bX.size
 replace BW := BW.trans (bX.mono BW.size)
 clear bX
 clear e t11
 refine wp_cond_false t34 (wp_skip ?_)
 clear t34
 refine wp_seq ?_
 refine wp_se (σ := Value × Value) 43 [2, 4] [2, 4] (fun k_ s X => match k_ with | 0 => Below X6.heap.size X6 X | 1 => Below X6.heap.size X6 X ∧ (SliceI X s.1 (N) (bI N)) | _ => Below X6.heap.size X6 X ∧ (SliceI X s.1 (N) (bI N)) ∧ (TkA X V.heap.size s.2 (lb L) (tuB L J N (szF N J) p w))) (fun s => fun i_ => match i_ with | 2 => s.1 | 4 => .tuple #[s.2, .int .i64 ((0 : Nat) : Int)] | _ => undef) (undef, undef) A (Below.refl _ _) (And.intro ?_ (And.intro ?_ trivial)) ?_
 ·intro s a X e hS
  refine stepC rfl rfl (execCall1 Try.func42 (by kernel_rfl) (by kernel_rfl) rfl ((e (.tmp 37)).trans t8)) (pbd hN X) fun e w' hh => ?_
  obtain ⟨r_, he, hk, hb⟩ := hh
  refine ⟨_, he, (r_, s.2), ⟨_, rfl, rfl⟩, ⟨(hS).trans ((hb).mono (hS).size), hk⟩, (And.intro (fun h => absurd h (by decide)) (And.intro (fun h => absurd h (by decide)) trivial))⟩
 ·intro s a X e hS
  refine stepC rfl rfl (execCall3 Try.func62 (by kernel_rfl) (by kernel_rfl) rfl ((e (.tmp 36)).trans t0) (e (.tmp 38)) ((e (.tmp 39)).trans t12)) (tu0 (brP p) (lb L) (bI N) (bW L J N (szF N J) p w) N _ _ _ X (FB.on hS.1) hlb hz hS.2 (by omega) (Fd.on hS.1) (trE_bI hN (Nat.le_refl _) (okB_iff.1 hbr) (bW_okB (szF_sum N h1) (okB_iff.1 hbr) hw))) fun e w' hh => ?_
  obtain ⟨r_, he, hk, hb⟩ := hh
  refine ⟨_, he, (s.1, r_), ⟨_, rfl, rfl⟩, ⟨(hS.1).trans ((hb).mono (hS.1).size), (hS.2.on hb), tkA_base hk (Nat.le_trans BW.size (hS.1).size)⟩, (And.intro (fun _ => rfl) (And.intro (fun h => absurd h (by decide)) trivial))⟩
 rintro ⟨b_, q_⟩ a X8 A e (hS : Below X6.heap.size X6 X8 ∧ (SliceI X8 b_ (N) (bI N)) ∧ (TkA X8 V.heap.size q_ (lb L) (tuB L J N (szF N J) p w)))
 obtain ⟨bX, Fb, FQ⟩ := hS
 have t6 : a.eval (.tmp 6) = q_ := e _
 have t7 : a.eval (.tmp 7) = .int .i64 ((0 : Nat) : Int) := e _
 replace FB := (FB.on bX)
 replace FXs := (FXs.on bX)
 replace FU := (FU.on bX)
 replace Fo := (Fo.on bX)
 replace Fd := (Fd.on bX)
 have ZX8 := bX.size
 replace BW := BW.trans (bX.mono BW.size)
 clear bX
 clear e t0 t8 t12
 refine wp_ret ?_
 repeat (first | with_reducible refine ret_in ?_ | with_reducible refine ret_then ?_)
 refine bodyPost_ret (results_tmp2 rfl _ _ _) A.2 ⟨_, ?_, FQ, BW⟩
 show Ending.returned (.tuple #[a.eval (.tmp 6), a.eval (.tmp 7)]) = _
 rw [t6, t7]
set_option maxRecDepth 100000 in
set_option maxHeartbeats 4000000 in
theorem tb3 (p : Nat → Nat) (L N J : Nat) (w : Nat → Nat) (bv sv uv : Value) (V : World) (FB : SliceN V bv (lb L) (brP p)) (hlb : lb L ≤ 140737488351232) (_hz : ∀ l c, bv = .slice none l c → c = 0) (FXs : SliceI V sv J (sI N J)) (FU : SliceI V uv N (wCI J N w)) (hN : N ≤ 256) (h1 : 1 ≤ J) (h2 : J ≤ 64) (_hw : IsP w N) (hbr : okB (brP p) (lb L) (bI N) N = false) :
  Calls Try.prog 36 #[bv, sv, uv] V fun e w' => ∃ r, e = .returned (.tuple #[r, .int .i64 ((3 : Nat) : Int)]) ∧ Below V.heap.size V w' := by
 go_enter Try.func36, Try.ntmps36
 refine wp_seq ?_
 refine wp_region_sqK 43 [(0, 6), (1, 7)] (fun i_ => match i_ with | 0 => .slice none 0 0 | 1 => .int .i64 ((0 : Nat) : Int) | _ => undef) rfl (by kernel_rfl) (by decide) (by decide) ?_ ?_
 ·intro i_ hi_ a hf hv hn
  match i_, hi_ with
  | 0, _ => exact stepV rfl rfl (execAsgB rfl rfl) ⟨⟨_, rfl, rfl⟩, rfl⟩
  | 1, _ => exact stepV rfl rfl (execAsgB rfl rfl) ⟨⟨_, rfl, rfl⟩, rfl⟩
  | k_ + 2, h_ => exact absurd h_ (by simp)
 intro a h1 h2 h3 h4
 have t0 : a.eval (.tmp 0) = bv := (h3 0 (by decide)).trans rfl
 have t1 : a.eval (.tmp 1) = sv := (h3 1 (by decide)).trans rfl
 have t2 : a.eval (.tmp 2) = uv := (h3 2 (by decide)).trans rfl
 have A : a.tmps.size = 43 ∧ a.defers = [] := ⟨h1, h2⟩
 have BW : Below V.heap.size V V := Below.refl _ _
 clear h1 h2 h3 h4
 refine wp_seq ?_
 refine wp_se 43 [1] [] (fun _ s X => Below V.heap.size V X) (fun s => fun i_ => match i_ with | 1 => .int .i64 ((N : Nat) : Int) | _ => undef) () A (Below.refl _ _) (And.intro ?_ trivial) ?_
 ·exact fun s a X e hS => stepV rfl rfl (execLenI (len := N) rfl ((e (.tmp 13)).trans t2) ((FU.on hS)).shp) ⟨s, ⟨_, rfl, rfl⟩, hS, ar⟩
 rintro _ a X1 A e (bX : Below V.heap.size V X1)
 have t8 : a.eval (.tmp 8) = .int .i64 ((N : Nat) : Int) := e _
 replace t0 := kt e t0
 replace t1 := kt e t1
 replace t2 := kt e t2
 replace FB := (FB.on bX)
 replace FXs := (FXs.on bX)
 replace FU := (FU.on bX)
 have ZX1 := bX.size
 replace BW := BW.trans (bX.mono BW.size)
 clear bX
 clear e
 refine wp_seq ?_
 refine wp_se (σ := Value × Value) 43 [3] [] (fun _ s X => Below X1.heap.size X1 X) (fun s => fun i_ => match i_ with | 3 => .tuple #[s.1, s.2, .int .i64 ((3 : Nat) : Int)] | _ => undef) (undef, undef) A (Below.refl _ _) (And.intro ?_ trivial) ?_
 ·intro s a X e hS
  refine stepC rfl rfl (execCall3 Try.func21 (by kernel_rfl) (by kernel_rfl) rfl ((e (.tmp 16)).trans t0) ((e (.tmp 17)).trans t8) ((e (.tmp 18)).trans t1)) (br3 (brP p) (lb L) N J _ _ X (FB.on hS) hlb (FXs.on hS) hN h1 h2 hbr) fun e w' hh => ?_
  obtain ⟨r1_, r2_, he, hb⟩ := hh
  refine ⟨_, he, (r1_, r2_), ⟨_, rfl, rfl⟩, (hS).trans ((hb).mono (hS).size), (And.intro (fun h => absurd h (by decide)) trivial)⟩
 rintro ⟨u_, w_⟩ a X2 A e (bX : Below X1.heap.size X1 X2)
 have t11 : a.eval (.tmp 11) = .int .i64 ((3 : Nat) : Int) := e _
 replace FB := (FB.on bX)
 replace FXs := (FXs.on bX)
 replace FU := (FU.on bX)
 have ZX2 := bX.size
 replace BW := BW.trans (bX.mono BW.size)
 clear bX
 clear e t0 t1 t2 t8
 refine wp_seq (wp_seq ?_)
 refine wp_se 43 [1] [] (fun _ s X => Below X2.heap.size X2 X) (fun s => fun i_ => match i_ with | 1 => .bool true | _ => undef) () A (Below.refl _ _) (And.intro ?_ trivial) ?_
 ·exact fun s a X e hS => stepV rfl rfl (execDec (execNeE (p := 3) (q := 0) rfl ((e (.tmp 23)).trans t11) rfl) (decide_eq_true (by decide))) ⟨s, ⟨_, rfl, rfl⟩, hS, ar⟩
 rintro _ a X3 A e (bX : Below X2.heap.size X2 X3)
 have t24 : a.eval (.tmp 24) = .bool true := e _
 replace t11 := kt e t11
 replace FB := (FB.on bX)
 replace FXs := (FXs.on bX)
 replace FU := (FU.on bX)
 have ZX3 := bX.size
 replace BW := BW.trans (bX.mono BW.size)
 clear bX
 clear e
 refine wp_cond_true t24 ?_
 clear t24
 refine wp_seq ?_
 refine wp_se 43 [] [] (fun _ s X => Below X3.heap.size X3 X) (fun s => fun _ => undef) () A (Below.refl _ _) trivial ?_
 rintro _ a X4 A e (bX : Below X3.heap.size X3 X4)
 have t6 : a.eval (.tmp 6) = .slice none 0 0 := e _
 have t7 : a.eval (.tmp 7) = .int .i64 ((3 : Nat) : Int) := (e _).trans t11
 replace FB := (FB.on bX)
 replace FXs := (FXs.on bX)
 replace FU := (FU.on bX)
 have ZX4 := bX.size
 replace BW := BW.trans (bX.mono BW.size)
 clear bX
 clear e t11
 refine wp_ret ?_
 repeat (first | with_reducible refine ret_in ?_ | with_reducible refine ret_then ?_)
 refine bodyPost_ret (results_tmp2 rfl _ _ _) A.2 ⟨.slice none 0 0, ?_, BW⟩
 show Ending.returned (.tuple #[a.eval (.tmp 6), a.eval (.tmp 7)]) = _
 rw [t6, t7]
set_option maxRecDepth 100000 in
set_option maxHeartbeats 4000000 in
theorem pturnedChunks (p : Nat → Nat) (L N J : Nat) (w : Nat → Nat) (x y : Nat → Value) (cv ow : Value) (V : World) (hL : LLB V cv J x (lq L J) (ckP L J p)) (hlq : lq L J ≤ 140737488351232) (hJq : J * lq L J ≤ 140737488351232) (hO : LLI V ow J y (szF N J) (wOI J N w)) (hN : N ≤ 256) (h1 : 1 ≤ J) (h2 : J ≤ 64) (hw : IsP w N) :
  Calls Try.prog 37 #[cv, ow] V fun e w' => ∃ r, e = .returned (.tuple #[r, .int .i64 ((shE (ckP L J p) (lq L J) N J : Nat) : Int)]) ∧ (shE (ckP L J p) (lq L J) N J = 0 → w'.ownsRow V.heap.size 5 1 r (J * lq L J) (bytesL (J * lq L J) (tkF L J N p w))) ∧ Below V.heap.size V w' := by
 have hsh : ∃ ao c, ow = .slice ao J c := by obtain ⟨a_, c_, e_, _⟩ := hO.shape; exact ⟨a_, c_, e_⟩
 go_enter Try.func37, Try.ntmps37
 refine wp_seq ?_
 refine wo_ 47 [(0, cv), (1, ow)] ?_
 rintro a A ⟨t0, t1, -⟩
 refine wi_ A (h2_ t0 t1) (rf_ [] (h2_ t0 t1) ?_)
 rintro a A - ⟨t0, t1, -⟩
 have BW : Below V.heap.size V V := Below.refl _ _
 have BB := BW
 refine wp_seq ?_
 refine wi_ A (h2_ t0 t1) (rf_ [(6, .slice none 0 0)] (h2_ t0 t1) ?_)
 rintro a A ⟨t6, -⟩ ⟨t0, t1, -⟩
 refine wp_seq (wp_seq ?_)
 refine wi_ A (h3_ t0 t1 t6) (rv_ 1 (.int .i64 ((J : Nat) : Int)) (fun a e => execLenLI (len := J) rfl (e _) hsh) (rf_ [(12, ow), (13, .int .i64 ((J : Nat) : Int)), (14, .int .i64 ((0 : Nat) : Int))] (h2_ t0 t6) ?_))
 rintro a A ⟨t12, t13, t14, -⟩ ⟨t0, t6, -⟩
 have FO : (V.ownsRow V.heap.size 5 1 (.slice none 0 0) (0 * lq L J) (bytesL (0 * lq L J) (tkF L J N p w))) := by rw [Nat.zero_mul]; exact World.ownsRow_nil _ _ _ _
 refine wp_block ?_
 refine wp_loop (fun a W => ∃ (j : Nat) (tv : Value), j ≤ J ∧ (∀ t, t < j → okB (ckP L J p t) (lq L J) (bI (szF N J t)) (szF N J t - 1) = true) ∧ (a.tmps.size = 47 ∧ a.defers = []) ∧ a.eval (.tmp 0) = cv ∧ a.eval (.tmp 6) = tv ∧ a.eval (.tmp 12) = ow ∧ a.eval (.tmp 13) = .int .i64 ((J : Nat) : Int) ∧ a.eval (.tmp 14) = .int .i64 ((j : Nat) : Int) ∧ Below V.heap.size V W ∧ (W.ownsRow V.heap.size 5 1 tv (j * lq L J) (bytesL (j * lq L J) (tkF L J N p w)))) (fun a _ => J - (intOf (a.eval (.tmp 14))).toNat) ⟨0, _, Nat.zero_le _, fun t ht => absurd ht (Nat.not_lt_zero _), A, t0, t6, t12, t13, t14, BB, FO⟩ ?_
 rintro a XL3 ⟨j, tv, hj, hall, A, t0, t6, t12, t13, t14, BB, FO⟩
 have esj := t14
 refine wp_seq ?_
 refine wi_ A (h5_ t0 t6 t12 t13 t14) (rv_ 0 (.bool (decide (j < J))) (fun a e => execLtW (p := j) (q := J) rfl (e _) (e _)) (rf_ [(15, .bool (decide (j < J)))] (h5_ t0 t6 t12 t13 t14) ?_))
 rintro a A ⟨t15, -⟩ ⟨t0, t6, t12, t13, t14, -⟩
 refine wp_seq ?_
 by_cases ltj : j < J
 ·rw [decide_eq_true ltj] at t15
  refine wp_cond_true t15 (wp_skip ?_)
  clear t15
  refine wp_seq (wp_block ?_)
  obtain ⟨cb, co, cc, ec, hcb, hcc⟩ := hL.at (show 0 < J by omega)
  have cC : ∀ X, Below V.heap.size V X → X.cell? ⟨cb, co + j, none⟩ = some (x j) := fun X hX => by rw [cell_below hX hcb]; exact hcc j ltj
  obtain ⟨ob, oo, oc, eo, hob, hoc⟩ := hO.at (show 0 < J by omega)
  have cO : ∀ X, Below V.heap.size V X → X.cell? ⟨ob, oo + j, none⟩ = some (y j) := fun X hX => by rw [cell_below hX hob]; exact hoc j ltj
  obtain ⟨m, em⟩ : ∃ m, szF N J j = m := ⟨_, rfl⟩
  have hm : m ≤ N := by rw [← em]; exact szF_le N ltj
  have hyj : SliceI V (y j) m (wOI J N w j) := em ▸ hO.lists j ltj
  have hyE : pE (wOI J N w j) m = 0 := em ▸ wOI_ok h1 hw ltj
  have hq1 : (j + 1) * lq L J ≤ J * lq L J := Nat.mul_le_mul_right _ ltj
  have hq2 : (j + 1) * lq L J = j * lq L J + lq L J := Nat.succ_mul _ _
  refine wp_seq ?_
  refine wi_ A (h5_ t0 t6 t12 t13 t14) (rv_ 1 (.pointer (some ⟨ob, oo + j, none⟩)) (fun a e => execIdxLI (k := j) rfl ((e _).trans eo) (e _) ltj) (rv_ 2 (y j) (fun a e => execLdLI (v := y j) rfl (e _) (cO XL3 BB)) (rf_ [(7, .int .i64 ((j : Nat) : Int)), (8, y j)] (h5_ t0 t6 t12 t13 t14) ?_)))
  rintro a A ⟨t7, t8, -⟩ ⟨t0, t6, t12, t13, t14, -⟩
  refine wp_seq ?_
  refine wi_ A (h7_ t0 t6 t12 t13 t14 t7 t8) (rc_ 1 (dr0 (wOI J N w j) m _ XL3 (hyj.on BB) (by omega) hyE) fun e X5 hh => ?_)
  obtain ⟨d_, he, hk, hb⟩ := hh
  refine ⟨_, he, ?_⟩
  have bQ : Below XL3.heap.size XL3 X5 := hb
  have Fd : (SliceI X5 d_ (m - 1) (kW J N (szF N J) w j)) := (by subst em; exact hk)
  replace FO := (ownsRow_below FO bQ)
  replace BB := BB.trans (bQ.mono BB.size)
  clear bQ
  refine rf_ [(9, d_), (10, .int .i64 ((0 : Nat) : Int))] (h7_ t0 t6 t12 t13 t14 t7 t8) ?_
  rintro a A ⟨t9, t10, -⟩ ⟨t0, t6, t12, t13, t14, t7, t8, -⟩
  refine wp_seq (wp_seq ?_)
  refine wi_ A (h9_ t0 t6 t12 t13 t14 t7 t8 t9 t10) (rv_ 1 (.bool false) (fun a e => execDec (execNeE (p := 0) (q := 0) rfl (e _) rfl) (decide_eq_false (by decide))) (rf_ [(25, .bool false)] (h8_ t0 t6 t12 t13 t14 t7 t8 t9) ?_))
  rintro a A ⟨t25, -⟩ ⟨t0, t6, t12, t13, t14, t7, t8, t9, -⟩
  refine wp_cond_false t25 (wp_skip ?_)
  clear t25
  refine wp_seq ?_
  cases hok : okB (ckP L J p j) (lq L J) (bI m) (m - 1) with
  | false =>
   have hTE : trE (ckP L J p j) (lq L J) (bI m) (m - 1) (kW J N (szF N J) w j) (m - 1) = 3 := trE_bI3 (by omega) (by omega) hok (by subst em; exact kW_ok j)
   refine wj_ [0, 1, 2, 3, 4, 5, 7, 6, 8, 9, 10, 11, 12, 13] [6, 8] [3] [] A (h8_ t0 t6 t12 t13 t14 t7 t8 t9) (fun X8_0 bD => ?_)
   refine dw_ 2 (.pointer (some ⟨cb, co + j, none⟩)) (fun a X e => Cf.execIdxL (k := j) rfl ((e _).trans ec) (e _) ltj) (dv_ 3 (x j) (fun a X e hb => execLdL rfl (e _) (cC X (BB.trans (hb.mono BB.size)))) (dw_ 5 (.int .i64 ((m : Nat) : Int)) (fun a X e => execLenI (len := m) rfl (e _) hyj.shp) (dc_ 6 (ppb (show m ≤ 256 by omega) X8_0) fun e X8_1 hh => ?_)))
   obtain ⟨b_, he, hk, hb⟩ := hh
   refine ⟨_, he, ?_⟩
   have bQ : Below X8_0.heap.size X8_0 X8_1 := hb
   have Fb : (SliceI X8_1 b_ (m - 1) (bI m)) := hk
   replace bD := bD.trans (bQ.mono bD.size)
   clear bQ
   refine ⟨Or.inr bD, ?_⟩
   refine dc_ 8 (tu3 (ckP L J p j) (lq L J) (bI m) (kW J N (szF N J) w j) (m - 1) _ _ _ X8_1 ((hL.lists j ltj).on (BB.trans (bD.mono BB.size))) hlq (hL.nils j ltj) Fb (by omega) (Fd.on bD) hTE) fun e X8 hh => ?_
   obtain ⟨q_, he, hb⟩ := hh
   refine ⟨_, he, ?_⟩
   have bQ : Below X8_1.heap.size X8_1 X8 := hb
   replace bD := bD.trans (bQ.mono bD.size)
   clear bQ Fb Fd
   refine ⟨Or.inr bD, ?_⟩
   refine dz_ [(10, .int .i64 ((3 : Nat) : Int)), (11, q_)] (h5_ t0 t6 t12 t13 t14) ?_
   rintro a A ⟨t10, t11, -⟩ ⟨t0, t6, t12, t13, t14, -⟩
   replace FO := (ownsRow_below FO bD)
   replace BB := BB.trans (bD.mono BB.size)
   clear bD
   refine wp_seq (wp_seq ?_)
   refine wi_ A (h7_ t0 t6 t12 t13 t14 t10 t11) (rv_ 1 (.bool true) (fun a e => execDec (execNeE (p := 3) (q := 0) rfl (e _) rfl) (decide_eq_true (by decide))) (rf_ [(40, .bool true)] (h7_ t0 t6 t12 t13 t14 t10 t11) ?_))
   rintro a A ⟨t40, -⟩ ⟨t0, t6, t12, t13, t14, t10, t11, -⟩
   refine wp_cond_true t40 ?_
   clear t40
   refine wp_seq ?_
   clear FO
   refine wi_ A (h7_ t0 t6 t12 t13 t14 t10 t11) (rg_ [(4, .slice none 0 0), (5, .int .i64 ((3 : Nat) : Int))] ?_)
   rintro a A ⟨t4, t5, -⟩
   have hE : shE (ckP L J p) (lq L J) N J = 3 := if_neg fun q => by have h_ := allB_iff.1 q j ltj; rw [em, hok] at h_; cases h_
   rw [hE]
   refine wp_ret ?_
   repeat (first | with_reducible refine ret_in ?_ | with_reducible refine ret_then ?_)
   refine bodyPost_ret (results_tmp2 rfl _ _ _) A.2 ⟨.slice none 0 0, ?_, (fun q => absurd q (by decide)), BB⟩
   show Ending.returned (.tuple #[a.eval (.tmp 4), a.eval (.tmp 5)]) = _
   rw [t4, t5]
  | true =>
   have hTE : trE (ckP L J p j) (lq L J) (bI m) (m - 1) (kW J N (szF N J) w j) (m - 1) = 0 := trE_bI (by omega) (by omega) (okB_iff.1 hok) (by subst em; exact kW_ok j)
   refine wj_ [0, 1, 2, 3, 4, 5, 7, 6, 8, 9, 10, 11, 12, 13] [6, 8] [3] [] A (h8_ t0 t6 t12 t13 t14 t7 t8 t9) (fun X8_0 bD => ?_)
   refine dw_ 2 (.pointer (some ⟨cb, co + j, none⟩)) (fun a X e => Cf.execIdxL (k := j) rfl ((e _).trans ec) (e _) ltj) (dv_ 3 (x j) (fun a X e hb => execLdL rfl (e _) (cC X (BB.trans (hb.mono BB.size)))) (dw_ 5 (.int .i64 ((m : Nat) : Int)) (fun a X e => execLenI (len := m) rfl (e _) hyj.shp) (dc_ 6 (ppb (show m ≤ 256 by omega) X8_0) fun e X8_1 hh => ?_)))
   obtain ⟨b_, he, hk, hb⟩ := hh
   refine ⟨_, he, ?_⟩
   have bQ : Below X8_0.heap.size X8_0 X8_1 := hb
   have Fb : (SliceI X8_1 b_ (m - 1) (bI m)) := hk
   replace bD := bD.trans (bQ.mono bD.size)
   clear bQ
   refine ⟨Or.inr bD, ?_⟩
   refine dc_ 8 (tu0 (ckP L J p j) (lq L J) (bI m) (kW J N (szF N J) w j) (m - 1) _ _ _ X8_1 ((hL.lists j ltj).on (BB.trans (bD.mono BB.size))) hlq (hL.nils j ltj) Fb (by omega) (Fd.on bD) hTE) fun e X8 hh => ?_
   obtain ⟨q_, he, hk, hb⟩ := hh
   refine ⟨_, he, ?_⟩
   have bQ : Below X8_1.heap.size X8_1 X8 := hb
   have FQ : (TkA X8 V.heap.size q_ (lq L J) (tuK L J N (szF N J) p w j)) := (by subst em; exact tkA_base hk ((BB.trans (bD.mono BB.size))).size)
   replace bD := bD.trans (bQ.mono bD.size)
   clear bQ Fb Fd
   refine ⟨Or.inr bD, ?_⟩
   refine dz_ [(10, .int .i64 ((0 : Nat) : Int)), (11, q_)] (h5_ t0 t6 t12 t13 t14) ?_
   rintro a A ⟨t10, t11, -⟩ ⟨t0, t6, t12, t13, t14, -⟩
   replace FO := (ownsRow_below FO bD)
   replace BB := BB.trans (bD.mono BB.size)
   clear bD
   refine wp_seq (wp_seq ?_)
   refine wi_ A (h7_ t0 t6 t12 t13 t14 t10 t11) (rv_ 1 (.bool false) (fun a e => execDec (execNeE (p := 0) (q := 0) rfl (e _) rfl) (decide_eq_false (by decide))) (rf_ [(40, .bool false)] (h7_ t0 t6 t12 t13 t14 t10 t11) ?_))
   rintro a A ⟨t40, -⟩ ⟨t0, t6, t12, t13, t14, t10, t11, -⟩
   refine wp_cond_false t40 (wp_skip ?_)
   clear t40
   refine wi_ A (h7_ t0 t6 t12 t13 t14 t10 t11) (rs_ 2 (fun a e => ?_))
   refine stepAppN (n := j * lq L J) (m := lq L J) (p := tkF L J N p w) rfl rfl rfl (e _) (e _) FO (sliceN_cg FQ.slice (fun k hk => (tk_at hk).symm)) (tk_nil FQ) (by omega) (BB).size fun v_ X11 own' gr => ⟨_, ⟨_, rfl, rfl⟩, eqw ?_⟩
   obtain ⟨BB, FO2⟩ : Below V.heap.size V X11 ∧ (X11.ownsRow V.heap.size 5 1 v_ ((j + 1) * lq L J) (bytesL ((j + 1) * lq L J) (tkF L J N p w))) := ⟨(BB).grown gr (BB).size (fun k hk => (FO.lt k hk).1), (by rw [hq2]; exact own')⟩
   clear FO FQ e a
   refine rf_ [(6, v_)] (h4_ t0 t12 t13 t14) ?_
   rintro a A ⟨t6, -⟩ ⟨t0, t12, t13, t14, -⟩
   refine wi_ A (h5_ t0 t6 t12 t13 t14) (rv_ 0 (.int .i64 ((j + 1 : Nat) : Int)) (fun a e => execAd8 (p := j) (q := 1) rfl (e _) rfl (by omega)) (rf_ [(14, .int .i64 ((j + 1 : Nat) : Int))] (h4_ t0 t6 t12 t13) ?_))
   rintro a A ⟨t14, -⟩ ⟨t0, t6, t12, t13, -⟩
   exact ⟨⟨j + 1, _, ltj, fun t ht => (if q : t = j then by subst q; rw [em]; exact hok else hall t (by omega)), A, t0, t6, t12, t13, t14, BB, FO2⟩, by show J - (intOf (a.eval (.tmp 14))).toNat < J - (intOf (Act.eval _ (.tmp 14))).toNat; rw [t14, esj]; show J - (j + 1) < J - j; omega⟩
 ·rw [decide_eq_false ltj] at t15
  refine wp_cond_false t15 ?_
  refine wp_exit ?_
  first | with_reducible refine exit_in ?_ | with_reducible refine exit_then (exit_in ?_) | with_reducible refine exit_then (exit_then (exit_in ?_)) | refine exit_in ?_ | refine exit_then (exit_in ?_) | refine exit_then (exit_then (exit_in ?_))
  clear t15 esj
  have hjJ : j = J := by omega
  rw [hjJ] at FO hall
  clear t0 t12 t13 t14
  refine wp_seq ?_
  refine wi_ A (h1_ t6) (rg_ [(4, tv), (5, .int .i64 ((0 : Nat) : Int))] ?_)
  rintro a A ⟨t4, t5, -⟩
  have hE : shE (ckP L J p) (lq L J) N J = 0 := if_pos (allB_iff.2 hall)
  rw [hE]
  refine wp_ret ?_
  refine bodyPost_ret (results_tmp2 rfl _ _ _) A.2 ⟨_, ?_, (fun _ => FO), BB⟩
  show Ending.returned (.tuple #[a.eval (.tmp 4), a.eval (.tmp 5)]) = _
  rw [t4, t5]
end Go.Proofs.Ytmjpneaccjlpkaa.Rif
