import Derived.Test.YtmjpneaccjlpkaaX9a
namespace Go.Proofs.Ytmjpneaccjlpkaa.Rif
open Go.RowKit Gf8 Aes By8 Cel Cf Tap Drw Prm Brd
/- Package riffle as it landed: Order, Shuffle. Written by tools/mkX9b.py. -/
theorem sz2 {n ch : Int} (hin : ¬ inL n ch) (V : World) : Calls Try.prog 19 #[.int .i64 n, .int .i64 ch] V fun e w' => ∃ r, e = .returned (.tuple #[r, .int .i64 ((2 : Nat) : Int)]) ∧ Below V.heap.size V w' :=
 Calls.mono (psizes n ch V) fun e w' ⟨r, g1, g2, g3⟩ => ⟨r, by rw [show szE n ch = 2 from if_neg hin] at g1; exact g1, g3⟩
theorem sz0 {N J : Nat} (hin : inL (N : Int) (J : Int)) (V : World) : Calls Try.prog 19 #[.int .i64 ((N : Nat) : Int), .int .i64 ((J : Nat) : Int)] V fun e w' => ∃ r, e = .returned (.tuple #[r, .int .i64 ((0 : Nat) : Int)]) ∧ SliceI w' r J (sI N J) ∧ Below V.heap.size V w' :=
 Calls.mono (psizes (N : Int) (J : Int) V) fun e w' ⟨r, g1, g2, g3⟩ => by
  have hE : szE (N : Int) (J : Int) = 0 := if_pos hin
  rw [hE] at g1
  rw [hE, zl_ok] at g2
  refine ⟨r, g1, own_ints g2 (fun j hj => ?_), g3⟩
  have h3 := szF_le N (D := J) hj
  have h4 := hin.2.1
  show -9223372036854775808 ≤ ((szF N J j : Nat) : Int) ∧ ((szF N J j : Nat) : Int) < 9223372036854775808
  omega
theorem spl0 (p : Nat → Nat) (L J : Nat) (v : Value) (V : World) (hv : SliceN V v L p) (hl : L ≤ 140737488351232) (hL : 18 ≤ L) (h1 : 1 ≤ J) (h2 : J ≤ 64) :
  Calls Try.prog 20 #[v, .int .i64 ((J : Nat) : Int)] V fun e w' => ∃ nv bv cv x, e = .returned (.tuple #[.agg (ptC nv bv cv), .int .i64 ((0 : Nat) : Int)]) ∧ PtS w' V.heap.size J nv bv cv x 18 (lb L) (lq L J) p ∧ Below V.heap.size V w' :=
 Calls.mono (split_any p L (J : Int) v V hv hl) fun e w' ⟨nv, bv, cv, x, g1, g2, g3⟩ => by
  have hE : spE L (J : Int) = 0 := by
   unfold spE
   rw [if_neg (by omega), if_neg (by omega)]
  have e1 : spC L (J : Int) = J := if_pos hE
  have e2 : spA L (J : Int) = 18 := if_pos hE
  have e3 : spB L (J : Int) = lb L := if_pos hE
  have e4 : spQ L (J : Int) = lq L J := if_pos hE
  rw [hE] at g1
  rw [e1, e2, e3, e4] at g2
  exact ⟨nv, bv, cv, x, g1, g2, g3⟩
theorem spl3 (p : Nat → Nat) (L J : Nat) (v : Value) (V : World) (hv : SliceN V v L p) (hl : L ≤ 140737488351232) (hL : L < 18) (h1 : 1 ≤ J) (h2 : J ≤ 64) :
  Calls Try.prog 20 #[v, .int .i64 ((J : Nat) : Int)] V fun e w' => ∃ nv bv cv x, e = .returned (.tuple #[.agg (ptC nv bv cv), .int .i64 ((3 : Nat) : Int)]) ∧ PtS w' V.heap.size 0 nv bv cv x 0 0 0 p ∧ Below V.heap.size V w' :=
 Calls.mono (split_any p L (J : Int) v V hv hl) fun e w' ⟨nv, bv, cv, x, g1, g2, g3⟩ => by
  have hE : spE L (J : Int) = 3 := by
   unfold spE
   rw [if_neg (by omega), if_pos hL]
  have hn : spE L (J : Int) ≠ 0 := by rw [hE]; decide
  have e1 : spC L (J : Int) = 0 := if_neg hn
  have e2 : spA L (J : Int) = 0 := if_neg hn
  have e3 : spB L (J : Int) = 0 := if_neg hn
  have e4 : spQ L (J : Int) = 0 := if_neg hn
  rw [hE] at g1
  rw [e1, e2, e3, e4] at g2
  exact ⟨nv, bv, cv, x, g1, g2, g3⟩
section
variable {W : World} {B J L : Nat} {nv bv cv : Value} {x : Nat → Value} {p : Nat → Nat}
theorem pts_br (h : PtS W B J nv bv cv x 18 (lb L) (lq L J) p) (hL : 18 ≤ L) (hp : ∀ j, j < L → p j < 256) : SliceN W bv (lb L) (brP p) := own_slice h.rowB (fun _ hj => hp _ (br_in hL hj))
theorem pts_nz (h : PtS W B J nv bv cv x 18 (lb L) (lq L J) p) (hL : 18 ≤ L) (hp : ∀ j, j < L → p j < 256) : SliceN W nv 18 p := own_slice h.rowN (fun _ hj => hp _ (Nat.lt_of_lt_of_le hj hL))
theorem own_nilB {n : Nat} {v : Value} {xs : List Value} {t : TypeId} {s : Nat} (h : W.ownsRow B t s v n xs) : ∀ l c, v = .slice none l c → c = 0 := fun l c e => by
 rcases h.2 with ⟨e2, _⟩ | ⟨g, cap, cur, e2, _⟩
 ·rw [e2] at e
  injection e with _ _ e3
  exact e3.symm
 ·rw [e2] at e
  injection e with e3 _ _
  cases e3
theorem pts_ck (h : PtS W B J nv bv cv x 18 (lb L) (lq L J) p) (hL : 18 ≤ L) (hp : ∀ j, j < L → p j < 256) : LLB W cv J x (lq L J) (ckP L J p) := by
 refine ⟨?_, fun j hj => own_slice (h.rowC j hj) (fun _ hk => hp _ (ck_in hL hj hk)), fun j hj => own_nilB (h.rowC j hj)⟩
 obtain ⟨a, c, e⟩ := shpO h.own
 refine ⟨a, c, e, fun h0 => ?_⟩
 obtain ⟨g, c', e2, _, hg⟩ := ownL_some9 h.own h0
 rw [e2] at e
 injection e with e3 _ _
 have h5 := h.own
 rw [e2] at h5
 exact ⟨g, 0, e3.symm, hg, fun j hj => ownL_cell h5 hj⟩
end
section
variable (q : Nat → Nat) (l N J : Nat) (pv sv : Value) (V : World)
theorem br0 (FP : SliceN V pv l q) (hl : l ≤ 140737488351232) (FS : SliceI V sv J (sI N J)) (hN : N ≤ 256) (h1 : 1 ≤ J) (h2 : J ≤ 64) (hok : okB q l (bI N) N = true) :
  Calls Try.prog 21 #[pv, .int .i64 ((N : Nat) : Int), sv] V fun e w' => ∃ r1 r2, e = .returned (.tuple #[r1, r2, .int .i64 ((0 : Nat) : Int)]) ∧ FmI V.heap.size 2 (x2 r1 r2) (fun _ => N) (f2 (pcF (sI N J) J (dQ q l N)) (poF (sI N J) J (dQ q l N) N)) w' ∧ Below V.heap.size V w' :=
 Calls.mono (pbraided q l N J pv sv V FP hl FS hN h1 h2) fun e w' ⟨r1, r2, g1, g2, g3⟩ => by
  have hE : brE q l N = 0 := if_pos hok
  rw [hE] at g1
  rw [hE, zl_ok] at g2
  exact ⟨r1, r2, g1, g2, g3⟩
theorem br3 (FP : SliceN V pv l q) (hl : l ≤ 140737488351232) (FS : SliceI V sv J (sI N J)) (hN : N ≤ 256) (h1 : 1 ≤ J) (h2 : J ≤ 64) (hok : okB q l (bI N) N = false) :
  Calls Try.prog 21 #[pv, .int .i64 ((N : Nat) : Int), sv] V fun e w' => ∃ r1 r2, e = .returned (.tuple #[r1, r2, .int .i64 ((3 : Nat) : Int)]) ∧ Below V.heap.size V w' :=
 Calls.mono (pbraided q l N J pv sv V FP hl FS hN h1 h2) fun e w' ⟨r1, r2, g1, g2, g3⟩ => by
  have hE : brE q l N = 3 := if_neg (by rw [hok]; decide)
  rw [hE] at g1
  exact ⟨r1, r2, g1, g3⟩
end
section
variable (x : Nat → Value) (gg : Nat → Nat → Nat) (l N J : Nat) (cv sv : Value) (V : World)
theorem sh0 (hL : LLB V cv J x l gg) (hl : l ≤ 140737488351232) (FS : SliceI V sv J (sI N J)) (hN : N ≤ 256) (h1 : 1 ≤ J) (h2 : J ≤ 64) (hok : allB (fun t => okB (gg t) l (bI (szF N J t)) (szF N J t - 1)) J = true) :
  Calls Try.prog 22 #[cv, sv] V fun e w' => ∃ r y, e = .returned (.tuple #[r, .int .i64 ((0 : Nat) : Int)]) ∧ LLI w' r J y (szF N J) (thF gg l N J) ∧ Below V.heap.size V w' :=
 Calls.mono (pshuffled x gg l N J cv sv V hL hl FS hN h1 h2) fun e w' ⟨r, y, g1, g2, g3⟩ => by
  have hE : shE gg l N J = 0 := if_pos hok
  rw [hE] at g1
  exact ⟨r, y, g1, g2 hE, g3⟩
theorem sh3 (hL : LLB V cv J x l gg) (hl : l ≤ 140737488351232) (FS : SliceI V sv J (sI N J)) (hN : N ≤ 256) (h1 : 1 ≤ J) (h2 : J ≤ 64) (hok : allB (fun t => okB (gg t) l (bI (szF N J t)) (szF N J t - 1)) J = false) :
  Calls Try.prog 22 #[cv, sv] V fun e w' => ∃ r, e = .returned (.tuple #[r, .int .i64 ((3 : Nat) : Int)]) ∧ Below V.heap.size V w' :=
 Calls.mono (pshuffled x gg l N J cv sv V hL hl FS hN h1 h2) fun e w' ⟨r, y, g1, g2, g3⟩ => by
  have hE : shE gg l N J = 3 := if_neg (by rw [hok]; decide)
  rw [hE] at g1
  exact ⟨r, g1, g3⟩
end
theorem we0 (cf : Nat → Int) (n J : Nat) (x : Nat → Value) (ln : Nat → Nat) (gg : Nat → Nat → Int) (u0 v : Value) (V : World) (FJ : SliceI V u0 n cf) (hn17 : n ≤ 17592186044416) (hL : LLI V v J x ln gg) (hJ : J ≤ 1000000) (hst : stQ cf n (fun j => (ln j : Int)) J = true) :
  Calls Try.prog 23 #[u0, v] V fun e w' => ∃ r, e = .returned (.tuple #[r, .int .i64 ((0 : Nat) : Int)]) ∧ w'.ownsRow V.heap.size 3 1 r n (intsL n (fun j => gg (gN cf j) (cntC (gN cf) (gN cf j) j))) ∧ Below V.heap.size V w' :=
 Calls.mono (pweaveI cf n J x ln gg u0 v V FJ hn17 hL hJ) fun e w' ⟨r, g1, g2, g3⟩ => by
  have hE : weE cf n ln J = 0 := if_pos hst
  rw [hE] at g1
  rw [hE, zl_ok] at g2
  exact ⟨r, g1, g2, g3⟩
theorem or_is {L N J : Nat} {p : Nat → Nat} (i : Nat) : thF (ckP L J p) (lq L J) N J (gN (pcF (sI N J) J (dQ (brP p) (lb L) N)) i) (cntC (gN (pcF (sI N J) J (dQ (brP p) (lb L) N))) (gN (pcF (sI N J) J (dQ (brP p) (lb L) N)) i) i) = orF L ((N : Nat) : Int) ((J : Nat) : Int) p i := by
 show ((frA _ _ _ _ + sumN (szF N J) (ptT L J N (szF N J) p i) : Nat) : Int) = ((sumN (szF N J) (ptT L J N (szF N J) p i) + _ : Nat) : Int)
 rw [Nat.add_comm]
 rfl
theorem or_fits {L : Nat} {n ch : Int} {p : Nat → Nat} : ∀ j, j < zl (riE L n ch p) n.toNat → -9223372036854775808 ≤ orF L n ch p j ∧ orF L n ch p j < 9223372036854775808 := fun j hj => by
 by_cases h : riE L n ch p = 0
 ·rw [h, zl_ok] at hj
  have f := ri_ok h
  have h1 := f.or_lt hj
  have h2 := f.le
  omega
 ·rw [zl_no h] at hj
  exact absurd hj (Nat.not_lt_zero _)
theorem api0 (f g : Nat → Int) (n m : Nat) (v u : Value) (V : World) (hv : SliceI V v n f) (hn : n ≤ 17592186044416) (hu : SliceI V u m g) (hE : apE f n m = 0) :
  Calls Try.prog 24 #[v, u] V fun e w' => ∃ r, e = .returned (.tuple #[r, .int .i64 ((0 : Nat) : Int)]) ∧ w'.ownsRow V.heap.size 3 1 r n (intsL n (fun j => g (f j).toNat)) ∧ Below V.heap.size V w' :=
 Calls.mono (papply f g n m v u V hv hn hu) fun e w' ⟨r, g1, g2, g3⟩ => by
  rw [hE] at g1
  rw [hE, zl_ok] at g2
  exact ⟨r, g1, g2, g3⟩
theorem aps0 (f : Nat → Int) (g : Nat → ByteArray) (n m : Nat) (v u : Value) (V : World) (hv : SliceI V v n f) (hn : n ≤ 17592186044416) (hu : SliceS V u m g) (hE : apE f n m = 0) :
  Calls Try.prog 27 #[v, u] V fun e w' => ∃ r, e = .returned (.tuple #[r, .int .i64 ((0 : Nat) : Int)]) ∧ w'.ownsRow V.heap.size 9 1 r n (strsL n (fun j => g (f j).toNat)) ∧ Below V.heap.size V w' :=
 Calls.mono (papplyS f g n m v u V hv hn hu) fun e w' ⟨r, g1, g2, g3⟩ => by
  rw [hE] at g1
  rw [hE, zl_ok] at g2
  exact ⟨r, g1, g2, g3⟩
set_option maxRecDepth 100000 in
set_option maxHeartbeats 4000000 in
theorem porder (p : Nat → Nat) (L : Nat) (n ch : Int) (pv : Value) (V : World) (FP : SliceN V pv L p) (hl : L ≤ 140737488351232) :
  Calls Try.prog 10 #[pv, .int .i64 n, .int .i64 ch] V fun e w' => ∃ r, e = .returned (.tuple #[r, .int .i64 ((riE L n ch p : Nat) : Int)]) ∧ w'.ownsRow V.heap.size 3 1 r (zl (riE L n ch p) n.toNat) (intsL (zl (riE L n ch p) n.toNat) (orF L n ch p)) ∧ Below V.heap.size V w' := by
 go_enter Try.func10, Try.ntmps10
 refine wp_seq ?_
 refine wp_region_sqK 59 [(0, 6), (1, 7)] (fun i_ => match i_ with | 0 => .slice none 0 0 | 1 => .int .i64 ((0 : Nat) : Int) | _ => undef) rfl (by kernel_rfl) (by decide) (by decide) ?_ ?_
 ·intro i_ hi_ a hf hv hn
  match i_, hi_ with
  | 0, _ => exact stepV rfl rfl (execAsgB rfl rfl) ⟨⟨_, rfl, rfl⟩, rfl⟩
  | 1, _ => exact stepV rfl rfl (execAsgB rfl rfl) ⟨⟨_, rfl, rfl⟩, rfl⟩
  | k_ + 2, h_ => exact absurd h_ (by simp)
 intro a h1 h2 h3 h4
 have t0 : a.eval (.tmp 0) = pv := (h3 0 (by decide)).trans rfl
 have t1 : a.eval (.tmp 1) = .int .i64 n := (h3 1 (by decide)).trans rfl
 have t2 : a.eval (.tmp 2) = .int .i64 ch := (h3 2 (by decide)).trans rfl
 have A : a.tmps.size = 59 ∧ a.defers = [] := ⟨h1, h2⟩
 have BW : Below V.heap.size V V := Below.refl _ _
 clear h1 h2 h3 h4
 by_cases hin : inL n ch
 ·obtain ⟨N, rfl⟩ : ∃ N : Nat, n = N := ⟨n.toNat, by have := hin.1; omega⟩
  obtain ⟨J, rfl⟩ : ∃ J : Nat, ch = J := ⟨ch.toNat, by have := hin.2.2.1; omega⟩
  obtain ⟨h0, hN, h1, h2⟩ := id hin
  replace hN : N ≤ 256 := by omega
  replace h1 : 1 ≤ J := by omega
  replace h2 : J ≤ 64 := by omega
  refine wp_seq ?_
  refine wp_se (σ := Value) 59 [2] [2] (fun k_ s X => match k_ with | 0 => Below V.heap.size V X | _ => Below V.heap.size V X ∧ (SliceI X s (J) (sI N J))) (fun s => fun i_ => match i_ with | 2 => .tuple #[s, .int .i64 ((0 : Nat) : Int)] | _ => undef) undef A (Below.refl _ _) (And.intro ?_ trivial) ?_
  ·intro s a X e hS
   refine stepC rfl rfl (execCall2 Try.func19 (by kernel_rfl) (by kernel_rfl) rfl ((e (.tmp 15)).trans t1) ((e (.tmp 16)).trans t2)) (sz0 (N := N) (J := J) hin X) fun e w' hh => ?_
   obtain ⟨r_, he, hk, hb⟩ := hh
   refine ⟨_, he, r_, ⟨_, rfl, rfl⟩, ⟨(hS).trans ((hb).mono (hS).size), hk⟩, (And.intro (fun h => absurd h (by decide)) trivial)⟩
  rintro z_ a X1 A e (hS : Below V.heap.size V X1 ∧ (SliceI X1 z_ (J) (sI N J)))
  obtain ⟨bX, Fz⟩ := hS
  have t8 : a.eval (.tmp 8) = z_ := e _
  have t9 : a.eval (.tmp 9) = .int .i64 ((0 : Nat) : Int) := e _
  replace t0 := kt e t0
  replace t1 := kt e t1
  replace t2 := kt e t2
  replace FP := (FP.on bX)
  have ZX1 := bX.size
  replace BW := BW.trans (bX.mono BW.size)
  clear bX
  clear e
  refine wp_seq (wp_seq ?_)
  refine wp_se 59 [1] [] (fun _ s X => Below X1.heap.size X1 X) (fun s => fun i_ => match i_ with | 1 => .bool false | _ => undef) () A (Below.refl _ _) (And.intro ?_ trivial) ?_
  ·exact fun s a X e hS => stepV rfl rfl (execDec (execNeE (p := 0) (q := 0) rfl ((e (.tmp 20)).trans t9) rfl) (decide_eq_false (by decide))) ⟨s, ⟨_, rfl, rfl⟩, hS, ar⟩
  rintro _ a X2 A e (bX : Below X1.heap.size X1 X2)
  have t21 : a.eval (.tmp 21) = .bool false := e _
  replace t0 := kt e t0
  replace t1 := kt e t1
  replace t2 := kt e t2
  replace t8 := kt e t8
  replace FP := (FP.on bX)
  replace Fz := (Fz.on bX)
  have ZX2 := bX.size
  replace BW := BW.trans (bX.mono BW.size)
  clear bX
  clear e t9
  refine wp_cond_false t21 (wp_skip ?_)
  clear t21
  refine wp_seq ?_
  by_cases hL18 : 18 ≤ L
  ·refine wp_se (σ := Value × Value × Value × (Nat → Value) × Nat) 59 [2, 6, 7] [2, 6, 7] (fun k_ s X => match k_ with | 0 => Below X2.heap.size X2 X | 1 => Below X2.heap.size X2 X ∧ (PtS X V.heap.size J s.1 s.2.1 s.2.2.1 s.2.2.2.1 18 (lb L) (lq L J) p) | 2 => Below X2.heap.size X2 X ∧ (PtS X V.heap.size J s.1 s.2.1 s.2.2.1 s.2.2.2.1 18 (lb L) (lq L J) p) ∧ X.heap[s.2.2.2.2]? = some (.cells (ptC (.slice none 0 0) (.slice none 0 0) (.slice none 0 0)) 55) ∧ (X2.heap.size ≤ s.2.2.2.2) | _ => Below X2.heap.size X2 X ∧ (PtS X V.heap.size J s.1 s.2.1 s.2.2.1 s.2.2.2.1 18 (lb L) (lq L J) p) ∧ (X2.heap.size ≤ s.2.2.2.2) ∧ X.heap[s.2.2.2.2]? = some (.cells (ptC s.1 s.2.1 s.2.2.1) 55)) (fun s => fun i_ => match i_ with | 2 => .tuple #[.agg (ptC s.1 s.2.1 s.2.2.1), .int .i64 ((0 : Nat) : Int)] | 6 => .pointer (some ⟨s.2.2.2.2, 0, none⟩) | _ => undef) (undef, undef, undef, fun _ => undef, 0) A (Below.refl _ _) (And.intro ?_ (And.intro ?_ (And.intro ?_ trivial))) ?_
   ·intro s a X e hS
    refine stepC rfl rfl (execCall2 Try.func20 (by kernel_rfl) (by kernel_rfl) rfl ((e (.tmp 24)).trans t0) ((e (.tmp 25)).trans t2)) (spl0 p L J _ X (FP.on hS) hl hL18 h1 h2) fun e w' hh => ?_
    obtain ⟨nv_, bv_, cv_, x_, he, hk, hb⟩ := hh
    refine ⟨_, he, (nv_, bv_, cv_, x_, s.2.2.2.2), ⟨_, rfl, rfl⟩, ⟨(hS).trans ((hb).mono (hS).size), hk.base (Nat.le_trans BW.size (hS).size)⟩, (And.intro (fun h => absurd h (by decide)) (And.intro (fun h => absurd h (by decide)) (And.intro (fun h => absurd h (by decide)) trivial)))⟩
   ·intro s a X e hS
    refine stepV rfl rfl (execAllPt rfl) ⟨(s.1, s.2.1, s.2.2.1, s.2.2.2.1, X.heap.size), ⟨_, rfl, rfl⟩, ⟨(hS.1).trans (((belNew X _)).mono (hS.1).size), (hS.2.on (belNew X _)), heapNew X _, (hS.1).size⟩, (And.intro (fun _ => rfl) (And.intro (fun h => absurd h (by decide)) (And.intro (fun h => absurd h (by decide)) trivial)))⟩
   ·exact fun s a X e hS => stepS rfl rfl (execStPt rfl (e (.tmp 10)) (e (.tmp 27)) hS.2.2.1 rfl (pts_one hS.2.1)) ⟨s, ⟨_, rfl, rfl⟩, ⟨below4 hS.1 hS.2.2.2 _, (hS.2.1.set hS.2.2.1 (by decide) (by decide)), hS.2.2.2, setRow_heap _ _ _ _ _ _ hS.2.2.1⟩, ar⟩
   rintro ⟨nv, bv, cv, xs, g10⟩ a X4 A e (hS : Below X2.heap.size X2 X4 ∧ (PtS X4 V.heap.size J nv bv cv xs 18 (lb L) (lq L J) p) ∧ (X2.heap.size ≤ g10) ∧ X4.heap[g10]? = some (.cells (ptC nv bv cv) 55))
   obtain ⟨bX, FPT, Fge10, F10⟩ := hS
   have t9 : a.eval (.tmp 9) = .int .i64 ((0 : Nat) : Int) := e _
   have t10 : a.eval (.tmp 10) = .pointer (some ⟨g10, 0, none⟩) := e _
   replace t1 := kt e t1
   replace t8 := kt e t8
   replace FP := (FP.on bX)
   replace Fz := (Fz.on bX)
   have ZX4 := bX.size
   replace BW := BW.trans (bX.mono BW.size)
   clear bX
   clear e t0 t2
   refine wp_seq (wp_seq ?_)
   refine wp_se 59 [1] [] (fun _ s X => Below X4.heap.size X4 X) (fun s => fun i_ => match i_ with | 1 => .bool false | _ => undef) () A (Below.refl _ _) (And.intro ?_ trivial) ?_
   ·exact fun s a X e hS => stepV rfl rfl (execDec (execNeE (p := 0) (q := 0) rfl ((e (.tmp 29)).trans t9) rfl) (decide_eq_false (by decide))) ⟨s, ⟨_, rfl, rfl⟩, hS, ar⟩
   rintro _ a X5 A e (bX : Below X4.heap.size X4 X5)
   have t30 : a.eval (.tmp 30) = .bool false := e _
   replace t1 := kt e t1
   replace t8 := kt e t8
   replace t10 := kt e t10
   replace FP := (FP.on bX)
   replace Fz := (Fz.on bX)
   replace FPT := (FPT.on bX)
   replace Fge10 := Fge10
   replace F10 := (on9 F10 bX)
   have ZX5 := bX.size
   replace BW := BW.trans (bX.mono BW.size)
   clear bX
   clear e t9
   refine wp_cond_false t30 (wp_skip ?_)
   clear t30
   have hpb : ∀ j, j < L → p j < 256 := FP.bytes
   have FBv : SliceN X5 bv (lb L) (brP p) := pts_br FPT hL18 hpb
   have FCv : LLB X5 cv J xs (lq L J) (ckP L J p) := pts_ck FPT hL18 hpb
   have hlb : lb L ≤ 140737488351232 := by unfold lb; omega
   have hlq : lq L J ≤ 140737488351232 := by have := lq_le L (J := J) hL18; have h3 : 1 * lq L J ≤ J * lq L J := Nat.mul_le_mul_right _ h1; omega
   refine wp_seq ?_
   cases hbr : okB (brP p) (lb L) (bI N) N with
   | false =>
    refine wp_se (σ := Value × Value) 59 [0, 1, 4] [] (fun _ s X => Below X5.heap.size X5 X) (fun s => fun i_ => match i_ with | 0 => .pointer (some ⟨g10, 1, none⟩) | 1 => bv | 4 => .tuple #[s.1, s.2, .int .i64 ((3 : Nat) : Int)] | _ => undef) (undef, undef) A (Below.refl _ _) (And.intro ?_ (And.intro ?_ (And.intro ?_ trivial))) ?_
    ·exact fun s a X e hS => stepV rfl rfl (execPt1 rfl ((e (.tmp 10)).trans t10)) ⟨s, ⟨_, rfl, rfl⟩, hS, ar⟩
    ·exact fun s a X e hS => stepV rfl rfl (execLdL rfl (e (.tmp 33)) (ptC_at (on9 F10 hS)).2.1) ⟨s, ⟨_, rfl, rfl⟩, hS, ar⟩
    ·intro s a X e hS
     refine stepC rfl rfl (execCall3 Try.func21 (by kernel_rfl) (by kernel_rfl) rfl (e (.tmp 34)) ((e (.tmp 35)).trans t1) ((e (.tmp 36)).trans t8)) (br3 (brP p) (lb L) N J _ _ X (FBv.on hS) hlb (Fz.on hS) hN h1 h2 hbr) fun e w' hh => ?_
     obtain ⟨r1_, r2_, he, hb⟩ := hh
     refine ⟨_, he, (r1_, r2_), ⟨_, rfl, rfl⟩, (hS).trans ((hb).mono (hS).size), (And.intro (fun _ => rfl) (And.intro (fun _ => rfl) (And.intro (fun h => absurd h (by decide)) trivial)))⟩
    rintro ⟨u_, w_⟩ a X7 A e (bX : Below X5.heap.size X5 X7)
    have t9 : a.eval (.tmp 9) = .int .i64 ((3 : Nat) : Int) := e _
    replace FP := (FP.on bX)
    replace Fz := (Fz.on bX)
    replace FPT := (FPT.on bX)
    replace Fge10 := Fge10
    replace F10 := (on9 F10 bX)
    replace FBv := (FBv.on bX)
    replace FCv := (FCv.on bX)
    have ZX7 := bX.size
    replace BW := BW.trans (bX.mono BW.size)
    clear bX
    clear e t1 t8 t10
    refine wp_seq (wp_seq ?_)
    refine wp_se 59 [1] [] (fun _ s X => Below X7.heap.size X7 X) (fun s => fun i_ => match i_ with | 1 => .bool true | _ => undef) () A (Below.refl _ _) (And.intro ?_ trivial) ?_
    ·exact fun s a X e hS => stepV rfl rfl (execDec (execNeE (p := 3) (q := 0) rfl ((e (.tmp 41)).trans t9) rfl) (decide_eq_true (by decide))) ⟨s, ⟨_, rfl, rfl⟩, hS, ar⟩
    rintro _ a X8 A e (bX : Below X7.heap.size X7 X8)
    have t42 : a.eval (.tmp 42) = .bool true := e _
    replace t9 := kt e t9
    replace FP := (FP.on bX)
    replace Fz := (Fz.on bX)
    replace FPT := (FPT.on bX)
    replace Fge10 := Fge10
    replace F10 := (on9 F10 bX)
    replace FBv := (FBv.on bX)
    replace FCv := (FCv.on bX)
    have ZX8 := bX.size
    replace BW := BW.trans (bX.mono BW.size)
    clear bX
    clear e
    refine wp_cond_true t42 ?_
    clear t42
    refine wp_seq ?_
    refine wp_se 59 [] [] (fun _ s X => Below X8.heap.size X8 X) (fun s => fun _ => undef) () A (Below.refl _ _) trivial ?_
    rintro _ a X9 A e (bX : Below X8.heap.size X8 X9)
    have t6 : a.eval (.tmp 6) = .slice none 0 0 := e _
    have t7 : a.eval (.tmp 7) = .int .i64 ((3 : Nat) : Int) := (e _).trans t9
    replace FP := (FP.on bX)
    replace Fz := (Fz.on bX)
    replace FPT := (FPT.on bX)
    replace Fge10 := Fge10
    replace F10 := (on9 F10 bX)
    replace FBv := (FBv.on bX)
    replace FCv := (FCv.on bX)
    have ZX9 := bX.size
    replace BW := BW.trans (bX.mono BW.size)
    clear bX
    clear e t9
    have hE : riE L ((N : Nat) : Int) ((J : Nat) : Int) p = 3 := by show (if inL _ _ then _ else _) = 3; rw [if_pos hin]; exact if_neg fun q => by have h_ : OkT L J N (szF N J) p := okT_iff.1 q.2; rw [okB_iff.2 h_.br] at hbr; cases hbr
    rw [hE, zl_no (by decide)]
    refine wp_ret ?_
    repeat (first | with_reducible refine ret_in ?_ | with_reducible refine ret_then ?_)
    refine bodyPost_ret (results_tmp2 rfl _ _ _) A.2 ⟨_, ?_, World.ownsRow_nil _ _ _ _, BW⟩
    show Ending.returned (.tuple #[a.eval (.tmp 6), a.eval (.tmp 7)]) = _
    rw [t6, t7]
   | true =>
    refine wp_se (σ := Value × Value) 59 [0, 1, 4] [4] (fun k_ s X => match k_ with | 0 => Below X5.heap.size X5 X | _ => Below X5.heap.size X5 X ∧ (SliceI X s.1 (N) (pcF (sI N J) J (dQ (brP p) (lb L) N)))) (fun s => fun i_ => match i_ with | 0 => .pointer (some ⟨g10, 1, none⟩) | 1 => bv | 4 => .tuple #[s.1, s.2, .int .i64 ((0 : Nat) : Int)] | _ => undef) (undef, undef) A (Below.refl _ _) (And.intro ?_ (And.intro ?_ (And.intro ?_ trivial))) ?_
    ·exact fun s a X e hS => stepV rfl rfl (execPt1 rfl ((e (.tmp 10)).trans t10)) ⟨s, ⟨_, rfl, rfl⟩, hS, ar⟩
    ·exact fun s a X e hS => stepV rfl rfl (execLdL rfl (e (.tmp 33)) (ptC_at (on9 F10 hS)).2.1) ⟨s, ⟨_, rfl, rfl⟩, hS, ar⟩
    ·intro s a X e hS
     refine stepC rfl rfl (execCall3 Try.func21 (by kernel_rfl) (by kernel_rfl) rfl (e (.tmp 34)) ((e (.tmp 35)).trans t1) ((e (.tmp 36)).trans t8)) (br0 (brP p) (lb L) N J _ _ X (FBv.on hS) hlb (Fz.on hS) hN h1 h2 hbr) fun e w' hh => ?_
     obtain ⟨r1_, r2_, he, hk, hb⟩ := hh
     refine ⟨_, he, (r1_, r2_), ⟨_, rfl, rfl⟩, ⟨(hS).trans ((hb).mono (hS).size), own_ints (hk.rows 0 (by omega)) (pc_fits (by omega))⟩, (And.intro (fun _ => rfl) (And.intro (fun _ => rfl) (And.intro (fun h => absurd h (by decide)) trivial)))⟩
    rintro ⟨u_, w_⟩ a X7 A e (hS : Below X5.heap.size X5 X7 ∧ (SliceI X7 u_ (N) (pcF (sI N J) J (dQ (brP p) (lb L) N))))
    obtain ⟨bX, Fu⟩ := hS
    have t9 : a.eval (.tmp 9) = .int .i64 ((0 : Nat) : Int) := e _
    have t11 : a.eval (.tmp 11) = u_ := e _
    replace t8 := kt e t8
    replace t10 := kt e t10
    replace FP := (FP.on bX)
    replace Fz := (Fz.on bX)
    replace FPT := (FPT.on bX)
    replace Fge10 := Fge10
    replace F10 := (on9 F10 bX)
    replace FBv := (FBv.on bX)
    replace FCv := (FCv.on bX)
    have ZX7 := bX.size
    replace BW := BW.trans (bX.mono BW.size)
    clear bX
    clear e t1
    refine wp_seq (wp_seq ?_)
    refine wp_se 59 [1] [] (fun _ s X => Below X7.heap.size X7 X) (fun s => fun i_ => match i_ with | 1 => .bool false | _ => undef) () A (Below.refl _ _) (And.intro ?_ trivial) ?_
    ·exact fun s a X e hS => stepV rfl rfl (execDec (execNeE (p := 0) (q := 0) rfl ((e (.tmp 41)).trans t9) rfl) (decide_eq_false (by decide))) ⟨s, ⟨_, rfl, rfl⟩, hS, ar⟩
    rintro _ a X8 A e (bX : Below X7.heap.size X7 X8)
    have t42 : a.eval (.tmp 42) = .bool false := e _
    replace t8 := kt e t8
    replace t10 := kt e t10
    replace t11 := kt e t11
    replace FP := (FP.on bX)
    replace Fz := (Fz.on bX)
    replace FPT := (FPT.on bX)
    replace Fge10 := Fge10
    replace F10 := (on9 F10 bX)
    replace FBv := (FBv.on bX)
    replace FCv := (FCv.on bX)
    replace Fu := (Fu.on bX)
    have ZX8 := bX.size
    replace BW := BW.trans (bX.mono BW.size)
    clear bX
    clear e t9
    refine wp_cond_false t42 (wp_skip ?_)
    clear t42
    refine wp_seq ?_
    cases hsh : allB (fun t => okB (ckP L J p t) (lq L J) (bI (szF N J t)) (szF N J t - 1)) J with
    | false =>
     refine wp_se (σ := Value) 59 [0, 1, 3] [] (fun _ s X => Below X8.heap.size X8 X) (fun s => fun i_ => match i_ with | 0 => .pointer (some ⟨g10, 2, none⟩) | 1 => cv | 3 => .tuple #[s, .int .i64 ((3 : Nat) : Int)] | _ => undef) undef A (Below.refl _ _) (And.intro ?_ (And.intro ?_ (And.intro ?_ trivial))) ?_
     ·exact fun s a X e hS => stepV rfl rfl (execPt2 rfl ((e (.tmp 10)).trans t10)) ⟨s, ⟨_, rfl, rfl⟩, hS, ar⟩
     ·exact fun s a X e hS => stepV rfl rfl (execLdLL rfl (e (.tmp 45)) (ptC_at (on9 F10 hS)).2.2) ⟨s, ⟨_, rfl, rfl⟩, hS, ar⟩
     ·intro s a X e hS
      refine stepC rfl rfl (execCall2 Try.func22 (by kernel_rfl) (by kernel_rfl) rfl (e (.tmp 46)) ((e (.tmp 47)).trans t8)) (sh3 xs (ckP L J p) (lq L J) N J _ _ X (FCv.on hS) hlq (Fz.on hS) hN h1 h2 hsh) fun e w' hh => ?_
      obtain ⟨r_, he, hb⟩ := hh
      refine ⟨_, he, r_, ⟨_, rfl, rfl⟩, (hS).trans ((hb).mono (hS).size), (And.intro (fun _ => rfl) (And.intro (fun _ => rfl) (And.intro (fun h => absurd h (by decide)) trivial)))⟩
     rintro t_ a X10 A e (bX : Below X8.heap.size X8 X10)
     have t9 : a.eval (.tmp 9) = .int .i64 ((3 : Nat) : Int) := e _
     replace FP := (FP.on bX)
     replace Fz := (Fz.on bX)
     replace FPT := (FPT.on bX)
     replace Fge10 := Fge10
     replace F10 := (on9 F10 bX)
     replace FBv := (FBv.on bX)
     replace FCv := (FCv.on bX)
     replace Fu := (Fu.on bX)
     have ZX10 := bX.size
     replace BW := BW.trans (bX.mono BW.size)
     clear bX
     clear e t8 t10 t11
     refine wp_seq (wp_seq ?_)
     refine wp_se 59 [1] [] (fun _ s X => Below X10.heap.size X10 X) (fun s => fun i_ => match i_ with | 1 => .bool true | _ => undef) () A (Below.refl _ _) (And.intro ?_ trivial) ?_
     ·exact fun s a X e hS => stepV rfl rfl (execDec (execNeE (p := 3) (q := 0) rfl ((e (.tmp 51)).trans t9) rfl) (decide_eq_true (by decide))) ⟨s, ⟨_, rfl, rfl⟩, hS, ar⟩
     rintro _ a X11 A e (bX : Below X10.heap.size X10 X11)
     have t52 : a.eval (.tmp 52) = .bool true := e _
     replace t9 := kt e t9
     replace FP := (FP.on bX)
     replace Fz := (Fz.on bX)
     replace FPT := (FPT.on bX)
     replace Fge10 := Fge10
     replace F10 := (on9 F10 bX)
     replace FBv := (FBv.on bX)
     replace FCv := (FCv.on bX)
     replace Fu := (Fu.on bX)
     have ZX11 := bX.size
     replace BW := BW.trans (bX.mono BW.size)
     clear bX
     clear e
     refine wp_cond_true t52 ?_
     clear t52
     refine wp_seq ?_
     refine wp_se 59 [] [] (fun _ s X => Below X11.heap.size X11 X) (fun s => fun _ => undef) () A (Below.refl _ _) trivial ?_
     rintro _ a X12 A e (bX : Below X11.heap.size X11 X12)
     have t6 : a.eval (.tmp 6) = .slice none 0 0 := e _
     have t7 : a.eval (.tmp 7) = .int .i64 ((3 : Nat) : Int) := (e _).trans t9
     replace FP := (FP.on bX)
     replace Fz := (Fz.on bX)
     replace FPT := (FPT.on bX)
     replace Fge10 := Fge10
     replace F10 := (on9 F10 bX)
     replace FBv := (FBv.on bX)
     replace FCv := (FCv.on bX)
     replace Fu := (Fu.on bX)
     have ZX12 := bX.size
     replace BW := BW.trans (bX.mono BW.size)
     clear bX
     clear e t9
     have hE : riE L ((N : Nat) : Int) ((J : Nat) : Int) p = 3 := by show (if inL _ _ then _ else _) = 3; rw [if_pos hin]; exact if_neg fun q => by have h_ : OkT L J N (szF N J) p := okT_iff.1 q.2; rw [allB_iff.2 fun t ht => okB_iff.2 (h_.ck t ht)] at hsh; cases hsh
     rw [hE, zl_no (by decide)]
     refine wp_ret ?_
     repeat (first | with_reducible refine ret_in ?_ | with_reducible refine ret_then ?_)
     refine bodyPost_ret (results_tmp2 rfl _ _ _) A.2 ⟨_, ?_, World.ownsRow_nil _ _ _ _, BW⟩
     show Ending.returned (.tuple #[a.eval (.tmp 6), a.eval (.tmp 7)]) = _
     rw [t6, t7]
    | true =>
     refine wp_se (σ := Value × (Nat → Value)) 59 [0, 1, 3] [3] (fun k_ s X => match k_ with | 0 => Below X8.heap.size X8 X | _ => Below X8.heap.size X8 X ∧ (LLI X s.1 J s.2 (szF N J) (thF (ckP L J p) (lq L J) N J))) (fun s => fun i_ => match i_ with | 0 => .pointer (some ⟨g10, 2, none⟩) | 1 => cv | 3 => .tuple #[s.1, .int .i64 ((0 : Nat) : Int)] | _ => undef) (undef, fun _ => undef) A (Below.refl _ _) (And.intro ?_ (And.intro ?_ (And.intro ?_ trivial))) ?_
     ·exact fun s a X e hS => stepV rfl rfl (execPt2 rfl ((e (.tmp 10)).trans t10)) ⟨s, ⟨_, rfl, rfl⟩, hS, ar⟩
     ·exact fun s a X e hS => stepV rfl rfl (execLdLL rfl (e (.tmp 45)) (ptC_at (on9 F10 hS)).2.2) ⟨s, ⟨_, rfl, rfl⟩, hS, ar⟩
     ·intro s a X e hS
      refine stepC rfl rfl (execCall2 Try.func22 (by kernel_rfl) (by kernel_rfl) rfl (e (.tmp 46)) ((e (.tmp 47)).trans t8)) (sh0 xs (ckP L J p) (lq L J) N J _ _ X (FCv.on hS) hlq (Fz.on hS) hN h1 h2 hsh) fun e w' hh => ?_
      obtain ⟨r_, yy_, he, hk, hb⟩ := hh
      refine ⟨_, he, (r_, yy_), ⟨_, rfl, rfl⟩, ⟨(hS).trans ((hb).mono (hS).size), hk⟩, (And.intro (fun _ => rfl) (And.intro (fun _ => rfl) (And.intro (fun h => absurd h (by decide)) trivial)))⟩
     rintro ⟨t_, y_⟩ a X10 A e (hS : Below X8.heap.size X8 X10 ∧ (LLI X10 t_ J y_ (szF N J) (thF (ckP L J p) (lq L J) N J)))
     obtain ⟨bX, FLL⟩ := hS
     have t9 : a.eval (.tmp 9) = .int .i64 ((0 : Nat) : Int) := e _
     have t13 : a.eval (.tmp 13) = t_ := e _
     replace t11 := kt e t11
     replace FP := (FP.on bX)
     replace Fz := (Fz.on bX)
     replace FPT := (FPT.on bX)
     replace Fge10 := Fge10
     replace F10 := (on9 F10 bX)
     replace FBv := (FBv.on bX)
     replace FCv := (FCv.on bX)
     replace Fu := (Fu.on bX)
     have ZX10 := bX.size
     replace BW := BW.trans (bX.mono BW.size)
     clear bX
     clear e t8 t10
     refine wp_seq (wp_seq ?_)
     refine wp_se 59 [1] [] (fun _ s X => Below X10.heap.size X10 X) (fun s => fun i_ => match i_ with | 1 => .bool false | _ => undef) () A (Below.refl _ _) (And.intro ?_ trivial) ?_
     ·exact fun s a X e hS => stepV rfl rfl (execDec (execNeE (p := 0) (q := 0) rfl ((e (.tmp 51)).trans t9) rfl) (decide_eq_false (by decide))) ⟨s, ⟨_, rfl, rfl⟩, hS, ar⟩
     rintro _ a X11 A e (bX : Below X10.heap.size X10 X11)
     have t52 : a.eval (.tmp 52) = .bool false := e _
     replace t11 := kt e t11
     replace t13 := kt e t13
     replace FP := (FP.on bX)
     replace Fz := (Fz.on bX)
     replace FPT := (FPT.on bX)
     replace Fge10 := Fge10
     replace F10 := (on9 F10 bX)
     replace FBv := (FBv.on bX)
     replace FCv := (FCv.on bX)
     replace Fu := (Fu.on bX)
     replace FLL := (FLL.on bX)
     have ZX11 := bX.size
     replace BW := BW.trans (bX.mono BW.size)
     clear bX
     clear e t9
     refine wp_cond_false t52 (wp_skip ?_)
     clear t52
     have hok : OkT L J N (szF N J) p := ⟨okB_iff.1 hbr, fun t ht => okB_iff.1 (allB_iff.1 hsh t ht)⟩
     have hFit : Fit L N J ((N : Nat) : Int) ((J : Nat) : Int) p := ⟨rfl, rfl, hN, h1, h2, hL18, hok⟩
     have hE : riE L ((N : Nat) : Int) ((J : Nat) : Int) p = 0 := hFit.ri
     rw [hE, zl_ok]
     have hpt : IsPat (szF N J) J N (ptT L J N (szF N J) p) := ptT_pat (szF_sum N h1) hok
     have hst : stQ (pcF (sI N J) J (dQ (brP p) (lb L) N)) N (fun j => (szF N J j : Int)) J = true := stQ_iff.2 ⟨fun i hi => by have := hpt.lt i hi; show 0 ≤ ((ptT L J N (szF N J) p i : Nat) : Int) ∧ ((ptT L J N (szF N J) p i : Nat) : Int) < _; omega, fun j hj => by show ((szF N J j : Nat) : Int) = ((cntC (ptT L J N (szF N J) p) j N : Nat) : Int); rw [hpt.cnt j hj]⟩
     refine wp_seq ?_
     refine wp_se (σ := Value) 59 [2] [2] (fun k_ s X => match k_ with | 0 => Below X11.heap.size X11 X | _ => Below X11.heap.size X11 X ∧ (X.ownsRow V.heap.size 3 1 s N (intsL N (orF L ((N : Nat) : Int) ((J : Nat) : Int) p)))) (fun s => fun i_ => match i_ with | 2 => .tuple #[s, .int .i64 ((0 : Nat) : Int)] | _ => undef) undef A (Below.refl _ _) (And.intro ?_ trivial) ?_
     ·intro s a X e hS
      refine stepC rfl rfl (execCall2 Try.func23 (by kernel_rfl) (by kernel_rfl) rfl ((e (.tmp 54)).trans t11) ((e (.tmp 55)).trans t13)) (we0 (pcF (sI N J) J (dQ (brP p) (lb L) N)) N J y_ (szF N J) (thF (ckP L J p) (lq L J) N J) _ _ X (Fu.on hS) (by omega) (FLL.on hS) (by omega) hst) fun e w' hh => ?_
      obtain ⟨r_, he, hk, hb⟩ := hh
      refine ⟨_, he, r_, ⟨_, rfl, rfl⟩, ⟨(hS).trans ((hb).mono (hS).size), ownD_base (by rw [intsL_congr (g := orF L ((N : Nat) : Int) ((J : Nat) : Int) p) (fun i _ => or_is i)] at hk; exact hk) (Nat.le_trans BW.size (hS).size)⟩, (And.intro (fun h => absurd h (by decide)) trivial)⟩
     rintro o_ a X13 A e (hS : Below X11.heap.size X11 X13 ∧ (X13.ownsRow V.heap.size 3 1 o_ N (intsL N (orF L ((N : Nat) : Int) ((J : Nat) : Int) p))))
     obtain ⟨bX, FO⟩ := hS
     have t6 : a.eval (.tmp 6) = o_ := e _
     have t7 : a.eval (.tmp 7) = .int .i64 ((0 : Nat) : Int) := e _
     replace FP := (FP.on bX)
     replace Fz := (Fz.on bX)
     replace FPT := (FPT.on bX)
     replace Fge10 := Fge10
     replace F10 := (on9 F10 bX)
     replace FBv := (FBv.on bX)
     replace FCv := (FCv.on bX)
     replace Fu := (Fu.on bX)
     replace FLL := (FLL.on bX)
     have ZX13 := bX.size
     replace BW := BW.trans (bX.mono BW.size)
     clear bX
     clear e t11 t13
     refine wp_ret ?_
     repeat (first | with_reducible refine ret_in ?_ | with_reducible refine ret_then ?_)
     refine bodyPost_ret (results_tmp2 rfl _ _ _) A.2 ⟨_, ?_, FO, BW⟩
     show Ending.returned (.tuple #[a.eval (.tmp 6), a.eval (.tmp 7)]) = _
     rw [t6, t7]
  ·refine wp_se (σ := Value × Value × Value × (Nat → Value) × Nat) 59 [2, 6, 7] [2, 6, 7] (fun k_ s X => match k_ with | 0 => Below X2.heap.size X2 X | 1 => Below X2.heap.size X2 X ∧ (PtS X V.heap.size 0 s.1 s.2.1 s.2.2.1 s.2.2.2.1 0 0 0 p) | 2 => Below X2.heap.size X2 X ∧ (PtS X V.heap.size 0 s.1 s.2.1 s.2.2.1 s.2.2.2.1 0 0 0 p) ∧ X.heap[s.2.2.2.2]? = some (.cells (ptC (.slice none 0 0) (.slice none 0 0) (.slice none 0 0)) 55) ∧ (X2.heap.size ≤ s.2.2.2.2) | _ => Below X2.heap.size X2 X ∧ (PtS X V.heap.size 0 s.1 s.2.1 s.2.2.1 s.2.2.2.1 0 0 0 p) ∧ (X2.heap.size ≤ s.2.2.2.2) ∧ X.heap[s.2.2.2.2]? = some (.cells (ptC s.1 s.2.1 s.2.2.1) 55)) (fun s => fun i_ => match i_ with | 2 => .tuple #[.agg (ptC s.1 s.2.1 s.2.2.1), .int .i64 ((3 : Nat) : Int)] | 6 => .pointer (some ⟨s.2.2.2.2, 0, none⟩) | _ => undef) (undef, undef, undef, fun _ => undef, 0) A (Below.refl _ _) (And.intro ?_ (And.intro ?_ (And.intro ?_ trivial))) ?_
   ·intro s a X e hS
    refine stepC rfl rfl (execCall2 Try.func20 (by kernel_rfl) (by kernel_rfl) rfl ((e (.tmp 24)).trans t0) ((e (.tmp 25)).trans t2)) (spl3 p L J _ X (FP.on hS) hl (by omega) h1 h2) fun e w' hh => ?_
    obtain ⟨nv_, bv_, cv_, x_, he, hk, hb⟩ := hh
    refine ⟨_, he, (nv_, bv_, cv_, x_, s.2.2.2.2), ⟨_, rfl, rfl⟩, ⟨(hS).trans ((hb).mono (hS).size), hk.base (Nat.le_trans BW.size (hS).size)⟩, (And.intro (fun h => absurd h (by decide)) (And.intro (fun h => absurd h (by decide)) (And.intro (fun h => absurd h (by decide)) trivial)))⟩
   ·intro s a X e hS
    refine stepV rfl rfl (execAllPt rfl) ⟨(s.1, s.2.1, s.2.2.1, s.2.2.2.1, X.heap.size), ⟨_, rfl, rfl⟩, ⟨(hS.1).trans (((belNew X _)).mono (hS.1).size), (hS.2.on (belNew X _)), heapNew X _, (hS.1).size⟩, (And.intro (fun _ => rfl) (And.intro (fun h => absurd h (by decide)) (And.intro (fun h => absurd h (by decide)) trivial)))⟩
   ·exact fun s a X e hS => stepS rfl rfl (execStPt rfl (e (.tmp 10)) (e (.tmp 27)) hS.2.2.1 rfl (pts_one hS.2.1)) ⟨s, ⟨_, rfl, rfl⟩, ⟨below4 hS.1 hS.2.2.2 _, (hS.2.1.set hS.2.2.1 (by decide) (by decide)), hS.2.2.2, setRow_heap _ _ _ _ _ _ hS.2.2.1⟩, ar⟩
   rintro ⟨nv, bv, cv, xs, g10⟩ a X4 A e (hS : Below X2.heap.size X2 X4 ∧ (PtS X4 V.heap.size 0 nv bv cv xs 0 0 0 p) ∧ (X2.heap.size ≤ g10) ∧ X4.heap[g10]? = some (.cells (ptC nv bv cv) 55))
   obtain ⟨bX, FPT, Fge10, F10⟩ := hS
   have t9 : a.eval (.tmp 9) = .int .i64 ((3 : Nat) : Int) := e _
   replace FP := (FP.on bX)
   replace Fz := (Fz.on bX)
   have ZX4 := bX.size
   replace BW := BW.trans (bX.mono BW.size)
   clear bX
   clear e t0 t1 t2 t8
   refine wp_seq (wp_seq ?_)
   refine wp_se 59 [1] [] (fun _ s X => Below X4.heap.size X4 X) (fun s => fun i_ => match i_ with | 1 => .bool true | _ => undef) () A (Below.refl _ _) (And.intro ?_ trivial) ?_
   ·exact fun s a X e hS => stepV rfl rfl (execDec (execNeE (p := 3) (q := 0) rfl ((e (.tmp 29)).trans t9) rfl) (decide_eq_true (by decide))) ⟨s, ⟨_, rfl, rfl⟩, hS, ar⟩
   rintro _ a X5 A e (bX : Below X4.heap.size X4 X5)
   have t30 : a.eval (.tmp 30) = .bool true := e _
   replace t9 := kt e t9
   replace FP := (FP.on bX)
   replace Fz := (Fz.on bX)
   replace FPT := (FPT.on bX)
   replace Fge10 := Fge10
   replace F10 := (on9 F10 bX)
   have ZX5 := bX.size
   replace BW := BW.trans (bX.mono BW.size)
   clear bX
   clear e
   refine wp_cond_true t30 ?_
   clear t30
   refine wp_seq ?_
   refine wp_se 59 [] [] (fun _ s X => Below X5.heap.size X5 X) (fun s => fun _ => undef) () A (Below.refl _ _) trivial ?_
   rintro _ a X6 A e (bX : Below X5.heap.size X5 X6)
   have t6 : a.eval (.tmp 6) = .slice none 0 0 := e _
   have t7 : a.eval (.tmp 7) = .int .i64 ((3 : Nat) : Int) := (e _).trans t9
   replace FP := (FP.on bX)
   replace Fz := (Fz.on bX)
   replace FPT := (FPT.on bX)
   replace Fge10 := Fge10
   replace F10 := (on9 F10 bX)
   have ZX6 := bX.size
   replace BW := BW.trans (bX.mono BW.size)
   clear bX
   clear e t9
   have hE : riE L ((N : Nat) : Int) ((J : Nat) : Int) p = 3 := by show (if inL _ _ then _ else _) = 3; rw [if_pos hin]; exact if_neg fun q => hL18 q.1
   rw [hE, zl_no (by decide)]
   refine wp_ret ?_
   repeat (first | with_reducible refine ret_in ?_ | with_reducible refine ret_then ?_)
   refine bodyPost_ret (results_tmp2 rfl _ _ _) A.2 ⟨_, ?_, World.ownsRow_nil _ _ _ _, BW⟩
   show Ending.returned (.tuple #[a.eval (.tmp 6), a.eval (.tmp 7)]) = _
   rw [t6, t7]
 ·refine wp_seq ?_
  refine wp_se (σ := Value) 59 [2] [] (fun _ s X => Below V.heap.size V X) (fun s => fun i_ => match i_ with | 2 => .tuple #[s, .int .i64 ((2 : Nat) : Int)] | _ => undef) undef A (Below.refl _ _) (And.intro ?_ trivial) ?_
  ·intro s a X e hS
   refine stepC rfl rfl (execCall2 Try.func19 (by kernel_rfl) (by kernel_rfl) rfl ((e (.tmp 15)).trans t1) ((e (.tmp 16)).trans t2)) (sz2 hin X) fun e w' hh => ?_
   obtain ⟨r_, he, hb⟩ := hh
   refine ⟨_, he, r_, ⟨_, rfl, rfl⟩, (hS).trans ((hb).mono (hS).size), (And.intro (fun h => absurd h (by decide)) trivial)⟩
  rintro z_ a X1 A e (bX : Below V.heap.size V X1)
  have t8 : a.eval (.tmp 8) = z_ := e _
  have t9 : a.eval (.tmp 9) = .int .i64 ((2 : Nat) : Int) := e _
  replace t0 := kt e t0
  replace t1 := kt e t1
  replace t2 := kt e t2
  replace FP := (FP.on bX)
  have ZX1 := bX.size
  replace BW := BW.trans (bX.mono BW.size)
  clear bX
  clear e
  refine wp_seq (wp_seq ?_)
  refine wp_se 59 [1] [] (fun _ s X => Below X1.heap.size X1 X) (fun s => fun i_ => match i_ with | 1 => .bool true | _ => undef) () A (Below.refl _ _) (And.intro ?_ trivial) ?_
  ·exact fun s a X e hS => stepV rfl rfl (execDec (execNeE (p := 2) (q := 0) rfl ((e (.tmp 20)).trans t9) rfl) (decide_eq_true (by decide))) ⟨s, ⟨_, rfl, rfl⟩, hS, ar⟩
  rintro _ a X2 A e (bX : Below X1.heap.size X1 X2)
  have t21 : a.eval (.tmp 21) = .bool true := e _
  replace t9 := kt e t9
  replace FP := (FP.on bX)
  have ZX2 := bX.size
  replace BW := BW.trans (bX.mono BW.size)
  clear bX
  clear e t0 t1 t2 t8
  refine wp_cond_true t21 ?_
  clear t21
  refine wp_seq ?_
  refine wp_se 59 [] [] (fun _ s X => Below X2.heap.size X2 X) (fun s => fun _ => undef) () A (Below.refl _ _) trivial ?_
  rintro _ a X3 A e (bX : Below X2.heap.size X2 X3)
  have t6 : a.eval (.tmp 6) = .slice none 0 0 := e _
  have t7 : a.eval (.tmp 7) = .int .i64 ((2 : Nat) : Int) := (e _).trans t9
  replace FP := (FP.on bX)
  have ZX3 := bX.size
  replace BW := BW.trans (bX.mono BW.size)
  clear bX
  clear e t9
  have hE : riE L n ch p = 2 := if_neg hin
  rw [hE, zl_no (by decide)]
  refine wp_ret ?_
  repeat (first | with_reducible refine ret_in ?_ | with_reducible refine ret_then ?_)
  refine bodyPost_ret (results_tmp2 rfl _ _ _) A.2 ⟨_, ?_, World.ownsRow_nil _ _ _ _, BW⟩
  show Ending.returned (.tuple #[a.eval (.tmp 6), a.eval (.tmp 7)]) = _
  rw [t6, t7]
set_option maxRecDepth 100000 in
set_option maxHeartbeats 4000000 in
theorem pshuffleI (p : Nat → Nat) (L m : Nat) (ch : Int) (g : Nat → Int) (pv lv : Value) (V : World) (FP : SliceN V pv L p) (hl : L ≤ 140737488351232) (FI : SliceI V lv m g) :
  Calls Try.prog 11 #[pv, .int .i64 ch, lv] V fun e w' => ∃ r, e = .returned (.tuple #[r, .int .i64 ((riE L ((m : Nat) : Int) ch p : Nat) : Int)]) ∧ w'.ownsRow V.heap.size 3 1 r (zl (riE L ((m : Nat) : Int) ch p) m) (intsL (zl (riE L ((m : Nat) : Int) ch p) m) (fun i => g (orF L ((m : Nat) : Int) ch p i).toNat)) ∧ Below V.heap.size V w' := by
 go_enter Try.func11, Try.ntmps11
 refine wp_seq ?_
 refine wp_region_sqK 26 [(0, 6), (1, 7)] (fun i_ => match i_ with | 0 => .slice none 0 0 | 1 => .int .i64 ((0 : Nat) : Int) | _ => undef) rfl (by kernel_rfl) (by decide) (by decide) ?_ ?_
 ·intro i_ hi_ a hf hv hn
  match i_, hi_ with
  | 0, _ => exact stepV rfl rfl (execAsgB rfl rfl) ⟨⟨_, rfl, rfl⟩, rfl⟩
  | 1, _ => exact stepV rfl rfl (execAsgB rfl rfl) ⟨⟨_, rfl, rfl⟩, rfl⟩
  | k_ + 2, h_ => exact absurd h_ (by simp)
 intro a h1 h2 h3 h4
 have t0 : a.eval (.tmp 0) = pv := (h3 0 (by decide)).trans rfl
 have t1 : a.eval (.tmp 1) = .int .i64 ch := (h3 1 (by decide)).trans rfl
 have t2 : a.eval (.tmp 2) = lv := (h3 2 (by decide)).trans rfl
 have A : a.tmps.size = 26 ∧ a.defers = [] := ⟨h1, h2⟩
 have BW : Below V.heap.size V V := Below.refl _ _
 clear h1 h2 h3 h4
 refine wp_seq ?_
 refine wp_se (σ := Value) 26 [2, 4] [4] (fun k_ s X => match k_ with | 0 => Below V.heap.size V X | _ => Below V.heap.size V X ∧ (SliceI X s (zl (riE L ((m : Nat) : Int) ch p) m) (orF L ((m : Nat) : Int) ch p))) (fun s => fun i_ => match i_ with | 2 => .int .i64 ((m : Nat) : Int) | 4 => .tuple #[s, .int .i64 ((riE L ((m : Nat) : Int) ch p : Nat) : Int)] | _ => undef) undef A (Below.refl _ _) (And.intro ?_ (And.intro ?_ trivial)) ?_
 ·exact fun s a X e hS => stepV rfl rfl (execLenI (len := m) rfl ((e (.tmp 12)).trans t2) ((FI.on hS)).shp) ⟨s, ⟨_, rfl, rfl⟩, hS, ar⟩
 ·intro s a X e hS
  refine stepC rfl rfl (execCall3 Try.func10 (by kernel_rfl) (by kernel_rfl) rfl ((e (.tmp 11)).trans t0) (e (.tmp 13)) ((e (.tmp 14)).trans t1)) (porder p L ((m : Nat) : Int) ch _ X (FP.on hS) hl) fun e w' hh => ?_
  obtain ⟨r_, he, hk, hb⟩ := hh
  refine ⟨_, he, r_, ⟨_, rfl, rfl⟩, ⟨(hS).trans ((hb).mono (hS).size), own_ints hk or_fits⟩, (And.intro (fun _ => rfl) (And.intro (fun h => absurd h (by decide)) trivial))⟩
 rintro o_ a X1 A e (hS : Below V.heap.size V X1 ∧ (SliceI X1 o_ (zl (riE L ((m : Nat) : Int) ch p) m) (orF L ((m : Nat) : Int) ch p)))
 obtain ⟨bX, FO⟩ := hS
 have t8 : a.eval (.tmp 8) = o_ := e _
 have t9 : a.eval (.tmp 9) = .int .i64 ((riE L ((m : Nat) : Int) ch p : Nat) : Int) := e _
 replace t2 := kt e t2
 replace FP := (FP.on bX)
 replace FI := (FI.on bX)
 have ZX1 := bX.size
 replace BW := BW.trans (bX.mono BW.size)
 clear bX
 clear e t0 t1
 refine wp_seq (wp_seq ?_)
 by_cases hE : riE L ((m : Nat) : Int) ch p = 0
 ·refine wp_se 26 [1] [] (fun _ s X => Below X1.heap.size X1 X) (fun s => fun i_ => match i_ with | 1 => .bool false | _ => undef) () A (Below.refl _ _) (And.intro ?_ trivial) ?_
  ·exact fun s a X e hS => stepV rfl rfl (execDec (execNeE (p := riE L ((m : Nat) : Int) ch p) (q := 0) rfl ((e (.tmp 18)).trans t9) rfl) (decide_eq_false (by omega))) ⟨s, ⟨_, rfl, rfl⟩, hS, ar⟩
  rintro _ a X2 A e (bX : Below X1.heap.size X1 X2)
  have t19 : a.eval (.tmp 19) = .bool false := e _
  replace t2 := kt e t2
  replace t8 := kt e t8
  replace FP := (FP.on bX)
  replace FI := (FI.on bX)
  replace FO := (FO.on bX)
  have ZX2 := bX.size
  replace BW := BW.trans (bX.mono BW.size)
  clear bX
  clear e t9
  refine wp_cond_false t19 (wp_skip ?_)
  clear t19
  have hFit := ri_ok hE
  have hm : m ≤ 256 := hFit.le
  have hap : apE (orF L ((m : Nat) : Int) ch p) m m = 0 := if_pos ⟨hFit.or_pE, rfl⟩
  rw [hE, zl_ok]
  rw [hE, zl_ok] at FO
  refine wp_seq ?_
  refine wp_se (σ := Value) 26 [2] [2] (fun k_ s X => match k_ with | 0 => Below X2.heap.size X2 X | _ => Below X2.heap.size X2 X ∧ (X.ownsRow V.heap.size 3 1 s m (intsL m (fun i => g (orF L ((m : Nat) : Int) ch p i).toNat)))) (fun s => fun i_ => match i_ with | 2 => .tuple #[s, .int .i64 ((0 : Nat) : Int)] | _ => undef) undef A (Below.refl _ _) (And.intro ?_ trivial) ?_
  ·intro s a X e hS
   refine stepC rfl rfl (execCall2 Try.func24 (by kernel_rfl) (by kernel_rfl) rfl ((e (.tmp 21)).trans t8) ((e (.tmp 22)).trans t2)) (api0 (orF L ((m : Nat) : Int) ch p) g m m _ _ X (FO.on hS) (by omega) (FI.on hS) hap) fun e w' hh => ?_
   obtain ⟨q_, he, hk, hb⟩ := hh
   refine ⟨_, he, q_, ⟨_, rfl, rfl⟩, ⟨(hS).trans ((hb).mono (hS).size), ownD_base hk (Nat.le_trans BW.size (hS).size)⟩, (And.intro (fun h => absurd h (by decide)) trivial)⟩
  rintro r_ a X4 A e (hS : Below X2.heap.size X2 X4 ∧ (X4.ownsRow V.heap.size 3 1 r_ m (intsL m (fun i => g (orF L ((m : Nat) : Int) ch p i).toNat))))
  obtain ⟨bX, FR⟩ := hS
  have t6 : a.eval (.tmp 6) = r_ := e _
  have t7 : a.eval (.tmp 7) = .int .i64 ((0 : Nat) : Int) := e _
  replace FP := (FP.on bX)
  replace FI := (FI.on bX)
  replace FO := (FO.on bX)
  have ZX4 := bX.size
  replace BW := BW.trans (bX.mono BW.size)
  clear bX
  clear e t2 t8
  refine wp_ret ?_
  repeat (first | with_reducible refine ret_in ?_ | with_reducible refine ret_then ?_)
  refine bodyPost_ret (results_tmp2 rfl _ _ _) A.2 ⟨_, ?_, FR, BW⟩
  show Ending.returned (.tuple #[a.eval (.tmp 6), a.eval (.tmp 7)]) = _
  rw [t6, t7]
 ·refine wp_se 26 [1] [] (fun _ s X => Below X1.heap.size X1 X) (fun s => fun i_ => match i_ with | 1 => .bool true | _ => undef) () A (Below.refl _ _) (And.intro ?_ trivial) ?_
  ·exact fun s a X e hS => stepV rfl rfl (execDec (execNeE (p := riE L ((m : Nat) : Int) ch p) (q := 0) rfl ((e (.tmp 18)).trans t9) rfl) (decide_eq_true (by omega))) ⟨s, ⟨_, rfl, rfl⟩, hS, ar⟩
  rintro _ a X2 A e (bX : Below X1.heap.size X1 X2)
  have t19 : a.eval (.tmp 19) = .bool true := e _
  replace t2 := kt e t2
  replace t8 := kt e t8
  replace t9 := kt e t9
  replace FP := (FP.on bX)
  replace FI := (FI.on bX)
  replace FO := (FO.on bX)
  have ZX2 := bX.size
  replace BW := BW.trans (bX.mono BW.size)
  clear bX
  clear e
  refine wp_cond_true t19 ?_
  clear t19
  refine wp_seq ?_
  refine wp_se 26 [] [] (fun _ s X => Below X2.heap.size X2 X) (fun s => fun _ => undef) () A (Below.refl _ _) trivial ?_
  rintro _ a X3 A e (bX : Below X2.heap.size X2 X3)
  have t6 : a.eval (.tmp 6) = .slice none 0 0 := e _
  have t7 : a.eval (.tmp 7) = .int .i64 ((riE L ((m : Nat) : Int) ch p : Nat) : Int) := (e _).trans t9
  replace FP := (FP.on bX)
  replace FI := (FI.on bX)
  replace FO := (FO.on bX)
  have ZX3 := bX.size
  replace BW := BW.trans (bX.mono BW.size)
  clear bX
  clear e t2 t8 t9
  rw [zl_no hE]
  refine wp_ret ?_
  repeat (first | with_reducible refine ret_in ?_ | with_reducible refine ret_then ?_)
  refine bodyPost_ret (results_tmp2 rfl _ _ _) A.2 ⟨_, ?_, World.ownsRow_nil _ _ _ _, BW⟩
  show Ending.returned (.tuple #[a.eval (.tmp 6), a.eval (.tmp 7)]) = _
  rw [t6, t7]
set_option maxRecDepth 100000 in
set_option maxHeartbeats 4000000 in
theorem pshuffleS (p : Nat → Nat) (L m : Nat) (ch : Int) (g : Nat → ByteArray) (pv lv : Value) (V : World) (FP : SliceN V pv L p) (hl : L ≤ 140737488351232) (FI : SliceS V lv m g) :
  Calls Try.prog 14 #[pv, .int .i64 ch, lv] V fun e w' => ∃ r, e = .returned (.tuple #[r, .int .i64 ((riE L ((m : Nat) : Int) ch p : Nat) : Int)]) ∧ w'.ownsRow V.heap.size 9 1 r (zl (riE L ((m : Nat) : Int) ch p) m) (strsL (zl (riE L ((m : Nat) : Int) ch p) m) (fun i => g (orF L ((m : Nat) : Int) ch p i).toNat)) ∧ Below V.heap.size V w' := by
 go_enter Try.func14, Try.ntmps14
 refine wp_seq ?_
 refine wp_region_sqK 26 [(0, 6), (1, 7)] (fun i_ => match i_ with | 0 => .slice none 0 0 | 1 => .int .i64 ((0 : Nat) : Int) | _ => undef) rfl (by kernel_rfl) (by decide) (by decide) ?_ ?_
 ·intro i_ hi_ a hf hv hn
  match i_, hi_ with
  | 0, _ => exact stepV rfl rfl (execAsgB rfl rfl) ⟨⟨_, rfl, rfl⟩, rfl⟩
  | 1, _ => exact stepV rfl rfl (execAsgB rfl rfl) ⟨⟨_, rfl, rfl⟩, rfl⟩
  | k_ + 2, h_ => exact absurd h_ (by simp)
 intro a h1 h2 h3 h4
 have t0 : a.eval (.tmp 0) = pv := (h3 0 (by decide)).trans rfl
 have t1 : a.eval (.tmp 1) = .int .i64 ch := (h3 1 (by decide)).trans rfl
 have t2 : a.eval (.tmp 2) = lv := (h3 2 (by decide)).trans rfl
 have A : a.tmps.size = 26 ∧ a.defers = [] := ⟨h1, h2⟩
 have BW : Below V.heap.size V V := Below.refl _ _
 clear h1 h2 h3 h4
 refine wp_seq ?_
 refine wp_se (σ := Value) 26 [2, 4] [4] (fun k_ s X => match k_ with | 0 => Below V.heap.size V X | _ => Below V.heap.size V X ∧ (SliceI X s (zl (riE L ((m : Nat) : Int) ch p) m) (orF L ((m : Nat) : Int) ch p))) (fun s => fun i_ => match i_ with | 2 => .int .i64 ((m : Nat) : Int) | 4 => .tuple #[s, .int .i64 ((riE L ((m : Nat) : Int) ch p : Nat) : Int)] | _ => undef) undef A (Below.refl _ _) (And.intro ?_ (And.intro ?_ trivial)) ?_
 ·exact fun s a X e hS => stepV rfl rfl (execLenS (len := m) rfl ((e (.tmp 12)).trans t2) FI.shp) ⟨s, ⟨_, rfl, rfl⟩, hS, ar⟩
 ·intro s a X e hS
  refine stepC rfl rfl (execCall3 Try.func10 (by kernel_rfl) (by kernel_rfl) rfl ((e (.tmp 11)).trans t0) (e (.tmp 13)) ((e (.tmp 14)).trans t1)) (porder p L ((m : Nat) : Int) ch _ X (FP.on hS) hl) fun e w' hh => ?_
  obtain ⟨r_, he, hk, hb⟩ := hh
  refine ⟨_, he, r_, ⟨_, rfl, rfl⟩, ⟨(hS).trans ((hb).mono (hS).size), own_ints hk or_fits⟩, (And.intro (fun _ => rfl) (And.intro (fun h => absurd h (by decide)) trivial))⟩
 rintro o_ a X1 A e (hS : Below V.heap.size V X1 ∧ (SliceI X1 o_ (zl (riE L ((m : Nat) : Int) ch p) m) (orF L ((m : Nat) : Int) ch p)))
 obtain ⟨bX, FO⟩ := hS
 have t8 : a.eval (.tmp 8) = o_ := e _
 have t9 : a.eval (.tmp 9) = .int .i64 ((riE L ((m : Nat) : Int) ch p : Nat) : Int) := e _
 replace t2 := kt e t2
 replace FP := (FP.on bX)
 replace FI := (FI.on bX)
 have ZX1 := bX.size
 replace BW := BW.trans (bX.mono BW.size)
 clear bX
 clear e t0 t1
 refine wp_seq (wp_seq ?_)
 by_cases hE : riE L ((m : Nat) : Int) ch p = 0
 ·refine wp_se 26 [1] [] (fun _ s X => Below X1.heap.size X1 X) (fun s => fun i_ => match i_ with | 1 => .bool false | _ => undef) () A (Below.refl _ _) (And.intro ?_ trivial) ?_
  ·exact fun s a X e hS => stepV rfl rfl (execDec (execNeE (p := riE L ((m : Nat) : Int) ch p) (q := 0) rfl ((e (.tmp 18)).trans t9) rfl) (decide_eq_false (by omega))) ⟨s, ⟨_, rfl, rfl⟩, hS, ar⟩
  rintro _ a X2 A e (bX : Below X1.heap.size X1 X2)
  have t19 : a.eval (.tmp 19) = .bool false := e _
  replace t2 := kt e t2
  replace t8 := kt e t8
  replace FP := (FP.on bX)
  replace FI := (FI.on bX)
  replace FO := (FO.on bX)
  have ZX2 := bX.size
  replace BW := BW.trans (bX.mono BW.size)
  clear bX
  clear e t9
  refine wp_cond_false t19 (wp_skip ?_)
  clear t19
  have hFit := ri_ok hE
  have hm : m ≤ 256 := hFit.le
  have hap : apE (orF L ((m : Nat) : Int) ch p) m m = 0 := if_pos ⟨hFit.or_pE, rfl⟩
  rw [hE, zl_ok]
  rw [hE, zl_ok] at FO
  refine wp_seq ?_
  refine wp_se (σ := Value) 26 [2] [2] (fun k_ s X => match k_ with | 0 => Below X2.heap.size X2 X | _ => Below X2.heap.size X2 X ∧ (X.ownsRow V.heap.size 9 1 s m (strsL m (fun i => g (orF L ((m : Nat) : Int) ch p i).toNat)))) (fun s => fun i_ => match i_ with | 2 => .tuple #[s, .int .i64 ((0 : Nat) : Int)] | _ => undef) undef A (Below.refl _ _) (And.intro ?_ trivial) ?_
  ·intro s a X e hS
   refine stepC rfl rfl (execCall2 Try.func27 (by kernel_rfl) (by kernel_rfl) rfl ((e (.tmp 21)).trans t8) ((e (.tmp 22)).trans t2)) (aps0 (orF L ((m : Nat) : Int) ch p) g m m _ _ X (FO.on hS) (by omega) (FI.on hS) hap) fun e w' hh => ?_
   obtain ⟨q_, he, hk, hb⟩ := hh
   refine ⟨_, he, q_, ⟨_, rfl, rfl⟩, ⟨(hS).trans ((hb).mono (hS).size), ownD_base hk (Nat.le_trans BW.size (hS).size)⟩, (And.intro (fun h => absurd h (by decide)) trivial)⟩
  rintro r_ a X4 A e (hS : Below X2.heap.size X2 X4 ∧ (X4.ownsRow V.heap.size 9 1 r_ m (strsL m (fun i => g (orF L ((m : Nat) : Int) ch p i).toNat))))
  obtain ⟨bX, FR⟩ := hS
  have t6 : a.eval (.tmp 6) = r_ := e _
  have t7 : a.eval (.tmp 7) = .int .i64 ((0 : Nat) : Int) := e _
  replace FP := (FP.on bX)
  replace FI := (FI.on bX)
  replace FO := (FO.on bX)
  have ZX4 := bX.size
  replace BW := BW.trans (bX.mono BW.size)
  clear bX
  clear e t2 t8
  refine wp_ret ?_
  repeat (first | with_reducible refine ret_in ?_ | with_reducible refine ret_then ?_)
  refine bodyPost_ret (results_tmp2 rfl _ _ _) A.2 ⟨_, ?_, FR, BW⟩
  show Ending.returned (.tuple #[a.eval (.tmp 6), a.eval (.tmp 7)]) = _
  rw [t6, t7]
 ·refine wp_se 26 [1] [] (fun _ s X => Below X1.heap.size X1 X) (fun s => fun i_ => match i_ with | 1 => .bool true | _ => undef) () A (Below.refl _ _) (And.intro ?_ trivial) ?_
  ·exact fun s a X e hS => stepV rfl rfl (execDec (execNeE (p := riE L ((m : Nat) : Int) ch p) (q := 0) rfl ((e (.tmp 18)).trans t9) rfl) (decide_eq_true (by omega))) ⟨s, ⟨_, rfl, rfl⟩, hS, ar⟩
  rintro _ a X2 A e (bX : Below X1.heap.size X1 X2)
  have t19 : a.eval (.tmp 19) = .bool true := e _
  replace t2 := kt e t2
  replace t8 := kt e t8
  replace t9 := kt e t9
  replace FP := (FP.on bX)
  replace FI := (FI.on bX)
  replace FO := (FO.on bX)
  have ZX2 := bX.size
  replace BW := BW.trans (bX.mono BW.size)
  clear bX
  clear e
  refine wp_cond_true t19 ?_
  clear t19
  refine wp_seq ?_
  refine wp_se 26 [] [] (fun _ s X => Below X2.heap.size X2 X) (fun s => fun _ => undef) () A (Below.refl _ _) trivial ?_
  rintro _ a X3 A e (bX : Below X2.heap.size X2 X3)
  have t6 : a.eval (.tmp 6) = .slice none 0 0 := e _
  have t7 : a.eval (.tmp 7) = .int .i64 ((riE L ((m : Nat) : Int) ch p : Nat) : Int) := (e _).trans t9
  replace FP := (FP.on bX)
  replace FI := (FI.on bX)
  replace FO := (FO.on bX)
  have ZX3 := bX.size
  replace BW := BW.trans (bX.mono BW.size)
  clear bX
  clear e t2 t8 t9
  rw [zl_no hE]
  refine wp_ret ?_
  repeat (first | with_reducible refine ret_in ?_ | with_reducible refine ret_then ?_)
  refine bodyPost_ret (results_tmp2 rfl _ _ _) A.2 ⟨_, ?_, World.ownsRow_nil _ _ _ _, BW⟩
  show Ending.returned (.tuple #[a.eval (.tmp 6), a.eval (.tmp 7)]) = _
  rw [t6, t7]
end Go.Proofs.Ytmjpneaccjlpkaa.Rif
