import Derived.Test.YtmjpneaccjlpkaaX9f
namespace Go.Proofs.Ytmjpneaccjlpkaa.Rif
open Go.RowKit Gf8 Aes By8 Cel Cf Tap Drw Prm Brd
/- Package riffle as it landed: Turn. Written by tools/mkX9g.py. -/
section
variable (p : Nat → Nat) (L N J : Nat) (w : Nat → Nat) (x y : Nat → Value) (cv ow : Value) (V : World)
theorem tc0 (hL : LLB V cv J x (lq L J) (ckP L J p)) (hlq : lq L J ≤ 140737488351232) (hJq : J * lq L J ≤ 140737488351232) (hO : LLI V ow J y (szF N J) (wOI J N w)) (hN : N ≤ 256) (h1 : 1 ≤ J) (h2 : J ≤ 64) (hw : IsP w N) (hok : allB (fun t => okB (ckP L J p t) (lq L J) (bI (szF N J t)) (szF N J t - 1)) J = true) :
  Calls Try.prog 37 #[cv, ow] V fun e w' => ∃ r, e = .returned (.tuple #[r, .int .i64 ((0 : Nat) : Int)]) ∧ w'.ownsRow V.heap.size 5 1 r (J * lq L J) (bytesL (J * lq L J) (tkF L J N p w)) ∧ Below V.heap.size V w' :=
 Calls.mono (pturnedChunks p L N J w x y cv ow V hL hlq hJq hO hN h1 h2 hw) fun e w' ⟨r, g1, g2, g3⟩ => by
  have hE : shE (ckP L J p) (lq L J) N J = 0 := if_pos hok
  rw [hE] at g1
  exact ⟨r, g1, g2 hE, g3⟩
theorem tc3 (hL : LLB V cv J x (lq L J) (ckP L J p)) (hlq : lq L J ≤ 140737488351232) (hJq : J * lq L J ≤ 140737488351232) (hO : LLI V ow J y (szF N J) (wOI J N w)) (hN : N ≤ 256) (h1 : 1 ≤ J) (h2 : J ≤ 64) (hw : IsP w N) (hok : allB (fun t => okB (ckP L J p t) (lq L J) (bI (szF N J t)) (szF N J t - 1)) J = false) :
  Calls Try.prog 37 #[cv, ow] V fun e w' => ∃ r, e = .returned (.tuple #[r, .int .i64 ((3 : Nat) : Int)]) ∧ Below V.heap.size V w' :=
 Calls.mono (pturnedChunks p L N J w x y cv ow V hL hlq hJq hO hN h1 h2 hw) fun e w' ⟨r, g1, g2, g3⟩ => by
  have hE : shE (ckP L J p) (lq L J) N J = 3 := if_neg (by rw [hok]; decide)
  rw [hE] at g1
  exact ⟨r, g1, g3⟩
end
theorem tk_byte {L J n : Nat} {p w : Nat → Nat} (hL : 18 ≤ L) (_hn : sumN (szF n J) J = n) (o : OkT L J n (szF n J) p) (_hw : IsP w n) (hp : ∀ x, x < L → p x < 256) : ∀ x, x < J * lq L J → tkF L J n p w x < 256 := fun x hx => by
 have hq : 0 < lq L J := by
  by_cases z : lq L J = 0
  ·rw [z] at hx; omega
  ·omega
 have ht : x / lq L J < J := Nat.div_lt_of_lt_mul (by rw [Nat.mul_comm]; omega)
 exact turn_byte (o.ck _ ht) (kW_ok _) (fun j hj => hp _ (ck_in hL ht hj)) (Nat.mod_lt _ hq)
theorem shpN {W : World} {v : Value} {n : Nat} {p : Nat → Nat} (h : SliceN W v n p) : ∃ g n c, v = .slice g n c := by
 obtain ⟨⟨a, c, e, _⟩, _⟩ := h
 exact ⟨a, n, c, e⟩
theorem execBs3L {o : Oper} {a : Act} {w : World} {x y z : Operand} {p q r : Value} (ho : o.op = .buildSlice 53 3 #[(0, x), (1, y), (2, z)]) (hx : a.eval x = p) (hy : a.eval y = q) (hz : a.eval z = r) (hp : ∃ g n c, p = .slice g n c) (hq : ∃ g n c, q = .slice g n c) (hr : ∃ g n c, r = .slice g n c) : (execOp a.eval o).run Try.prog w = .ok (.value (.slice (some ⟨w.heap.size, 0, none⟩) 3 3)) (w.alloc (.cells #[p, q, r] 23)) := by
 obtain ⟨g, n, c, rfl⟩ := hp
 obtain ⟨g2, n2, c2, rfl⟩ := hq
 obtain ⟨g3, n3, c3, rfl⟩ := hr
 unfold execOp
 simp only [ho, List.map_toArray, List.map_cons, List.map_nil, hx, hy, hz]
 simp [go_sem]
def x3T (a b c : Value) (t : Nat) : Value := if t = 0 then a else if t = 1 then b else c
def n3T (b c : Nat) (t : Nat) : Nat := if t = 0 then 18 else if t = 1 then b else c
def g3T (f g h : Nat → Nat) (t : Nat) : Nat → Nat := if t = 0 then f else if t = 1 then g else h
theorem n3_sum {b c : Nat} : sumN (n3T b c) 3 = 18 + b + c := by
 show 0 + 18 + b + c = 18 + b + c
 omega
theorem llx3 {W : World} {g b c : Nat} {u v r : Value} {f h k : Nat → Nat} (hg : W.heap[g]? = some (.cells #[u, v, r] 23)) (h1 : SliceN W u 18 f) (h2 : SliceN W v b h) (h3 : SliceN W r c k) (z1 : ∀ l c, u = .slice none l c → c = 0) (z2 : ∀ l c, v = .slice none l c → c = 0) (z3 : ∀ l c, r = .slice none l c → c = 0) : LLX W (.slice (some ⟨g, 0, none⟩) 3 3) 3 (x3T u v r) (n3T b c) (g3T f h k) := by
 refine ⟨⟨_, _, rfl, fun _ => ⟨g, 0, rfl, (Array.getElem?_eq_some_iff.1 hg).1, fun j hj => ?_⟩⟩, fun j hj => ?_, fun j hj => ?_⟩
 ·rw [cell_of_row _ _ _ _ _ _ hg]
  match j, hj with
  | 0, _ => rfl
  | 1, _ => rfl
  | 2, _ => rfl
  | j + 3, h => omega
 ·match j, hj with
  | 0, _ => exact h1
  | 1, _ => exact h2
  | 2, _ => exact h3
  | j + 3, h => omega
 ·match j, hj with
  | 0, _ => exact z1
  | 1, _ => exact z2
  | 2, _ => exact z3
  | j + 3, h => omega
section
variable {L J n : Nat} {p w : Nat → Nat}
theorem tu_cat : ∀ i, i < 3 → ∀ k, k < n3T (lb L) (J * lq L J) i → tuT L J n (szF n J) p w (sumN (n3T (lb L) (J * lq L J)) i + k) = g3T p (tuB L J n (szF n J) p w) (tkF L J n p w) i k := fun i hi k hk => by
 match i, hi, hk with
 | 0, _, hk =>
  have hk' : k < 18 := hk
  show tuT L J n (szF n J) p w (0 + k) = p k
  rw [Nat.zero_add]
  unfold tuT
  rw [if_pos hk']
 | 1, _, hk =>
  have hk' : k < lb L := hk
  show tuT L J n (szF n J) p w (0 + 18 + k) = _
  rw [Nat.zero_add]
  exact tuT_br hk'
 | 2, _, hk =>
  have hk' : k < J * lq L J := hk
  show tuT L J n (szF n J) p w (0 + 18 + lb L + k) = tkF L J n p w k
  unfold tuT
  rw [if_neg (by omega), if_neg (by omega), if_pos (by omega), show 0 + 18 + lb L + k - 18 - lb L = k by omega]
  rfl
 | i + 3, h, _ => omega
theorem tu_rest (k : Nat) : tuT L J n (szF n J) p w (18 + lb L + J * lq L J + k) = p (18 + lb L + J * lq L J + k) := by
 unfold tuT
 rw [if_neg (by omega), if_neg (by omega), if_neg (by omega)]
end
set_option maxRecDepth 100000 in
set_option maxHeartbeats 4000000 in
theorem pturn (p : Nat → Nat) (L : Nat) (n ch : Int) (wf : Nat → Int) (m : Nat) (pv wv : Value) (V : World) (FP : SliceN V pv L p) (hl : L ≤ 140737488351232) (FW : SliceI V wv m wf) :
  Calls Try.prog 16 #[pv, .int .i64 n, .int .i64 ch, wv] V fun e w' => ∃ r, e = .returned (.tuple #[r, .int .i64 ((tnE L n ch wf m p : Nat) : Int)]) ∧ w'.ownsRow V.heap.size 5 1 r (zl (tnE L n ch wf m p) L) (bytesL (zl (tnE L n ch wf m p) L) (tnF L n ch wf p)) ∧ Below V.heap.size V w' := by
 have FP0 := FP
 go_enter Try.func16, Try.ntmps16
 refine wp_seq ?_
 refine wp_region_sqK 85 [(0, 8), (1, 9)] (fun i_ => match i_ with | 0 => .slice none 0 0 | 1 => .int .i64 ((0 : Nat) : Int) | _ => undef) rfl (by kernel_rfl) (by decide) (by decide) ?_ ?_
 ·intro i_ hi_ a hf hv hn
  match i_, hi_ with
  | 0, _ => exact stepV rfl rfl (execAsgB rfl rfl) ⟨⟨_, rfl, rfl⟩, rfl⟩
  | 1, _ => exact stepV rfl rfl (execAsgB rfl rfl) ⟨⟨_, rfl, rfl⟩, rfl⟩
  | k_ + 2, h_ => exact absurd h_ (by simp)
 intro a h1 h2 h3 h4
 have t0 : a.eval (.tmp 0) = pv := (h3 0 (by decide)).trans rfl
 have t1 : a.eval (.tmp 1) = .int .i64 n := (h3 1 (by decide)).trans rfl
 have t2 : a.eval (.tmp 2) = .int .i64 ch := (h3 2 (by decide)).trans rfl
 have t3 : a.eval (.tmp 3) = wv := (h3 3 (by decide)).trans rfl
 have A : a.tmps.size = 85 ∧ a.defers = [] := ⟨h1, h2⟩
 have BW : Below V.heap.size V V := Below.refl _ _
 clear h1 h2 h3 h4
 by_cases hin : inL n ch
 ·obtain ⟨N, rfl⟩ : ∃ N : Nat, n = N := ⟨n.toNat, by have := hin.1; omega⟩
  obtain ⟨J, rfl⟩ : ∃ J : Nat, ch = J := ⟨ch.toNat, by have := hin.2.2.1; omega⟩
  obtain ⟨h0, hN, h1, h2⟩ := id hin
  replace hN : N ≤ 256 := by omega
  replace h1 : 1 ≤ J := by omega
  replace h2 : J ≤ 64 := by omega
  refine wp_seq ?_
  refine wp_se (σ := Value) 85 [2] [2] (fun k_ s X => match k_ with | 0 => Below V.heap.size V X | _ => Below V.heap.size V X ∧ (SliceI X s (J) (sI N J))) (fun s => fun i_ => match i_ with | 2 => .tuple #[s, .int .i64 ((0 : Nat) : Int)] | _ => undef) undef A (Below.refl _ _) (And.intro ?_ trivial) ?_
  ·intro s a X e hS
   refine stepC rfl rfl (execCall2 Try.func19 (by kernel_rfl) (by kernel_rfl) rfl ((e (.tmp 20)).trans t1) ((e (.tmp 21)).trans t2)) (sz0 (N := N) (J := J) hin X) fun e w' hh => ?_
   obtain ⟨r_, he, hk, hb⟩ := hh
   refine ⟨_, he, r_, ⟨_, rfl, rfl⟩, ⟨(hS).trans ((hb).mono (hS).size), hk⟩, (And.intro (fun h => absurd h (by decide)) trivial)⟩
  rintro z_ a X1 A e (hS : Below V.heap.size V X1 ∧ (SliceI X1 z_ (J) (sI N J)))
  obtain ⟨bX, Fz⟩ := hS
  have t10 : a.eval (.tmp 10) = z_ := e _
  have t11 : a.eval (.tmp 11) = .int .i64 ((0 : Nat) : Int) := e _
  replace t0 := kt e t0
  replace t1 := kt e t1
  replace t2 := kt e t2
  replace t3 := kt e t3
  replace FP := (FP.on bX)
  replace FW := (FW.on bX)
  have ZX1 := bX.size
  replace BW := BW.trans (bX.mono BW.size)
  clear bX
  clear e
  refine wp_seq (wp_seq ?_)
  refine wp_se 85 [1] [] (fun _ s X => Below X1.heap.size X1 X) (fun s => fun i_ => match i_ with | 1 => .bool false | _ => undef) () A (Below.refl _ _) (And.intro ?_ trivial) ?_
  ·exact fun s a X e hS => stepV rfl rfl (execDec (execNeE (p := 0) (q := 0) rfl ((e (.tmp 25)).trans t11) rfl) (decide_eq_false (by decide))) ⟨s, ⟨_, rfl, rfl⟩, hS, ar⟩
  rintro _ a X2 A e (bX : Below X1.heap.size X1 X2)
  have t26 : a.eval (.tmp 26) = .bool false := e _
  replace t0 := kt e t0
  replace t1 := kt e t1
  replace t2 := kt e t2
  replace t3 := kt e t3
  replace t10 := kt e t10
  replace FP := (FP.on bX)
  replace FW := (FW.on bX)
  replace Fz := (Fz.on bX)
  have ZX2 := bX.size
  replace BW := BW.trans (bX.mono BW.size)
  clear bX
  clear e t11
  refine wp_cond_false t26 (wp_skip ?_)
  clear t26
  refine wp_seq (wp_seq ?_)
  by_cases hmN : m = N
  ·refine wp_se 85 [1, 3] [] (fun _ s X => Below X2.heap.size X2 X) (fun s => fun i_ => match i_ with | 1 => .int .i64 ((m : Nat) : Int) | 3 => .bool false | _ => undef) () A (Below.refl _ _) (And.intro ?_ (And.intro ?_ trivial)) ?_
   ·exact fun s a X e hS => stepV rfl rfl (execLenI (len := m) rfl ((e (.tmp 28)).trans t3) ((FW.on hS)).shp) ⟨s, ⟨_, rfl, rfl⟩, hS, ar⟩
   ·exact fun s a X e hS => stepV rfl rfl (execDec (execNeN (p := m) (q := N) rfl (e (.tmp 29)) ((e (.tmp 30)).trans t1)) (decide_eq_false (by omega))) ⟨s, ⟨_, rfl, rfl⟩, hS, ar⟩
   rintro _ a X4 A e (bX : Below X2.heap.size X2 X4)
   have t31 : a.eval (.tmp 31) = .bool false := e _
   replace t0 := kt e t0
   replace t2 := kt e t2
   replace t3 := kt e t3
   replace t10 := kt e t10
   replace FP := (FP.on bX)
   replace FW := (FW.on bX)
   replace Fz := (Fz.on bX)
   have ZX4 := bX.size
   replace BW := BW.trans (bX.mono BW.size)
   clear bX
   clear e t1
   refine wp_cond_false t31 (wp_skip ?_)
   clear t31
   subst hmN
   refine wp_seq (wp_seq ?_)
   refine wp_se 85 [1] [] (fun _ s X => Below X4.heap.size X4 X) (fun s => fun i_ => match i_ with | 1 => .int .i64 ((pE wf m : Nat) : Int) | _ => undef) () A (Below.refl _ _) (And.intro ?_ trivial) ?_
   ·exact fun s a X e hS => stepC rfl rfl (execCall1 Try.func17 (by kernel_rfl) (by kernel_rfl) rfl ((e (.tmp 32)).trans t3)) (pcheck wf m _ X (FW.on hS) (by omega)) fun e w' hh => ⟨_, hh.1, s, ⟨_, rfl, rfl⟩, (hS).trans ((hh.2).mono (hS).size), ar⟩
   rintro _ a X6 A e (bX : Below X4.heap.size X4 X6)
   have t12 : a.eval (.tmp 12) = .int .i64 ((pE wf m : Nat) : Int) := e _
   replace t0 := kt e t0
   replace t2 := kt e t2
   replace t3 := kt e t3
   replace t10 := kt e t10
   replace FP := (FP.on bX)
   replace FW := (FW.on bX)
   replace Fz := (Fz.on bX)
   have ZX6 := bX.size
   replace BW := BW.trans (bX.mono BW.size)
   clear bX
   clear e
   refine wp_seq ?_
   by_cases hpp : pE wf m = 0
   ·refine wp_se 85 [1] [] (fun _ s X => Below X6.heap.size X6 X) (fun s => fun i_ => match i_ with | 1 => .bool false | _ => undef) () A (Below.refl _ _) (And.intro ?_ trivial) ?_
    ·exact fun s a X e hS => stepV rfl rfl (execDec (execNeE (p := pE wf m) (q := 0) rfl ((e (.tmp 34)).trans t12) rfl) (decide_eq_false (by omega))) ⟨s, ⟨_, rfl, rfl⟩, hS, ar⟩
    rintro _ a X7 A e (bX : Below X6.heap.size X6 X7)
    have t35 : a.eval (.tmp 35) = .bool false := e _
    replace t0 := kt e t0
    replace t2 := kt e t2
    replace t3 := kt e t3
    replace t10 := kt e t10
    replace FP := (FP.on bX)
    replace FW := (FW.on bX)
    replace Fz := (Fz.on bX)
    have ZX7 := bX.size
    replace BW := BW.trans (bX.mono BW.size)
    clear bX
    clear e t12
    refine wp_cond_false t35 (wp_skip ?_)
    clear t35
    have hw : IsP (gN wf) m := isP_of (pE_zero.1 hpp)
    have hwv : ∀ i, i < m → wf i = ((gN wf i : Nat) : Int) := fun i hi => by
     have := (okQ_iff.1 (pE_zero.1 hpp)).1 i hi
     show wf i = (((wf i).toNat : Nat) : Int)
     omega
    have hTR : tnE L ((m : Nat) : Int) ((J : Nat) : Int) wf m p = riE L ((m : Nat) : Int) ((J : Nat) : Int) p := by
     show (if _ then _ else _) = _
     rw [if_pos ⟨hin, rfl⟩, if_pos hpp]
    refine wp_seq ?_
    by_cases hL18 : 18 ≤ L
    ·refine wp_se (σ := Value × Value × Value × (Nat → Value) × Nat) 85 [2, 6, 7] [2, 6, 7] (fun k_ s X => match k_ with | 0 => Below X7.heap.size X7 X | 1 => Below X7.heap.size X7 X ∧ (PtS X V.heap.size J s.1 s.2.1 s.2.2.1 s.2.2.2.1 18 (lb L) (lq L J) p) | 2 => Below X7.heap.size X7 X ∧ (PtS X V.heap.size J s.1 s.2.1 s.2.2.1 s.2.2.2.1 18 (lb L) (lq L J) p) ∧ X.heap[s.2.2.2.2]? = some (.cells (ptC (.slice none 0 0) (.slice none 0 0) (.slice none 0 0)) 55) ∧ (X7.heap.size ≤ s.2.2.2.2) | _ => Below X7.heap.size X7 X ∧ (PtS X V.heap.size J s.1 s.2.1 s.2.2.1 s.2.2.2.1 18 (lb L) (lq L J) p) ∧ (X7.heap.size ≤ s.2.2.2.2) ∧ X.heap[s.2.2.2.2]? = some (.cells (ptC s.1 s.2.1 s.2.2.1) 55)) (fun s => fun i_ => match i_ with | 2 => .tuple #[.agg (ptC s.1 s.2.1 s.2.2.1), .int .i64 ((0 : Nat) : Int)] | 6 => .pointer (some ⟨s.2.2.2.2, 0, none⟩) | _ => undef) (undef, undef, undef, fun _ => undef, 0) A (Below.refl _ _) (And.intro ?_ (And.intro ?_ (And.intro ?_ trivial))) ?_
     ·intro s a X e hS
      refine stepC rfl rfl (execCall2 Try.func20 (by kernel_rfl) (by kernel_rfl) rfl ((e (.tmp 38)).trans t0) ((e (.tmp 39)).trans t2)) (spl0 p L J _ X (FP.on hS) hl hL18 h1 h2) fun e w' hh => ?_
      obtain ⟨nv_, bv_, cv_, x_, he, hk, hb⟩ := hh
      refine ⟨_, he, (nv_, bv_, cv_, x_, s.2.2.2.2), ⟨_, rfl, rfl⟩, ⟨(hS).trans ((hb).mono (hS).size), hk.base (Nat.le_trans BW.size (hS).size)⟩, (And.intro (fun h => absurd h (by decide)) (And.intro (fun h => absurd h (by decide)) (And.intro (fun h => absurd h (by decide)) trivial)))⟩
     ·intro s a X e hS
      refine stepV rfl rfl (execAllPt rfl) ⟨(s.1, s.2.1, s.2.2.1, s.2.2.2.1, X.heap.size), ⟨_, rfl, rfl⟩, ⟨(hS.1).trans (((belNew X _)).mono (hS.1).size), (hS.2.on (belNew X _)), heapNew X _, (hS.1).size⟩, (And.intro (fun _ => rfl) (And.intro (fun h => absurd h (by decide)) (And.intro (fun h => absurd h (by decide)) trivial)))⟩
     ·exact fun s a X e hS => stepS rfl rfl (execStPt rfl (e (.tmp 13)) (e (.tmp 41)) hS.2.2.1 rfl (pts_one hS.2.1)) ⟨s, ⟨_, rfl, rfl⟩, ⟨below4 hS.1 hS.2.2.2 _, (hS.2.1.set hS.2.2.1 (by decide) (by decide)), hS.2.2.2, setRow_heap _ _ _ _ _ _ hS.2.2.1⟩, ar⟩
     rintro ⟨nv, bv, cv, xs, g13⟩ a X9 A e (hS : Below X7.heap.size X7 X9 ∧ (PtS X9 V.heap.size J nv bv cv xs 18 (lb L) (lq L J) p) ∧ (X7.heap.size ≤ g13) ∧ X9.heap[g13]? = some (.cells (ptC nv bv cv) 55))
     obtain ⟨bX, FPT, Fge13, F13⟩ := hS
     have t11 : a.eval (.tmp 11) = .int .i64 ((0 : Nat) : Int) := e _
     have t13 : a.eval (.tmp 13) = .pointer (some ⟨g13, 0, none⟩) := e _
     replace t0 := kt e t0
     replace t3 := kt e t3
     replace t10 := kt e t10
     replace FP := (FP.on bX)
     replace FW := (FW.on bX)
     replace Fz := (Fz.on bX)
     have ZX9 := bX.size
     replace BW := BW.trans (bX.mono BW.size)
     clear bX
     clear e t2
     refine wp_seq (wp_seq ?_)
     refine wp_se 85 [1] [] (fun _ s X => Below X9.heap.size X9 X) (fun s => fun i_ => match i_ with | 1 => .bool false | _ => undef) () A (Below.refl _ _) (And.intro ?_ trivial) ?_
     ·exact fun s a X e hS => stepV rfl rfl (execDec (execNeE (p := 0) (q := 0) rfl ((e (.tmp 43)).trans t11) rfl) (decide_eq_false (by decide))) ⟨s, ⟨_, rfl, rfl⟩, hS, ar⟩
     rintro _ a X10 A e (bX : Below X9.heap.size X9 X10)
     have t44 : a.eval (.tmp 44) = .bool false := e _
     replace t0 := kt e t0
     replace t3 := kt e t3
     replace t10 := kt e t10
     replace t13 := kt e t13
     replace FP := (FP.on bX)
     replace FW := (FW.on bX)
     replace Fz := (Fz.on bX)
     replace FPT := (FPT.on bX)
     replace Fge13 := Fge13
     replace F13 := (on9 F13 bX)
     have ZX10 := bX.size
     replace BW := BW.trans (bX.mono BW.size)
     clear bX
     clear e t11
     refine wp_cond_false t44 (wp_skip ?_)
     clear t44
     have hpb : ∀ j, j < L → p j < 256 := FP.bytes
     have FBv : SliceN X10 bv (lb L) (brP p) := pts_br FPT hL18 hpb
     have FCv : LLB X10 cv J xs (lq L J) (ckP L J p) := pts_ck FPT hL18 hpb
     have hlb : lb L ≤ 140737488351232 := by unfold lb; omega
     have hlq3 := lq_le L (J := J) hL18
     have hlq : lq L J ≤ 140737488351232 := by have h3 : 1 * lq L J ≤ J * lq L J := Nat.mul_le_mul_right _ h1; omega
     have hzb : ∀ l c, bv = .slice none l c → c = 0 := own_nilB FPT.rowB
     have hzn : ∀ l c, nv = .slice none l c → c = 0 := own_nilB FPT.rowN
     have FNv : SliceN X10 nv 18 p := pts_nz FPT hL18 hpb
     refine wp_seq ?_
     refine wp_se (σ := Value × Value × (Nat → Value)) 85 [2] [2] (fun k_ s X => match k_ with | 0 => Below X10.heap.size X10 X | _ => Below X10.heap.size X10 X ∧ (SliceI X s.1 (m) (wCI J m (gN wf))) ∧ (LLI X s.2.1 J s.2.2 (szF m J) (wOI J m (gN wf)))) (fun s => fun i_ => match i_ with | 2 => .tuple #[s.1, s.2.1] | _ => undef) (undef, undef, fun _ => undef) A (Below.refl _ _) (And.intro ?_ trivial) ?_
     ·intro s a X e hS
      refine stepC rfl rfl (execCall2 Try.func35 (by kernel_rfl) (by kernel_rfl) rfl ((e (.tmp 47)).trans t3) ((e (.tmp 48)).trans t10)) (papart (gN wf) m J _ _ X (SliceI.cg (FW.on hS) hwv) (Fz.on hS) hN h1 h2 hw) fun e w' hh => ?_
      obtain ⟨r1_, r2_, y_, he, hk1, hk2, hb⟩ := hh
      refine ⟨_, he, (r1_, r2_, y_), ⟨_, rfl, rfl⟩, ⟨(hS).trans ((hb).mono (hS).size), hk1, hk2⟩, (And.intro (fun h => absurd h (by decide)) trivial)⟩
     rintro ⟨u_, o_, yo⟩ a X12 A e (hS : Below X10.heap.size X10 X12 ∧ (SliceI X12 u_ (m) (wCI J m (gN wf))) ∧ (LLI X12 o_ J yo (szF m J) (wOI J m (gN wf))))
     obtain ⟨bX, Fu, FOw⟩ := hS
     have t14 : a.eval (.tmp 14) = u_ := e _
     have t15 : a.eval (.tmp 15) = o_ := e _
     replace t0 := kt e t0
     replace t10 := kt e t10
     replace t13 := kt e t13
     replace FP := (FP.on bX)
     replace FW := (FW.on bX)
     replace Fz := (Fz.on bX)
     replace FPT := (FPT.on bX)
     replace Fge13 := Fge13
     replace F13 := (on9 F13 bX)
     replace FBv := (FBv.on bX)
     replace FCv := (FCv.on bX)
     replace FNv := (FNv.on bX)
     have ZX12 := bX.size
     replace BW := BW.trans (bX.mono BW.size)
     clear bX
     clear e t3
     refine wp_seq ?_
     cases hbr : okB (brP p) (lb L) (bI m) m with
     | false =>
      refine wp_se (σ := Value) 85 [0, 1, 4] [] (fun _ s X => Below X12.heap.size X12 X) (fun s => fun i_ => match i_ with | 0 => .pointer (some ⟨g13, 1, none⟩) | 1 => bv | 4 => .tuple #[s, .int .i64 ((3 : Nat) : Int)] | _ => undef) undef A (Below.refl _ _) (And.intro ?_ (And.intro ?_ (And.intro ?_ trivial))) ?_
      ·exact fun s a X e hS => stepV rfl rfl (execPt1 rfl ((e (.tmp 13)).trans t13)) ⟨s, ⟨_, rfl, rfl⟩, hS, ar⟩
      ·exact fun s a X e hS => stepV rfl rfl (execLdL rfl (e (.tmp 53)) (ptC_at (on9 F13 hS)).2.1) ⟨s, ⟨_, rfl, rfl⟩, hS, ar⟩
      ·intro s a X e hS
       refine stepC rfl rfl (execCall3 Try.func36 (by kernel_rfl) (by kernel_rfl) rfl (e (.tmp 54)) ((e (.tmp 55)).trans t10) ((e (.tmp 56)).trans t14)) (tb3 p L m J (gN wf) _ _ _ X (FBv.on hS) hlb hzb (Fz.on hS) (Fu.on hS) hN h1 h2 hw hbr) fun e w' hh => ?_
       obtain ⟨r_, he, hb⟩ := hh
       refine ⟨_, he, r_, ⟨_, rfl, rfl⟩, (hS).trans ((hb).mono (hS).size), (And.intro (fun _ => rfl) (And.intro (fun _ => rfl) (And.intro (fun h => absurd h (by decide)) trivial)))⟩
      rintro q_ a X13 A e (bX : Below X12.heap.size X12 X13)
      have t11 : a.eval (.tmp 11) = .int .i64 ((3 : Nat) : Int) := e _
      replace FP := (FP.on bX)
      replace FW := (FW.on bX)
      replace Fz := (Fz.on bX)
      replace FPT := (FPT.on bX)
      replace Fge13 := Fge13
      replace F13 := (on9 F13 bX)
      replace FBv := (FBv.on bX)
      replace FCv := (FCv.on bX)
      replace FNv := (FNv.on bX)
      replace Fu := (Fu.on bX)
      replace FOw := (FOw.on bX)
      have ZX13 := bX.size
      replace BW := BW.trans (bX.mono BW.size)
      clear bX
      clear e t0 t10 t13 t14 t15
      refine wp_seq (wp_seq ?_)
      refine wp_se 85 [1] [] (fun _ s X => Below X13.heap.size X13 X) (fun s => fun i_ => match i_ with | 1 => .bool true | _ => undef) () A (Below.refl _ _) (And.intro ?_ trivial) ?_
      ·exact fun s a X e hS => stepV rfl rfl (execDec (execNeE (p := 3) (q := 0) rfl ((e (.tmp 60)).trans t11) rfl) (decide_eq_true (by decide))) ⟨s, ⟨_, rfl, rfl⟩, hS, ar⟩
      rintro _ a X14 A e (bX : Below X13.heap.size X13 X14)
      have t61 : a.eval (.tmp 61) = .bool true := e _
      replace t11 := kt e t11
      replace FP := (FP.on bX)
      replace FW := (FW.on bX)
      replace Fz := (Fz.on bX)
      replace FPT := (FPT.on bX)
      replace Fge13 := Fge13
      replace F13 := (on9 F13 bX)
      replace FBv := (FBv.on bX)
      replace FCv := (FCv.on bX)
      replace FNv := (FNv.on bX)
      replace Fu := (Fu.on bX)
      replace FOw := (FOw.on bX)
      have ZX14 := bX.size
      replace BW := BW.trans (bX.mono BW.size)
      clear bX
      clear e
      refine wp_cond_true t61 ?_
      clear t61
      refine wp_seq ?_
      refine wp_se 85 [] [] (fun _ s X => Below X14.heap.size X14 X) (fun s => fun _ => undef) () A (Below.refl _ _) trivial ?_
      rintro _ a X15 A e (bX : Below X14.heap.size X14 X15)
      have t8 : a.eval (.tmp 8) = .slice none 0 0 := e _
      have t9 : a.eval (.tmp 9) = .int .i64 ((3 : Nat) : Int) := (e _).trans t11
      replace FP := (FP.on bX)
      replace FW := (FW.on bX)
      replace Fz := (Fz.on bX)
      replace FPT := (FPT.on bX)
      replace Fge13 := Fge13
      replace F13 := (on9 F13 bX)
      replace FBv := (FBv.on bX)
      replace FCv := (FCv.on bX)
      replace FNv := (FNv.on bX)
      replace Fu := (Fu.on bX)
      replace FOw := (FOw.on bX)
      have ZX15 := bX.size
      replace BW := BW.trans (bX.mono BW.size)
      clear bX
      clear e t11
      have hE : tnE L ((m : Nat) : Int) ((J : Nat) : Int) wf m p = 3 := hTR.trans (by show (if inL _ _ then _ else _) = 3; rw [if_pos hin]; exact if_neg fun q => by have h_ : OkT L J m (szF m J) p := okT_iff.1 q.2; rw [okB_iff.2 h_.br] at hbr; cases hbr)
      rw [hE, zl_no (by decide)]
      refine wp_ret ?_
      repeat (first | with_reducible refine ret_in ?_ | with_reducible refine ret_then ?_)
      refine bodyPost_ret (results_tmp2 rfl _ _ _) A.2 ⟨_, ?_, World.ownsRow_nil _ _ _ _, BW⟩
      show Ending.returned (.tuple #[a.eval (.tmp 8), a.eval (.tmp 9)]) = _
      rw [t8, t9]
     | true =>
      refine wp_se (σ := Value) 85 [0, 1, 4] [4] (fun k_ s X => match k_ with | 0 => Below X12.heap.size X12 X | _ => Below X12.heap.size X12 X ∧ (TkA X V.heap.size s (lb L) (tuB L J m (szF m J) p (gN wf)))) (fun s => fun i_ => match i_ with | 0 => .pointer (some ⟨g13, 1, none⟩) | 1 => bv | 4 => .tuple #[s, .int .i64 ((0 : Nat) : Int)] | _ => undef) undef A (Below.refl _ _) (And.intro ?_ (And.intro ?_ (And.intro ?_ trivial))) ?_
      ·exact fun s a X e hS => stepV rfl rfl (execPt1 rfl ((e (.tmp 13)).trans t13)) ⟨s, ⟨_, rfl, rfl⟩, hS, ar⟩
      ·exact fun s a X e hS => stepV rfl rfl (execLdL rfl (e (.tmp 53)) (ptC_at (on9 F13 hS)).2.1) ⟨s, ⟨_, rfl, rfl⟩, hS, ar⟩
      ·intro s a X e hS
       refine stepC rfl rfl (execCall3 Try.func36 (by kernel_rfl) (by kernel_rfl) rfl (e (.tmp 54)) ((e (.tmp 55)).trans t10) ((e (.tmp 56)).trans t14)) (tb0 p L m J (gN wf) _ _ _ X (FBv.on hS) hlb hzb (Fz.on hS) (Fu.on hS) hN h1 h2 hw hbr) fun e w' hh => ?_
       obtain ⟨r_, he, hk, hb⟩ := hh
       refine ⟨_, he, r_, ⟨_, rfl, rfl⟩, ⟨(hS).trans ((hb).mono (hS).size), tkA_base hk (Nat.le_trans BW.size (hS).size)⟩, (And.intro (fun _ => rfl) (And.intro (fun _ => rfl) (And.intro (fun h => absurd h (by decide)) trivial)))⟩
      rintro q_ a X13 A e (hS : Below X12.heap.size X12 X13 ∧ (TkA X13 V.heap.size q_ (lb L) (tuB L J m (szF m J) p (gN wf))))
      obtain ⟨bX, FQ⟩ := hS
      have t11 : a.eval (.tmp 11) = .int .i64 ((0 : Nat) : Int) := e _
      have t16 : a.eval (.tmp 16) = q_ := e _
      replace t0 := kt e t0
      replace t13 := kt e t13
      replace t15 := kt e t15
      replace FP := (FP.on bX)
      replace FW := (FW.on bX)
      replace Fz := (Fz.on bX)
      replace FPT := (FPT.on bX)
      replace Fge13 := Fge13
      replace F13 := (on9 F13 bX)
      replace FBv := (FBv.on bX)
      replace FCv := (FCv.on bX)
      replace FNv := (FNv.on bX)
      replace Fu := (Fu.on bX)
      replace FOw := (FOw.on bX)
      have ZX13 := bX.size
      replace BW := BW.trans (bX.mono BW.size)
      clear bX
      clear e t10 t14
      refine wp_seq (wp_seq ?_)
      refine wp_se 85 [1] [] (fun _ s X => Below X13.heap.size X13 X) (fun s => fun i_ => match i_ with | 1 => .bool false | _ => undef) () A (Below.refl _ _) (And.intro ?_ trivial) ?_
      ·exact fun s a X e hS => stepV rfl rfl (execDec (execNeE (p := 0) (q := 0) rfl ((e (.tmp 60)).trans t11) rfl) (decide_eq_false (by decide))) ⟨s, ⟨_, rfl, rfl⟩, hS, ar⟩
      rintro _ a X14 A e (bX : Below X13.heap.size X13 X14)
      have t61 : a.eval (.tmp 61) = .bool false := e _
      replace t0 := kt e t0
      replace t13 := kt e t13
      replace t15 := kt e t15
      replace t16 := kt e t16
      replace FP := (FP.on bX)
      replace FW := (FW.on bX)
      replace Fz := (Fz.on bX)
      replace FPT := (FPT.on bX)
      replace Fge13 := Fge13
      replace F13 := (on9 F13 bX)
      replace FBv := (FBv.on bX)
      replace FCv := (FCv.on bX)
      replace FNv := (FNv.on bX)
      replace Fu := (Fu.on bX)
      replace FOw := (FOw.on bX)
      replace FQ := (FQ.on bX)
      have ZX14 := bX.size
      replace BW := BW.trans (bX.mono BW.size)
      clear bX
      clear e t11
      refine wp_cond_false t61 (wp_skip ?_)
      clear t61
      refine wp_seq ?_
      cases hsh : allB (fun t => okB (ckP L J p t) (lq L J) (bI (szF m J t)) (szF m J t - 1)) J with
      | false =>
       refine wp_se (σ := Value) 85 [0, 1, 3] [] (fun _ s X => Below X14.heap.size X14 X) (fun s => fun i_ => match i_ with | 0 => .pointer (some ⟨g13, 2, none⟩) | 1 => cv | 3 => .tuple #[s, .int .i64 ((3 : Nat) : Int)] | _ => undef) undef A (Below.refl _ _) (And.intro ?_ (And.intro ?_ (And.intro ?_ trivial))) ?_
       ·exact fun s a X e hS => stepV rfl rfl (execPt2 rfl ((e (.tmp 13)).trans t13)) ⟨s, ⟨_, rfl, rfl⟩, hS, ar⟩
       ·exact fun s a X e hS => stepV rfl rfl (execLdLL rfl (e (.tmp 64)) (ptC_at (on9 F13 hS)).2.2) ⟨s, ⟨_, rfl, rfl⟩, hS, ar⟩
       ·intro s a X e hS
        refine stepC rfl rfl (execCall2 Try.func37 (by kernel_rfl) (by kernel_rfl) rfl (e (.tmp 65)) ((e (.tmp 66)).trans t15)) (tc3 p L m J (gN wf) xs yo _ _ X (FCv.on hS) hlq (by omega) (FOw.on hS) hN h1 h2 hw hsh) fun e w' hh => ?_
        obtain ⟨r_, he, hb⟩ := hh
        refine ⟨_, he, r_, ⟨_, rfl, rfl⟩, (hS).trans ((hb).mono (hS).size), (And.intro (fun _ => rfl) (And.intro (fun _ => rfl) (And.intro (fun h => absurd h (by decide)) trivial)))⟩
       rintro c_ a X16 A e (bX : Below X14.heap.size X14 X16)
       have t11 : a.eval (.tmp 11) = .int .i64 ((3 : Nat) : Int) := e _
       replace FP := (FP.on bX)
       replace FW := (FW.on bX)
       replace Fz := (Fz.on bX)
       replace FPT := (FPT.on bX)
       replace Fge13 := Fge13
       replace F13 := (on9 F13 bX)
       replace FBv := (FBv.on bX)
       replace FCv := (FCv.on bX)
       replace FNv := (FNv.on bX)
       replace Fu := (Fu.on bX)
       replace FOw := (FOw.on bX)
       replace FQ := (FQ.on bX)
       have ZX16 := bX.size
       replace BW := BW.trans (bX.mono BW.size)
       clear bX
       clear e t0 t13 t15 t16
       refine wp_seq (wp_seq ?_)
       refine wp_se 85 [1] [] (fun _ s X => Below X16.heap.size X16 X) (fun s => fun i_ => match i_ with | 1 => .bool true | _ => undef) () A (Below.refl _ _) (And.intro ?_ trivial) ?_
       ·exact fun s a X e hS => stepV rfl rfl (execDec (execNeE (p := 3) (q := 0) rfl ((e (.tmp 70)).trans t11) rfl) (decide_eq_true (by decide))) ⟨s, ⟨_, rfl, rfl⟩, hS, ar⟩
       rintro _ a X17 A e (bX : Below X16.heap.size X16 X17)
       have t71 : a.eval (.tmp 71) = .bool true := e _
       replace t11 := kt e t11
       replace FP := (FP.on bX)
       replace FW := (FW.on bX)
       replace Fz := (Fz.on bX)
       replace FPT := (FPT.on bX)
       replace Fge13 := Fge13
       replace F13 := (on9 F13 bX)
       replace FBv := (FBv.on bX)
       replace FCv := (FCv.on bX)
       replace FNv := (FNv.on bX)
       replace Fu := (Fu.on bX)
       replace FOw := (FOw.on bX)
       replace FQ := (FQ.on bX)
       have ZX17 := bX.size
       replace BW := BW.trans (bX.mono BW.size)
       clear bX
       clear e
       refine wp_cond_true t71 ?_
       clear t71
       refine wp_seq ?_
       refine wp_se 85 [] [] (fun _ s X => Below X17.heap.size X17 X) (fun s => fun _ => undef) () A (Below.refl _ _) trivial ?_
       rintro _ a X18 A e (bX : Below X17.heap.size X17 X18)
       have t8 : a.eval (.tmp 8) = .slice none 0 0 := e _
       have t9 : a.eval (.tmp 9) = .int .i64 ((3 : Nat) : Int) := (e _).trans t11
       replace FP := (FP.on bX)
       replace FW := (FW.on bX)
       replace Fz := (Fz.on bX)
       replace FPT := (FPT.on bX)
       replace Fge13 := Fge13
       replace F13 := (on9 F13 bX)
       replace FBv := (FBv.on bX)
       replace FCv := (FCv.on bX)
       replace FNv := (FNv.on bX)
       replace Fu := (Fu.on bX)
       replace FOw := (FOw.on bX)
       replace FQ := (FQ.on bX)
       have ZX18 := bX.size
       replace BW := BW.trans (bX.mono BW.size)
       clear bX
       clear e t11
       have hE : tnE L ((m : Nat) : Int) ((J : Nat) : Int) wf m p = 3 := hTR.trans (by show (if inL _ _ then _ else _) = 3; rw [if_pos hin]; exact if_neg fun q => by have h_ : OkT L J m (szF m J) p := okT_iff.1 q.2; rw [allB_iff.2 fun t ht => okB_iff.2 (h_.ck t ht)] at hsh; cases hsh)
       rw [hE, zl_no (by decide)]
       refine wp_ret ?_
       repeat (first | with_reducible refine ret_in ?_ | with_reducible refine ret_then ?_)
       refine bodyPost_ret (results_tmp2 rfl _ _ _) A.2 ⟨_, ?_, World.ownsRow_nil _ _ _ _, BW⟩
       show Ending.returned (.tuple #[a.eval (.tmp 8), a.eval (.tmp 9)]) = _
       rw [t8, t9]
      | true =>
       refine wp_se (σ := Value) 85 [0, 1, 3] [3] (fun k_ s X => match k_ with | 0 => Below X14.heap.size X14 X | _ => Below X14.heap.size X14 X ∧ (X.ownsRow V.heap.size 5 1 s (J * lq L J) (bytesL (J * lq L J) (tkF L J m p (gN wf))))) (fun s => fun i_ => match i_ with | 0 => .pointer (some ⟨g13, 2, none⟩) | 1 => cv | 3 => .tuple #[s, .int .i64 ((0 : Nat) : Int)] | _ => undef) undef A (Below.refl _ _) (And.intro ?_ (And.intro ?_ (And.intro ?_ trivial))) ?_
       ·exact fun s a X e hS => stepV rfl rfl (execPt2 rfl ((e (.tmp 13)).trans t13)) ⟨s, ⟨_, rfl, rfl⟩, hS, ar⟩
       ·exact fun s a X e hS => stepV rfl rfl (execLdLL rfl (e (.tmp 64)) (ptC_at (on9 F13 hS)).2.2) ⟨s, ⟨_, rfl, rfl⟩, hS, ar⟩
       ·intro s a X e hS
        refine stepC rfl rfl (execCall2 Try.func37 (by kernel_rfl) (by kernel_rfl) rfl (e (.tmp 65)) ((e (.tmp 66)).trans t15)) (tc0 p L m J (gN wf) xs yo _ _ X (FCv.on hS) hlq (by omega) (FOw.on hS) hN h1 h2 hw hsh) fun e w' hh => ?_
        obtain ⟨r_, he, hk, hb⟩ := hh
        refine ⟨_, he, r_, ⟨_, rfl, rfl⟩, ⟨(hS).trans ((hb).mono (hS).size), own_base hk (Nat.le_trans BW.size (hS).size)⟩, (And.intro (fun _ => rfl) (And.intro (fun _ => rfl) (And.intro (fun h => absurd h (by decide)) trivial)))⟩
       rintro c_ a X16 A e (hS : Below X14.heap.size X14 X16 ∧ (X16.ownsRow V.heap.size 5 1 c_ (J * lq L J) (bytesL (J * lq L J) (tkF L J m p (gN wf)))))
       obtain ⟨bX, FK⟩ := hS
       have t11 : a.eval (.tmp 11) = .int .i64 ((0 : Nat) : Int) := e _
       have t17 : a.eval (.tmp 17) = c_ := e _
       replace t0 := kt e t0
       replace t13 := kt e t13
       replace t16 := kt e t16
       replace FP := (FP.on bX)
       replace FW := (FW.on bX)
       replace Fz := (Fz.on bX)
       replace FPT := (FPT.on bX)
       replace Fge13 := Fge13
       replace F13 := (on9 F13 bX)
       replace FBv := (FBv.on bX)
       replace FCv := (FCv.on bX)
       replace FNv := (FNv.on bX)
       replace Fu := (Fu.on bX)
       replace FOw := (FOw.on bX)
       replace FQ := (FQ.on bX)
       have ZX16 := bX.size
       replace BW := BW.trans (bX.mono BW.size)
       clear bX
       clear e t15
       refine wp_seq (wp_seq ?_)
       refine wp_se 85 [1] [] (fun _ s X => Below X16.heap.size X16 X) (fun s => fun i_ => match i_ with | 1 => .bool false | _ => undef) () A (Below.refl _ _) (And.intro ?_ trivial) ?_
       ·exact fun s a X e hS => stepV rfl rfl (execDec (execNeE (p := 0) (q := 0) rfl ((e (.tmp 70)).trans t11) rfl) (decide_eq_false (by decide))) ⟨s, ⟨_, rfl, rfl⟩, hS, ar⟩
       rintro _ a X17 A e (bX : Below X16.heap.size X16 X17)
       have t71 : a.eval (.tmp 71) = .bool false := e _
       replace t0 := kt e t0
       replace t13 := kt e t13
       replace t16 := kt e t16
       replace t17 := kt e t17
       replace FP := (FP.on bX)
       replace FW := (FW.on bX)
       replace Fz := (Fz.on bX)
       replace FPT := (FPT.on bX)
       replace Fge13 := Fge13
       replace F13 := (on9 F13 bX)
       replace FBv := (FBv.on bX)
       replace FCv := (FCv.on bX)
       replace FNv := (FNv.on bX)
       replace Fu := (Fu.on bX)
       replace FOw := (FOw.on bX)
       replace FQ := (FQ.on bX)
       replace FK := (ownsRow_below FK bX)
       have ZX17 := bX.size
       replace BW := BW.trans (bX.mono BW.size)
       clear bX
       clear e t11
       refine wp_cond_false t71 (wp_skip ?_)
       clear t71
       have hok : OkT L J m (szF m J) p := ⟨okB_iff.1 hbr, fun t ht => okB_iff.1 (allB_iff.1 hsh t ht)⟩
       have hFit : Fit L m J ((m : Nat) : Int) ((J : Nat) : Int) p := ⟨rfl, rfl, hN, h1, h2, hL18, hok⟩
       have hE : tnE L ((m : Nat) : Int) ((J : Nat) : Int) wf m p = 0 := hTR.trans hFit.ri
       rw [hE, zl_ok]
       have FK2 : SliceN X17 c_ (J * lq L J) (tkF L J m p (gN wf)) := own_slice FK (tk_byte hL18 (szF_sum m h1) hok hw hpb)
       have hzk : ∀ l c, c_ = .slice none l c → c = 0 := own_nilB FK
       obtain ⟨pb, po, pc, epv, hpc⟩ : ∃ pb po pc, pv = .slice (some ⟨pb, po, none⟩) L pc ∧ L ≤ pc := by
        obtain ⟨⟨a_, c2_, e_, g1, _, g3⟩, _⟩ := id FP
        obtain ⟨b_, o_, e2, _⟩ := g3 (by omega)
        exact ⟨b_, o_, c2_, by rw [e_, e2], g1⟩
       refine wp_seq ?_
       clear FK
       refine wp_se (σ := Nat × Value) 85 [0, 1, 4, 5] [4, 5] (fun k_ s X => match k_ with | 0 => Below X17.heap.size X17 X | 1 => Below X17.heap.size X17 X ∧ (X.heap[s.1]? = some (.cells #[nv, q_, c_] 23)) | _ => Below X17.heap.size X17 X ∧ (X.heap[s.1]? = some (.cells #[nv, q_, c_] 23)) ∧ (X.ownsRow V.heap.size 5 1 s.2 (18 + lb L + J * lq L J) (bytesL (18 + lb L + J * lq L J) (tuT L J m (szF m J) p (gN wf))))) (fun s => fun i_ => match i_ with | 0 => .pointer (some ⟨g13, 0, none⟩) | 1 => nv | 4 => .slice (some ⟨s.1, 0, none⟩) 3 3 | 5 => s.2 | _ => undef) (0, undef) A (Below.refl _ _) (And.intro ?_ (And.intro ?_ (And.intro ?_ (And.intro ?_ trivial)))) ?_
       ·exact fun s a X e hS => stepV rfl rfl (execPt0 rfl ((e (.tmp 13)).trans t13)) ⟨s, ⟨_, rfl, rfl⟩, hS, ar⟩
       ·exact fun s a X e hS => stepV rfl rfl (execLdL rfl (e (.tmp 73)) (ptC_at (on9 F13 hS)).1) ⟨s, ⟨_, rfl, rfl⟩, hS, ar⟩
       ·intro s a X e hS
        refine stepV rfl rfl (execBs3L rfl (e (.tmp 74)) ((e (.tmp 75)).trans t16) ((e (.tmp 76)).trans t17) (shpN FNv) (shpN FQ.slice) (shpN FK2)) ⟨(X.heap.size, s.2), ⟨_, rfl, rfl⟩, ⟨(hS).trans (((belNew X _)).mono (hS).size), heapNew X _⟩, (And.intro (fun _ => rfl) (And.intro (fun _ => rfl) (And.intro (fun h => absurd h (by decide)) (And.intro (fun h => absurd h (by decide)) trivial))))⟩
       ·intro s a X e hS
        refine stepC rfl rfl (execCall1 Try.func38 (by kernel_rfl) (by kernel_rfl) rfl (e (.tmp 77))) (pconcat 3 (x3T nv q_ c_) (n3T (lb L) (J * lq L J)) (g3T p (tuB L J m (szF m J) p (gN wf)) (tkF L J m p (gN wf))) (tuT L J m (szF m J) p (gN wf)) _ X (llx3 hS.2 (FNv.on hS.1) (FQ.slice.on hS.1) (FK2.on hS.1) hzn (tk_nil FQ) hzk) (by omega) tu_cat (by rw [n3_sum]; omega) (by rw [n3_sum]; omega)) fun e w' hh => ?_
        obtain ⟨r_, he, hk, hb⟩ := hh
        refine ⟨_, he, (s.1, r_), ⟨_, rfl, rfl⟩, ⟨(hS.1).trans ((hb).mono (hS.1).size), (on9 hS.2 hb), own_base (by rw [n3_sum] at hk; exact hk) (Nat.le_trans BW.size (hS.1).size)⟩, (And.intro (fun _ => rfl) (And.intro (fun _ => rfl) (And.intro (fun _ => rfl) (And.intro (fun h => absurd h (by decide)) trivial))))⟩
       rintro ⟨g77, r78⟩ a X19 A e (hS : Below X17.heap.size X17 X19 ∧ (X19.heap[g77]? = some (.cells #[nv, q_, c_] 23)) ∧ (X19.ownsRow V.heap.size 5 1 r78 (18 + lb L + J * lq L J) (bytesL (18 + lb L + J * lq L J) (tuT L J m (szF m J) p (gN wf)))))
       obtain ⟨bX, F77, FR⟩ := hS
       have t18 : a.eval (.tmp 18) = r78 := e _
       replace t0 := kt e t0
       replace FP := (FP.on bX)
       replace FW := (FW.on bX)
       replace Fz := (Fz.on bX)
       replace FPT := (FPT.on bX)
       replace Fge13 := Fge13
       replace F13 := (on9 F13 bX)
       replace FBv := (FBv.on bX)
       replace FCv := (FCv.on bX)
       replace FNv := (FNv.on bX)
       replace Fu := (Fu.on bX)
       replace FOw := (FOw.on bX)
       replace FQ := (FQ.on bX)
       replace FK2 := (FK2.on bX)
       have ZX19 := bX.size
       replace BW := BW.trans (bX.mono BW.size)
       clear bX
       clear e t13 t16 t17
       clear FBv
       clear FCv
       clear FNv
       clear FQ
       clear FK2
       clear FPT
       clear F13
       clear Fge13
       clear Fz
       clear Fu
       clear FOw
       clear F77
       clear FW
       have BB := BW
       refine wp_seq ?_
       refine wp_se (σ := Value) 85 [3, 4, 5] [5] (fun k_ s X => match k_ with | 0 => Below V.heap.size V X ∧ (X.ownsRow V.heap.size 5 1 r78 (18 + lb L + J * lq L J) (bytesL (18 + lb L + J * lq L J) (tuT L J m (szF m J) p (gN wf)))) | _ => Below V.heap.size V X ∧ (X.ownsRow V.heap.size 5 1 s L (bytesL L (tuT L J m (szF m J) p (gN wf))))) (fun s => fun i_ => match i_ with | 3 => .int .i64 ((18 + lb L + J * lq L J : Nat) : Int) | 4 => sliced (some ⟨pb, po, none⟩) (18 + lb L + J * lq L J) L pc 1 | 5 => s | _ => undef) undef A ⟨BB, FR⟩ (And.intro ?_ (And.intro ?_ (And.intro ?_ trivial))) ?_
       ·exact fun s a X e hS => stepV rfl rfl (execLenV (len := 18 + lb L + J * lq L J) rfl ((e (.tmp 81)).trans t18) (shpO hS.2)) ⟨s, ⟨_, rfl, rfl⟩, hS, ar⟩
       ·exact fun s a X e hS => stepV rfl rfl (By8.execSlL rfl (((e (.tmp 80)).trans t0).trans epv) (e (.tmp 82)) (By8.slice_l (some ⟨pb, po, none⟩) L pc (18 + lb L + J * lq L J) hlq3 X)) ⟨s, ⟨_, rfl, rfl⟩, hS, ar⟩
       ·intro s a X e hS
        refine stepAppN (n := 18 + lb L + J * lq L J) (m := L - (18 + lb L + J * lq L J)) (p := tuT L J m (szF m J) p (gN wf)) rfl rfl rfl ((e (.tmp 79)).trans t18) (e (.tmp 83)) hS.2 (sliceN_cg (SliceN.sub (epv ▸ FP0.on hS.1) (18 + lb L + J * lq L J) L hlq3 (Nat.le_refl _)) (fun k hk => (tu_rest k).symm)) (fun _ _ e => sl_no e) (by omega) (hS.1).size fun v' W' own' gr => ⟨v', ⟨_, rfl, rfl⟩, ⟨(hS.1).grown gr (hS.1).size (fun k hk => (hS.2.lt k hk).1), (by rw [show 18 + lb L + J * lq L J + (L - (18 + lb L + J * lq L J)) = L by omega] at own'; exact own')⟩, (And.intro (fun _ => rfl) (And.intro (fun _ => rfl) (And.intro (fun h => absurd h (by decide)) trivial)))⟩
       rintro v84 a X20 A e (hS : Below V.heap.size V X20 ∧ (X20.ownsRow V.heap.size 5 1 v84 L (bytesL L (tuT L J m (szF m J) p (gN wf)))))
       obtain ⟨BB, FR2⟩ := hS
       have t8 : a.eval (.tmp 8) = v84 := e _
       have t9 : a.eval (.tmp 9) = .int .i64 ((0 : Nat) : Int) := e _
       clear e t0 t18
       refine wp_ret ?_
       repeat (first | with_reducible refine ret_in ?_ | with_reducible refine ret_then ?_)
       refine bodyPost_ret (results_tmp2 rfl _ _ _) A.2 ⟨_, ?_, FR2, BB⟩
       show Ending.returned (.tuple #[a.eval (.tmp 8), a.eval (.tmp 9)]) = _
       rw [t8, t9]
    ·refine wp_se (σ := Value × Value × Value × (Nat → Value) × Nat) 85 [2, 6, 7] [2, 6, 7] (fun k_ s X => match k_ with | 0 => Below X7.heap.size X7 X | 1 => Below X7.heap.size X7 X ∧ (PtS X V.heap.size 0 s.1 s.2.1 s.2.2.1 s.2.2.2.1 0 0 0 p) | 2 => Below X7.heap.size X7 X ∧ (PtS X V.heap.size 0 s.1 s.2.1 s.2.2.1 s.2.2.2.1 0 0 0 p) ∧ X.heap[s.2.2.2.2]? = some (.cells (ptC (.slice none 0 0) (.slice none 0 0) (.slice none 0 0)) 55) ∧ (X7.heap.size ≤ s.2.2.2.2) | _ => Below X7.heap.size X7 X ∧ (PtS X V.heap.size 0 s.1 s.2.1 s.2.2.1 s.2.2.2.1 0 0 0 p) ∧ (X7.heap.size ≤ s.2.2.2.2) ∧ X.heap[s.2.2.2.2]? = some (.cells (ptC s.1 s.2.1 s.2.2.1) 55)) (fun s => fun i_ => match i_ with | 2 => .tuple #[.agg (ptC s.1 s.2.1 s.2.2.1), .int .i64 ((3 : Nat) : Int)] | 6 => .pointer (some ⟨s.2.2.2.2, 0, none⟩) | _ => undef) (undef, undef, undef, fun _ => undef, 0) A (Below.refl _ _) (And.intro ?_ (And.intro ?_ (And.intro ?_ trivial))) ?_
     ·intro s a X e hS
      refine stepC rfl rfl (execCall2 Try.func20 (by kernel_rfl) (by kernel_rfl) rfl ((e (.tmp 38)).trans t0) ((e (.tmp 39)).trans t2)) (spl3 p L J _ X (FP.on hS) hl (by omega) h1 h2) fun e w' hh => ?_
      obtain ⟨nv_, bv_, cv_, x_, he, hk, hb⟩ := hh
      refine ⟨_, he, (nv_, bv_, cv_, x_, s.2.2.2.2), ⟨_, rfl, rfl⟩, ⟨(hS).trans ((hb).mono (hS).size), hk.base (Nat.le_trans BW.size (hS).size)⟩, (And.intro (fun h => absurd h (by decide)) (And.intro (fun h => absurd h (by decide)) (And.intro (fun h => absurd h (by decide)) trivial)))⟩
     ·intro s a X e hS
      refine stepV rfl rfl (execAllPt rfl) ⟨(s.1, s.2.1, s.2.2.1, s.2.2.2.1, X.heap.size), ⟨_, rfl, rfl⟩, ⟨(hS.1).trans (((belNew X _)).mono (hS.1).size), (hS.2.on (belNew X _)), heapNew X _, (hS.1).size⟩, (And.intro (fun _ => rfl) (And.intro (fun h => absurd h (by decide)) (And.intro (fun h => absurd h (by decide)) trivial)))⟩
     ·exact fun s a X e hS => stepS rfl rfl (execStPt rfl (e (.tmp 13)) (e (.tmp 41)) hS.2.2.1 rfl (pts_one hS.2.1)) ⟨s, ⟨_, rfl, rfl⟩, ⟨below4 hS.1 hS.2.2.2 _, (hS.2.1.set hS.2.2.1 (by decide) (by decide)), hS.2.2.2, setRow_heap _ _ _ _ _ _ hS.2.2.1⟩, ar⟩
     rintro ⟨nv, bv, cv, xs, g13⟩ a X9 A e (hS : Below X7.heap.size X7 X9 ∧ (PtS X9 V.heap.size 0 nv bv cv xs 0 0 0 p) ∧ (X7.heap.size ≤ g13) ∧ X9.heap[g13]? = some (.cells (ptC nv bv cv) 55))
     obtain ⟨bX, FPT, Fge13, F13⟩ := hS
     have t11 : a.eval (.tmp 11) = .int .i64 ((3 : Nat) : Int) := e _
     replace FP := (FP.on bX)
     replace FW := (FW.on bX)
     replace Fz := (Fz.on bX)
     have ZX9 := bX.size
     replace BW := BW.trans (bX.mono BW.size)
     clear bX
     clear e t0 t2 t3 t10
     refine wp_seq (wp_seq ?_)
     refine wp_se 85 [1] [] (fun _ s X => Below X9.heap.size X9 X) (fun s => fun i_ => match i_ with | 1 => .bool true | _ => undef) () A (Below.refl _ _) (And.intro ?_ trivial) ?_
     ·exact fun s a X e hS => stepV rfl rfl (execDec (execNeE (p := 3) (q := 0) rfl ((e (.tmp 43)).trans t11) rfl) (decide_eq_true (by decide))) ⟨s, ⟨_, rfl, rfl⟩, hS, ar⟩
     rintro _ a X10 A e (bX : Below X9.heap.size X9 X10)
     have t44 : a.eval (.tmp 44) = .bool true := e _
     replace t11 := kt e t11
     replace FP := (FP.on bX)
     replace FW := (FW.on bX)
     replace Fz := (Fz.on bX)
     replace FPT := (FPT.on bX)
     replace Fge13 := Fge13
     replace F13 := (on9 F13 bX)
     have ZX10 := bX.size
     replace BW := BW.trans (bX.mono BW.size)
     clear bX
     clear e
     refine wp_cond_true t44 ?_
     clear t44
     refine wp_seq ?_
     refine wp_se 85 [] [] (fun _ s X => Below X10.heap.size X10 X) (fun s => fun _ => undef) () A (Below.refl _ _) trivial ?_
     rintro _ a X11 A e (bX : Below X10.heap.size X10 X11)
     have t8 : a.eval (.tmp 8) = .slice none 0 0 := e _
     have t9 : a.eval (.tmp 9) = .int .i64 ((3 : Nat) : Int) := (e _).trans t11
     replace FP := (FP.on bX)
     replace FW := (FW.on bX)
     replace Fz := (Fz.on bX)
     replace FPT := (FPT.on bX)
     replace Fge13 := Fge13
     replace F13 := (on9 F13 bX)
     have ZX11 := bX.size
     replace BW := BW.trans (bX.mono BW.size)
     clear bX
     clear e t11
     have hE : tnE L ((m : Nat) : Int) ((J : Nat) : Int) wf m p = 3 := hTR.trans (by show (if inL _ _ then _ else _) = 3; rw [if_pos hin]; exact if_neg fun q => hL18 q.1)
     rw [hE, zl_no (by decide)]
     refine wp_ret ?_
     repeat (first | with_reducible refine ret_in ?_ | with_reducible refine ret_then ?_)
     refine bodyPost_ret (results_tmp2 rfl _ _ _) A.2 ⟨_, ?_, World.ownsRow_nil _ _ _ _, BW⟩
     show Ending.returned (.tuple #[a.eval (.tmp 8), a.eval (.tmp 9)]) = _
     rw [t8, t9]
   ·refine wp_se 85 [1] [] (fun _ s X => Below X6.heap.size X6 X) (fun s => fun i_ => match i_ with | 1 => .bool true | _ => undef) () A (Below.refl _ _) (And.intro ?_ trivial) ?_
    ·exact fun s a X e hS => stepV rfl rfl (execDec (execNeE (p := pE wf m) (q := 0) rfl ((e (.tmp 34)).trans t12) rfl) (decide_eq_true (by omega))) ⟨s, ⟨_, rfl, rfl⟩, hS, ar⟩
    rintro _ a X7 A e (bX : Below X6.heap.size X6 X7)
    have t35 : a.eval (.tmp 35) = .bool true := e _
    replace t12 := kt e t12
    replace FP := (FP.on bX)
    replace FW := (FW.on bX)
    replace Fz := (Fz.on bX)
    have ZX7 := bX.size
    replace BW := BW.trans (bX.mono BW.size)
    clear bX
    clear e t0 t2 t3 t10
    refine wp_cond_true t35 ?_
    clear t35
    refine wp_seq ?_
    refine wp_se 85 [] [] (fun _ s X => Below X7.heap.size X7 X) (fun s => fun _ => undef) () A (Below.refl _ _) trivial ?_
    rintro _ a X8 A e (bX : Below X7.heap.size X7 X8)
    have t8 : a.eval (.tmp 8) = .slice none 0 0 := e _
    have t9 : a.eval (.tmp 9) = .int .i64 ((pE wf m : Nat) : Int) := (e _).trans t12
    replace FP := (FP.on bX)
    replace FW := (FW.on bX)
    replace Fz := (Fz.on bX)
    have ZX8 := bX.size
    replace BW := BW.trans (bX.mono BW.size)
    clear bX
    clear e t12
    have hpE : pE wf m = 110 := by have h_ := hpp; unfold pE at h_ ⊢; split at h_ <;> simp_all
    rw [hpE] at t9
    have hE : tnE L ((m : Nat) : Int) ((J : Nat) : Int) wf m p = 110 := by show (if _ then _ else _) = 110; rw [if_pos ⟨hin, rfl⟩]; exact if_neg hpp
    rw [hE, zl_no (by decide)]
    refine wp_ret ?_
    repeat (first | with_reducible refine ret_in ?_ | with_reducible refine ret_then ?_)
    refine bodyPost_ret (results_tmp2 rfl _ _ _) A.2 ⟨_, ?_, World.ownsRow_nil _ _ _ _, BW⟩
    show Ending.returned (.tuple #[a.eval (.tmp 8), a.eval (.tmp 9)]) = _
    rw [t8, t9]
  ·refine wp_se 85 [1, 3] [] (fun _ s X => Below X2.heap.size X2 X) (fun s => fun i_ => match i_ with | 1 => .int .i64 ((m : Nat) : Int) | 3 => .bool true | _ => undef) () A (Below.refl _ _) (And.intro ?_ (And.intro ?_ trivial)) ?_
   ·exact fun s a X e hS => stepV rfl rfl (execLenI (len := m) rfl ((e (.tmp 28)).trans t3) ((FW.on hS)).shp) ⟨s, ⟨_, rfl, rfl⟩, hS, ar⟩
   ·exact fun s a X e hS => stepV rfl rfl (execDec (execNeN (p := m) (q := N) rfl (e (.tmp 29)) ((e (.tmp 30)).trans t1)) (decide_eq_true (by omega))) ⟨s, ⟨_, rfl, rfl⟩, hS, ar⟩
   rintro _ a X4 A e (bX : Below X2.heap.size X2 X4)
   have t31 : a.eval (.tmp 31) = .bool true := e _
   replace FP := (FP.on bX)
   replace FW := (FW.on bX)
   replace Fz := (Fz.on bX)
   have ZX4 := bX.size
   replace BW := BW.trans (bX.mono BW.size)
   clear bX
   clear e t0 t1 t2 t3 t10
   refine wp_cond_true t31 ?_
   clear t31
   refine wp_seq ?_
   refine wp_se 85 [] [] (fun _ s X => Below X4.heap.size X4 X) (fun s => fun _ => undef) () A (Below.refl _ _) trivial ?_
   rintro _ a X5 A e (bX : Below X4.heap.size X4 X5)
   have t8 : a.eval (.tmp 8) = .slice none 0 0 := e _
   have t9 : a.eval (.tmp 9) = .int .i64 ((2 : Nat) : Int) := e _
   replace FP := (FP.on bX)
   replace FW := (FW.on bX)
   replace Fz := (Fz.on bX)
   have ZX5 := bX.size
   replace BW := BW.trans (bX.mono BW.size)
   clear bX
   clear e
   have hE : tnE L ((N : Nat) : Int) ((J : Nat) : Int) wf m p = 2 := if_neg fun q => hmN (by omega)
   rw [hE, zl_no (by decide)]
   refine wp_ret ?_
   repeat (first | with_reducible refine ret_in ?_ | with_reducible refine ret_then ?_)
   refine bodyPost_ret (results_tmp2 rfl _ _ _) A.2 ⟨_, ?_, World.ownsRow_nil _ _ _ _, BW⟩
   show Ending.returned (.tuple #[a.eval (.tmp 8), a.eval (.tmp 9)]) = _
   rw [t8, t9]
 ·refine wp_seq ?_
  refine wp_se (σ := Value) 85 [2] [] (fun _ s X => Below V.heap.size V X) (fun s => fun i_ => match i_ with | 2 => .tuple #[s, .int .i64 ((2 : Nat) : Int)] | _ => undef) undef A (Below.refl _ _) (And.intro ?_ trivial) ?_
  ·intro s a X e hS
   refine stepC rfl rfl (execCall2 Try.func19 (by kernel_rfl) (by kernel_rfl) rfl ((e (.tmp 20)).trans t1) ((e (.tmp 21)).trans t2)) (sz2 hin X) fun e w' hh => ?_
   obtain ⟨r_, he, hb⟩ := hh
   refine ⟨_, he, r_, ⟨_, rfl, rfl⟩, (hS).trans ((hb).mono (hS).size), (And.intro (fun h => absurd h (by decide)) trivial)⟩
  rintro z_ a X1 A e (bX : Below V.heap.size V X1)
  have t11 : a.eval (.tmp 11) = .int .i64 ((2 : Nat) : Int) := e _
  replace FP := (FP.on bX)
  replace FW := (FW.on bX)
  have ZX1 := bX.size
  replace BW := BW.trans (bX.mono BW.size)
  clear bX
  clear e t0 t1 t2 t3
  refine wp_seq (wp_seq ?_)
  refine wp_se 85 [1] [] (fun _ s X => Below X1.heap.size X1 X) (fun s => fun i_ => match i_ with | 1 => .bool true | _ => undef) () A (Below.refl _ _) (And.intro ?_ trivial) ?_
  ·exact fun s a X e hS => stepV rfl rfl (execDec (execNeE (p := 2) (q := 0) rfl ((e (.tmp 25)).trans t11) rfl) (decide_eq_true (by decide))) ⟨s, ⟨_, rfl, rfl⟩, hS, ar⟩
  rintro _ a X2 A e (bX : Below X1.heap.size X1 X2)
  have t26 : a.eval (.tmp 26) = .bool true := e _
  replace t11 := kt e t11
  replace FP := (FP.on bX)
  replace FW := (FW.on bX)
  have ZX2 := bX.size
  replace BW := BW.trans (bX.mono BW.size)
  clear bX
  clear e
  refine wp_cond_true t26 ?_
  clear t26
  refine wp_seq ?_
  refine wp_se 85 [] [] (fun _ s X => Below X2.heap.size X2 X) (fun s => fun _ => undef) () A (Below.refl _ _) trivial ?_
  rintro _ a X3 A e (bX : Below X2.heap.size X2 X3)
  have t8 : a.eval (.tmp 8) = .slice none 0 0 := e _
  have t9 : a.eval (.tmp 9) = .int .i64 ((2 : Nat) : Int) := (e _).trans t11
  replace FP := (FP.on bX)
  replace FW := (FW.on bX)
  have ZX3 := bX.size
  replace BW := BW.trans (bX.mono BW.size)
  clear bX
  clear e t11
  have hE : tnE L n ch wf m p = 2 := if_neg fun q => hin q.1
  rw [hE, zl_no (by decide)]
  refine wp_ret ?_
  repeat (first | with_reducible refine ret_in ?_ | with_reducible refine ret_then ?_)
  refine bodyPost_ret (results_tmp2 rfl _ _ _) A.2 ⟨_, ?_, World.ownsRow_nil _ _ _ _, BW⟩
  show Ending.returned (.tuple #[a.eval (.tmp 8), a.eval (.tmp 9)]) = _
  rw [t8, t9]
end Go.Proofs.Ytmjpneaccjlpkaa.Rif
