import Derived.Test.YtigkmgoidbamnaaV9y
namespace Go.Proofs.Ytigkmgoidbamnaa.Tap
open Go.RowKit Gf8 Aes By8 Cel Cf
/- TapeSplits. Written by tools/mkV9z.py. -/

theorem ne_ty {W : World} {g k : Nat} {c d : Array Value} {t u : TypeId} (h : W.heap[g]? = some (.cells c t)) (hk : W.heap[k]? = some (.cells d u)) (ht : t ≠ u) : g ≠ k := by
  intro e
  subst e
  rw [h] at hk
  injection hk with hk
  injection hk with _ hk _
  exact ht hk
theorem lL_cat (x y : Nat → Value) (m : Nat) : ∀ k, lL x m ++ lL y k = lL (fun t => if t < m then x t else y (t - m)) (m + k)
  | 0 => by
    simp only [lL, List.append_nil, Nat.add_zero]
    exact lL_congr m fun i hi => by rw [if_pos hi]
  | k + 1 => by
    rw [← Nat.add_assoc]
    simp only [lL]
    rw [← lL_cat x y m k, List.append_assoc, if_neg (by omega), Nat.add_sub_cancel_left]
theorem below_saved {G : Nat → Prop} {V X W : World} (h : Below V.heap.size V X) (sv : Saved G X W) (hG : ∀ k, G k → V.heap.size ≤ k) : Below V.heap.size V W :=
  ⟨sv.os.trans h.os, sv.tape.trans h.tape, sv.output.trans h.output, Nat.le_trans h.size sv.size, fun k hk => by
    rw [sv.block k (Nat.lt_of_lt_of_le hk h.size) (fun q => by have := hG k q; omega)]
    exact h.block k hk⟩
theorem gx_ge {W : World} {B m k : Nat} {x : Nat → Value} {nn : Nat → Nat} {ff : Nat → Nat → Nat} (h : Fam B m x nn ff W) (hk : Gx m x k) : B ≤ k := by
  obtain ⟨s, hs, q⟩ := hk
  exact ((h.rows s hs).lt k q).1
set_option maxRecDepth 100000 in
set_option maxHeartbeats 8000000 in
theorem splits_any (f : Nat → Nat) (len : Nat) (ch : Int) (v : Value) (V : World) (hv : SliceN V v len f) (hl : len ≤ 140737488351232) (hz : ∀ l c, v = .slice none l c → c = 0) :
    Calls Try.prog 4 #[v, .int .i64 ch] V fun e w' => e = .returned (.bool true) ∧ Below V.heap.size V w' := by
  obtain ⟨E, eE⟩ : ∃ E, spE len ch = E := ⟨_, rfl⟩
  obtain ⟨n, en⟩ : ∃ n, spC len ch = n := ⟨_, rfl⟩
  obtain ⟨la, ea⟩ : ∃ la, spA len ch = la := ⟨_, rfl⟩
  obtain ⟨lb, eb⟩ : ∃ lb, spB len ch = lb := ⟨_, rfl⟩
  obtain ⟨lq, eq⟩ : ∃ lq, spQ len ch = lq := ⟨_, rfl⟩
  have hsp := sp_le len ch
  rw [en, ea, eb, eq] at hsp
  have hn64 := hsp.1
  have hsum := hsp.2
  have SPL := fun (X : World) (u : Value) (hu : SliceN X u len f) => split_any f len ch u X hu hl
  have RSP := fun (X : World) (u : Value) (hu : SliceN X u len f) => rsplit_any f len ch u X hu hl
  rw [eE, en, ea, eb, eq] at SPL RSP
  clear eE en ea eb eq hsp
  obtain ⟨ao, cap, rfl, hcl, -⟩ := id hv.shape
  have FP := hv
  have hp := hv.bytes
  have hfb : ∀ j, j < la + lb + n * lq → f j < 256 := fun j hj => hp j (by omega)
  have hF : ∀ j, j < len + 3 → f789 f len j < 256 := fun j hj => by
    unfold f789
    by_cases e : j < len
    · rw [if_pos e]; exact hp j e
    · rw [if_neg e]; omega
  go_enter Try.func4, Try.ntmps4
  refine wp_seq ?_
  refine wp_region_sqK 121 [(0, 4)] (fun i_ => match i_ with | 0 => .bool false | _ => undef) rfl (by kernel_rfl) (by decide) (by decide) ?_ ?_
  · intro i_ hi_ a hf hv hn
    match i_, hi_ with
    | 0, _ => exact stepV rfl rfl (execAsgB rfl rfl) ⟨⟨_, rfl, rfl⟩, rfl⟩
    | k_ + 1, h_ => exact absurd h_ (by simp)
  intro a h1 h2 h3 h4
  have t0 : a.eval (.tmp 0) = .slice ao len cap := (h3 0 (by decide)).trans rfl
  have t1 : a.eval (.tmp 1) = .int .i64 ch := (h3 1 (by decide)).trans rfl
  have A : a.tmps.size = 121 ∧ a.defers = [] := ⟨h1, h2⟩
  have BW : Below V.heap.size V V := Below.refl _ _
  clear h1 h2 h3 h4
  refine wp_seq ?_
  refine wp_seq ?_
  refine wp_region_sq (σ := Unit) 121 [(0, 15), (1, 16)] (fun j_ s X => match j_ with | 0 => Below V.heap.size V X | 1 => Below V.heap.size V X | _ => Below V.heap.size V X) (fun s => fun i_ => match i_ with | 0 => .bool true | 1 => .bool false | _ => undef) () A.1 (by kernel_rfl) (by decide) (by decide) (Below.refl _ _) ?_ ?_
  · intro i_ hi_ s a X hf hv hn hS
    match i_, hi_ with
    | 0, _ => exact stepC rfl rfl (execCall0 Try.func7 (by kernel_rfl) (by kernel_rfl) rfl ) (awake9 X) fun e w' hh => ⟨_, hh.1, s, ⟨_, rfl, rfl⟩, (hS).trans ((hh.2).mono (hS).size), fun _ _ => rfl⟩
    | 1, _ => exact stepV rfl rfl (execNot8 rfl (hv 0 (by omega) _ rfl _ rfl)) ⟨s, ⟨_, rfl, rfl⟩, hS, fun _ _ => rfl⟩
    | k_ + 2, h_ => exact absurd h_ (by simp)
  rintro _ a X1 h1 h2 h3 h4 hS
  replace hS : Below V.heap.size V X1 := hS
  have bX := hS
  clear hS
  replace t0 := (h3 0 (by decide)).trans t0
  replace t1 := (h3 1 (by decide)).trans t1
  have t16 : a.eval (.tmp 16) = .bool false := h4 1 _ rfl _ rfl
  replace FP := (FP.on bX)
  have ZX1 := bX.size
  replace BW := BW.trans (bX.mono BW.size)
  clear bX
  replace A := (⟨h1, h2.trans A.2⟩ : a.tmps.size = 121 ∧ a.defers = [])
  clear h1 h2 h3 h4
  refine wp_cond_false t16 ?_
  refine wp_skip ?_
  clear t16
  refine wp_seq ?_
  refine wp_region_sq (σ := Nat × Value × Nat × Value) 121 [(0, 17), (1, 18), (2, 19), (3, 20), (4, 21), (5, 5)] (fun j_ s X => match j_ with | 0 => Below X1.heap.size X1 X | 1 => Below X1.heap.size X1 X ∧ X.ownsRow (X1.heap.size) 5 1 (.slice (some ⟨s.1, 0, none⟩) 0 0) (0) (bytesL 0 (f789 f len)) | 2 => Below X1.heap.size X1 X ∧ X.ownsRow (X1.heap.size) 5 1 (.slice (some ⟨s.1, 0, none⟩) 0 0) (0) (bytesL 0 (f789 f len)) | 3 => Below X1.heap.size X1 X ∧ X.ownsRow (X1.heap.size) 5 1 s.2.1 (len) (bytesL (len) (f789 f len)) | 4 => Below X1.heap.size X1 X ∧ X.ownsRow (X1.heap.size) 5 1 s.2.1 (len) (bytesL (len) (f789 f len)) ∧ SliceN X (.slice (some ⟨s.2.2.1, 0, none⟩) 3 3) (3) (fun j => (f789 f len) (len + j)) | 5 => Below X1.heap.size X1 X ∧ X.ownsRow (X1.heap.size) 5 1 s.2.2.2 (len + 3) (bytesL (len + 3) (f789 f len)) | _ => Below X1.heap.size X1 X ∧ X.ownsRow (X1.heap.size) 5 1 s.2.2.2 (len + 3) (bytesL (len + 3) (f789 f len))) (fun s => fun i_ => match i_ with | 0 => .slice (some ⟨s.1, 0, none⟩) 0 0 | 1 => .slice ao len cap | 2 => s.2.1 | 3 => .slice (some ⟨s.2.2.1, 0, none⟩) 3 3 | 4 => s.2.2.2 | 5 => s.2.2.2 | _ => undef) (0, undef, 0, undef) A.1 (by kernel_rfl) (by decide) (by decide) (Below.refl _ _) ?_ ?_
  · intro i_ hi_ s a X hf hv hn hS
    match i_, hi_ with
    | 0, _ =>
      refine stepV rfl rfl (execBs0 rfl) ⟨(X.heap.size, s.2.1, s.2.2.1, s.2.2.2), ⟨_, rfl, rfl⟩, ⟨(hS).trans (((belNew X _)).mono (hS).size), own_base (own_none X _) (hS).size⟩, fun i hi => ?_⟩
      omega
    | 1, _ => exact stepV rfl rfl (execMvB rfl ((hf 0 (by decide)).trans t0)) ⟨s, ⟨_, rfl, rfl⟩, hS, fun _ _ => rfl⟩
    | 2, _ =>
      refine stepAppN (n := 0) (p := (f789 f len)) rfl rfl rfl (hv 0 (by omega) _ rfl _ rfl) (hv 1 (by omega) _ rfl _ rfl) hS.2 (sliceN_cg (FP.on hS.1) (fun j hj => by rw [Nat.zero_add, f789_lo hj])) hz (by omega) (hS.1).size fun v' W' own' gr => ⟨(s.1, v', s.2.2.1, s.2.2.2), ⟨_, rfl, rfl⟩, ⟨(hS.1).grown gr (hS.1).size (fun k hk => (hS.2.lt k hk).1), by rw [Nat.zero_add] at own'; exact own'⟩, fun i hi => ?_⟩
      match i, hi with
      | 0, _ => rfl
      | 1, _ => rfl
      | n_ + 2, h_ => omega
    | 3, _ =>
      refine stepV rfl rfl (execBsV3 rfl rfl rfl rfl) ⟨(s.1, s.2.1, X.heap.size, s.2.2.2), ⟨_, rfl, rfl⟩, ⟨(hS.1).trans (((belNew X _)).mono (hS.1).size), (ownsRow_below hS.2 (belNew X _)), slice789 f len (heapNew X _)⟩, fun i hi => ?_⟩
      match i, hi with
      | 0, _ => rfl
      | 1, _ => rfl
      | 2, _ => rfl
      | n_ + 3, h_ => omega
    | 4, _ =>
      refine stepAppN (n := len) (p := (f789 f len)) rfl rfl rfl (hv 2 (by omega) _ rfl _ rfl) (hv 3 (by omega) _ rfl _ rfl) hS.2.1 (hS.2.2) (fun l c e => by cases e) (by omega) (hS.1).size fun v' W' own' gr => ⟨(s.1, s.2.1, s.2.2.1, v'), ⟨_, rfl, rfl⟩, ⟨(hS.1).grown gr (hS.1).size (fun k hk => (hS.2.1.lt k hk).1), own'⟩, fun i hi => ?_⟩
      match i, hi with
      | 0, _ => rfl
      | 1, _ => rfl
      | 2, _ => rfl
      | 3, _ => rfl
      | n_ + 4, h_ => omega
    | 5, _ => exact stepV rfl rfl (execAsgB rfl (hv 4 (by omega) _ rfl _ rfl)) ⟨s, ⟨_, rfl, rfl⟩, hS, fun _ _ => rfl⟩
    | k_ + 6, h_ => exact absurd h_ (by simp)
  rintro ⟨g17, v19, g20, v21⟩ a X3 h1 h2 h3 h4 hS
  replace hS : Below X1.heap.size X1 X3 ∧ X3.ownsRow (X1.heap.size) 5 1 v21 (len + 3) (bytesL (len + 3) (f789 f len)) := hS
  obtain ⟨bX, Fv21⟩ := hS
  replace t0 := (h3 0 (by decide)).trans t0
  replace t1 := (h3 1 (by decide)).trans t1
  have t5 : a.eval (.tmp 5) = v21 := h4 5 _ rfl _ rfl
  replace FP := (FP.on bX)
  have ZX3 := bX.size
  replace BW := BW.trans (bX.mono BW.size)
  clear bX
  replace A := (⟨h1, h2.trans A.2⟩ : a.tmps.size = 121 ∧ a.defers = [])
  clear h1 h2 h3 h4
  obtain ⟨gi, ci, rfl, hgV, hgi⟩ := ownL_some Fv21 (show 0 < len + 3 by omega)
  have hgV2 := Nat.le_trans ZX1 hgV
  have FN : SliceN X3 (.slice (some ⟨gi, 0, none⟩) len ci) len f := sliceN_cg (takeN (own_sl Fv21 hF) (show len ≤ len + 3 by omega)) (fun j hj => f789_lo hj)
  have hci : len ≤ ci := by
    obtain ⟨_, _, e, h1, _⟩ := FN.shape
    injection e with _ _ e
    omega
  have FI := Fv21
  clear Fv21
  refine wp_seq ?_
  refine wp_region_sq (σ := Value × Value × Value × (Nat → Value) × Nat) 121 [(0, 23), (1, 24), (2, 25), (3, 22), (4, 26), (5, 27), (6, 6), (8, 7)] (fun j_ s X => match j_ with | 0 => Below X3.heap.size X3 X | 1 => Below X3.heap.size X3 X | 2 => Below X3.heap.size X3 X | 3 => Below X3.heap.size X3 X ∧ (PtS X X3.heap.size n s.1 s.2.1 s.2.2.1 s.2.2.2.1 la lb lq f) | 4 => Below X3.heap.size X3 X ∧ (PtS X X3.heap.size n s.1 s.2.1 s.2.2.1 s.2.2.2.1 la lb lq f) | 5 => Below X3.heap.size X3 X ∧ (PtS X X3.heap.size n s.1 s.2.1 s.2.2.1 s.2.2.2.1 la lb lq f) | 6 => Below X3.heap.size X3 X ∧ (PtS X X3.heap.size n s.1 s.2.1 s.2.2.1 s.2.2.2.1 la lb lq f) | 7 => Below X3.heap.size X3 X ∧ (PtS X X3.heap.size n s.1 s.2.1 s.2.2.1 s.2.2.2.1 la lb lq f) ∧ X.heap[s.2.2.2.2]? = some (.cells (ptC (.slice none 0 0) (.slice none 0 0) (.slice none 0 0)) 49) ∧ (X3.heap.size ≤ s.2.2.2.2) | 8 => Below X3.heap.size X3 X ∧ (PtS X X3.heap.size n s.1 s.2.1 s.2.2.1 s.2.2.2.1 la lb lq f) ∧ (X3.heap.size ≤ s.2.2.2.2) ∧ X.heap[s.2.2.2.2]? = some (.cells (ptC s.1 s.2.1 s.2.2.1) 49) | _ => Below X3.heap.size X3 X ∧ (PtS X X3.heap.size n s.1 s.2.1 s.2.2.1 s.2.2.2.1 la lb lq f) ∧ (X3.heap.size ≤ s.2.2.2.2) ∧ X.heap[s.2.2.2.2]? = some (.cells (ptC s.1 s.2.1 s.2.2.1) 49)) (fun s => fun i_ => match i_ with | 0 => .slice ao len cap | 1 => .int .i64 ch | 2 => .tuple #[.agg (ptC s.1 s.2.1 s.2.2.1), .int .i64 ((E : Nat) : Int)] | 3 => .tuple #[.agg (ptC s.1 s.2.1 s.2.2.1), .int .i64 ((E : Nat) : Int)] | 4 => .agg (ptC s.1 s.2.1 s.2.2.1) | 5 => .int .i64 ((E : Nat) : Int) | 6 => .pointer (some ⟨s.2.2.2.2, 0, none⟩) | 7 => undef | 8 => .int .i64 ((E : Nat) : Int) | _ => undef) (undef, undef, undef, fun _ => undef, 0) A.1 (by kernel_rfl) (by decide) (by decide) (Below.refl _ _) ?_ ?_
  · intro i_ hi_ s a X hf hv hn hS
    match i_, hi_ with
    | 0, _ => exact stepV rfl rfl (execMvB rfl ((hf 0 (by decide)).trans t0)) ⟨s, ⟨_, rfl, rfl⟩, hS, fun _ _ => rfl⟩
    | 1, _ => exact stepV rfl rfl (execMvB rfl ((hf 1 (by decide)).trans t1)) ⟨s, ⟨_, rfl, rfl⟩, hS, fun _ _ => rfl⟩
    | 2, _ =>
      refine stepC rfl rfl (execCall2 Try.func17 (by kernel_rfl) (by kernel_rfl) rfl (hv 0 (by omega) _ rfl _ rfl) (hv 1 (by omega) _ rfl _ rfl)) (RSP X _ (FP.on hS)) fun e w' hh => ?_
      obtain ⟨nv_, bv_, cv_, x_, he, hk, hb⟩ := hh
      refine ⟨_, he, (nv_, bv_, cv_, x_, s.2.2.2.2), ⟨_, rfl, rfl⟩, ⟨(hS).trans ((hb).mono (hS).size), hk.base (hS).size⟩, fun i hi => ?_⟩
      match i, hi with
      | 0, _ => rfl
      | 1, _ => rfl
      | n_ + 2, h_ => omega
    | 3, _ => exact stepV rfl rfl (execMvB rfl (hv 2 (by omega) _ rfl _ rfl)) ⟨s, ⟨_, rfl, rfl⟩, hS, fun _ _ => rfl⟩
    | 4, _ => exact stepV rfl rfl (execExtT rfl (hv 3 (by omega) _ rfl _ rfl) rfl) ⟨s, ⟨_, rfl, rfl⟩, hS, fun _ _ => rfl⟩
    | 5, _ => exact stepV rfl rfl (execExtT rfl (hv 3 (by omega) _ rfl _ rfl) rfl) ⟨s, ⟨_, rfl, rfl⟩, hS, fun _ _ => rfl⟩
    | 6, _ =>
      refine stepV rfl rfl (execAllPt rfl) ⟨(s.1, s.2.1, s.2.2.1, s.2.2.2.1, X.heap.size), ⟨_, rfl, rfl⟩, ⟨(hS.1).trans (((belNew X _)).mono (hS.1).size), (hS.2.on (belNew X _)), heapNew X _, (hS.1).size⟩, fun i hi => ?_⟩
      match i, hi with
      | 0, _ => rfl
      | 1, _ => rfl
      | 2, _ => rfl
      | 3, _ => rfl
      | 4, _ => rfl
      | 5, _ => rfl
      | n_ + 6, h_ => omega
    | 7, _ => exact stepS rfl rfl (execStPt rfl (hv 6 (by omega) _ rfl _ rfl) (hv 4 (by omega) _ rfl _ rfl) hS.2.2.1 rfl (pts_one hS.2.1)) ⟨s, ⟨_, rfl, rfl⟩, ⟨below4 hS.1 hS.2.2.2 _, (hS.2.1.set hS.2.2.1 (by decide) (by decide)), hS.2.2.2, setRow_heap _ _ _ _ _ _ hS.2.2.1⟩, fun _ _ => rfl⟩
    | 8, _ => exact stepV rfl rfl (execAsgB rfl (hv 5 (by omega) _ rfl _ rfl)) ⟨s, ⟨_, rfl, rfl⟩, hS, fun _ _ => rfl⟩
    | k_ + 9, h_ => exact absurd h_ (by simp)
  rintro ⟨nw, bw, cw, xw, g6⟩ a X4 h1 h2 h3 h4 hS
  replace hS : Below X3.heap.size X3 X4 ∧ (PtS X4 X3.heap.size n nw bw cw xw la lb lq f) ∧ (X3.heap.size ≤ g6) ∧ X4.heap[g6]? = some (.cells (ptC nw bw cw) 49) := hS
  obtain ⟨bX, FPw, Fge6, F6⟩ := hS
  replace t0 := (h3 0 (by decide)).trans t0
  replace t1 := (h3 1 (by decide)).trans t1
  replace t5 := (h3 5 (by decide)).trans t5
  have t6 : a.eval (.tmp 6) = .pointer (some ⟨g6, 0, none⟩) := h4 6 _ rfl _ rfl
  have t7 : a.eval (.tmp 7) = .int .i64 ((E : Nat) : Int) := h4 8 _ rfl _ rfl
  replace FP := (FP.on bX)
  replace FI := (ownsRow_below FI bX)
  replace FN := (FN.on bX)
  have ZX4 := bX.size
  replace BW := BW.trans (bX.mono BW.size)
  clear bX
  replace A := (⟨h1, h2.trans A.2⟩ : a.tmps.size = 121 ∧ a.defers = [])
  clear h1 h2 h3 h4
  have HW : ∀ t, t < 2 + n → ∀ k, (ptX nw bw xw t).ownBlock = some k → k < X4.heap.size := fun t ht k hk => ((FPw.fam.rows t ht).lt k hk).2
  refine wp_seq ?_
  refine wp_region_sq (σ := Value × Value × Value × (Nat → Value) × Nat) 121 [(0, 29), (1, 30), (2, 31), (3, 32), (4, 33), (5, 34), (6, 28), (7, 35), (8, 36), (9, 8), (11, 9)] (fun j_ s X => match j_ with | 0 => Below X4.heap.size X4 X | 1 => Below X4.heap.size X4 X | 2 => Below X4.heap.size X4 X | 3 => Below X4.heap.size X4 X | 4 => Below X4.heap.size X4 X | 5 => Below X4.heap.size X4 X | 6 => Below X4.heap.size X4 X ∧ (PtS X X4.heap.size n s.1 s.2.1 s.2.2.1 s.2.2.2.1 la lb lq f) | 7 => Below X4.heap.size X4 X ∧ (PtS X X4.heap.size n s.1 s.2.1 s.2.2.1 s.2.2.2.1 la lb lq f) | 8 => Below X4.heap.size X4 X ∧ (PtS X X4.heap.size n s.1 s.2.1 s.2.2.1 s.2.2.2.1 la lb lq f) | 9 => Below X4.heap.size X4 X ∧ (PtS X X4.heap.size n s.1 s.2.1 s.2.2.1 s.2.2.2.1 la lb lq f) | 10 => Below X4.heap.size X4 X ∧ (PtS X X4.heap.size n s.1 s.2.1 s.2.2.1 s.2.2.2.1 la lb lq f) ∧ X.heap[s.2.2.2.2]? = some (.cells (ptC (.slice none 0 0) (.slice none 0 0) (.slice none 0 0)) 49) ∧ (X4.heap.size ≤ s.2.2.2.2) | 11 => Below X4.heap.size X4 X ∧ (PtS X X4.heap.size n s.1 s.2.1 s.2.2.1 s.2.2.2.1 la lb lq f) ∧ (X4.heap.size ≤ s.2.2.2.2) ∧ X.heap[s.2.2.2.2]? = some (.cells (ptC s.1 s.2.1 s.2.2.1) 49) | _ => Below X4.heap.size X4 X ∧ (PtS X X4.heap.size n s.1 s.2.1 s.2.2.1 s.2.2.2.1 la lb lq f) ∧ (X4.heap.size ≤ s.2.2.2.2) ∧ X.heap[s.2.2.2.2]? = some (.cells (ptC s.1 s.2.1 s.2.2.1) 49)) (fun s => fun i_ => match i_ with | 0 => .slice (some ⟨gi, 0, none⟩) (len + 3) ci | 1 => .slice ao len cap | 2 => .int .i64 ((len : Nat) : Int) | 3 => .slice (some ⟨gi, 0, none⟩) len ci | 4 => .int .i64 ch | 5 => .tuple #[.agg (ptC s.1 s.2.1 s.2.2.1), .int .i64 ((E : Nat) : Int)] | 6 => .tuple #[.agg (ptC s.1 s.2.1 s.2.2.1), .int .i64 ((E : Nat) : Int)] | 7 => .agg (ptC s.1 s.2.1 s.2.2.1) | 8 => .int .i64 ((E : Nat) : Int) | 9 => .pointer (some ⟨s.2.2.2.2, 0, none⟩) | 10 => undef | 11 => .int .i64 ((E : Nat) : Int) | _ => undef) (undef, undef, undef, fun _ => undef, 0) A.1 (by kernel_rfl) (by decide) (by decide) (Below.refl _ _) ?_ ?_
  · intro i_ hi_ s a X hf hv hn hS
    match i_, hi_ with
    | 0, _ => exact stepV rfl rfl (execMvB rfl ((hf 5 (by decide)).trans t5)) ⟨s, ⟨_, rfl, rfl⟩, hS, fun _ _ => rfl⟩
    | 1, _ => exact stepV rfl rfl (execMvB rfl ((hf 0 (by decide)).trans t0)) ⟨s, ⟨_, rfl, rfl⟩, hS, fun _ _ => rfl⟩
    | 2, _ => exact stepV rfl rfl (execLenV (len := len) rfl (hv 1 (by omega) _ rfl _ rfl) (shp9 (FP.on hS))) ⟨s, ⟨_, rfl, rfl⟩, hS, fun _ _ => rfl⟩
    | 3, _ => exact stepV rfl rfl (By8.execSlH rfl (hv 0 (by omega) _ rfl _ rfl) (hv 2 (by omega) _ rfl _ rfl) (sl_h8 gi (len + 3) ci len hci X)) ⟨s, ⟨_, rfl, rfl⟩, hS, fun _ _ => rfl⟩
    | 4, _ => exact stepV rfl rfl (execMvB rfl ((hf 1 (by decide)).trans t1)) ⟨s, ⟨_, rfl, rfl⟩, hS, fun _ _ => rfl⟩
    | 5, _ =>
      refine stepC rfl rfl (execCall2 Try.func18 (by kernel_rfl) (by kernel_rfl) rfl (hv 3 (by omega) _ rfl _ rfl) (hv 4 (by omega) _ rfl _ rfl)) (SPL X _ (FN.on hS)) fun e w' hh => ?_
      obtain ⟨nv_, bv_, cv_, x_, he, hk, hb⟩ := hh
      refine ⟨_, he, (nv_, bv_, cv_, x_, s.2.2.2.2), ⟨_, rfl, rfl⟩, ⟨(hS).trans ((hb).mono (hS).size), hk.base (hS).size⟩, fun i hi => ?_⟩
      match i, hi with
      | 0, _ => rfl
      | 1, _ => rfl
      | 2, _ => rfl
      | 3, _ => rfl
      | 4, _ => rfl
      | n_ + 5, h_ => omega
    | 6, _ => exact stepV rfl rfl (execMvB rfl (hv 5 (by omega) _ rfl _ rfl)) ⟨s, ⟨_, rfl, rfl⟩, hS, fun _ _ => rfl⟩
    | 7, _ => exact stepV rfl rfl (execExtT rfl (hv 6 (by omega) _ rfl _ rfl) rfl) ⟨s, ⟨_, rfl, rfl⟩, hS, fun _ _ => rfl⟩
    | 8, _ => exact stepV rfl rfl (execExtT rfl (hv 6 (by omega) _ rfl _ rfl) rfl) ⟨s, ⟨_, rfl, rfl⟩, hS, fun _ _ => rfl⟩
    | 9, _ =>
      refine stepV rfl rfl (execAllPt rfl) ⟨(s.1, s.2.1, s.2.2.1, s.2.2.2.1, X.heap.size), ⟨_, rfl, rfl⟩, ⟨(hS.1).trans (((belNew X _)).mono (hS.1).size), (hS.2.on (belNew X _)), heapNew X _, (hS.1).size⟩, fun i hi => ?_⟩
      match i, hi with
      | 0, _ => rfl
      | 1, _ => rfl
      | 2, _ => rfl
      | 3, _ => rfl
      | 4, _ => rfl
      | 5, _ => rfl
      | 6, _ => rfl
      | 7, _ => rfl
      | 8, _ => rfl
      | n_ + 9, h_ => omega
    | 10, _ => exact stepS rfl rfl (execStPt rfl (hv 9 (by omega) _ rfl _ rfl) (hv 7 (by omega) _ rfl _ rfl) hS.2.2.1 rfl (pts_one hS.2.1)) ⟨s, ⟨_, rfl, rfl⟩, ⟨below4 hS.1 hS.2.2.2 _, (hS.2.1.set hS.2.2.1 (by decide) (by decide)), hS.2.2.2, setRow_heap _ _ _ _ _ _ hS.2.2.1⟩, fun _ _ => rfl⟩
    | 11, _ => exact stepV rfl rfl (execAsgB rfl (hv 8 (by omega) _ rfl _ rfl)) ⟨s, ⟨_, rfl, rfl⟩, hS, fun _ _ => rfl⟩
    | k_ + 12, h_ => exact absurd h_ (by simp)
  rintro ⟨na, ba, ca, xa, g8⟩ a X5 h1 h2 h3 h4 hS
  replace hS : Below X4.heap.size X4 X5 ∧ (PtS X5 X4.heap.size n na ba ca xa la lb lq f) ∧ (X4.heap.size ≤ g8) ∧ X5.heap[g8]? = some (.cells (ptC na ba ca) 49) := hS
  obtain ⟨bX, FPa, Fge8, F8⟩ := hS
  replace t0 := (h3 0 (by decide)).trans t0
  replace t1 := (h3 1 (by decide)).trans t1
  replace t5 := (h3 5 (by decide)).trans t5
  replace t6 := (h3 6 (by decide)).trans t6
  replace t7 := (h3 7 (by decide)).trans t7
  have t8 : a.eval (.tmp 8) = .pointer (some ⟨g8, 0, none⟩) := h4 9 _ rfl _ rfl
  have t9 : a.eval (.tmp 9) = .int .i64 ((E : Nat) : Int) := h4 11 _ rfl _ rfl
  replace FP := (FP.on bX)
  replace FI := (ownsRow_below FI bX)
  replace FN := (FN.on bX)
  replace FPw := (FPw.on bX)
  replace Fge6 := Fge6
  replace F6 := (on9 F6 bX)
  have ZX5 := bX.size
  replace BW := BW.trans (bX.mono BW.size)
  clear bX
  replace A := (⟨h1, h2.trans A.2⟩ : a.tmps.size = 121 ∧ a.defers = [])
  clear h1 h2 h3 h4
  have HA : ∀ t, t < 2 + n → ∀ k, (ptX na ba xa t).ownBlock = some k → k < X5.heap.size := fun t ht k hk => ((FPa.fam.rows t ht).lt k hk).2
  refine wp_seq ?_
  refine wp_region_sq (σ := Value × Value × Value × (Nat → Value) × Nat) 121 [(0, 38), (1, 39), (2, 40), (3, 41), (4, 42), (5, 43), (6, 37), (7, 44), (8, 45), (9, 10), (11, 11)] (fun j_ s X => match j_ with | 0 => Below X5.heap.size X5 X | 1 => Below X5.heap.size X5 X | 2 => Below X5.heap.size X5 X | 3 => Below X5.heap.size X5 X | 4 => Below X5.heap.size X5 X | 5 => Below X5.heap.size X5 X | 6 => Below X5.heap.size X5 X ∧ (PtS X X5.heap.size n s.1 s.2.1 s.2.2.1 s.2.2.2.1 la lb lq f) | 7 => Below X5.heap.size X5 X ∧ (PtS X X5.heap.size n s.1 s.2.1 s.2.2.1 s.2.2.2.1 la lb lq f) | 8 => Below X5.heap.size X5 X ∧ (PtS X X5.heap.size n s.1 s.2.1 s.2.2.1 s.2.2.2.1 la lb lq f) | 9 => Below X5.heap.size X5 X ∧ (PtS X X5.heap.size n s.1 s.2.1 s.2.2.1 s.2.2.2.1 la lb lq f) | 10 => Below X5.heap.size X5 X ∧ (PtS X X5.heap.size n s.1 s.2.1 s.2.2.1 s.2.2.2.1 la lb lq f) ∧ X.heap[s.2.2.2.2]? = some (.cells (ptC (.slice none 0 0) (.slice none 0 0) (.slice none 0 0)) 49) ∧ (X5.heap.size ≤ s.2.2.2.2) | 11 => Below X5.heap.size X5 X ∧ (PtS X X5.heap.size n s.1 s.2.1 s.2.2.1 s.2.2.2.1 la lb lq f) ∧ (X5.heap.size ≤ s.2.2.2.2) ∧ X.heap[s.2.2.2.2]? = some (.cells (ptC s.1 s.2.1 s.2.2.1) 49) | _ => Below X5.heap.size X5 X ∧ (PtS X X5.heap.size n s.1 s.2.1 s.2.2.1 s.2.2.2.1 la lb lq f) ∧ (X5.heap.size ≤ s.2.2.2.2) ∧ X.heap[s.2.2.2.2]? = some (.cells (ptC s.1 s.2.1 s.2.2.1) 49)) (fun s => fun i_ => match i_ with | 0 => .slice (some ⟨gi, 0, none⟩) (len + 3) ci | 1 => .slice ao len cap | 2 => .int .i64 ((len : Nat) : Int) | 3 => .slice (some ⟨gi, 0, none⟩) len ci | 4 => .int .i64 ch | 5 => .tuple #[.agg (ptC s.1 s.2.1 s.2.2.1), .int .i64 ((E : Nat) : Int)] | 6 => .tuple #[.agg (ptC s.1 s.2.1 s.2.2.1), .int .i64 ((E : Nat) : Int)] | 7 => .agg (ptC s.1 s.2.1 s.2.2.1) | 8 => .int .i64 ((E : Nat) : Int) | 9 => .pointer (some ⟨s.2.2.2.2, 0, none⟩) | 10 => undef | 11 => .int .i64 ((E : Nat) : Int) | _ => undef) (undef, undef, undef, fun _ => undef, 0) A.1 (by kernel_rfl) (by decide) (by decide) (Below.refl _ _) ?_ ?_
  · intro i_ hi_ s a X hf hv hn hS
    match i_, hi_ with
    | 0, _ => exact stepV rfl rfl (execMvB rfl ((hf 5 (by decide)).trans t5)) ⟨s, ⟨_, rfl, rfl⟩, hS, fun _ _ => rfl⟩
    | 1, _ => exact stepV rfl rfl (execMvB rfl ((hf 0 (by decide)).trans t0)) ⟨s, ⟨_, rfl, rfl⟩, hS, fun _ _ => rfl⟩
    | 2, _ => exact stepV rfl rfl (execLenV (len := len) rfl (hv 1 (by omega) _ rfl _ rfl) (shp9 (FP.on hS))) ⟨s, ⟨_, rfl, rfl⟩, hS, fun _ _ => rfl⟩
    | 3, _ => exact stepV rfl rfl (By8.execSlH rfl (hv 0 (by omega) _ rfl _ rfl) (hv 2 (by omega) _ rfl _ rfl) (sl_h8 gi (len + 3) ci len hci X)) ⟨s, ⟨_, rfl, rfl⟩, hS, fun _ _ => rfl⟩
    | 4, _ => exact stepV rfl rfl (execMvB rfl ((hf 1 (by decide)).trans t1)) ⟨s, ⟨_, rfl, rfl⟩, hS, fun _ _ => rfl⟩
    | 5, _ =>
      refine stepC rfl rfl (execCall2 Try.func18 (by kernel_rfl) (by kernel_rfl) rfl (hv 3 (by omega) _ rfl _ rfl) (hv 4 (by omega) _ rfl _ rfl)) (SPL X _ (FN.on hS)) fun e w' hh => ?_
      obtain ⟨nv_, bv_, cv_, x_, he, hk, hb⟩ := hh
      refine ⟨_, he, (nv_, bv_, cv_, x_, s.2.2.2.2), ⟨_, rfl, rfl⟩, ⟨(hS).trans ((hb).mono (hS).size), hk.base (hS).size⟩, fun i hi => ?_⟩
      match i, hi with
      | 0, _ => rfl
      | 1, _ => rfl
      | 2, _ => rfl
      | 3, _ => rfl
      | 4, _ => rfl
      | n_ + 5, h_ => omega
    | 6, _ => exact stepV rfl rfl (execMvB rfl (hv 5 (by omega) _ rfl _ rfl)) ⟨s, ⟨_, rfl, rfl⟩, hS, fun _ _ => rfl⟩
    | 7, _ => exact stepV rfl rfl (execExtT rfl (hv 6 (by omega) _ rfl _ rfl) rfl) ⟨s, ⟨_, rfl, rfl⟩, hS, fun _ _ => rfl⟩
    | 8, _ => exact stepV rfl rfl (execExtT rfl (hv 6 (by omega) _ rfl _ rfl) rfl) ⟨s, ⟨_, rfl, rfl⟩, hS, fun _ _ => rfl⟩
    | 9, _ =>
      refine stepV rfl rfl (execAllPt rfl) ⟨(s.1, s.2.1, s.2.2.1, s.2.2.2.1, X.heap.size), ⟨_, rfl, rfl⟩, ⟨(hS.1).trans (((belNew X _)).mono (hS.1).size), (hS.2.on (belNew X _)), heapNew X _, (hS.1).size⟩, fun i hi => ?_⟩
      match i, hi with
      | 0, _ => rfl
      | 1, _ => rfl
      | 2, _ => rfl
      | 3, _ => rfl
      | 4, _ => rfl
      | 5, _ => rfl
      | 6, _ => rfl
      | 7, _ => rfl
      | 8, _ => rfl
      | n_ + 9, h_ => omega
    | 10, _ => exact stepS rfl rfl (execStPt rfl (hv 9 (by omega) _ rfl _ rfl) (hv 7 (by omega) _ rfl _ rfl) hS.2.2.1 rfl (pts_one hS.2.1)) ⟨s, ⟨_, rfl, rfl⟩, ⟨below4 hS.1 hS.2.2.2 _, (hS.2.1.set hS.2.2.1 (by decide) (by decide)), hS.2.2.2, setRow_heap _ _ _ _ _ _ hS.2.2.1⟩, fun _ _ => rfl⟩
    | 11, _ => exact stepV rfl rfl (execAsgB rfl (hv 8 (by omega) _ rfl _ rfl)) ⟨s, ⟨_, rfl, rfl⟩, hS, fun _ _ => rfl⟩
    | k_ + 12, h_ => exact absurd h_ (by simp)
  rintro ⟨nb, bb, cb, xb, g10⟩ a X6 h1 h2 h3 h4 hS
  replace hS : Below X5.heap.size X5 X6 ∧ (PtS X6 X5.heap.size n nb bb cb xb la lb lq f) ∧ (X5.heap.size ≤ g10) ∧ X6.heap[g10]? = some (.cells (ptC nb bb cb) 49) := hS
  obtain ⟨bX, FPb, Fge10, F10⟩ := hS
  replace t0 := (h3 0 (by decide)).trans t0
  replace t1 := (h3 1 (by decide)).trans t1
  replace t5 := (h3 5 (by decide)).trans t5
  replace t6 := (h3 6 (by decide)).trans t6
  replace t7 := (h3 7 (by decide)).trans t7
  replace t8 := (h3 8 (by decide)).trans t8
  replace t9 := (h3 9 (by decide)).trans t9
  have t10 : a.eval (.tmp 10) = .pointer (some ⟨g10, 0, none⟩) := h4 9 _ rfl _ rfl
  have t11 : a.eval (.tmp 11) = .int .i64 ((E : Nat) : Int) := h4 11 _ rfl _ rfl
  replace FP := (FP.on bX)
  replace FI := (ownsRow_below FI bX)
  replace FN := (FN.on bX)
  replace FPw := (FPw.on bX)
  replace Fge6 := Fge6
  replace F6 := (on9 F6 bX)
  replace FPa := (FPa.on bX)
  replace Fge8 := Fge8
  replace F8 := (on9 F8 bX)
  have ZX6 := bX.size
  replace BW := BW.trans (bX.mono BW.size)
  clear bX
  replace A := (⟨h1, h2.trans A.2⟩ : a.tmps.size = 121 ∧ a.defers = [])
  clear h1 h2 h3 h4
  refine wp_seq ?_
  refine wp_seq ?_
  refine wp_region_sq (σ := Nat × Value × Nat × Value) 121 [(0, 46), (1, 47), (2, 48), (3, 49), (4, 50), (5, 51), (6, 52), (7, 53), (8, 54), (9, 55), (10, 56), (11, 57), (12, 58), (13, 59), (14, 60), (15, 61), (16, 62), (17, 63), (18, 64), (19, 65), (20, 66), (21, 67), (22, 68), (23, 69), (24, 70), (25, 71), (26, 72), (27, 73), (28, 74), (29, 75)] (fun j_ s X => match j_ with | 0 => Below X6.heap.size X6 X | 1 => Below X6.heap.size X6 X | 2 => Below X6.heap.size X6 X | 3 => Below X6.heap.size X6 X | 4 => Below X6.heap.size X6 X | 5 => Below X6.heap.size X6 X | 6 => Below X6.heap.size X6 X | 7 => Below X6.heap.size X6 X | 8 => Below X6.heap.size X6 X | 9 => Below X6.heap.size X6 X | 10 => Below X6.heap.size X6 X | 11 => Below X6.heap.size X6 X | 12 => Below X6.heap.size X6 X | 13 => Below X6.heap.size X6 X | 14 => Below X6.heap.size X6 X | 15 => Below X6.heap.size X6 X | 16 => Below X6.heap.size X6 X | 17 => Below X6.heap.size X6 X | 18 => Below X6.heap.size X6 X | 19 => Below X6.heap.size X6 X | 20 => Below X6.heap.size X6 X | 21 => Below X6.heap.size X6 X | 22 => Below X6.heap.size X6 X | 23 => Below X6.heap.size X6 X ∧ X.ownsRow (X6.heap.size) 5 1 (.slice (some ⟨s.1, 0, none⟩) 0 0) (0) (bytesL 0 (f789 f len)) | 24 => Below X6.heap.size X6 X ∧ X.ownsRow (X6.heap.size) 5 1 (.slice (some ⟨s.1, 0, none⟩) 0 0) (0) (bytesL 0 (f789 f len)) | 25 => Below X6.heap.size X6 X ∧ X.ownsRow (X6.heap.size) 5 1 s.2.1 (len) (bytesL (len) (f789 f len)) | 26 => Below X6.heap.size X6 X ∧ X.ownsRow (X6.heap.size) 5 1 s.2.1 (len) (bytesL (len) (f789 f len)) ∧ SliceN X (.slice (some ⟨s.2.2.1, 0, none⟩) 3 3) (3) (fun j => (f789 f len) (len + j)) | 27 => Below X6.heap.size X6 X ∧ X.ownsRow (X6.heap.size) 5 1 s.2.2.2 (len + 3) (bytesL (len + 3) (f789 f len)) | 28 => Below X6.heap.size X6 X ∧ X.ownsRow (X6.heap.size) 5 1 s.2.2.2 (len + 3) (bytesL (len + 3) (f789 f len)) | 29 => Below X6.heap.size X6 X ∧ X.ownsRow (X6.heap.size) 5 1 s.2.2.2 (len + 3) (bytesL (len + 3) (f789 f len)) | _ => Below X6.heap.size X6 X ∧ X.ownsRow (X6.heap.size) 5 1 s.2.2.2 (len + 3) (bytesL (len + 3) (f789 f len))) (fun s => fun i_ => match i_ with | 0 => .int .i64 ((E : Nat) : Int) | 1 => .int .i64 ((E : Nat) : Int) | 2 => .bool false | 3 => .bool false | 4 => .int .i64 ((E : Nat) : Int) | 5 => .int .i64 ((E : Nat) : Int) | 6 => .bool false | 7 => .bool false | 8 => .bool false | 9 => .agg (ptC na ba ca) | 10 => .agg (ptC nw bw cw) | 11 => .bool true | 12 => .bool false | 13 => .bool false | 14 => .bool false | 15 => .agg (ptC nb bb cb) | 16 => .agg (ptC nw bw cw) | 17 => .bool true | 18 => .bool false | 19 => .bool false | 20 => .bool false | 21 => .slice (some ⟨gi, 0, none⟩) (len + 3) ci | 22 => .slice (some ⟨s.1, 0, none⟩) 0 0 | 23 => .slice ao len cap | 24 => s.2.1 | 25 => .slice (some ⟨s.2.2.1, 0, none⟩) 3 3 | 26 => s.2.2.2 | 27 => .bool true | 28 => .bool false | 29 => .bool false | _ => undef) (0, undef, 0, undef) A.1 (by kernel_rfl) (by decide) (by decide) (Below.refl _ _) ?_ ?_
  · intro i_ hi_ s a X hf hv hn hS
    match i_, hi_ with
    | 0, _ => exact stepV rfl rfl (execMvB rfl ((hf 9 (by decide)).trans t9)) ⟨s, ⟨_, rfl, rfl⟩, hS, fun _ _ => rfl⟩
    | 1, _ => exact stepV rfl rfl (execMvB rfl ((hf 7 (by decide)).trans t7)) ⟨s, ⟨_, rfl, rfl⟩, hS, fun _ _ => rfl⟩
    | 2, _ => exact stepV rfl rfl (execDec (execNeN (p := E) (q := E) rfl (hv 0 (by omega) _ rfl _ rfl) (hv 1 (by omega) _ rfl _ rfl)) (decide_eq_false (by omega))) ⟨s, ⟨_, rfl, rfl⟩, hS, fun _ _ => rfl⟩
    | 3, _ => exact stepV rfl rfl (execMvB rfl (hv 2 (by omega) _ rfl _ rfl)) ⟨s, ⟨_, rfl, rfl⟩, hS, fun _ _ => rfl⟩
    | 4, _ => exact stepV rfl (wantedOf rfl (yieldedAt rfl rfl (show a.eval (.tmp 49) = .bool false from (hv 3 (by omega) _ rfl _ rfl)))) (execMvB rfl ((hf 11 (by decide)).trans t11)) ⟨s, ⟨_, rfl, rfl⟩, hS, fun _ _ => rfl⟩
    | 5, _ => exact stepV rfl (wantedOf rfl (yieldedAt rfl rfl (show a.eval (.tmp 49) = .bool false from (hv 3 (by omega) _ rfl _ rfl)))) (execMvB rfl ((hf 7 (by decide)).trans t7)) ⟨s, ⟨_, rfl, rfl⟩, hS, fun _ _ => rfl⟩
    | 6, _ => exact stepV rfl (wantedOf rfl (yieldedAt rfl rfl (show a.eval (.tmp 49) = .bool false from (hv 3 (by omega) _ rfl _ rfl)))) (execDec (execNeN (p := E) (q := E) rfl (hv 4 (by omega) _ rfl _ rfl) (hv 5 (by omega) _ rfl _ rfl)) (decide_eq_false (by omega))) ⟨s, ⟨_, rfl, rfl⟩, hS, fun _ _ => rfl⟩
    | 7, _ => exact stepV rfl rfl (execPickF rfl (hv 3 (by omega) _ rfl _ rfl) (hv 6 (by omega) _ rfl _ rfl)) ⟨s, ⟨_, rfl, rfl⟩, hS, fun _ _ => rfl⟩
    | 8, _ => exact stepV rfl rfl (execMvB rfl (hv 7 (by omega) _ rfl _ rfl)) ⟨s, ⟨_, rfl, rfl⟩, hS, fun _ _ => rfl⟩
    | 9, _ => exact stepV rfl (wantedOf rfl (yieldedAt rfl rfl (show a.eval (.tmp 54) = .bool false from (hv 8 (by omega) _ rfl _ rfl)))) (execLdPt rfl ((hf 8 (by decide)).trans t8) (on9 F8 hS)) ⟨s, ⟨_, rfl, rfl⟩, hS, fun _ _ => rfl⟩
    | 10, _ => exact stepV rfl (wantedOf rfl (yieldedAt rfl rfl (show a.eval (.tmp 54) = .bool false from (hv 8 (by omega) _ rfl _ rfl)))) (execLdPt rfl ((hf 6 (by decide)).trans t6) (on9 F6 hS)) ⟨s, ⟨_, rfl, rfl⟩, hS, fun _ _ => rfl⟩
    | 11, _ => exact stepC rfl (wantedOf rfl (yieldedAt rfl rfl (show a.eval (.tmp 54) = .bool false from (hv 8 (by omega) _ rfl _ rfl)))) (execCall2 Try.func19 (by kernel_rfl) (by kernel_rfl) rfl (hv 9 (by omega) _ rfl _ rfl) (hv 10 (by omega) _ rfl _ rfl)) (alike_pt (FPa.on hS) (FPw.on hS) hn64 hfb) fun e w' hh => ⟨_, hh.1, s, ⟨_, rfl, rfl⟩, (hS).trans ((hh.2).mono (hS).size), fun _ _ => rfl⟩
    | 12, _ => exact stepV rfl (wantedOf rfl (yieldedAt rfl rfl (show a.eval (.tmp 54) = .bool false from (hv 8 (by omega) _ rfl _ rfl)))) (execNot8 rfl (hv 11 (by omega) _ rfl _ rfl)) ⟨s, ⟨_, rfl, rfl⟩, hS, fun _ _ => rfl⟩
    | 13, _ => exact stepV rfl rfl (execPickF rfl (hv 8 (by omega) _ rfl _ rfl) (hv 12 (by omega) _ rfl _ rfl)) ⟨s, ⟨_, rfl, rfl⟩, hS, fun _ _ => rfl⟩
    | 14, _ => exact stepV rfl rfl (execMvB rfl (hv 13 (by omega) _ rfl _ rfl)) ⟨s, ⟨_, rfl, rfl⟩, hS, fun _ _ => rfl⟩
    | 15, _ => exact stepV rfl (wantedOf rfl (yieldedAt rfl rfl (show a.eval (.tmp 60) = .bool false from (hv 14 (by omega) _ rfl _ rfl)))) (execLdPt rfl ((hf 10 (by decide)).trans t10) (on9 F10 hS)) ⟨s, ⟨_, rfl, rfl⟩, hS, fun _ _ => rfl⟩
    | 16, _ => exact stepV rfl (wantedOf rfl (yieldedAt rfl rfl (show a.eval (.tmp 60) = .bool false from (hv 14 (by omega) _ rfl _ rfl)))) (execLdPt rfl ((hf 6 (by decide)).trans t6) (on9 F6 hS)) ⟨s, ⟨_, rfl, rfl⟩, hS, fun _ _ => rfl⟩
    | 17, _ => exact stepC rfl (wantedOf rfl (yieldedAt rfl rfl (show a.eval (.tmp 60) = .bool false from (hv 14 (by omega) _ rfl _ rfl)))) (execCall2 Try.func19 (by kernel_rfl) (by kernel_rfl) rfl (hv 15 (by omega) _ rfl _ rfl) (hv 16 (by omega) _ rfl _ rfl)) (alike_pt (FPb.on hS) (FPw.on hS) hn64 hfb) fun e w' hh => ⟨_, hh.1, s, ⟨_, rfl, rfl⟩, (hS).trans ((hh.2).mono (hS).size), fun _ _ => rfl⟩
    | 18, _ => exact stepV rfl (wantedOf rfl (yieldedAt rfl rfl (show a.eval (.tmp 60) = .bool false from (hv 14 (by omega) _ rfl _ rfl)))) (execNot8 rfl (hv 17 (by omega) _ rfl _ rfl)) ⟨s, ⟨_, rfl, rfl⟩, hS, fun _ _ => rfl⟩
    | 19, _ => exact stepV rfl rfl (execPickF rfl (hv 14 (by omega) _ rfl _ rfl) (hv 18 (by omega) _ rfl _ rfl)) ⟨s, ⟨_, rfl, rfl⟩, hS, fun _ _ => rfl⟩
    | 20, _ => exact stepV rfl rfl (execMvB rfl (hv 19 (by omega) _ rfl _ rfl)) ⟨s, ⟨_, rfl, rfl⟩, hS, fun _ _ => rfl⟩
    | 21, _ => exact stepV rfl (wantedOf rfl (yieldedAt rfl rfl (show a.eval (.tmp 66) = .bool false from (hv 20 (by omega) _ rfl _ rfl)))) (execMvB rfl ((hf 5 (by decide)).trans t5)) ⟨s, ⟨_, rfl, rfl⟩, hS, fun _ _ => rfl⟩
    | 22, _ =>
      refine stepV rfl (wantedOf rfl (yieldedAt rfl rfl (show a.eval (.tmp 66) = .bool false from (hv 20 (by omega) _ rfl _ rfl)))) (execBs0 rfl) ⟨(X.heap.size, s.2.1, s.2.2.1, s.2.2.2), ⟨_, rfl, rfl⟩, ⟨(hS).trans (((belNew X _)).mono (hS).size), own_base (own_none X _) (hS).size⟩, fun i hi => ?_⟩
      match i, hi with
      | 0, _ => rfl
      | 1, _ => rfl
      | 2, _ => rfl
      | 3, _ => rfl
      | 4, _ => rfl
      | 5, _ => rfl
      | 6, _ => rfl
      | 7, _ => rfl
      | 8, _ => rfl
      | 9, _ => rfl
      | 10, _ => rfl
      | 11, _ => rfl
      | 12, _ => rfl
      | 13, _ => rfl
      | 14, _ => rfl
      | 15, _ => rfl
      | 16, _ => rfl
      | 17, _ => rfl
      | 18, _ => rfl
      | 19, _ => rfl
      | 20, _ => rfl
      | 21, _ => rfl
      | n_ + 22, h_ => omega
    | 23, _ => exact stepV rfl (wantedOf rfl (yieldedAt rfl rfl (show a.eval (.tmp 66) = .bool false from (hv 20 (by omega) _ rfl _ rfl)))) (execMvB rfl ((hf 0 (by decide)).trans t0)) ⟨s, ⟨_, rfl, rfl⟩, hS, fun _ _ => rfl⟩
    | 24, _ =>
      refine stepAppN (n := 0) (p := (f789 f len)) rfl (wantedOf rfl (yieldedAt rfl rfl (show a.eval (.tmp 66) = .bool false from (hv 20 (by omega) _ rfl _ rfl)))) rfl (hv 22 (by omega) _ rfl _ rfl) (hv 23 (by omega) _ rfl _ rfl) hS.2 (sliceN_cg (FP.on hS.1) (fun j hj => by rw [Nat.zero_add, f789_lo hj])) hz (by omega) (hS.1).size fun v' W' own' gr => ⟨(s.1, v', s.2.2.1, s.2.2.2), ⟨_, rfl, rfl⟩, ⟨(hS.1).grown gr (hS.1).size (fun k hk => (hS.2.lt k hk).1), by rw [Nat.zero_add] at own'; exact own'⟩, fun i hi => ?_⟩
      match i, hi with
      | 0, _ => rfl
      | 1, _ => rfl
      | 2, _ => rfl
      | 3, _ => rfl
      | 4, _ => rfl
      | 5, _ => rfl
      | 6, _ => rfl
      | 7, _ => rfl
      | 8, _ => rfl
      | 9, _ => rfl
      | 10, _ => rfl
      | 11, _ => rfl
      | 12, _ => rfl
      | 13, _ => rfl
      | 14, _ => rfl
      | 15, _ => rfl
      | 16, _ => rfl
      | 17, _ => rfl
      | 18, _ => rfl
      | 19, _ => rfl
      | 20, _ => rfl
      | 21, _ => rfl
      | 22, _ => rfl
      | 23, _ => rfl
      | n_ + 24, h_ => omega
    | 25, _ =>
      refine stepV rfl (wantedOf rfl (yieldedAt rfl rfl (show a.eval (.tmp 66) = .bool false from (hv 20 (by omega) _ rfl _ rfl)))) (execBsV3 rfl rfl rfl rfl) ⟨(s.1, s.2.1, X.heap.size, s.2.2.2), ⟨_, rfl, rfl⟩, ⟨(hS.1).trans (((belNew X _)).mono (hS.1).size), (ownsRow_below hS.2 (belNew X _)), slice789 f len (heapNew X _)⟩, fun i hi => ?_⟩
      match i, hi with
      | 0, _ => rfl
      | 1, _ => rfl
      | 2, _ => rfl
      | 3, _ => rfl
      | 4, _ => rfl
      | 5, _ => rfl
      | 6, _ => rfl
      | 7, _ => rfl
      | 8, _ => rfl
      | 9, _ => rfl
      | 10, _ => rfl
      | 11, _ => rfl
      | 12, _ => rfl
      | 13, _ => rfl
      | 14, _ => rfl
      | 15, _ => rfl
      | 16, _ => rfl
      | 17, _ => rfl
      | 18, _ => rfl
      | 19, _ => rfl
      | 20, _ => rfl
      | 21, _ => rfl
      | 22, _ => rfl
      | 23, _ => rfl
      | 24, _ => rfl
      | n_ + 25, h_ => omega
    | 26, _ =>
      refine stepAppN (n := len) (p := (f789 f len)) rfl (wantedOf rfl (yieldedAt rfl rfl (show a.eval (.tmp 66) = .bool false from (hv 20 (by omega) _ rfl _ rfl)))) rfl (hv 24 (by omega) _ rfl _ rfl) (hv 25 (by omega) _ rfl _ rfl) hS.2.1 (hS.2.2) (fun l c e => by cases e) (by omega) (hS.1).size fun v' W' own' gr => ⟨(s.1, s.2.1, s.2.2.1, v'), ⟨_, rfl, rfl⟩, ⟨(hS.1).grown gr (hS.1).size (fun k hk => (hS.2.1.lt k hk).1), own'⟩, fun i hi => ?_⟩
      match i, hi with
      | 0, _ => rfl
      | 1, _ => rfl
      | 2, _ => rfl
      | 3, _ => rfl
      | 4, _ => rfl
      | 5, _ => rfl
      | 6, _ => rfl
      | 7, _ => rfl
      | 8, _ => rfl
      | 9, _ => rfl
      | 10, _ => rfl
      | 11, _ => rfl
      | 12, _ => rfl
      | 13, _ => rfl
      | 14, _ => rfl
      | 15, _ => rfl
      | 16, _ => rfl
      | 17, _ => rfl
      | 18, _ => rfl
      | 19, _ => rfl
      | 20, _ => rfl
      | 21, _ => rfl
      | 22, _ => rfl
      | 23, _ => rfl
      | 24, _ => rfl
      | 25, _ => rfl
      | n_ + 26, h_ => omega
    | 27, _ => exact stepC rfl (wantedOf rfl (yieldedAt rfl rfl (show a.eval (.tmp 66) = .bool false from (hv 20 (by omega) _ rfl _ rfl)))) (execCall2 Try.func10 (by kernel_rfl) (by kernel_rfl) rfl (hv 21 (by omega) _ rfl _ rfl) (hv 26 (by omega) _ rfl _ rfl)) (same_true _ _ (len + 3) _ _ X (own_sl (ownsRow_below FI hS.1) hF) (own_sl hS.2 hF) (by intro j hj; rfl)) fun e w' hh => ⟨_, hh.1, s, ⟨_, rfl, rfl⟩, by rw [hh.2]; exact hS, fun _ _ => rfl⟩
    | 28, _ => exact stepV rfl (wantedOf rfl (yieldedAt rfl rfl (show a.eval (.tmp 66) = .bool false from (hv 20 (by omega) _ rfl _ rfl)))) (execNot8 rfl (hv 27 (by omega) _ rfl _ rfl)) ⟨s, ⟨_, rfl, rfl⟩, hS, fun _ _ => rfl⟩
    | 29, _ => exact stepV rfl rfl (execPickF rfl (hv 20 (by omega) _ rfl _ rfl) (hv 28 (by omega) _ rfl _ rfl)) ⟨s, ⟨_, rfl, rfl⟩, hS, fun _ _ => rfl⟩
    | k_ + 30, h_ => exact absurd h_ (by simp)
  rintro ⟨g68, v70, g71, v72⟩ a X7 h1 h2 h3 h4 hS
  replace hS : Below X6.heap.size X6 X7 ∧ X7.ownsRow (X6.heap.size) 5 1 v72 (len + 3) (bytesL (len + 3) (f789 f len)) := hS
  obtain ⟨bX, Fv72⟩ := hS
  replace t0 := (h3 0 (by decide)).trans t0
  replace t1 := (h3 1 (by decide)).trans t1
  replace t5 := (h3 5 (by decide)).trans t5
  replace t6 := (h3 6 (by decide)).trans t6
  replace t7 := (h3 7 (by decide)).trans t7
  replace t8 := (h3 8 (by decide)).trans t8
  replace t10 := (h3 10 (by decide)).trans t10
  have t75 : a.eval (.tmp 75) = .bool false := h4 29 _ rfl _ rfl
  replace FP := (FP.on bX)
  replace FI := (ownsRow_below FI bX)
  replace FN := (FN.on bX)
  replace FPw := (FPw.on bX)
  replace Fge6 := Fge6
  replace F6 := (on9 F6 bX)
  replace FPa := (FPa.on bX)
  replace Fge8 := Fge8
  replace F8 := (on9 F8 bX)
  replace FPb := (FPb.on bX)
  replace Fge10 := Fge10
  replace F10 := (on9 F10 bX)
  have ZX7 := bX.size
  replace BW := BW.trans (bX.mono BW.size)
  clear bX
  replace A := (⟨h1, h2.trans A.2⟩ : a.tmps.size = 121 ∧ a.defers = [])
  clear h1 h2 h3 h4
  clear t9 t11
  refine wp_cond_false t75 ?_
  refine wp_skip ?_
  clear t75
  clear Fv72
  refine wp_seq ?_
  refine wp_seq ?_
  refine wp_region_sq (σ := Unit) 121 [(0, 76), (1, 77), (2, 78)] (fun j_ s X => match j_ with | 0 => Below X7.heap.size X7 X | 1 => Below X7.heap.size X7 X | 2 => Below X7.heap.size X7 X | _ => Below X7.heap.size X7 X) (fun s => fun i_ => match i_ with | 0 => .slice (some ⟨gi, 0, none⟩) (len + 3) ci | 1 => .int .i64 (((len + 3) : Nat) : Int) | 2 => .int .i64 ((0 : Nat) : Int) | _ => undef) () A.1 (by kernel_rfl) (by decide) (by decide) (Below.refl _ _) ?_ ?_
  · intro i_ hi_ s a X hf hv hn hS
    match i_, hi_ with
    | 0, _ => exact stepV rfl rfl (execMvB rfl ((hf 5 (by decide)).trans t5)) ⟨s, ⟨_, rfl, rfl⟩, hS, fun _ _ => rfl⟩
    | 1, _ => exact stepV rfl rfl (execLenV (len := (len + 3)) rfl (hv 0 (by omega) _ rfl _ rfl) ⟨_, _, rfl⟩) ⟨s, ⟨_, rfl, rfl⟩, hS, fun _ _ => rfl⟩
    | 2, _ => exact stepV rfl rfl (execMvB rfl rfl) ⟨s, ⟨_, rfl, rfl⟩, hS, fun _ _ => rfl⟩
    | k_ + 3, h_ => exact absurd h_ (by simp)
  rintro _ a X9 h1 h2 h3 h4 hS
  replace hS : Below X7.heap.size X7 X9 := hS
  have bX := hS
  clear hS
  replace t0 := (h3 0 (by decide)).trans t0
  replace t1 := (h3 1 (by decide)).trans t1
  replace t5 := (h3 5 (by decide)).trans t5
  replace t6 := (h3 6 (by decide)).trans t6
  replace t7 := (h3 7 (by decide)).trans t7
  replace t8 := (h3 8 (by decide)).trans t8
  replace t10 := (h3 10 (by decide)).trans t10
  have t77 : a.eval (.tmp 77) = .int .i64 (((len + 3) : Nat) : Int) := h4 1 _ rfl _ rfl
  have t78 : a.eval (.tmp 78) = .int .i64 ((0 : Nat) : Int) := h4 2 _ rfl _ rfl
  replace FP := (FP.on bX)
  replace FI := (ownsRow_below FI bX)
  replace FN := (FN.on bX)
  replace FPw := (FPw.on bX)
  replace Fge6 := Fge6
  replace F6 := (on9 F6 bX)
  replace FPa := (FPa.on bX)
  replace Fge8 := Fge8
  replace F8 := (on9 F8 bX)
  replace FPb := (FPb.on bX)
  replace Fge10 := Fge10
  replace F10 := (on9 F10 bX)
  have ZX9 := bX.size
  replace BW := BW.trans (bX.mono BW.size)
  clear bX
  replace A := (⟨h1, h2.trans A.2⟩ : a.tmps.size = 121 ∧ a.defers = [])
  clear h1 h2 h3 h4
  have FB := byr_own FI hF
  have FXs : Saved (fun k => k = gi) X9 X9 := Saved.refl _ _
  have BB := BW
  refine wp_block ?_
  refine wp_loop (fun a W => ∃ (i : Nat), i ≤ len + 3 ∧ ((a.tmps.size = 121 ∧ a.defers = []) ∧ a.eval (.tmp 0) = .slice ao len cap ∧ a.eval (.tmp 1) = .int .i64 ch ∧ a.eval (.tmp 5) = .slice (some ⟨gi, 0, none⟩) (len + 3) ci ∧ a.eval (.tmp 6) = .pointer (some ⟨g6, 0, none⟩) ∧ a.eval (.tmp 7) = .int .i64 ((E : Nat) : Int) ∧ a.eval (.tmp 8) = .pointer (some ⟨g8, 0, none⟩) ∧ a.eval (.tmp 10) = .pointer (some ⟨g10, 0, none⟩) ∧ a.eval (.tmp 77) = .int .i64 (((len + 3) : Nat) : Int) ∧ a.eval (.tmp 78) = .int .i64 ((i : Nat) : Int) ∧ Below V.heap.size V W ∧ ByR W gi ci (len + 3) ∧ Saved (fun k => k = gi) X9 W)) (fun a _ => len + 3 - (intOf (a.eval (.tmp 78))).toNat) ⟨0, by omega, A, t0, t1, t5, t6, t7, t8, t10, t77, t78, BB, FB, FXs⟩ ?_
  clear A t0 t1 t5 t6 t7 t8 t10 t77 t78 BB FB FXs a
  rintro a XL ⟨i, hi, A, t0, t1, t5, t6, t7, t8, t10, t77, t78, BB, FB, FXs⟩
  have e78 := t78
  refine wp_seq ?_
  refine wp_region_sq (σ := Unit) 121 [(0, 79)] (fun j_ s X => match j_ with | 0 => Below V.heap.size V X ∧ (ByR X gi ci (len + 3)) ∧ (Saved (fun k => k = gi) X9 X) | _ => Below V.heap.size V X ∧ (ByR X gi ci (len + 3)) ∧ (Saved (fun k => k = gi) X9 X)) (fun s => fun i_ => match i_ with | 0 => .bool (decide (i < (len + 3))) | _ => undef) () A.1 (by kernel_rfl) (by decide) (by decide) ⟨BB, FB, FXs⟩ ?_ ?_
  · intro i_ hi_ s a X hf hv hn hS
    match i_, hi_ with
    | 0, _ => exact stepV rfl rfl (execLtW (p := i) (q := (len + 3)) rfl ((hf 78 (by decide)).trans t78) ((hf 77 (by decide)).trans t77)) ⟨s, ⟨_, rfl, rfl⟩, hS, fun _ _ => rfl⟩
    | k_ + 1, h_ => exact absurd h_ (by simp)
  rintro _ a X10 h1 h2 h3 h4 hS
  clear BB
  clear FB
  clear FXs
  replace hS : Below V.heap.size V X10 ∧ (ByR X10 gi ci (len + 3)) ∧ (Saved (fun k => k = gi) X9 X10) := hS
  obtain ⟨BB, FB, FXs⟩ := hS
  replace t0 := (h3 0 (by decide)).trans t0
  replace t1 := (h3 1 (by decide)).trans t1
  replace t5 := (h3 5 (by decide)).trans t5
  replace t6 := (h3 6 (by decide)).trans t6
  replace t7 := (h3 7 (by decide)).trans t7
  replace t8 := (h3 8 (by decide)).trans t8
  replace t10 := (h3 10 (by decide)).trans t10
  replace t77 := (h3 77 (by decide)).trans t77
  replace t78 := (h3 78 (by decide)).trans t78
  have t79 : a.eval (.tmp 79) = .bool (decide (i < (len + 3))) := h4 0 _ rfl _ rfl
  replace A := (⟨h1, h2.trans A.2⟩ : a.tmps.size = 121 ∧ a.defers = [])
  clear h1 h2 h3 h4
  refine wp_seq ?_
  by_cases hlt : i < len + 3
  · rw [decide_eq_true hlt] at t79
    refine wp_cond_true t79 ?_
    refine wp_skip ?_
    clear t79
    refine wp_seq ?_
    refine wp_block ?_
    refine wp_seq ?_
    refine wp_region_sq (σ := Unit) 121 [(0, 80), (1, 12)] (fun j_ s X => match j_ with | 0 => Below V.heap.size V X ∧ (ByR X gi ci (len + 3)) ∧ (Saved (fun k => k = gi) X9 X) | 1 => Below V.heap.size V X ∧ (ByR X gi ci (len + 3)) ∧ (Saved (fun k => k = gi) X9 X) | _ => Below V.heap.size V X ∧ (ByR X gi ci (len + 3)) ∧ (Saved (fun k => k = gi) X9 X)) (fun s => fun i_ => match i_ with | 0 => .int .i64 ((i : Nat) : Int) | 1 => .int .i64 ((i : Nat) : Int) | _ => undef) () A.1 (by kernel_rfl) (by decide) (by decide) ⟨BB, FB, FXs⟩ ?_ ?_
    · intro i_ hi_ s a X hf hv hn hS
      match i_, hi_ with
      | 0, _ => exact stepV rfl rfl (execMvB rfl ((hf 78 (by decide)).trans t78)) ⟨s, ⟨_, rfl, rfl⟩, hS, fun _ _ => rfl⟩
      | 1, _ => exact stepV rfl rfl (execAsgB rfl (hv 0 (by omega) _ rfl _ rfl)) ⟨s, ⟨_, rfl, rfl⟩, hS, fun _ _ => rfl⟩
      | k_ + 2, h_ => exact absurd h_ (by simp)
    rintro _ a X11 h1 h2 h3 h4 hS
    clear BB
    clear FB
    clear FXs
    replace hS : Below V.heap.size V X11 ∧ (ByR X11 gi ci (len + 3)) ∧ (Saved (fun k => k = gi) X9 X11) := hS
    obtain ⟨BB, FB, FXs⟩ := hS
    replace t0 := (h3 0 (by decide)).trans t0
    replace t1 := (h3 1 (by decide)).trans t1
    replace t5 := (h3 5 (by decide)).trans t5
    replace t6 := (h3 6 (by decide)).trans t6
    replace t7 := (h3 7 (by decide)).trans t7
    replace t8 := (h3 8 (by decide)).trans t8
    replace t10 := (h3 10 (by decide)).trans t10
    replace t77 := (h3 77 (by decide)).trans t77
    replace t78 := (h3 78 (by decide)).trans t78
    have t12 : a.eval (.tmp 12) = .int .i64 ((i : Nat) : Int) := h4 1 _ rfl _ rfl
    replace A := (⟨h1, h2.trans A.2⟩ : a.tmps.size = 121 ∧ a.defers = [])
    clear h1 h2 h3 h4
    refine wp_region_sq (σ := Nat) 121 [(0, 81), (1, 82), (2, 83), (3, 84), (4, 85), (5, 86)] (fun j_ s X => match j_ with | 0 => Below V.heap.size V X ∧ (ByR X gi ci (len + 3)) ∧ (Saved (fun k => k = gi) X9 X) | 1 => Below V.heap.size V X ∧ (ByR X gi ci (len + 3)) ∧ (Saved (fun k => k = gi) X9 X) | 2 => Below V.heap.size V X ∧ (ByR X gi ci (len + 3)) ∧ (Saved (fun k => k = gi) X9 X) | 3 => Below V.heap.size V X ∧ (ByR X gi ci (len + 3)) ∧ (Saved (fun k => k = gi) X9 X) | 4 => Below V.heap.size V X ∧ (ByR X gi ci (len + 3)) ∧ (Saved (fun k => k = gi) X9 X) ∧ (s < 256) | 5 => Below V.heap.size V X ∧ (ByR X gi ci (len + 3)) ∧ (Saved (fun k => k = gi) X9 X) ∧ (s < 256) | 6 => Below V.heap.size V X ∧ (ByR X gi ci (len + 3)) ∧ (Saved (fun k => k = gi) X9 X) ∧ (s < 256) | _ => Below V.heap.size V X ∧ (ByR X gi ci (len + 3)) ∧ (Saved (fun k => k = gi) X9 X)) (fun s => fun i_ => match i_ with | 0 => .slice (some ⟨gi, 0, none⟩) (len + 3) ci | 1 => .int .i64 ((i : Nat) : Int) | 2 => .pointer (some ⟨gi, i, none⟩) | 3 => .int .u8 ((s : Nat) : Int) | 4 => .int .u8 ((s ^^^ 255 : Nat) : Int) | 5 => .pointer (some ⟨gi, i, none⟩) | 6 => undef | _ => undef) 0 A.1 (by kernel_rfl) (by decide) (by decide) ⟨BB, FB, FXs⟩ ?_ ?_
    · intro i_ hi_ s a X hf hv hn hS
      match i_, hi_ with
      | 0, _ => exact stepV rfl rfl (execMvB rfl ((hf 5 (by decide)).trans t5)) ⟨s, ⟨_, rfl, rfl⟩, hS, fun _ _ => rfl⟩
      | 1, _ => exact stepV rfl rfl (execMvB rfl ((hf 12 (by decide)).trans t12)) ⟨s, ⟨_, rfl, rfl⟩, hS, fun _ _ => rfl⟩
      | 2, _ => exact stepV rfl rfl (execIdxS0 (k := i) rfl (hv 0 (by omega) _ rfl _ rfl) (hv 1 (by omega) _ rfl _ rfl) hlt) ⟨s, ⟨_, rfl, rfl⟩, hS, fun _ _ => rfl⟩
      | 3, _ =>
        obtain ⟨z_, hz_, hc_, hf_⟩ := hS.2.1.cell hlt
        refine stepV rfl rfl (execLdB rfl (hv 2 (by omega) _ rfl _ rfl) hc_) ⟨z_, ⟨_, rfl, rfl⟩, ⟨hS.1, hS.2.1, hS.2.2, hz_⟩, fun i hi => ?_⟩
        match i, hi with
        | 0, _ => rfl
        | 1, _ => rfl
        | 2, _ => rfl
        | n_ + 3, h_ => omega
      | 4, _ => exact stepV rfl rfl (execXor5 rfl (hv 3 (by omega) _ rfl _ rfl) rfl hS.2.2.2 (by decide)) ⟨s, ⟨_, rfl, rfl⟩, hS, fun _ _ => rfl⟩
      | 5, _ => exact stepV rfl rfl (execIdxS0 (k := i) rfl (hv 0 (by omega) _ rfl _ rfl) (hv 1 (by omega) _ rfl _ rfl) hlt) ⟨s, ⟨_, rfl, rfl⟩, hS, fun _ _ => rfl⟩
      | 6, _ =>
        obtain ⟨z_, hz_, hc_, hf_⟩ := hS.2.1.cell hlt
        refine stepS rfl rfl (execStB9 rfl (hv 5 (by omega) _ rfl _ rfl) (hv 4 (by omega) _ rfl _ rfl) hc_ hf_) ⟨s, ⟨_, rfl, rfl⟩, ⟨(hS.1).setCell hgV2 _, hS.2.1.set _ (Nat.xor_lt_two_pow (n := 8) hS.2.2.2 (by decide)), hS.2.2.1.cell _ (Or.inr rfl)⟩, fun i hi => ?_⟩
        match i, hi with
        | 0, _ => rfl
        | 1, _ => rfl
        | 2, _ => rfl
        | 3, _ => rfl
        | 4, _ => rfl
        | 5, _ => rfl
        | n_ + 6, h_ => omega
      | k_ + 7, h_ => exact absurd h_ (by simp)
    rintro z a X12 h1 h2 h3 h4 hS
    clear BB
    clear FB
    clear FXs
    replace hS : Below V.heap.size V X12 ∧ (ByR X12 gi ci (len + 3)) ∧ (Saved (fun k => k = gi) X9 X12) := hS
    obtain ⟨BB, FB2, FS2⟩ := hS
    replace t0 := (h3 0 (by decide)).trans t0
    replace t1 := (h3 1 (by decide)).trans t1
    replace t5 := (h3 5 (by decide)).trans t5
    replace t6 := (h3 6 (by decide)).trans t6
    replace t7 := (h3 7 (by decide)).trans t7
    replace t8 := (h3 8 (by decide)).trans t8
    replace t10 := (h3 10 (by decide)).trans t10
    replace t77 := (h3 77 (by decide)).trans t77
    replace t78 := (h3 78 (by decide)).trans t78
    replace A := (⟨h1, h2.trans A.2⟩ : a.tmps.size = 121 ∧ a.defers = [])
    clear h1 h2 h3 h4
    clear t12
    refine wp_region_sq (σ := Unit) 121 [(0, 87), (1, 78)] (fun j_ s X => match j_ with | 0 => Below V.heap.size V X ∧ (ByR X gi ci (len + 3)) ∧ (Saved (fun k => k = gi) X9 X) | 1 => Below V.heap.size V X ∧ (ByR X gi ci (len + 3)) ∧ (Saved (fun k => k = gi) X9 X) | _ => Below V.heap.size V X ∧ (ByR X gi ci (len + 3)) ∧ (Saved (fun k => k = gi) X9 X)) (fun s => fun i_ => match i_ with | 0 => .int .i64 ((i + 1 : Nat) : Int) | 1 => .int .i64 ((i + 1 : Nat) : Int) | _ => undef) () A.1 (by kernel_rfl) (by decide) (by decide) ⟨BB, FB2, FS2⟩ ?_ ?_
    · intro i_ hi_ s a X hf hv hn hS
      match i_, hi_ with
      | 0, _ => exact stepV rfl rfl (execAd8 (p := i) (q := 1) rfl ((hn 1 (by omega) _ rfl _ rfl).trans t78) rfl (by omega)) ⟨s, ⟨_, rfl, rfl⟩, hS, fun _ _ => rfl⟩
      | 1, _ => exact stepV rfl rfl (execMvB rfl (hv 0 (by omega) _ rfl _ rfl)) ⟨s, ⟨_, rfl, rfl⟩, hS, fun _ _ => rfl⟩
      | k_ + 2, h_ => exact absurd h_ (by simp)
    rintro _ a X13 h1 h2 h3 h4 hS
    clear BB
    clear FB2
    clear FS2
    replace hS : Below V.heap.size V X13 ∧ (ByR X13 gi ci (len + 3)) ∧ (Saved (fun k => k = gi) X9 X13) := hS
    obtain ⟨BB, FB2, FS2⟩ := hS
    replace t0 := (h3 0 (by decide)).trans t0
    replace t1 := (h3 1 (by decide)).trans t1
    replace t5 := (h3 5 (by decide)).trans t5
    replace t6 := (h3 6 (by decide)).trans t6
    replace t7 := (h3 7 (by decide)).trans t7
    replace t8 := (h3 8 (by decide)).trans t8
    replace t10 := (h3 10 (by decide)).trans t10
    replace t77 := (h3 77 (by decide)).trans t77
    replace t78 : a.eval (.tmp 78) = .int .i64 ((i + 1 : Nat) : Int) := h4 1 _ rfl _ rfl
    replace A := (⟨h1, h2.trans A.2⟩ : a.tmps.size = 121 ∧ a.defers = [])
    clear h1 h2 h3 h4
    exact ⟨⟨i + 1, hlt, A, t0, t1, t5, t6, t7, t8, t10, t77, t78, BB, FB2, FS2⟩, by show len + 3 - (intOf (a.eval (.tmp 78))).toNat < len + 3 - (intOf (Act.eval _ (.tmp 78))).toNat; rw [t78, e78]; show len + 3 - (i + 1) < len + 3 - i; omega⟩
  · rw [decide_eq_false hlt] at t79
    refine wp_cond_false t79 ?_
    refine wp_exit ?_
    first | refine exit_in ?_ | refine exit_then (exit_in ?_) | refine exit_then (exit_then (exit_in ?_))
    clear t79 t78 t77 e78 t5
    obtain ⟨cI, hI⟩ := own_heap FI rfl
    replace F6 := heap_saved F6 FXs (ne_ty F6 hI (by decide))
    replace F8 := heap_saved F8 FXs (ne_ty F8 hI (by decide))
    replace F10 := heap_saved F10 FXs (ne_ty F10 hI (by decide))
    replace FPw := FPw.saved FXs (fun k hk => by obtain ⟨c_, hc_⟩ := own_heap FPw.own hk; exact ne_ty hc_ hI (by decide)) (fun t ht k hk => by have := ((FPw.fam.rows t ht).lt k hk).1; omega)
    replace FPa := FPa.saved FXs (fun k hk => by obtain ⟨c_, hc_⟩ := own_heap FPa.own hk; exact ne_ty hc_ hI (by decide)) (fun t ht k hk => by have := ((FPa.fam.rows t ht).lt k hk).1; omega)
    replace FPb := FPb.saved FXs (fun k hk => by obtain ⟨c_, hc_⟩ := own_heap FPb.own hk; exact ne_ty hc_ hI (by decide)) (fun t ht k hk => by have := ((FPb.fam.rows t ht).lt k hk).1; omega)
    have ZS := FXs.size
    clear FXs FB FI FN hI
    have ZW := BB.size
    replace FP := hv.on BB
    have ZA : X4.heap.size ≤ X10.heap.size := by have := BB.size; exact Nat.le_trans ZX5 (Nat.le_trans ZX6 (Nat.le_trans ZX7 (Nat.le_trans ZX9 ZS)))
    have ln_le : ∀ t, t < 2 + n + (2 + n) → (if t < 2 + n then ptN la lb lq t else ptN la lb lq (t - (2 + n))) ≤ 140737488351232 := fun t ht => by
      have : ∀ s, s < 2 + n → ptN la lb lq s ≤ 140737488351232 := fun s hs => by
        unfold ptN
        by_cases e0 : s = 0
        · rw [if_pos e0]; omega
        · by_cases e1 : s = 1
          · rw [if_neg e0, if_pos e1]; omega
          · rw [if_neg e0, if_neg e1]
            have h1 : 0 < n := by omega
            have : 1 * lq ≤ n * lq := Nat.mul_le_mul_right _ h1
            omega
      by_cases e : t < 2 + n
      · rw [if_pos e]; exact this t e
      · rw [if_neg e]; exact this _ (by omega)
    have X45 := ZX5
    have ZV4 := Nat.le_trans ZX1 (Nat.le_trans ZX3 ZX4)
    have FW : Below X10.heap.size X10 X10 := Below.refl _ _
    refine wp_seq ?_
    refine wp_seq ?_
    refine wp_region_stB (σ := Nat × Nat × Nat × Nat × Nat × Nat) 121 [(0, 88), (1, 89), (2, 90), (3, 91), (4, 92), (5, 93), (6, 94), (7, 95), (8, 96), (9, 97), (10, 98), (11, 99), (12, 100), (13, 101), (14, 102), (15, 103), (16, 104), (17, 105), (18, 106)] (fun l_ s X => Below V.heap.size V X ∧ (l_ 16 = false → (Below X10.heap.size X10 X)) ∧ (l_ 12 = true → l_ 15 = false → (X.ownsRow X10.heap.size 27 1 (.slice (some ⟨s.1, 0, none⟩) (2 + n) s.2.1) (2 + n) (lL (ptX na ba xa) (2 + n)))) ∧ (l_ 14 = true → l_ 15 = false → (X.ownsRow X10.heap.size 27 1 (.slice (some ⟨s.2.2.1, 0, none⟩) (2 + n) s.2.2.2.1) (2 + n) (lL (ptX nb bb xb) (2 + n)))) ∧ (l_ 15 = true → l_ 16 = false → (X.ownsRow X10.heap.size 27 1 (.slice (some ⟨s.2.2.2.2.1, 0, none⟩) (2 + n + (2 + n)) s.2.2.2.2.2) (2 + n + (2 + n)) (lL (fun t => if t < 2 + n then (ptX na ba xa) t else (ptX nb bb xb) (t - (2 + n))) (2 + n + (2 + n))))) ∧ (l_ 16 = true → X.heap[g6]? = some (.cells (ptC nw bw cw) 49)) ∧ (l_ 16 = true → (PtS X X3.heap.size n nw bw cw xw la lb lq f))) (fun s => fun i_ => match i_ with | 0 => .agg (ptC na ba ca) | 1 => .agg (ptC nw bw cw) | 2 => .bool true | 3 => .bool false | 4 => .bool false | 5 => .agg (ptC nb bb cb) | 6 => .agg (ptC nw bw cw) | 7 => .bool true | 8 => .bool false | 9 => .bool false | 10 => .bool false | 11 => .agg (ptC na ba ca) | 12 => .slice (some ⟨s.1, 0, none⟩) (2 + n) s.2.1 | 13 => .agg (ptC nb bb cb) | 14 => .slice (some ⟨s.2.2.1, 0, none⟩) (2 + n) s.2.2.2.1 | 15 => .slice (some ⟨s.2.2.2.2.1, 0, none⟩) (2 + n + (2 + n)) s.2.2.2.2.2 | 16 => .bool true | 17 => .bool false | 18 => .bool false | _ => undef) (0, 0, 0, 0, 0, 0) (by kernel_rfl) (by kernel_rfl) A.1 (by kernel_rfl) (by decide) (by decide) ⟨(BB.drew), (fun _ => (FW.trans ((Below.refl _ _).drew.mono FW.size))), (fun q0_ q1_ => by cases q0_), (fun q0_ q1_ => by cases q0_), (fun q0_ q1_ => by cases q0_), (fun q0_ => by cases q0_), (fun q0_ => by cases q0_)⟩ ?_ ?_
    · intro i_ hi_ l_ s a X hl_ hf hdep hl2 hcl hno hT
      have up : ∀ j x, x ≠ j → updB l_ j x = l_ x := fun j x hj => by unfold updB; simp [hj]
      match i_, hi_ with
      | 0, _ => exact stepV rfl rfl (execLdPt rfl ((hf 8 (by decide)).trans t8) (on9 F8 (hT.2.1 (by cases hq_ : l_ 16 with | false => rfl | true => exact absurd (hl_.symm.trans (hcl 2 _ rfl (hcl 4 _ rfl (hcl 7 _ rfl (hcl 10 _ rfl (hcl 16 _ rfl hq_ 10 rfl) 7 rfl) 4 rfl) 2 rfl) 0 rfl)) (by decide))))) ⟨s, ⟨_, rfl, rfl⟩, ⟨hT.1, (fun q0_ => (hT.2.1 (by rw [up 0 16 (by decide)] at q0_; exact q0_))), (fun q0_ q1_ => absurd (hl_.symm.trans (hcl 2 _ rfl (hcl 4 _ rfl (hcl 7 _ rfl (hcl 10 _ rfl (hcl 12 _ rfl ((up 0 12 (by decide)).symm.trans q0_) 10 rfl) 7 rfl) 4 rfl) 2 rfl) 0 rfl)) (by decide)), (fun q0_ q1_ => absurd (hl_.symm.trans (hcl 2 _ rfl (hcl 4 _ rfl (hcl 7 _ rfl (hcl 10 _ rfl (hcl 14 _ rfl ((up 0 14 (by decide)).symm.trans q0_) 10 rfl) 7 rfl) 4 rfl) 2 rfl) 0 rfl)) (by decide)), (fun q0_ q1_ => absurd (hl_.symm.trans (hcl 2 _ rfl (hcl 4 _ rfl (hcl 7 _ rfl (hcl 10 _ rfl (hcl 15 _ rfl ((up 0 15 (by decide)).symm.trans q0_) 10 rfl) 7 rfl) 4 rfl) 2 rfl) 0 rfl)) (by decide)), (fun q0_ => absurd (hl_.symm.trans (hcl 2 _ rfl (hcl 4 _ rfl (hcl 7 _ rfl (hcl 10 _ rfl (hcl 16 _ rfl ((up 0 16 (by decide)).symm.trans q0_) 10 rfl) 7 rfl) 4 rfl) 2 rfl) 0 rfl)) (by decide)), (fun q0_ => absurd (hl_.symm.trans (hcl 2 _ rfl (hcl 4 _ rfl (hcl 7 _ rfl (hcl 10 _ rfl (hcl 16 _ rfl ((up 0 16 (by decide)).symm.trans q0_) 10 rfl) 7 rfl) 4 rfl) 2 rfl) 0 rfl)) (by decide))⟩, fun _ _ _ => rfl⟩
      | 1, _ => exact stepV rfl rfl (execLdPt rfl ((hf 6 (by decide)).trans t6) (on9 F6 (hT.2.1 (by cases hq_ : l_ 16 with | false => rfl | true => exact absurd (hl_.symm.trans (hcl 2 _ rfl (hcl 4 _ rfl (hcl 7 _ rfl (hcl 10 _ rfl (hcl 16 _ rfl hq_ 10 rfl) 7 rfl) 4 rfl) 2 rfl) 1 rfl)) (by decide))))) ⟨s, ⟨_, rfl, rfl⟩, ⟨hT.1, (fun q0_ => (hT.2.1 (by rw [up 1 16 (by decide)] at q0_; exact q0_))), (fun q0_ q1_ => absurd (hl_.symm.trans (hcl 2 _ rfl (hcl 4 _ rfl (hcl 7 _ rfl (hcl 10 _ rfl (hcl 12 _ rfl ((up 1 12 (by decide)).symm.trans q0_) 10 rfl) 7 rfl) 4 rfl) 2 rfl) 1 rfl)) (by decide)), (fun q0_ q1_ => absurd (hl_.symm.trans (hcl 2 _ rfl (hcl 4 _ rfl (hcl 7 _ rfl (hcl 10 _ rfl (hcl 14 _ rfl ((up 1 14 (by decide)).symm.trans q0_) 10 rfl) 7 rfl) 4 rfl) 2 rfl) 1 rfl)) (by decide)), (fun q0_ q1_ => absurd (hl_.symm.trans (hcl 2 _ rfl (hcl 4 _ rfl (hcl 7 _ rfl (hcl 10 _ rfl (hcl 15 _ rfl ((up 1 15 (by decide)).symm.trans q0_) 10 rfl) 7 rfl) 4 rfl) 2 rfl) 1 rfl)) (by decide)), (fun q0_ => absurd (hl_.symm.trans (hcl 2 _ rfl (hcl 4 _ rfl (hcl 7 _ rfl (hcl 10 _ rfl (hcl 16 _ rfl ((up 1 16 (by decide)).symm.trans q0_) 10 rfl) 7 rfl) 4 rfl) 2 rfl) 1 rfl)) (by decide)), (fun q0_ => absurd (hl_.symm.trans (hcl 2 _ rfl (hcl 4 _ rfl (hcl 7 _ rfl (hcl 10 _ rfl (hcl 16 _ rfl ((up 1 16 (by decide)).symm.trans q0_) 10 rfl) 7 rfl) 4 rfl) 2 rfl) 1 rfl)) (by decide))⟩, fun _ _ _ => rfl⟩
      | 2, _ => exact stepC rfl rfl (execCall2 Try.func19 (by kernel_rfl) (by kernel_rfl) rfl (hdep _ rfl 0 rfl _ rfl _ rfl) (hdep _ rfl 1 rfl _ rfl _ rfl)) (alike_pt (FPa.on (hT.2.1 (by cases hq_ : l_ 16 with | false => rfl | true => exact absurd (hl_.symm.trans (hcl 4 _ rfl (hcl 7 _ rfl (hcl 10 _ rfl (hcl 16 _ rfl hq_ 10 rfl) 7 rfl) 4 rfl) 2 rfl)) (by decide)))) (FPw.on (hT.2.1 (by cases hq_ : l_ 16 with | false => rfl | true => exact absurd (hl_.symm.trans (hcl 4 _ rfl (hcl 7 _ rfl (hcl 10 _ rfl (hcl 16 _ rfl hq_ 10 rfl) 7 rfl) 4 rfl) 2 rfl)) (by decide)))) hn64 hfb) fun e w' hh => ⟨_, hh.1, s, ⟨_, rfl, rfl⟩, ⟨hT.1.trans (hh.2.mono hT.1.size), (fun q0_ => ((hT.2.1 (by rw [up 2 16 (by decide)] at q0_; exact q0_)).trans (hh.2.mono (hT.2.1 (by rw [up 2 16 (by decide)] at q0_; exact q0_)).size))), (fun q0_ q1_ => absurd (hl_.symm.trans (hcl 4 _ rfl (hcl 7 _ rfl (hcl 10 _ rfl (hcl 12 _ rfl ((up 2 12 (by decide)).symm.trans q0_) 10 rfl) 7 rfl) 4 rfl) 2 rfl)) (by decide)), (fun q0_ q1_ => absurd (hl_.symm.trans (hcl 4 _ rfl (hcl 7 _ rfl (hcl 10 _ rfl (hcl 14 _ rfl ((up 2 14 (by decide)).symm.trans q0_) 10 rfl) 7 rfl) 4 rfl) 2 rfl)) (by decide)), (fun q0_ q1_ => absurd (hl_.symm.trans (hcl 4 _ rfl (hcl 7 _ rfl (hcl 10 _ rfl (hcl 15 _ rfl ((up 2 15 (by decide)).symm.trans q0_) 10 rfl) 7 rfl) 4 rfl) 2 rfl)) (by decide)), (fun q0_ => absurd (hl_.symm.trans (hcl 4 _ rfl (hcl 7 _ rfl (hcl 10 _ rfl (hcl 16 _ rfl ((up 2 16 (by decide)).symm.trans q0_) 10 rfl) 7 rfl) 4 rfl) 2 rfl)) (by decide)), (fun q0_ => absurd (hl_.symm.trans (hcl 4 _ rfl (hcl 7 _ rfl (hcl 10 _ rfl (hcl 16 _ rfl ((up 2 16 (by decide)).symm.trans q0_) 10 rfl) 7 rfl) 4 rfl) 2 rfl)) (by decide))⟩, fun _ _ _ => rfl⟩
      | 3, _ => exact stepV rfl rfl (execNot8 rfl (hdep _ rfl 2 rfl _ rfl _ rfl)) ⟨s, ⟨_, rfl, rfl⟩, ⟨hT.1, (fun q0_ => (hT.2.1 (by rw [up 3 16 (by decide)] at q0_; exact q0_))), (fun q0_ q1_ => absurd (hl_.symm.trans (hcl 4 _ rfl (hcl 7 _ rfl (hcl 10 _ rfl (hcl 12 _ rfl ((up 3 12 (by decide)).symm.trans q0_) 10 rfl) 7 rfl) 4 rfl) 3 rfl)) (by decide)), (fun q0_ q1_ => absurd (hl_.symm.trans (hcl 4 _ rfl (hcl 7 _ rfl (hcl 10 _ rfl (hcl 14 _ rfl ((up 3 14 (by decide)).symm.trans q0_) 10 rfl) 7 rfl) 4 rfl) 3 rfl)) (by decide)), (fun q0_ q1_ => absurd (hl_.symm.trans (hcl 4 _ rfl (hcl 7 _ rfl (hcl 10 _ rfl (hcl 15 _ rfl ((up 3 15 (by decide)).symm.trans q0_) 10 rfl) 7 rfl) 4 rfl) 3 rfl)) (by decide)), (fun q0_ => absurd (hl_.symm.trans (hcl 4 _ rfl (hcl 7 _ rfl (hcl 10 _ rfl (hcl 16 _ rfl ((up 3 16 (by decide)).symm.trans q0_) 10 rfl) 7 rfl) 4 rfl) 3 rfl)) (by decide)), (fun q0_ => absurd (hl_.symm.trans (hcl 4 _ rfl (hcl 7 _ rfl (hcl 10 _ rfl (hcl 16 _ rfl ((up 3 16 (by decide)).symm.trans q0_) 10 rfl) 7 rfl) 4 rfl) 3 rfl)) (by decide))⟩, fun _ _ _ => rfl⟩
      | 4, _ => exact stepV rfl rfl (execMvB rfl (hdep _ rfl 3 rfl _ rfl _ rfl)) ⟨s, ⟨_, rfl, rfl⟩, ⟨hT.1, (fun q0_ => (hT.2.1 (by rw [up 4 16 (by decide)] at q0_; exact q0_))), (fun q0_ q1_ => absurd (hl_.symm.trans (hcl 7 _ rfl (hcl 10 _ rfl (hcl 12 _ rfl ((up 4 12 (by decide)).symm.trans q0_) 10 rfl) 7 rfl) 4 rfl)) (by decide)), (fun q0_ q1_ => absurd (hl_.symm.trans (hcl 7 _ rfl (hcl 10 _ rfl (hcl 14 _ rfl ((up 4 14 (by decide)).symm.trans q0_) 10 rfl) 7 rfl) 4 rfl)) (by decide)), (fun q0_ q1_ => absurd (hl_.symm.trans (hcl 7 _ rfl (hcl 10 _ rfl (hcl 15 _ rfl ((up 4 15 (by decide)).symm.trans q0_) 10 rfl) 7 rfl) 4 rfl)) (by decide)), (fun q0_ => absurd (hl_.symm.trans (hcl 7 _ rfl (hcl 10 _ rfl (hcl 16 _ rfl ((up 4 16 (by decide)).symm.trans q0_) 10 rfl) 7 rfl) 4 rfl)) (by decide)), (fun q0_ => absurd (hl_.symm.trans (hcl 7 _ rfl (hcl 10 _ rfl (hcl 16 _ rfl ((up 4 16 (by decide)).symm.trans q0_) 10 rfl) 7 rfl) 4 rfl)) (by decide))⟩, fun _ _ _ => rfl⟩
      | 5, _ => exact stepV rfl (wantedOf rfl (yieldedAt rfl rfl (show a.eval (.tmp 92) = .bool false from (hdep _ rfl 4 rfl _ rfl _ rfl)))) (execLdPt rfl ((hf 10 (by decide)).trans t10) (on9 F10 (hT.2.1 (by cases hq_ : l_ 16 with | false => rfl | true => exact absurd (hl_.symm.trans (hcl 7 _ rfl (hcl 10 _ rfl (hcl 16 _ rfl hq_ 10 rfl) 7 rfl) 5 rfl)) (by decide))))) ⟨s, ⟨_, rfl, rfl⟩, ⟨hT.1, (fun q0_ => (hT.2.1 (by rw [up 5 16 (by decide)] at q0_; exact q0_))), (fun q0_ q1_ => absurd (hl_.symm.trans (hcl 7 _ rfl (hcl 10 _ rfl (hcl 12 _ rfl ((up 5 12 (by decide)).symm.trans q0_) 10 rfl) 7 rfl) 5 rfl)) (by decide)), (fun q0_ q1_ => absurd (hl_.symm.trans (hcl 7 _ rfl (hcl 10 _ rfl (hcl 14 _ rfl ((up 5 14 (by decide)).symm.trans q0_) 10 rfl) 7 rfl) 5 rfl)) (by decide)), (fun q0_ q1_ => absurd (hl_.symm.trans (hcl 7 _ rfl (hcl 10 _ rfl (hcl 15 _ rfl ((up 5 15 (by decide)).symm.trans q0_) 10 rfl) 7 rfl) 5 rfl)) (by decide)), (fun q0_ => absurd (hl_.symm.trans (hcl 7 _ rfl (hcl 10 _ rfl (hcl 16 _ rfl ((up 5 16 (by decide)).symm.trans q0_) 10 rfl) 7 rfl) 5 rfl)) (by decide)), (fun q0_ => absurd (hl_.symm.trans (hcl 7 _ rfl (hcl 10 _ rfl (hcl 16 _ rfl ((up 5 16 (by decide)).symm.trans q0_) 10 rfl) 7 rfl) 5 rfl)) (by decide))⟩, fun _ _ _ => rfl⟩
      | 6, _ => exact stepV rfl (wantedOf rfl (yieldedAt rfl rfl (show a.eval (.tmp 92) = .bool false from (hdep _ rfl 4 rfl _ rfl _ rfl)))) (execLdPt rfl ((hf 6 (by decide)).trans t6) (on9 F6 (hT.2.1 (by cases hq_ : l_ 16 with | false => rfl | true => exact absurd (hl_.symm.trans (hcl 7 _ rfl (hcl 10 _ rfl (hcl 16 _ rfl hq_ 10 rfl) 7 rfl) 6 rfl)) (by decide))))) ⟨s, ⟨_, rfl, rfl⟩, ⟨hT.1, (fun q0_ => (hT.2.1 (by rw [up 6 16 (by decide)] at q0_; exact q0_))), (fun q0_ q1_ => absurd (hl_.symm.trans (hcl 7 _ rfl (hcl 10 _ rfl (hcl 12 _ rfl ((up 6 12 (by decide)).symm.trans q0_) 10 rfl) 7 rfl) 6 rfl)) (by decide)), (fun q0_ q1_ => absurd (hl_.symm.trans (hcl 7 _ rfl (hcl 10 _ rfl (hcl 14 _ rfl ((up 6 14 (by decide)).symm.trans q0_) 10 rfl) 7 rfl) 6 rfl)) (by decide)), (fun q0_ q1_ => absurd (hl_.symm.trans (hcl 7 _ rfl (hcl 10 _ rfl (hcl 15 _ rfl ((up 6 15 (by decide)).symm.trans q0_) 10 rfl) 7 rfl) 6 rfl)) (by decide)), (fun q0_ => absurd (hl_.symm.trans (hcl 7 _ rfl (hcl 10 _ rfl (hcl 16 _ rfl ((up 6 16 (by decide)).symm.trans q0_) 10 rfl) 7 rfl) 6 rfl)) (by decide)), (fun q0_ => absurd (hl_.symm.trans (hcl 7 _ rfl (hcl 10 _ rfl (hcl 16 _ rfl ((up 6 16 (by decide)).symm.trans q0_) 10 rfl) 7 rfl) 6 rfl)) (by decide))⟩, fun _ _ _ => rfl⟩
      | 7, _ => exact stepC rfl (wantedOf rfl (yieldedAt rfl rfl (show a.eval (.tmp 92) = .bool false from (hdep _ rfl 4 rfl _ rfl _ rfl)))) (execCall2 Try.func19 (by kernel_rfl) (by kernel_rfl) rfl (hdep _ rfl 5 rfl _ rfl _ rfl) (hdep _ rfl 6 rfl _ rfl _ rfl)) (alike_pt (FPb.on (hT.2.1 (by cases hq_ : l_ 16 with | false => rfl | true => exact absurd (hl_.symm.trans (hcl 10 _ rfl (hcl 16 _ rfl hq_ 10 rfl) 7 rfl)) (by decide)))) (FPw.on (hT.2.1 (by cases hq_ : l_ 16 with | false => rfl | true => exact absurd (hl_.symm.trans (hcl 10 _ rfl (hcl 16 _ rfl hq_ 10 rfl) 7 rfl)) (by decide)))) hn64 hfb) fun e w' hh => ⟨_, hh.1, s, ⟨_, rfl, rfl⟩, ⟨hT.1.trans (hh.2.mono hT.1.size), (fun q0_ => ((hT.2.1 (by rw [up 7 16 (by decide)] at q0_; exact q0_)).trans (hh.2.mono (hT.2.1 (by rw [up 7 16 (by decide)] at q0_; exact q0_)).size))), (fun q0_ q1_ => absurd (hl_.symm.trans (hcl 10 _ rfl (hcl 12 _ rfl ((up 7 12 (by decide)).symm.trans q0_) 10 rfl) 7 rfl)) (by decide)), (fun q0_ q1_ => absurd (hl_.symm.trans (hcl 10 _ rfl (hcl 14 _ rfl ((up 7 14 (by decide)).symm.trans q0_) 10 rfl) 7 rfl)) (by decide)), (fun q0_ q1_ => absurd (hl_.symm.trans (hcl 10 _ rfl (hcl 15 _ rfl ((up 7 15 (by decide)).symm.trans q0_) 10 rfl) 7 rfl)) (by decide)), (fun q0_ => absurd (hl_.symm.trans (hcl 10 _ rfl (hcl 16 _ rfl ((up 7 16 (by decide)).symm.trans q0_) 10 rfl) 7 rfl)) (by decide)), (fun q0_ => absurd (hl_.symm.trans (hcl 10 _ rfl (hcl 16 _ rfl ((up 7 16 (by decide)).symm.trans q0_) 10 rfl) 7 rfl)) (by decide))⟩, fun _ _ _ => rfl⟩
      | 8, _ => exact stepV rfl (wantedOf rfl (yieldedAt rfl rfl (show a.eval (.tmp 92) = .bool false from (hdep _ rfl 4 rfl _ rfl _ rfl)))) (execNot8 rfl (hdep _ rfl 7 rfl _ rfl _ rfl)) ⟨s, ⟨_, rfl, rfl⟩, ⟨hT.1, (fun q0_ => (hT.2.1 (by rw [up 8 16 (by decide)] at q0_; exact q0_))), (fun q0_ q1_ => absurd (hl_.symm.trans (hcl 9 _ rfl (hcl 10 _ rfl (hcl 12 _ rfl ((up 8 12 (by decide)).symm.trans q0_) 10 rfl) 9 rfl) 8 rfl)) (by decide)), (fun q0_ q1_ => absurd (hl_.symm.trans (hcl 9 _ rfl (hcl 10 _ rfl (hcl 14 _ rfl ((up 8 14 (by decide)).symm.trans q0_) 10 rfl) 9 rfl) 8 rfl)) (by decide)), (fun q0_ q1_ => absurd (hl_.symm.trans (hcl 9 _ rfl (hcl 10 _ rfl (hcl 15 _ rfl ((up 8 15 (by decide)).symm.trans q0_) 10 rfl) 9 rfl) 8 rfl)) (by decide)), (fun q0_ => absurd (hl_.symm.trans (hcl 9 _ rfl (hcl 10 _ rfl (hcl 16 _ rfl ((up 8 16 (by decide)).symm.trans q0_) 10 rfl) 9 rfl) 8 rfl)) (by decide)), (fun q0_ => absurd (hl_.symm.trans (hcl 9 _ rfl (hcl 10 _ rfl (hcl 16 _ rfl ((up 8 16 (by decide)).symm.trans q0_) 10 rfl) 9 rfl) 8 rfl)) (by decide))⟩, fun _ _ _ => rfl⟩
      | 9, _ => exact stepV rfl rfl (execPickF rfl (hdep _ rfl 4 rfl _ rfl _ rfl) (hdep _ rfl 8 rfl _ rfl _ rfl)) ⟨s, ⟨_, rfl, rfl⟩, ⟨hT.1, (fun q0_ => (hT.2.1 (by rw [up 9 16 (by decide)] at q0_; exact q0_))), (fun q0_ q1_ => absurd (hl_.symm.trans (hcl 10 _ rfl (hcl 12 _ rfl ((up 9 12 (by decide)).symm.trans q0_) 10 rfl) 9 rfl)) (by decide)), (fun q0_ q1_ => absurd (hl_.symm.trans (hcl 10 _ rfl (hcl 14 _ rfl ((up 9 14 (by decide)).symm.trans q0_) 10 rfl) 9 rfl)) (by decide)), (fun q0_ q1_ => absurd (hl_.symm.trans (hcl 10 _ rfl (hcl 15 _ rfl ((up 9 15 (by decide)).symm.trans q0_) 10 rfl) 9 rfl)) (by decide)), (fun q0_ => absurd (hl_.symm.trans (hcl 10 _ rfl (hcl 16 _ rfl ((up 9 16 (by decide)).symm.trans q0_) 10 rfl) 9 rfl)) (by decide)), (fun q0_ => absurd (hl_.symm.trans (hcl 10 _ rfl (hcl 16 _ rfl ((up 9 16 (by decide)).symm.trans q0_) 10 rfl) 9 rfl)) (by decide))⟩, fun _ _ _ => rfl⟩
      | 10, _ => exact stepV rfl rfl (execMvB rfl (hdep _ rfl 9 rfl _ rfl _ rfl)) ⟨s, ⟨_, rfl, rfl⟩, ⟨hT.1, (fun q0_ => (hT.2.1 (by rw [up 10 16 (by decide)] at q0_; exact q0_))), (fun q0_ q1_ => absurd (hl_.symm.trans (hcl 12 _ rfl ((up 10 12 (by decide)).symm.trans q0_) 10 rfl)) (by decide)), (fun q0_ q1_ => absurd (hl_.symm.trans (hcl 14 _ rfl ((up 10 14 (by decide)).symm.trans q0_) 10 rfl)) (by decide)), (fun q0_ q1_ => absurd (hl_.symm.trans (hcl 15 _ rfl ((up 10 15 (by decide)).symm.trans q0_) 10 rfl)) (by decide)), (fun q0_ => absurd (hl_.symm.trans (hcl 16 _ rfl ((up 10 16 (by decide)).symm.trans q0_) 10 rfl)) (by decide)), (fun q0_ => absurd (hl_.symm.trans (hcl 16 _ rfl ((up 10 16 (by decide)).symm.trans q0_) 10 rfl)) (by decide))⟩, fun _ _ _ => rfl⟩
      | 11, _ => exact stepV rfl (wantedOf rfl (yieldedAt rfl rfl (show a.eval (.tmp 98) = .bool false from (hdep _ rfl 10 rfl _ rfl _ rfl)))) (execLdPt rfl ((hf 8 (by decide)).trans t8) (on9 F8 (hT.2.1 (by cases hq_ : l_ 16 with | false => rfl | true => exact absurd (hl_.symm.trans (hcl 12 _ rfl (hcl 15 _ rfl (hcl 16 _ rfl hq_ 15 rfl) 12 rfl) 11 rfl)) (by decide))))) ⟨s, ⟨_, rfl, rfl⟩, ⟨hT.1, (fun q0_ => (hT.2.1 (by rw [up 11 16 (by decide)] at q0_; exact q0_))), (fun q0_ q1_ => absurd (hl_.symm.trans (hcl 12 _ rfl ((up 11 12 (by decide)).symm.trans q0_) 11 rfl)) (by decide)), (fun q0_ q1_ => absurd (hl_.symm.trans (hcl 12 _ rfl (hcl 14 _ rfl ((up 11 14 (by decide)).symm.trans q0_) 12 rfl) 11 rfl)) (by decide)), (fun q0_ q1_ => absurd (hl_.symm.trans (hcl 12 _ rfl (hcl 15 _ rfl ((up 11 15 (by decide)).symm.trans q0_) 12 rfl) 11 rfl)) (by decide)), (fun q0_ => absurd (hl_.symm.trans (hcl 12 _ rfl (hcl 15 _ rfl (hcl 16 _ rfl ((up 11 16 (by decide)).symm.trans q0_) 15 rfl) 12 rfl) 11 rfl)) (by decide)), (fun q0_ => absurd (hl_.symm.trans (hcl 12 _ rfl (hcl 15 _ rfl (hcl 16 _ rfl ((up 11 16 (by decide)).symm.trans q0_) 15 rfl) 12 rfl) 11 rfl)) (by decide))⟩, fun _ _ _ => rfl⟩
      | 12, _ =>
        refine stepC rfl (wantedOf rfl (yieldedAt rfl rfl (show a.eval (.tmp 98) = .bool false from (hdep _ rfl 10 rfl _ rfl _ rfl)))) (execCall1 Try.func21 (by kernel_rfl) (by kernel_rfl) rfl (hdep _ rfl 11 rfl _ rfl _ rfl)) (lists_pt (FPa.on (hT.2.1 (by cases hq_ : l_ 16 with | false => rfl | true => exact absurd (hl_.symm.trans (hcl 15 _ rfl (hcl 16 _ rfl hq_ 15 rfl) 12 rfl)) (by decide)))) hn64) fun e w' hh => ?_
        obtain ⟨r_, he, hk, hb⟩ := hh
        obtain ⟨g_, c_, rfl, _, _⟩ := ownL_some hk (show 0 < 2 + n by omega)
        refine ⟨_, he, (g_, c_, s.2.2.1, s.2.2.2.1, s.2.2.2.2.1, s.2.2.2.2.2), ⟨_, rfl, rfl⟩, ⟨hT.1.trans ((hb).mono hT.1.size), (fun q0_ => ((hT.2.1 (by rw [up 12 16 (by decide)] at q0_; exact q0_)).trans (hb.mono (hT.2.1 (by rw [up 12 16 (by decide)] at q0_; exact q0_)).size))), (fun _q0_ _q1_ => ownW_base9 hk ((hT.2.1 (by cases hq_ : l_ 16 with | false => rfl | true => exact absurd (hl_.symm.trans (hcl 15 _ rfl (hcl 16 _ rfl hq_ 15 rfl) 12 rfl)) (by decide)))).size), (fun q0_ q1_ => absurd (hl_.symm.trans (hcl 14 _ rfl ((up 12 14 (by decide)).symm.trans q0_) 12 rfl)) (by decide)), (fun q0_ q1_ => absurd (hl_.symm.trans (hcl 15 _ rfl ((up 12 15 (by decide)).symm.trans q0_) 12 rfl)) (by decide)), (fun q0_ => absurd (hl_.symm.trans (hcl 15 _ rfl (hcl 16 _ rfl ((up 12 16 (by decide)).symm.trans q0_) 15 rfl) 12 rfl)) (by decide)), (fun q0_ => absurd (hl_.symm.trans (hcl 15 _ rfl (hcl 16 _ rfl ((up 12 16 (by decide)).symm.trans q0_) 15 rfl) 12 rfl)) (by decide))⟩, fun i hi hli => ?_⟩
        match i, hi with
        | 0, _ => rfl
        | 1, _ => rfl
        | 2, _ => rfl
        | 3, _ => rfl
        | 4, _ => rfl
        | 5, _ => rfl
        | 6, _ => rfl
        | 7, _ => rfl
        | 8, _ => rfl
        | 9, _ => rfl
        | 10, _ => rfl
        | 11, _ => rfl
        | 12, _ => exact absurd (hl_.symm.trans hli) (by decide)
        | 13, _ => rfl
        | 14, _ => rfl
        | 15, _ => rfl
        | 16, _ => rfl
        | 17, _ => rfl
        | 18, _ => rfl
        | k_ + 19, h_ => exact absurd h_ (by simp)
      | 13, _ => exact stepV rfl (wantedOf rfl (yieldedAt rfl rfl (show a.eval (.tmp 98) = .bool false from (hdep _ rfl 10 rfl _ rfl _ rfl)))) (execLdPt rfl ((hf 10 (by decide)).trans t10) (on9 F10 (hT.2.1 (by cases hq_ : l_ 16 with | false => rfl | true => exact absurd (hl_.symm.trans (hcl 14 _ rfl (hcl 15 _ rfl (hcl 16 _ rfl hq_ 15 rfl) 14 rfl) 13 rfl)) (by decide))))) ⟨s, ⟨_, rfl, rfl⟩, ⟨hT.1, (fun q0_ => (hT.2.1 (by rw [up 13 16 (by decide)] at q0_; exact q0_))), (fun q0_ q1_ => (hT.2.2.1 (by rw [up 13 12 (by decide)] at q0_; exact q0_) (by rw [up 13 15 (by decide)] at q1_; exact q1_))), (fun q0_ q1_ => absurd (hl_.symm.trans (hcl 14 _ rfl ((up 13 14 (by decide)).symm.trans q0_) 13 rfl)) (by decide)), (fun q0_ q1_ => absurd (hl_.symm.trans (hcl 14 _ rfl (hcl 15 _ rfl ((up 13 15 (by decide)).symm.trans q0_) 14 rfl) 13 rfl)) (by decide)), (fun q0_ => absurd (hl_.symm.trans (hcl 14 _ rfl (hcl 15 _ rfl (hcl 16 _ rfl ((up 13 16 (by decide)).symm.trans q0_) 15 rfl) 14 rfl) 13 rfl)) (by decide)), (fun q0_ => absurd (hl_.symm.trans (hcl 14 _ rfl (hcl 15 _ rfl (hcl 16 _ rfl ((up 13 16 (by decide)).symm.trans q0_) 15 rfl) 14 rfl) 13 rfl)) (by decide))⟩, fun _ _ _ => rfl⟩
      | 14, _ =>
        refine stepC rfl (wantedOf rfl (yieldedAt rfl rfl (show a.eval (.tmp 98) = .bool false from (hdep _ rfl 10 rfl _ rfl _ rfl)))) (execCall1 Try.func21 (by kernel_rfl) (by kernel_rfl) rfl (hdep _ rfl 13 rfl _ rfl _ rfl)) (lists_pt (FPb.on (hT.2.1 (by cases hq_ : l_ 16 with | false => rfl | true => exact absurd (hl_.symm.trans (hcl 15 _ rfl (hcl 16 _ rfl hq_ 15 rfl) 14 rfl)) (by decide)))) hn64) fun e w' hh => ?_
        obtain ⟨r_, he, hk, hb⟩ := hh
        obtain ⟨g_, c_, rfl, _, _⟩ := ownL_some hk (show 0 < 2 + n by omega)
        refine ⟨_, he, (s.1, s.2.1, g_, c_, s.2.2.2.2.1, s.2.2.2.2.2), ⟨_, rfl, rfl⟩, ⟨hT.1.trans ((hb).mono hT.1.size), (fun q0_ => ((hT.2.1 (by rw [up 14 16 (by decide)] at q0_; exact q0_)).trans (hb.mono (hT.2.1 (by rw [up 14 16 (by decide)] at q0_; exact q0_)).size))), (fun q0_ q1_ => (ownsLL_below (hT.2.2.1 (by rw [up 14 12 (by decide)] at q0_; exact q0_) (by rw [up 14 15 (by decide)] at q1_; exact q1_)) hb)), (fun _q0_ _q1_ => ownW_base9 hk ((hT.2.1 (by cases hq_ : l_ 16 with | false => rfl | true => exact absurd (hl_.symm.trans (hcl 15 _ rfl (hcl 16 _ rfl hq_ 15 rfl) 14 rfl)) (by decide)))).size), (fun q0_ q1_ => absurd (hl_.symm.trans (hcl 15 _ rfl ((up 14 15 (by decide)).symm.trans q0_) 14 rfl)) (by decide)), (fun q0_ => absurd (hl_.symm.trans (hcl 15 _ rfl (hcl 16 _ rfl ((up 14 16 (by decide)).symm.trans q0_) 15 rfl) 14 rfl)) (by decide)), (fun q0_ => absurd (hl_.symm.trans (hcl 15 _ rfl (hcl 16 _ rfl ((up 14 16 (by decide)).symm.trans q0_) 15 rfl) 14 rfl)) (by decide))⟩, fun i hi hli => ?_⟩
        match i, hi with
        | 0, _ => rfl
        | 1, _ => rfl
        | 2, _ => rfl
        | 3, _ => rfl
        | 4, _ => rfl
        | 5, _ => rfl
        | 6, _ => rfl
        | 7, _ => rfl
        | 8, _ => rfl
        | 9, _ => rfl
        | 10, _ => rfl
        | 11, _ => rfl
        | 12, _ => rfl
        | 13, _ => rfl
        | 14, _ => exact absurd (hl_.symm.trans hli) (by decide)
        | 15, _ => rfl
        | 16, _ => rfl
        | 17, _ => rfl
        | 18, _ => rfl
        | k_ + 19, h_ => exact absurd h_ (by simp)
      | 15, _ =>
        refine stepAppLc (z := (ptX nb bb xb)) rfl (wantedOf rfl (yieldedAt rfl rfl (show a.eval (.tmp 98) = .bool false from (hdep _ rfl 10 rfl _ rfl _ rfl)))) rfl (hdep _ rfl 12 rfl _ rfl _ rfl) (hdep _ rfl 14 rfl _ rfl _ rfl) (hT.2.2.1 (hl2 _ rfl 12 rfl) hl_) (fun e => by cases e) (fun _ => ⟨_, 0, rfl, fun i hi => ownL_cell (hT.2.2.2.1 (hl2 _ rfl 14 rfl) hl_) hi⟩) (fun i hi => one_of (shp3 (FPb.fam.rows i hi))) (by omega) ((hT.2.1 (by cases hq_ : l_ 16 with | false => rfl | true => exact absurd (hl_.symm.trans (hcl 16 _ rfl hq_ 15 rfl)) (by decide)))).size fun v' W' own' gr => ?_
        obtain ⟨g_, c_, rfl, _, _⟩ := ownL_some own' (show 0 < 2 + n + (2 + n) by omega)
        refine ⟨(s.1, s.2.1, s.2.2.1, s.2.2.2.1, g_, c_), ⟨_, rfl, rfl⟩, ⟨(hT.1).grown gr (hT.1).size (fun k hk => Nat.le_trans ZW ((hT.2.2.1 (hl2 _ rfl 12 rfl) hl_).lt k hk).1), (fun q0_ => ((hT.2.1 (by rw [up 15 16 (by decide)] at q0_; exact q0_))).grown gr ((hT.2.1 (by rw [up 15 16 (by decide)] at q0_; exact q0_))).size (fun k hk => ((hT.2.2.1 (hl2 _ rfl 12 rfl) hl_).lt k hk).1)), (fun q0_ q1_ => absurd q1_ (by unfold updB; simp)), (fun q0_ q1_ => absurd q1_ (by unfold updB; simp)), (fun _q0_ _q1_ => by rw [← lL_cat]; exact own'), (fun q0_ => absurd (hl_.symm.trans (hcl 16 _ rfl ((up 15 16 (by decide)).symm.trans q0_) 15 rfl)) (by decide)), (fun q0_ => absurd (hl_.symm.trans (hcl 16 _ rfl ((up 15 16 (by decide)).symm.trans q0_) 15 rfl)) (by decide))⟩, fun i hi hli => ?_⟩
        match i, hi with
        | 0, _ => rfl
        | 1, _ => rfl
        | 2, _ => rfl
        | 3, _ => rfl
        | 4, _ => rfl
        | 5, _ => rfl
        | 6, _ => rfl
        | 7, _ => rfl
        | 8, _ => rfl
        | 9, _ => rfl
        | 10, _ => rfl
        | 11, _ => rfl
        | 12, _ => rfl
        | 13, _ => rfl
        | 14, _ => rfl
        | 15, _ => exact absurd (hl_.symm.trans hli) (by decide)
        | 16, _ => rfl
        | 17, _ => rfl
        | 18, _ => rfl
        | k_ + 19, h_ => exact absurd h_ (by simp)
      | 16, _ =>
        have FM := fam_cat (FPa.fam.on (hT.2.1 hl_)) (FPb.fam.on (hT.2.1 hl_)) HA X45
        refine stepC rfl (wantedOf rfl (yieldedAt rfl rfl (show a.eval (.tmp 98) = .bool false from (hdep _ rfl 10 rfl _ rfl _ rfl)))) (execCall1 Try.func20 (by kernel_rfl) (by kernel_rfl) rfl (hdep _ rfl 15 rfl _ rfl _ rfl)) (apart_any _ _ (2 + n + (2 + n)) _ _ _ (fun t => if t < 2 + n then (ptX na ba xa) t else (ptX nb bb xb) (t - (2 + n))) _ X (hT.2.2.2.2.1 (hl2 _ rfl 15 rfl) hl_) FM (by omega) (fun t ht => ln_le t ht) (Nat.le_trans ZA ((hT.2.1 hl_)).size)) fun e w' hh => ?_
        have sv := hh.2
        refine ⟨_, hh.1, s, ⟨_, rfl, rfl⟩, ⟨below_saved hT.1 sv (fun k hk => Nat.le_trans ZV4 (gx_ge FM hk)), (fun q0_ => absurd q0_ (by unfold updB; simp)), (fun q0_ q1_ => absurd (q1_.symm.trans ((up 16 15 (by decide)).trans (hl2 _ rfl 15 rfl))) (by decide)), (fun q0_ q1_ => absurd (q1_.symm.trans ((up 16 15 (by decide)).trans (hl2 _ rfl 15 rfl))) (by decide)), (fun q0_ q1_ => absurd q1_ (by unfold updB; simp)), (fun _q0_ => heap_saved (on9 F6 (hT.2.1 hl_)) sv (not_gx FM (on9 F6 (hT.2.1 hl_)) (by decide))), (fun _q0_ => (FPw.on (hT.2.1 hl_)).saved sv (fun k hk => by obtain ⟨c_, hc_⟩ := own_heap (FPw.on (hT.2.1 hl_)).own hk; exact not_gx FM hc_ (by decide)) (fun t ht k hk => low_gx FM (HW t ht k hk)))⟩, fun i hi hli => ?_⟩
        match i, hi with
        | 0, _ => rfl
        | 1, _ => rfl
        | 2, _ => rfl
        | 3, _ => rfl
        | 4, _ => rfl
        | 5, _ => rfl
        | 6, _ => rfl
        | 7, _ => rfl
        | 8, _ => rfl
        | 9, _ => rfl
        | 10, _ => rfl
        | 11, _ => rfl
        | 12, _ => rfl
        | 13, _ => rfl
        | 14, _ => rfl
        | 15, _ => rfl
        | 16, _ => exact absurd (hl_.symm.trans hli) (by decide)
        | 17, _ => rfl
        | 18, _ => rfl
        | k_ + 19, h_ => exact absurd h_ (by simp)
      | 17, _ => exact stepV rfl (wantedOf rfl (yieldedAt rfl rfl (show a.eval (.tmp 98) = .bool false from (hdep _ rfl 10 rfl _ rfl _ rfl)))) (execNot8 rfl (hdep _ rfl 16 rfl _ rfl _ rfl)) ⟨s, ⟨_, rfl, rfl⟩, ⟨hT.1, (fun q0_ => absurd (q0_.symm.trans ((up 17 16 (by decide)).trans (hl2 _ rfl 16 rfl))) (by decide)), (fun q0_ q1_ => absurd (q1_.symm.trans ((up 17 15 (by decide)).trans (hcl 16 _ rfl (hl2 _ rfl 16 rfl) 15 rfl))) (by decide)), (fun q0_ q1_ => absurd (q1_.symm.trans ((up 17 15 (by decide)).trans (hcl 16 _ rfl (hl2 _ rfl 16 rfl) 15 rfl))) (by decide)), (fun q0_ q1_ => absurd (q1_.symm.trans ((up 17 16 (by decide)).trans (hl2 _ rfl 16 rfl))) (by decide)), (fun q0_ => (hT.2.2.2.2.2.1 (by rw [up 17 16 (by decide)] at q0_; exact q0_))), (fun q0_ => (hT.2.2.2.2.2.2 (by rw [up 17 16 (by decide)] at q0_; exact q0_)))⟩, fun _ _ _ => rfl⟩
      | 18, _ => exact stepV rfl rfl (execPickF rfl (hdep _ rfl 10 rfl _ rfl _ rfl) (hdep _ rfl 17 rfl _ rfl _ rfl)) ⟨s, ⟨_, rfl, rfl⟩, ⟨hT.1, (fun q0_ => absurd (q0_.symm.trans ((up 18 16 (by decide)).trans (hcl 17 _ rfl (hl2 _ rfl 17 rfl) 16 rfl))) (by decide)), (fun q0_ q1_ => absurd (q1_.symm.trans ((up 18 15 (by decide)).trans (hcl 16 _ rfl (hcl 17 _ rfl (hl2 _ rfl 17 rfl) 16 rfl) 15 rfl))) (by decide)), (fun q0_ q1_ => absurd (q1_.symm.trans ((up 18 15 (by decide)).trans (hcl 16 _ rfl (hcl 17 _ rfl (hl2 _ rfl 17 rfl) 16 rfl) 15 rfl))) (by decide)), (fun q0_ q1_ => absurd (q1_.symm.trans ((up 18 16 (by decide)).trans (hcl 17 _ rfl (hl2 _ rfl 17 rfl) 16 rfl))) (by decide)), (fun q0_ => (hT.2.2.2.2.2.1 (by rw [up 18 16 (by decide)] at q0_; exact q0_))), (fun q0_ => (hT.2.2.2.2.2.2 (by rw [up 18 16 (by decide)] at q0_; exact q0_)))⟩, fun _ _ _ => rfl⟩
      | k_ + 19, h_ => exact absurd h_ (by simp)
    rintro l_ ⟨g100, c100, g102, c102, g103, c103⟩ a X14 h1 h2 h3 h4 hall hT
    clear BB F6 FPw
    obtain ⟨BB, FW, F100, F102, F103, F6, FPw⟩ := hT
    clear FW
    clear F100
    clear F102
    clear F103
    replace F6 : X14.heap[g6]? = some (.cells (ptC nw bw cw) 49) := F6 (hall 16 (by decide))
    replace FPw : (PtS X14 X3.heap.size n nw bw cw xw la lb lq f) := FPw (hall 16 (by decide))
    clear hall
    replace t0 := (h3 0 (by decide)).trans t0
    replace t1 := (h3 1 (by decide)).trans t1
    replace t6 := (h3 6 (by decide)).trans t6
    replace t7 := (h3 7 (by decide)).trans t7
    have t106 : a.eval (.tmp 106) = .bool false := h4 (18, 106) (by decide)
    replace A := (⟨h1, h2.trans A.2⟩ : a.tmps.size = 121 ∧ a.defers = [])
    clear h1 h2 h3 h4
    clear t8 t10
    refine wp_cond_false t106 ?_
    refine wp_skip ?_
    clear t106
    have BW := BB
    clear BB
    clear FP
    have FP := hv.on BW
    refine wp_seq ?_
    refine wp_region_sq (σ := Value × Value × Value × (Nat → Value) × Nat) 121 [(0, 108), (1, 109), (2, 110), (3, 107), (4, 111), (5, 112), (6, 13), (8, 14)] (fun j_ s X => match j_ with | 0 => Below X14.heap.size X14 X | 1 => Below X14.heap.size X14 X | 2 => Below X14.heap.size X14 X | 3 => Below X14.heap.size X14 X ∧ (PtS X X14.heap.size n s.1 s.2.1 s.2.2.1 s.2.2.2.1 la lb lq f) | 4 => Below X14.heap.size X14 X ∧ (PtS X X14.heap.size n s.1 s.2.1 s.2.2.1 s.2.2.2.1 la lb lq f) | 5 => Below X14.heap.size X14 X ∧ (PtS X X14.heap.size n s.1 s.2.1 s.2.2.1 s.2.2.2.1 la lb lq f) | 6 => Below X14.heap.size X14 X ∧ (PtS X X14.heap.size n s.1 s.2.1 s.2.2.1 s.2.2.2.1 la lb lq f) | 7 => Below X14.heap.size X14 X ∧ (PtS X X14.heap.size n s.1 s.2.1 s.2.2.1 s.2.2.2.1 la lb lq f) ∧ X.heap[s.2.2.2.2]? = some (.cells (ptC (.slice none 0 0) (.slice none 0 0) (.slice none 0 0)) 49) ∧ (X14.heap.size ≤ s.2.2.2.2) | 8 => Below X14.heap.size X14 X ∧ (PtS X X14.heap.size n s.1 s.2.1 s.2.2.1 s.2.2.2.1 la lb lq f) ∧ (X14.heap.size ≤ s.2.2.2.2) ∧ X.heap[s.2.2.2.2]? = some (.cells (ptC s.1 s.2.1 s.2.2.1) 49) | _ => Below X14.heap.size X14 X ∧ (PtS X X14.heap.size n s.1 s.2.1 s.2.2.1 s.2.2.2.1 la lb lq f) ∧ (X14.heap.size ≤ s.2.2.2.2) ∧ X.heap[s.2.2.2.2]? = some (.cells (ptC s.1 s.2.1 s.2.2.1) 49)) (fun s => fun i_ => match i_ with | 0 => .slice ao len cap | 1 => .int .i64 ch | 2 => .tuple #[.agg (ptC s.1 s.2.1 s.2.2.1), .int .i64 ((E : Nat) : Int)] | 3 => .tuple #[.agg (ptC s.1 s.2.1 s.2.2.1), .int .i64 ((E : Nat) : Int)] | 4 => .agg (ptC s.1 s.2.1 s.2.2.1) | 5 => .int .i64 ((E : Nat) : Int) | 6 => .pointer (some ⟨s.2.2.2.2, 0, none⟩) | 7 => undef | 8 => .int .i64 ((E : Nat) : Int) | _ => undef) (undef, undef, undef, fun _ => undef, 0) A.1 (by kernel_rfl) (by decide) (by decide) (Below.refl _ _) ?_ ?_
    · intro i_ hi_ s a X hf hv hn hS
      match i_, hi_ with
      | 0, _ => exact stepV rfl rfl (execMvB rfl ((hf 0 (by decide)).trans t0)) ⟨s, ⟨_, rfl, rfl⟩, hS, fun _ _ => rfl⟩
      | 1, _ => exact stepV rfl rfl (execMvB rfl ((hf 1 (by decide)).trans t1)) ⟨s, ⟨_, rfl, rfl⟩, hS, fun _ _ => rfl⟩
      | 2, _ =>
        refine stepC rfl rfl (execCall2 Try.func18 (by kernel_rfl) (by kernel_rfl) rfl (hv 0 (by omega) _ rfl _ rfl) (hv 1 (by omega) _ rfl _ rfl)) (SPL X _ (FP.on hS)) fun e w' hh => ?_
        obtain ⟨nv_, bv_, cv_, x_, he, hk, hb⟩ := hh
        refine ⟨_, he, (nv_, bv_, cv_, x_, s.2.2.2.2), ⟨_, rfl, rfl⟩, ⟨(hS).trans ((hb).mono (hS).size), hk.base (hS).size⟩, fun i hi => ?_⟩
        match i, hi with
        | 0, _ => rfl
        | 1, _ => rfl
        | n_ + 2, h_ => omega
      | 3, _ => exact stepV rfl rfl (execMvB rfl (hv 2 (by omega) _ rfl _ rfl)) ⟨s, ⟨_, rfl, rfl⟩, hS, fun _ _ => rfl⟩
      | 4, _ => exact stepV rfl rfl (execExtT rfl (hv 3 (by omega) _ rfl _ rfl) rfl) ⟨s, ⟨_, rfl, rfl⟩, hS, fun _ _ => rfl⟩
      | 5, _ => exact stepV rfl rfl (execExtT rfl (hv 3 (by omega) _ rfl _ rfl) rfl) ⟨s, ⟨_, rfl, rfl⟩, hS, fun _ _ => rfl⟩
      | 6, _ =>
        refine stepV rfl rfl (execAllPt rfl) ⟨(s.1, s.2.1, s.2.2.1, s.2.2.2.1, X.heap.size), ⟨_, rfl, rfl⟩, ⟨(hS.1).trans (((belNew X _)).mono (hS.1).size), (hS.2.on (belNew X _)), heapNew X _, (hS.1).size⟩, fun i hi => ?_⟩
        match i, hi with
        | 0, _ => rfl
        | 1, _ => rfl
        | 2, _ => rfl
        | 3, _ => rfl
        | 4, _ => rfl
        | 5, _ => rfl
        | n_ + 6, h_ => omega
      | 7, _ => exact stepS rfl rfl (execStPt rfl (hv 6 (by omega) _ rfl _ rfl) (hv 4 (by omega) _ rfl _ rfl) hS.2.2.1 rfl (pts_one hS.2.1)) ⟨s, ⟨_, rfl, rfl⟩, ⟨below4 hS.1 hS.2.2.2 _, (hS.2.1.set hS.2.2.1 (by decide) (by decide)), hS.2.2.2, setRow_heap _ _ _ _ _ _ hS.2.2.1⟩, fun _ _ => rfl⟩
      | 8, _ => exact stepV rfl rfl (execAsgB rfl (hv 5 (by omega) _ rfl _ rfl)) ⟨s, ⟨_, rfl, rfl⟩, hS, fun _ _ => rfl⟩
      | k_ + 9, h_ => exact absurd h_ (by simp)
    rintro ⟨nc, bc, cc, xc, g13⟩ a X16 h1 h2 h3 h4 hS
    replace hS : Below X14.heap.size X14 X16 ∧ (PtS X16 X14.heap.size n nc bc cc xc la lb lq f) ∧ (X14.heap.size ≤ g13) ∧ X16.heap[g13]? = some (.cells (ptC nc bc cc) 49) := hS
    obtain ⟨bX, FPc, Fge13, F13⟩ := hS
    replace t6 := (h3 6 (by decide)).trans t6
    replace t7 := (h3 7 (by decide)).trans t7
    have t13 : a.eval (.tmp 13) = .pointer (some ⟨g13, 0, none⟩) := h4 6 _ rfl _ rfl
    have t14 : a.eval (.tmp 14) = .int .i64 ((E : Nat) : Int) := h4 8 _ rfl _ rfl
    replace F6 := (on9 F6 bX)
    replace FPw := (FPw.on bX)
    replace FP := (FP.on bX)
    have ZX16 := bX.size
    replace BW := BW.trans (bX.mono BW.size)
    clear bX
    replace A := (⟨h1, h2.trans A.2⟩ : a.tmps.size = 121 ∧ a.defers = [])
    clear h1 h2 h3 h4
    clear t0 t1
    refine wp_seq ?_
    refine wp_region_sq (σ := Unit) 121 [(0, 113), (1, 114), (2, 115), (3, 116), (4, 117), (5, 118), (6, 119), (7, 120), (8, 4)] (fun j_ s X => match j_ with | 0 => Below X16.heap.size X16 X | 1 => Below X16.heap.size X16 X | 2 => Below X16.heap.size X16 X | 3 => Below X16.heap.size X16 X | 4 => Below X16.heap.size X16 X | 5 => Below X16.heap.size X16 X | 6 => Below X16.heap.size X16 X | 7 => Below X16.heap.size X16 X | 8 => Below X16.heap.size X16 X | _ => Below X16.heap.size X16 X) (fun s => fun i_ => match i_ with | 0 => .int .i64 ((E : Nat) : Int) | 1 => .int .i64 ((E : Nat) : Int) | 2 => .bool true | 3 => .bool true | 4 => .agg (ptC nc bc cc) | 5 => .agg (ptC nw bw cw) | 6 => .bool true | 7 => .bool true | 8 => .bool true | _ => undef) () A.1 (by kernel_rfl) (by decide) (by decide) (Below.refl _ _) ?_ ?_
    · intro i_ hi_ s a X hf hv hn hS
      match i_, hi_ with
      | 0, _ => exact stepV rfl rfl (execMvB rfl ((hf 14 (by decide)).trans t14)) ⟨s, ⟨_, rfl, rfl⟩, hS, fun _ _ => rfl⟩
      | 1, _ => exact stepV rfl rfl (execMvB rfl ((hf 7 (by decide)).trans t7)) ⟨s, ⟨_, rfl, rfl⟩, hS, fun _ _ => rfl⟩
      | 2, _ => exact stepV rfl rfl (execDec (execEqN (p := E) (q := E) rfl (hv 0 (by omega) _ rfl _ rfl) (hv 1 (by omega) _ rfl _ rfl)) (decide_eq_true (by omega))) ⟨s, ⟨_, rfl, rfl⟩, hS, fun _ _ => rfl⟩
      | 3, _ => exact stepV rfl rfl (execMvB rfl (hv 2 (by omega) _ rfl _ rfl)) ⟨s, ⟨_, rfl, rfl⟩, hS, fun _ _ => rfl⟩
      | 4, _ => exact stepV rfl (wantedOf rfl (yieldedAt rfl rfl (show a.eval (.tmp 116) = .bool true from (hv 3 (by omega) _ rfl _ rfl)))) (execLdPt rfl ((hf 13 (by decide)).trans t13) (on9 F13 hS)) ⟨s, ⟨_, rfl, rfl⟩, hS, fun _ _ => rfl⟩
      | 5, _ => exact stepV rfl (wantedOf rfl (yieldedAt rfl rfl (show a.eval (.tmp 116) = .bool true from (hv 3 (by omega) _ rfl _ rfl)))) (execLdPt rfl ((hf 6 (by decide)).trans t6) (on9 F6 hS)) ⟨s, ⟨_, rfl, rfl⟩, hS, fun _ _ => rfl⟩
      | 6, _ => exact stepC rfl (wantedOf rfl (yieldedAt rfl rfl (show a.eval (.tmp 116) = .bool true from (hv 3 (by omega) _ rfl _ rfl)))) (execCall2 Try.func19 (by kernel_rfl) (by kernel_rfl) rfl (hv 4 (by omega) _ rfl _ rfl) (hv 5 (by omega) _ rfl _ rfl)) (alike_pt (FPc.on hS) (FPw.on hS) hn64 hfb) fun e w' hh => ⟨_, hh.1, s, ⟨_, rfl, rfl⟩, (hS).trans ((hh.2).mono (hS).size), fun _ _ => rfl⟩
      | 7, _ => exact stepV rfl rfl (execPickT rfl (hv 3 (by omega) _ rfl _ rfl) (hv 6 (by omega) _ rfl _ rfl)) ⟨s, ⟨_, rfl, rfl⟩, hS, fun _ _ => rfl⟩
      | 8, _ => exact stepV rfl rfl (execAsgB rfl (hv 7 (by omega) _ rfl _ rfl)) ⟨s, ⟨_, rfl, rfl⟩, hS, fun _ _ => rfl⟩
      | k_ + 9, h_ => exact absurd h_ (by simp)
    rintro _ a X17 h1 h2 h3 h4 hS
    replace hS : Below X16.heap.size X16 X17 := hS
    have bX := hS
    clear hS
    have t4 : a.eval (.tmp 4) = .bool true := h4 8 _ rfl _ rfl
    replace F6 := (on9 F6 bX)
    replace FPw := (FPw.on bX)
    replace FP := (FP.on bX)
    replace FPc := (FPc.on bX)
    replace Fge13 := Fge13
    replace F13 := (on9 F13 bX)
    have ZX17 := bX.size
    replace BW := BW.trans (bX.mono BW.size)
    clear bX
    replace A := (⟨h1, h2.trans A.2⟩ : a.tmps.size = 121 ∧ a.defers = [])
    clear h1 h2 h3 h4
    clear t6 t7 t13 t14
    refine wp_ret ?_
    refine bodyPost_ret (results_tmp rfl _ _ _) A.2 ⟨?_, BW⟩
    show Ending.returned (a.eval (.tmp 4)) = _
    rw [t4]
end Go.Proofs.Ytigkmgoidbamnaa.Tap
