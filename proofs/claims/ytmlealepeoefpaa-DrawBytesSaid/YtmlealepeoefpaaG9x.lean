import Derived.Test.YtmlealepeoefpaaG9w
namespace Go.Proofs.Ytmlealepeoefpaa.Drw
open Go.RowKit Gf8 Aes By8 Cel Cf Tap
/- DrawBytes over any Impl. Written by tools/mkG9x.py. -/
set_option maxRecDepth 100000 in
set_option maxHeartbeats 8000000 in
theorem bytes_lo (I : Impl) (V : World) (sk : Int) (hk : sk < 1) : Calls Try.prog 3 #[.int .i64 sk] V fun e w' => e = .returned (.bool true) ∧ Below V.heap.size V w' := by
  have hbad : bad sk := Or.inl hk
  go_enter Try.func3, Try.ntmps3
  refine wp_seq ?_
  refine wp_region_sqK 108 [(0, 2)] (fun i_ => match i_ with | 0 => .bool false | _ => undef) rfl (by kernel_rfl) (by decide) (by decide) ?_ ?_
  · intro i_ hi_ a hf hv hn
    match i_, hi_ with
    | 0, _ => exact stepV rfl rfl (execAsgB rfl rfl) ⟨⟨_, rfl, rfl⟩, rfl⟩
    | k_ + 1, h_ => exact absurd h_ (by simp)
  intro a h1 h2 h3 h4
  have t0 : a.eval (.tmp 0) = .int .i64 sk := (h3 0 (by decide)).trans rfl
  have A : a.tmps.size = 108 ∧ a.defers = [] := ⟨h1, h2⟩
  have BW : Below V.heap.size V V := Below.refl _ _
  clear h1 h2 h3 h4
  have BB := BW
  clear BW
  refine wp_seq ?_
  refine wp_seq ?_
  refine wp_region_sq (σ := Unit) 108 [(0, 10), (1, 11)] (fun j_ s X => match j_ with | 0 => Below V.heap.size V X | 1 => Below V.heap.size V X | _ => Below V.heap.size V X) (fun s => fun i_ => match i_ with | 0 => .bool true | 1 => .bool false | _ => undef) () A.1 (by kernel_rfl) (by decide) (by decide) (BB) ?_ ?_
  · intro i_ hi_ s a X hf hv hn hS
    match i_, hi_ with
    | 0, _ => exact stepC rfl rfl (execCall0 Try.func4 (by kernel_rfl) (by kernel_rfl) rfl ) (alive10 I X) fun e w' hh => ⟨_, hh.1, s, ⟨_, rfl, rfl⟩, (hS).trans ((hh.2).mono (hS).size), fun _ _ => rfl⟩
    | 1, _ => exact stepV rfl rfl (execNot8 rfl (hv 0 (by omega) _ rfl _ rfl)) ⟨s, ⟨_, rfl, rfl⟩, hS, fun _ _ => rfl⟩
    | k_ + 2, h_ => exact absurd h_ (by simp)
  rintro _ a X1 h1 h2 h3 h4 hS
  clear BB
  replace hS : Below V.heap.size V X1 := hS
  have BB := hS
  clear hS
  replace t0 := (h3 0 (by decide)).trans t0
  have t11 : a.eval (.tmp 11) = .bool false := h4 1 _ rfl _ rfl
  replace A := (⟨h1, h2.trans A.2⟩ : a.tmps.size = 108 ∧ a.defers = [])
  clear h1 h2 h3 h4
  refine wp_cond_false t11 ?_
  refine wp_skip ?_
  clear t11
  refine wp_seq ?_
  refine wp_region_sq (σ := Nat) 108 [(0, 12), (1, 3)] (fun j_ s X => match j_ with | 0 => Below V.heap.size V X | 1 => Below V.heap.size V X ∧ X.heap[s]? = some (.cells (ctC (fun _ => 0)) 3) ∧ (V.heap.size ≤ s) | _ => Below V.heap.size V X ∧ X.heap[s]? = some (.cells (ctC (fun _ => 0)) 3) ∧ (V.heap.size ≤ s)) (fun s => fun i_ => match i_ with | 0 => .slice (some ⟨s, 0, none⟩) 256 256 | 1 => .slice (some ⟨s, 0, none⟩) 256 256 | _ => undef) 0 A.1 (by kernel_rfl) (by decide) (by decide) (BB) ?_ ?_
  · intro i_ hi_ s a X hf hv hn hS
    match i_, hi_ with
    | 0, _ =>
      refine stepV rfl rfl (execMkN (n := 256) rfl rfl rfl (by decide)) ⟨X.heap.size, ⟨_, rfl, rfl⟩, ⟨(hS).trans (((belNew X _)).mono (hS).size), (ctC_made ▸ heapNew X _), (hS).size⟩, fun i hi => ?_⟩
      omega
    | 1, _ => exact stepV rfl rfl (execAsgB rfl (hv 0 (by omega) _ rfl _ rfl)) ⟨s, ⟨_, rfl, rfl⟩, hS, fun _ _ => rfl⟩
    | k_ + 2, h_ => exact absurd h_ (by simp)
  rintro gc a X3 h1 h2 h3 h4 hS
  clear BB
  replace hS : Below V.heap.size V X3 ∧ X3.heap[gc]? = some (.cells (ctC (fun _ => 0)) 3) ∧ (V.heap.size ≤ gc) := hS
  obtain ⟨BB, FC, Fgc⟩ := hS
  replace t0 := (h3 0 (by decide)).trans t0
  have t3 : a.eval (.tmp 3) = .slice (some ⟨gc, 0, none⟩) 256 256 := h4 1 _ rfl _ rfl
  replace A := (⟨h1, h2.trans A.2⟩ : a.tmps.size = 108 ∧ a.defers = [])
  clear h1 h2 h3 h4
  refine wp_seq ?_
  refine wp_region_sq (σ := Unit) 108 [(0, 4)] (fun j_ s X => match j_ with | 0 => Below V.heap.size V X ∧ X.heap[gc]? = some (.cells (ctC (fun _ => 0)) 3) ∧ (V.heap.size ≤ gc) | _ => Below V.heap.size V X ∧ X.heap[gc]? = some (.cells (ctC (fun _ => 0)) 3) ∧ (V.heap.size ≤ gc)) (fun s => fun i_ => match i_ with | 0 => .int .i64 ((0 : Nat) : Int) | _ => undef) () A.1 (by kernel_rfl) (by decide) (by decide) ⟨BB, FC, Fgc⟩ ?_ ?_
  · intro i_ hi_ s a X hf hv hn hS
    match i_, hi_ with
    | 0, _ => exact stepV rfl rfl (execAsgB rfl rfl) ⟨s, ⟨_, rfl, rfl⟩, hS, fun _ _ => rfl⟩
    | k_ + 1, h_ => exact absurd h_ (by simp)
  rintro _ a X4 h1 h2 h3 h4 hS
  clear BB
  clear FC
  clear Fgc
  replace hS : Below V.heap.size V X4 ∧ X4.heap[gc]? = some (.cells (ctC (fun _ => 0)) 3) ∧ (V.heap.size ≤ gc) := hS
  obtain ⟨BB, FC, Fgc⟩ := hS
  replace t0 := (h3 0 (by decide)).trans t0
  replace t3 := (h3 3 (by decide)).trans t3
  have t4 : a.eval (.tmp 4) = .int .i64 ((0 : Nat) : Int) := h4 0 _ rfl _ rfl
  replace A := (⟨h1, h2.trans A.2⟩ : a.tmps.size = 108 ∧ a.defers = [])
  clear h1 h2 h3 h4
  refine wp_seq ?_
  refine wp_seq ?_
  refine wp_region_sq (σ := Unit) 108 [(0, 5)] (fun j_ s X => match j_ with | 0 => Below V.heap.size V X ∧ X.heap[gc]? = some (.cells (ctC (fun _ => 0)) 3) ∧ (V.heap.size ≤ gc) | _ => Below V.heap.size V X ∧ X.heap[gc]? = some (.cells (ctC (fun _ => 0)) 3) ∧ (V.heap.size ≤ gc)) (fun s => fun i_ => match i_ with | 0 => .int .i64 ((0 : Nat) : Int) | _ => undef) () A.1 (by kernel_rfl) (by decide) (by decide) ⟨BB, FC, Fgc⟩ ?_ ?_
  · intro i_ hi_ s a X hf hv hn hS
    match i_, hi_ with
    | 0, _ => exact stepV rfl rfl (execAsgB rfl rfl) ⟨s, ⟨_, rfl, rfl⟩, hS, fun _ _ => rfl⟩
    | k_ + 1, h_ => exact absurd h_ (by simp)
  rintro _ a X5 h1 h2 h3 h4 hS
  clear BB
  clear FC
  clear Fgc
  replace hS : Below V.heap.size V X5 ∧ X5.heap[gc]? = some (.cells (ctC (fun _ => 0)) 3) ∧ (V.heap.size ≤ gc) := hS
  obtain ⟨BB, FC, Fgc⟩ := hS
  replace t0 := (h3 0 (by decide)).trans t0
  replace t3 := (h3 3 (by decide)).trans t3
  replace t4 := (h3 4 (by decide)).trans t4
  have t5 : a.eval (.tmp 5) = .int .i64 ((0 : Nat) : Int) := h4 0 _ rfl _ rfl
  replace A := (⟨h1, h2.trans A.2⟩ : a.tmps.size = 108 ∧ a.defers = [])
  clear h1 h2 h3 h4
  refine wp_block ?_
  refine wp_loop (fun a W => ∃ (v : Nat), v ≤ 256 ∧ (a.tmps.size = 108 ∧ a.defers = []) ∧ a.eval (.tmp 0) = .int .i64 sk ∧ a.eval (.tmp 3) = .slice (some ⟨gc, 0, none⟩) 256 256 ∧ a.eval (.tmp 4) = .int .i64 ((0 : Nat) : Int) ∧ a.eval (.tmp 5) = .int .i64 ((v : Nat) : Int) ∧ Below V.heap.size V W ∧ W.heap[gc]? = some (.cells (ctC (fun _ => 0)) 3) ∧ V.heap.size ≤ gc) (fun a _ => 256 - (intOf (a.eval (.tmp 5))).toNat) ⟨0, Nat.zero_le _, A, t0, t3, t4, t5, BB, FC, Fgc⟩ ?_
  clear A t0 t3 t4 t5 BB FC Fgc a
  rintro a XL ⟨v, hvl, A, t0, t3, t4, t5, BB, FC, Fgc⟩
  have e5 := t5
  refine wp_seq ?_
  refine wp_seq ?_
  refine wp_region_sq (σ := Unit) 108 [(0, 13), (1, 14)] (fun j_ s X => match j_ with | 0 => Below V.heap.size V X ∧ X.heap[gc]? = some (.cells (ctC (fun _ => 0)) 3) ∧ (V.heap.size ≤ gc) | 1 => Below V.heap.size V X ∧ X.heap[gc]? = some (.cells (ctC (fun _ => 0)) 3) ∧ (V.heap.size ≤ gc) | _ => Below V.heap.size V X ∧ X.heap[gc]? = some (.cells (ctC (fun _ => 0)) 3) ∧ (V.heap.size ≤ gc)) (fun s => fun i_ => match i_ with | 0 => .int .i64 ((v : Nat) : Int) | 1 => .bool (decide (v < 256)) | _ => undef) () A.1 (by kernel_rfl) (by decide) (by decide) ⟨BB, FC, Fgc⟩ ?_ ?_
  · intro i_ hi_ s a X hf hv hn hS
    match i_, hi_ with
    | 0, _ => exact stepV rfl rfl (execMvB rfl ((hf 5 (by decide)).trans t5)) ⟨s, ⟨_, rfl, rfl⟩, hS, fun _ _ => rfl⟩
    | 1, _ => exact stepV rfl rfl (execLtW (p := v) (q := 256) rfl (hv 0 (by omega) _ rfl _ rfl) rfl) ⟨s, ⟨_, rfl, rfl⟩, hS, fun _ _ => rfl⟩
    | k_ + 2, h_ => exact absurd h_ (by simp)
  rintro _ a X6 h1 h2 h3 h4 hS
  clear BB
  clear FC
  clear Fgc
  replace hS : Below V.heap.size V X6 ∧ X6.heap[gc]? = some (.cells (ctC (fun _ => 0)) 3) ∧ (V.heap.size ≤ gc) := hS
  obtain ⟨BB, FC, Fgc⟩ := hS
  replace t0 := (h3 0 (by decide)).trans t0
  replace t3 := (h3 3 (by decide)).trans t3
  replace t4 := (h3 4 (by decide)).trans t4
  replace t5 := (h3 5 (by decide)).trans t5
  have t14 : a.eval (.tmp 14) = .bool (decide (v < 256)) := h4 1 _ rfl _ rfl
  replace A := (⟨h1, h2.trans A.2⟩ : a.tmps.size = 108 ∧ a.defers = [])
  clear h1 h2 h3 h4
  by_cases hv2 : v < 256
  · rw [decide_eq_true hv2] at t14
    refine wp_cond_true t14 ?_
    refine wp_skip ?_
    clear t14
    refine wp_seq ?_
    refine wp_block ?_
    refine wp_seq ?_
    refine wp_region_sq (σ := Nat × Nat) 108 [(0, 18), (1, 19), (2, 20), (3, 21), (4, 22), (5, 23), (6, 17), (7, 24), (8, 25), (9, 26), (10, 7), (11, 6), (13, 8)] (fun j_ s X => match j_ with | 0 => Below V.heap.size V X ∧ X.heap[gc]? = some (.cells (ctC (fun _ => 0)) 3) ∧ (V.heap.size ≤ gc) | 1 => Below V.heap.size V X ∧ X.heap[gc]? = some (.cells (ctC (fun _ => 0)) 3) ∧ (V.heap.size ≤ gc) | 2 => Below V.heap.size V X ∧ X.heap[gc]? = some (.cells (ctC (fun _ => 0)) 3) ∧ (V.heap.size ≤ gc) | 3 => Below V.heap.size V X ∧ X.heap[gc]? = some (.cells (ctC (fun _ => 0)) 3) ∧ (V.heap.size ≤ gc) ∧ SliceN X (.slice (some ⟨s.1, 0, none⟩) 1 1) (1) (fun _ => v) | 4 => Below V.heap.size V X ∧ X.heap[gc]? = some (.cells (ctC (fun _ => 0)) 3) ∧ (V.heap.size ≤ gc) ∧ SliceN X (.slice (some ⟨s.1, 0, none⟩) 1 1) (1) (fun _ => v) | 5 => Below V.heap.size V X ∧ X.heap[gc]? = some (.cells (ctC (fun _ => 0)) 3) ∧ (V.heap.size ≤ gc) ∧ SliceN X (.slice (some ⟨s.1, 0, none⟩) 1 1) (1) (fun _ => v) | 6 => Below V.heap.size V X ∧ X.heap[gc]? = some (.cells (ctC (fun _ => 0)) 3) ∧ (V.heap.size ≤ gc) ∧ SliceN X (.slice (some ⟨s.1, 0, none⟩) 1 1) (1) (fun _ => v) | 7 => Below V.heap.size V X ∧ X.heap[gc]? = some (.cells (ctC (fun _ => 0)) 3) ∧ (V.heap.size ≤ gc) ∧ SliceN X (.slice (some ⟨s.1, 0, none⟩) 1 1) (1) (fun _ => v) | 8 => Below V.heap.size V X ∧ X.heap[gc]? = some (.cells (ctC (fun _ => 0)) 3) ∧ (V.heap.size ≤ gc) ∧ SliceN X (.slice (some ⟨s.1, 0, none⟩) 1 1) (1) (fun _ => v) | 9 => Below V.heap.size V X ∧ X.heap[gc]? = some (.cells (ctC (fun _ => 0)) 3) ∧ (V.heap.size ≤ gc) ∧ SliceN X (.slice (some ⟨s.1, 0, none⟩) 1 1) (1) (fun _ => v) | 10 => Below V.heap.size V X ∧ X.heap[gc]? = some (.cells (ctC (fun _ => 0)) 3) ∧ (V.heap.size ≤ gc) ∧ SliceN X (.slice (some ⟨s.1, 0, none⟩) 1 1) (1) (fun _ => v) | 11 => Below V.heap.size V X ∧ X.heap[gc]? = some (.cells (ctC (fun _ => 0)) 3) ∧ (V.heap.size ≤ gc) ∧ SliceN X (.slice (some ⟨s.1, 0, none⟩) 1 1) (1) (fun _ => v) ∧ X.heap[s.2]? = some (.cells (tpC (fun _ => 0) 0 0) 25) ∧ (V.heap.size ≤ s.2) ∧ (gc ≠ s.2) | 12 => Below V.heap.size V X ∧ X.heap[gc]? = some (.cells (ctC (fun _ => 0)) 3) ∧ (V.heap.size ≤ gc) ∧ SliceN X (.slice (some ⟨s.1, 0, none⟩) 1 1) (1) (fun _ => v) ∧ X.heap[s.2]? = some (.cells (tpC (fun _ => 0) 0 0) 25) ∧ (V.heap.size ≤ s.2) ∧ (gc ≠ s.2) | 13 => Below V.heap.size V X ∧ X.heap[gc]? = some (.cells (ctC (fun _ => 0)) 3) ∧ (V.heap.size ≤ gc) ∧ (V.heap.size ≤ s.2) ∧ (gc ≠ s.2) ∧ X.heap[s.2]? = some (.cells (tpC (fun _ => v) (if dE (fun _ => v) 1 0 sk = 0 then 1 else 0) (dN (fun _ => v) 1 0 sk)) 25) | _ => Below V.heap.size V X ∧ X.heap[gc]? = some (.cells (ctC (fun _ => 0)) 3) ∧ (V.heap.size ≤ gc) ∧ (V.heap.size ≤ s.2) ∧ (gc ≠ s.2) ∧ X.heap[s.2]? = some (.cells (tpC (fun _ => v) (if dE (fun _ => v) 1 0 sk = 0 then 1 else 0) (dN (fun _ => v) 1 0 sk)) 25)) (fun s => fun i_ => match i_ with | 0 => .int .i64 ((v : Nat) : Int) | 1 => .int .u8 ((v : Nat) : Int) | 2 => .slice (some ⟨s.1, 0, none⟩) 1 1 | 3 => .agg (tpC (fun _ => v) 1 0) | 4 => .int .i64 sk | 5 => .tuple #[.int .i64 ((dV (fun _ => v) 1 0 sk : Nat) : Int), .agg (tpC (fun _ => v) (if dE (fun _ => v) 1 0 sk = 0 then 1 else 0) (dN (fun _ => v) 1 0 sk)), .int .i64 ((dE (fun _ => v) 1 0 sk : Nat) : Int)] | 6 => .tuple #[.int .i64 ((dV (fun _ => v) 1 0 sk : Nat) : Int), .agg (tpC (fun _ => v) (if dE (fun _ => v) 1 0 sk = 0 then 1 else 0) (dN (fun _ => v) 1 0 sk)), .int .i64 ((dE (fun _ => v) 1 0 sk : Nat) : Int)] | 7 => .int .i64 ((dV (fun _ => v) 1 0 sk : Nat) : Int) | 8 => .agg (tpC (fun _ => v) (if dE (fun _ => v) 1 0 sk = 0 then 1 else 0) (dN (fun _ => v) 1 0 sk)) | 9 => .int .i64 ((dE (fun _ => v) 1 0 sk : Nat) : Int) | 10 => .pointer (some ⟨s.2, 0, none⟩) | 11 => .int .i64 ((dV (fun _ => v) 1 0 sk : Nat) : Int) | 12 => undef | 13 => .int .i64 ((dE (fun _ => v) 1 0 sk : Nat) : Int) | _ => undef) (0, 0) A.1 (by kernel_rfl) (by decide) (by decide) ⟨BB, FC, Fgc⟩ ?_ ?_
    · intro i_ hi_ s a X hf hv hn hS
      match i_, hi_ with
      | 0, _ => exact stepV rfl rfl (execMvB rfl ((hf 5 (by decide)).trans t5)) ⟨s, ⟨_, rfl, rfl⟩, hS, fun _ _ => rfl⟩
      | 1, _ => exact stepV rfl rfl (execU8W (n := v) rfl (hv 0 (by omega) _ rfl _ rfl) hv2) ⟨s, ⟨_, rfl, rfl⟩, hS, fun _ _ => rfl⟩
      | 2, _ =>
        refine stepV rfl rfl (execBsV1 (z := ((v : Nat) : Int)) rfl (hv 1 (by omega) _ rfl _ rfl)) ⟨(X.heap.size, s.2), ⟨_, rfl, rfl⟩, ⟨(hS.1).trans (((belNew X _)).mono (hS.1).size), (on9 hS.2.1 (belNew X _)), hS.2.2, one_slice (heapNew X _) rfl hv2⟩, fun i hi => ?_⟩
        match i, hi with
        | 0, _ => rfl
        | 1, _ => rfl
        | n_ + 2, h_ => omega
      | 3, _ => exact stepC rfl rfl (execCall1 Try.func6 (by kernel_rfl) (by kernel_rfl) rfl (hv 2 (by omega) _ rfl _ rfl)) (new_any (fun _ => v) 1 _ X hS.2.2.2) fun e w' hh => ⟨_, hh.1, s, ⟨_, rfl, rfl⟩, ⟨(hS.1).trans ((hh.2).mono (hS.1).size), (on9 hS.2.1 hh.2), hS.2.2.1, (hS.2.2.2.on hh.2)⟩, fun _ _ => rfl⟩
      | 4, _ => exact stepV rfl rfl (execMvB rfl ((hf 0 (by decide)).trans t0)) ⟨s, ⟨_, rfl, rfl⟩, hS, fun _ _ => rfl⟩
      | 5, _ => exact stepC rfl rfl (execCall2 Try.func5 (by kernel_rfl) (by kernel_rfl) rfl (hv 3 (by omega) _ rfl _ rfl) (hv 4 (by omega) _ rfl _ rfl)) (I.below (fun _ => v) 1 0 sk X (by omega) (by omega) (fun _ _ => hv2)) fun e w' hh => ⟨_, hh.1, s, ⟨_, rfl, rfl⟩, ⟨(hS.1).trans ((hh.2).mono (hS.1).size), (on9 hS.2.1 hh.2), hS.2.2.1, (hS.2.2.2.on hh.2)⟩, fun _ _ => rfl⟩
      | 6, _ => exact stepV rfl rfl (execMvB rfl (hv 5 (by omega) _ rfl _ rfl)) ⟨s, ⟨_, rfl, rfl⟩, hS, fun _ _ => rfl⟩
      | 7, _ => exact stepV rfl rfl (execExtT rfl (hv 6 (by omega) _ rfl _ rfl) rfl) ⟨s, ⟨_, rfl, rfl⟩, hS, fun _ _ => rfl⟩
      | 8, _ => exact stepV rfl rfl (execExtT rfl (hv 6 (by omega) _ rfl _ rfl) rfl) ⟨s, ⟨_, rfl, rfl⟩, hS, fun _ _ => rfl⟩
      | 9, _ => exact stepV rfl rfl (execExtT rfl (hv 6 (by omega) _ rfl _ rfl) rfl) ⟨s, ⟨_, rfl, rfl⟩, hS, fun _ _ => rfl⟩
      | 10, _ =>
        refine stepV rfl rfl (execAllTp rfl (fun _ => 0)) ⟨(s.1, X.heap.size), ⟨_, rfl, rfl⟩, ⟨(hS.1).trans (((belNew X _)).mono (hS.1).size), (on9 hS.2.1 (belNew X _)), hS.2.2.1, (hS.2.2.2.on (belNew X _)), heapNew X _, (hS.1).size, ne9 hS.2.1⟩, fun i hi => ?_⟩
        match i, hi with
        | 0, _ => rfl
        | 1, _ => rfl
        | 2, _ => rfl
        | 3, _ => rfl
        | 4, _ => rfl
        | 5, _ => rfl
        | 6, _ => rfl
        | 7, _ => rfl
        | 8, _ => rfl
        | 9, _ => rfl
        | n_ + 10, h_ => omega
      | 11, _ => exact stepV rfl rfl (execAsgB rfl (hv 7 (by omega) _ rfl _ rfl)) ⟨s, ⟨_, rfl, rfl⟩, hS, fun _ _ => rfl⟩
      | 12, _ => exact stepS rfl rfl (execStTp rfl (hv 10 (by omega) _ rfl _ rfl) (hv 8 (by omega) _ rfl _ rfl) hS.2.2.2.2.1 rfl) ⟨s, ⟨_, rfl, rfl⟩, ⟨below4 hS.1 hS.2.2.2.2.2.1 _, (by rw [setRow_other _ _ _ _ (hS.2.2.2.2.2.2)]; exact hS.2.1), hS.2.2.1, hS.2.2.2.2.2.1, hS.2.2.2.2.2.2, setRow_heap _ _ _ _ _ _ hS.2.2.2.2.1⟩, fun _ _ => rfl⟩
      | 13, _ => exact stepV rfl rfl (execAsgB rfl (hv 9 (by omega) _ rfl _ rfl)) ⟨s, ⟨_, rfl, rfl⟩, hS, fun _ _ => rfl⟩
      | k_ + 14, h_ => exact absurd h_ (by simp)
    rintro ⟨g20, g7⟩ a X8 h1 h2 h3 h4 hS
    clear BB
    clear FC
    clear Fgc
    replace hS : Below V.heap.size V X8 ∧ X8.heap[gc]? = some (.cells (ctC (fun _ => 0)) 3) ∧ (V.heap.size ≤ gc) ∧ (V.heap.size ≤ g7) ∧ (gc ≠ g7) ∧ X8.heap[g7]? = some (.cells (tpC (fun _ => v) (if dE (fun _ => v) 1 0 sk = 0 then 1 else 0) (dN (fun _ => v) 1 0 sk)) 25) := hS
    obtain ⟨BB, FC, Fgc, Fge7, Fn7FC, F7⟩ := hS
    replace t0 := (h3 0 (by decide)).trans t0
    replace t3 := (h3 3 (by decide)).trans t3
    replace t4 := (h3 4 (by decide)).trans t4
    replace t5 := (h3 5 (by decide)).trans t5
    have t6 : a.eval (.tmp 6) = .int .i64 ((dV (fun _ => v) 1 0 sk : Nat) : Int) := h4 11 _ rfl _ rfl
    have t7 : a.eval (.tmp 7) = .pointer (some ⟨g7, 0, none⟩) := h4 10 _ rfl _ rfl
    have t8 : a.eval (.tmp 8) = .int .i64 ((dE (fun _ => v) 1 0 sk : Nat) : Int) := h4 13 _ rfl _ rfl
    replace A := (⟨h1, h2.trans A.2⟩ : a.tmps.size = 108 ∧ a.defers = [])
    clear h1 h2 h3 h4
    clear Fge7 Fn7FC
    clear F7 t6 t7
    refine wp_seq ?_
    refine wp_seq ?_
    refine wp_region_sq (σ := Unit) 108 [(0, 27), (1, 28), (2, 29), (3, 30), (4, 31), (5, 32)] (fun j_ s X => match j_ with | 0 => Below V.heap.size V X ∧ X.heap[gc]? = some (.cells (ctC (fun _ => 0)) 3) ∧ (V.heap.size ≤ gc) | 1 => Below V.heap.size V X ∧ X.heap[gc]? = some (.cells (ctC (fun _ => 0)) 3) ∧ (V.heap.size ≤ gc) | 2 => Below V.heap.size V X ∧ X.heap[gc]? = some (.cells (ctC (fun _ => 0)) 3) ∧ (V.heap.size ≤ gc) | 3 => Below V.heap.size V X ∧ X.heap[gc]? = some (.cells (ctC (fun _ => 0)) 3) ∧ (V.heap.size ≤ gc) | 4 => Below V.heap.size V X ∧ X.heap[gc]? = some (.cells (ctC (fun _ => 0)) 3) ∧ (V.heap.size ≤ gc) | 5 => Below V.heap.size V X ∧ X.heap[gc]? = some (.cells (ctC (fun _ => 0)) 3) ∧ (V.heap.size ≤ gc) | _ => Below V.heap.size V X ∧ X.heap[gc]? = some (.cells (ctC (fun _ => 0)) 3) ∧ (V.heap.size ≤ gc)) (fun s => fun i_ => match i_ with | 0 => .int .i64 sk | 1 => .bool true | 2 => .bool true | 3 => undef | 4 => undef | 5 => .bool true | _ => undef) () A.1 (by kernel_rfl) (by decide) (by decide) ⟨BB, FC, Fgc⟩ ?_ ?_
    · intro i_ hi_ s a X hf hv hn hS
      match i_, hi_ with
      | 0, _ => exact stepV rfl rfl (execMvB rfl ((hf 0 (by decide)).trans t0)) ⟨s, ⟨_, rfl, rfl⟩, hS, fun _ _ => rfl⟩
      | 1, _ => exact stepV rfl rfl (execLtCt (p := sk) (q := 1) rfl (hv 0 (by omega) _ rfl _ rfl) (by exact hk)) ⟨s, ⟨_, rfl, rfl⟩, hS, fun _ _ => rfl⟩
      | 2, _ => exact stepV rfl rfl (execMvB rfl (hv 1 (by omega) _ rfl _ rfl)) ⟨s, ⟨_, rfl, rfl⟩, hS, fun _ _ => rfl⟩
      | 3, _ => exact stepU rfl (unwantedOf rfl (yieldedAt rfl rfl (show a.eval (.tmp 29) = .bool (!false) from (hv 2 (by omega) _ rfl _ rfl)))) ⟨s, ⟨_, rfl, rfl⟩, hS, fun _ _ => rfl⟩
      | 4, _ => exact stepU rfl (unwantedOf rfl (yieldedAt rfl rfl (show a.eval (.tmp 29) = .bool (!false) from (hv 2 (by omega) _ rfl _ rfl)))) ⟨s, ⟨_, rfl, rfl⟩, hS, fun _ _ => rfl⟩
      | 5, _ => exact stepV rfl rfl (execPickT rfl (hv 2 (by omega) _ rfl _ rfl) rfl) ⟨s, ⟨_, rfl, rfl⟩, hS, fun _ _ => rfl⟩
      | k_ + 6, h_ => exact absurd h_ (by simp)
    rintro _ a X9 h1 h2 h3 h4 hS
    clear BB
    clear FC
    clear Fgc
    replace hS : Below V.heap.size V X9 ∧ X9.heap[gc]? = some (.cells (ctC (fun _ => 0)) 3) ∧ (V.heap.size ≤ gc) := hS
    obtain ⟨BB, FC, Fgc⟩ := hS
    replace t0 := (h3 0 (by decide)).trans t0
    replace t3 := (h3 3 (by decide)).trans t3
    replace t4 := (h3 4 (by decide)).trans t4
    replace t5 := (h3 5 (by decide)).trans t5
    replace t8 := (h3 8 (by decide)).trans t8
    have t32 : a.eval (.tmp 32) = .bool true := h4 5 _ rfl _ rfl
    replace A := (⟨h1, h2.trans A.2⟩ : a.tmps.size = 108 ∧ a.defers = [])
    clear h1 h2 h3 h4
    refine wp_cond_true t32 ?_
    clear t32
    refine wp_seq ?_
    refine wp_seq ?_
    refine wp_region_sq (σ := Unit) 108 [(0, 33), (1, 34)] (fun j_ s X => match j_ with | 0 => Below V.heap.size V X ∧ X.heap[gc]? = some (.cells (ctC (fun _ => 0)) 3) ∧ (V.heap.size ≤ gc) | 1 => Below V.heap.size V X ∧ X.heap[gc]? = some (.cells (ctC (fun _ => 0)) 3) ∧ (V.heap.size ≤ gc) | _ => Below V.heap.size V X ∧ X.heap[gc]? = some (.cells (ctC (fun _ => 0)) 3) ∧ (V.heap.size ≤ gc)) (fun s => fun i_ => match i_ with | 0 => .int .i64 ((dE (fun _ => v) 1 0 sk : Nat) : Int) | 1 => .bool false | _ => undef) () A.1 (by kernel_rfl) (by decide) (by decide) ⟨BB, FC, Fgc⟩ ?_ ?_
    · intro i_ hi_ s a X hf hv hn hS
      match i_, hi_ with
      | 0, _ => exact stepV rfl rfl (execMvB rfl ((hf 8 (by decide)).trans t8)) ⟨s, ⟨_, rfl, rfl⟩, hS, fun _ _ => rfl⟩
      | 1, _ => exact stepV rfl rfl (execDec (execNeE (p := dE (fun _ => v) 1 0 sk) (q := 2) rfl (hv 0 (by omega) _ rfl _ rfl) rfl) (decide_eq_false (by exact fun q => q (dE_bad hbad)))) ⟨s, ⟨_, rfl, rfl⟩, hS, fun _ _ => rfl⟩
      | k_ + 2, h_ => exact absurd h_ (by simp)
    rintro _ a X10 h1 h2 h3 h4 hS
    clear BB
    clear FC
    clear Fgc
    replace hS : Below V.heap.size V X10 ∧ X10.heap[gc]? = some (.cells (ctC (fun _ => 0)) 3) ∧ (V.heap.size ≤ gc) := hS
    obtain ⟨BB, FC, Fgc⟩ := hS
    replace t0 := (h3 0 (by decide)).trans t0
    replace t3 := (h3 3 (by decide)).trans t3
    replace t4 := (h3 4 (by decide)).trans t4
    replace t5 := (h3 5 (by decide)).trans t5
    have t34 : a.eval (.tmp 34) = .bool false := h4 1 _ rfl _ rfl
    replace A := (⟨h1, h2.trans A.2⟩ : a.tmps.size = 108 ∧ a.defers = [])
    clear h1 h2 h3 h4
    clear t8
    refine wp_cond_false t34 ?_
    refine wp_skip ?_
    clear t34
    refine wp_exit ?_
    repeat (first | refine exit_in ?_ | refine exit_then ?_)
    refine wp_region_sq (σ := Unit) 108 [(0, 15), (1, 16), (2, 5)] (fun j_ s X => match j_ with | 0 => Below V.heap.size V X ∧ X.heap[gc]? = some (.cells (ctC (fun _ => 0)) 3) ∧ (V.heap.size ≤ gc) | 1 => Below V.heap.size V X ∧ X.heap[gc]? = some (.cells (ctC (fun _ => 0)) 3) ∧ (V.heap.size ≤ gc) | 2 => Below V.heap.size V X ∧ X.heap[gc]? = some (.cells (ctC (fun _ => 0)) 3) ∧ (V.heap.size ≤ gc) | _ => Below V.heap.size V X ∧ X.heap[gc]? = some (.cells (ctC (fun _ => 0)) 3) ∧ (V.heap.size ≤ gc)) (fun s => fun i_ => match i_ with | 0 => .int .i64 ((v : Nat) : Int) | 1 => .int .i64 ((v + 1 : Nat) : Int) | 2 => .int .i64 ((v + 1 : Nat) : Int) | _ => undef) () A.1 (by kernel_rfl) (by decide) (by decide) ⟨BB, FC, Fgc⟩ ?_ ?_
    · intro i_ hi_ s a X hf hv hn hS
      match i_, hi_ with
      | 0, _ => exact stepV rfl rfl (execMvB rfl ((hn 2 (by omega) _ rfl _ rfl).trans t5)) ⟨s, ⟨_, rfl, rfl⟩, hS, fun _ _ => rfl⟩
      | 1, _ => exact stepV rfl rfl (execAd8 (p := v) (q := 1) rfl (hv 0 (by omega) _ rfl _ rfl) rfl (by omega)) ⟨s, ⟨_, rfl, rfl⟩, hS, fun _ _ => rfl⟩
      | 2, _ => exact stepV rfl rfl (execAsgB rfl (hv 1 (by omega) _ rfl _ rfl)) ⟨s, ⟨_, rfl, rfl⟩, hS, fun _ _ => rfl⟩
      | k_ + 3, h_ => exact absurd h_ (by simp)
    rintro _ a X7 h1 h2 h3 h4 hS
    clear BB
    clear FC
    clear Fgc
    replace hS : Below V.heap.size V X7 ∧ X7.heap[gc]? = some (.cells (ctC (fun _ => 0)) 3) ∧ (V.heap.size ≤ gc) := hS
    obtain ⟨BB, FC, Fgc⟩ := hS
    replace t0 := (h3 0 (by decide)).trans t0
    replace t3 := (h3 3 (by decide)).trans t3
    replace t4 := (h3 4 (by decide)).trans t4
    replace t5 : a.eval (.tmp 5) = .int .i64 ((v + 1 : Nat) : Int) := h4 2 _ rfl _ rfl
    replace A := (⟨h1, h2.trans A.2⟩ : a.tmps.size = 108 ∧ a.defers = [])
    clear h1 h2 h3 h4
    exact ⟨⟨v + 1, hv2, A, t0, t3, t4, t5, BB, FC, Fgc⟩, by show 256 - (intOf (a.eval (.tmp 5))).toNat < 256 - (intOf (Act.eval _ (.tmp 5))).toNat; rw [t5, e5]; show 256 - (v + 1) < 256 - v; omega⟩
  · rw [decide_eq_false hv2] at t14
    refine wp_cond_false t14 ?_
    refine wp_exit ?_
    first | refine exit_in ?_ | refine exit_then (exit_in ?_) | refine exit_then (exit_then (exit_in ?_))
    clear t14
    refine wp_seq ?_
    refine wp_seq ?_
    refine wp_region_sq (σ := Unit) 108 [(0, 76), (1, 77), (2, 78), (3, 79), (4, 80), (5, 81)] (fun j_ s X => match j_ with | 0 => Below V.heap.size V X ∧ X.heap[gc]? = some (.cells (ctC (fun _ => 0)) 3) ∧ (V.heap.size ≤ gc) | 1 => Below V.heap.size V X ∧ X.heap[gc]? = some (.cells (ctC (fun _ => 0)) 3) ∧ (V.heap.size ≤ gc) | 2 => Below V.heap.size V X ∧ X.heap[gc]? = some (.cells (ctC (fun _ => 0)) 3) ∧ (V.heap.size ≤ gc) | 3 => Below V.heap.size V X ∧ X.heap[gc]? = some (.cells (ctC (fun _ => 0)) 3) ∧ (V.heap.size ≤ gc) | 4 => Below V.heap.size V X ∧ X.heap[gc]? = some (.cells (ctC (fun _ => 0)) 3) ∧ (V.heap.size ≤ gc) | 5 => Below V.heap.size V X ∧ X.heap[gc]? = some (.cells (ctC (fun _ => 0)) 3) ∧ (V.heap.size ≤ gc) | _ => Below V.heap.size V X ∧ X.heap[gc]? = some (.cells (ctC (fun _ => 0)) 3) ∧ (V.heap.size ≤ gc)) (fun s => fun i_ => match i_ with | 0 => .int .i64 sk | 1 => .bool true | 2 => .bool true | 3 => undef | 4 => undef | 5 => .bool true | _ => undef) () A.1 (by kernel_rfl) (by decide) (by decide) ⟨BB, FC, Fgc⟩ ?_ ?_
    · intro i_ hi_ s a X hf hv hn hS
      match i_, hi_ with
      | 0, _ => exact stepV rfl rfl (execMvB rfl ((hf 0 (by decide)).trans t0)) ⟨s, ⟨_, rfl, rfl⟩, hS, fun _ _ => rfl⟩
      | 1, _ => exact stepV rfl rfl (execLtCt (p := sk) (q := 1) rfl (hv 0 (by omega) _ rfl _ rfl) (by exact hk)) ⟨s, ⟨_, rfl, rfl⟩, hS, fun _ _ => rfl⟩
      | 2, _ => exact stepV rfl rfl (execMvB rfl (hv 1 (by omega) _ rfl _ rfl)) ⟨s, ⟨_, rfl, rfl⟩, hS, fun _ _ => rfl⟩
      | 3, _ => exact stepU rfl (unwantedOf rfl (yieldedAt rfl rfl (show a.eval (.tmp 78) = .bool (!false) from (hv 2 (by omega) _ rfl _ rfl)))) ⟨s, ⟨_, rfl, rfl⟩, hS, fun _ _ => rfl⟩
      | 4, _ => exact stepU rfl (unwantedOf rfl (yieldedAt rfl rfl (show a.eval (.tmp 78) = .bool (!false) from (hv 2 (by omega) _ rfl _ rfl)))) ⟨s, ⟨_, rfl, rfl⟩, hS, fun _ _ => rfl⟩
      | 5, _ => exact stepV rfl rfl (execPickT rfl (hv 2 (by omega) _ rfl _ rfl) rfl) ⟨s, ⟨_, rfl, rfl⟩, hS, fun _ _ => rfl⟩
      | k_ + 6, h_ => exact absurd h_ (by simp)
    rintro _ a X17 h1 h2 h3 h4 hS
    clear BB
    clear FC
    clear Fgc
    replace hS : Below V.heap.size V X17 ∧ X17.heap[gc]? = some (.cells (ctC (fun _ => 0)) 3) ∧ (V.heap.size ≤ gc) := hS
    obtain ⟨BB, FC, Fgc⟩ := hS
    replace t0 := (h3 0 (by decide)).trans t0
    have t81 : a.eval (.tmp 81) = .bool true := h4 5 _ rfl _ rfl
    replace A := (⟨h1, h2.trans A.2⟩ : a.tmps.size = 108 ∧ a.defers = [])
    clear h1 h2 h3 h4
    clear t3 t4 t5
    refine wp_cond_true t81 ?_
    clear t81
    refine wp_seq ?_
    refine wp_region_sq (σ := Unit) 108 [(0, 2)] (fun j_ s X => match j_ with | 0 => Below V.heap.size V X ∧ X.heap[gc]? = some (.cells (ctC (fun _ => 0)) 3) ∧ (V.heap.size ≤ gc) | _ => Below V.heap.size V X ∧ X.heap[gc]? = some (.cells (ctC (fun _ => 0)) 3) ∧ (V.heap.size ≤ gc)) (fun s => fun i_ => match i_ with | 0 => .bool true | _ => undef) () A.1 (by kernel_rfl) (by decide) (by decide) ⟨BB, FC, Fgc⟩ ?_ ?_
    · intro i_ hi_ s a X hf hv hn hS
      match i_, hi_ with
      | 0, _ => exact stepV rfl rfl (execAsgB rfl rfl) ⟨s, ⟨_, rfl, rfl⟩, hS, fun _ _ => rfl⟩
      | k_ + 1, h_ => exact absurd h_ (by simp)
    rintro _ a X18 h1 h2 h3 h4 hS
    clear BB
    clear FC
    clear Fgc
    replace hS : Below V.heap.size V X18 ∧ X18.heap[gc]? = some (.cells (ctC (fun _ => 0)) 3) ∧ (V.heap.size ≤ gc) := hS
    obtain ⟨BB, FC, Fgc⟩ := hS
    have t2 : a.eval (.tmp 2) = .bool true := h4 0 _ rfl _ rfl
    replace A := (⟨h1, h2.trans A.2⟩ : a.tmps.size = 108 ∧ a.defers = [])
    clear h1 h2 h3 h4
    clear t0
    refine wp_ret ?_
    refine ret_then ?_
    refine bodyPost_ret (results_tmp rfl _ _ _) A.2 ⟨?_, BB⟩
    show Ending.returned (a.eval (.tmp 2)) = _
    rw [t2]
set_option maxRecDepth 100000 in
set_option maxHeartbeats 8000000 in
theorem bytes_hi (I : Impl) (V : World) (sk : Int) (hk : 256 < sk) : Calls Try.prog 3 #[.int .i64 sk] V fun e w' => e = .returned (.bool true) ∧ Below V.heap.size V w' := by
  have hbad : bad sk := Or.inr hk
  go_enter Try.func3, Try.ntmps3
  refine wp_seq ?_
  refine wp_region_sqK 108 [(0, 2)] (fun i_ => match i_ with | 0 => .bool false | _ => undef) rfl (by kernel_rfl) (by decide) (by decide) ?_ ?_
  · intro i_ hi_ a hf hv hn
    match i_, hi_ with
    | 0, _ => exact stepV rfl rfl (execAsgB rfl rfl) ⟨⟨_, rfl, rfl⟩, rfl⟩
    | k_ + 1, h_ => exact absurd h_ (by simp)
  intro a h1 h2 h3 h4
  have t0 : a.eval (.tmp 0) = .int .i64 sk := (h3 0 (by decide)).trans rfl
  have A : a.tmps.size = 108 ∧ a.defers = [] := ⟨h1, h2⟩
  have BW : Below V.heap.size V V := Below.refl _ _
  clear h1 h2 h3 h4
  have BB := BW
  clear BW
  refine wp_seq ?_
  refine wp_seq ?_
  refine wp_region_sq (σ := Unit) 108 [(0, 10), (1, 11)] (fun j_ s X => match j_ with | 0 => Below V.heap.size V X | 1 => Below V.heap.size V X | _ => Below V.heap.size V X) (fun s => fun i_ => match i_ with | 0 => .bool true | 1 => .bool false | _ => undef) () A.1 (by kernel_rfl) (by decide) (by decide) (BB) ?_ ?_
  · intro i_ hi_ s a X hf hv hn hS
    match i_, hi_ with
    | 0, _ => exact stepC rfl rfl (execCall0 Try.func4 (by kernel_rfl) (by kernel_rfl) rfl ) (alive10 I X) fun e w' hh => ⟨_, hh.1, s, ⟨_, rfl, rfl⟩, (hS).trans ((hh.2).mono (hS).size), fun _ _ => rfl⟩
    | 1, _ => exact stepV rfl rfl (execNot8 rfl (hv 0 (by omega) _ rfl _ rfl)) ⟨s, ⟨_, rfl, rfl⟩, hS, fun _ _ => rfl⟩
    | k_ + 2, h_ => exact absurd h_ (by simp)
  rintro _ a X1 h1 h2 h3 h4 hS
  clear BB
  replace hS : Below V.heap.size V X1 := hS
  have BB := hS
  clear hS
  replace t0 := (h3 0 (by decide)).trans t0
  have t11 : a.eval (.tmp 11) = .bool false := h4 1 _ rfl _ rfl
  replace A := (⟨h1, h2.trans A.2⟩ : a.tmps.size = 108 ∧ a.defers = [])
  clear h1 h2 h3 h4
  refine wp_cond_false t11 ?_
  refine wp_skip ?_
  clear t11
  refine wp_seq ?_
  refine wp_region_sq (σ := Nat) 108 [(0, 12), (1, 3)] (fun j_ s X => match j_ with | 0 => Below V.heap.size V X | 1 => Below V.heap.size V X ∧ X.heap[s]? = some (.cells (ctC (fun _ => 0)) 3) ∧ (V.heap.size ≤ s) | _ => Below V.heap.size V X ∧ X.heap[s]? = some (.cells (ctC (fun _ => 0)) 3) ∧ (V.heap.size ≤ s)) (fun s => fun i_ => match i_ with | 0 => .slice (some ⟨s, 0, none⟩) 256 256 | 1 => .slice (some ⟨s, 0, none⟩) 256 256 | _ => undef) 0 A.1 (by kernel_rfl) (by decide) (by decide) (BB) ?_ ?_
  · intro i_ hi_ s a X hf hv hn hS
    match i_, hi_ with
    | 0, _ =>
      refine stepV rfl rfl (execMkN (n := 256) rfl rfl rfl (by decide)) ⟨X.heap.size, ⟨_, rfl, rfl⟩, ⟨(hS).trans (((belNew X _)).mono (hS).size), (ctC_made ▸ heapNew X _), (hS).size⟩, fun i hi => ?_⟩
      omega
    | 1, _ => exact stepV rfl rfl (execAsgB rfl (hv 0 (by omega) _ rfl _ rfl)) ⟨s, ⟨_, rfl, rfl⟩, hS, fun _ _ => rfl⟩
    | k_ + 2, h_ => exact absurd h_ (by simp)
  rintro gc a X3 h1 h2 h3 h4 hS
  clear BB
  replace hS : Below V.heap.size V X3 ∧ X3.heap[gc]? = some (.cells (ctC (fun _ => 0)) 3) ∧ (V.heap.size ≤ gc) := hS
  obtain ⟨BB, FC, Fgc⟩ := hS
  replace t0 := (h3 0 (by decide)).trans t0
  have t3 : a.eval (.tmp 3) = .slice (some ⟨gc, 0, none⟩) 256 256 := h4 1 _ rfl _ rfl
  replace A := (⟨h1, h2.trans A.2⟩ : a.tmps.size = 108 ∧ a.defers = [])
  clear h1 h2 h3 h4
  refine wp_seq ?_
  refine wp_region_sq (σ := Unit) 108 [(0, 4)] (fun j_ s X => match j_ with | 0 => Below V.heap.size V X ∧ X.heap[gc]? = some (.cells (ctC (fun _ => 0)) 3) ∧ (V.heap.size ≤ gc) | _ => Below V.heap.size V X ∧ X.heap[gc]? = some (.cells (ctC (fun _ => 0)) 3) ∧ (V.heap.size ≤ gc)) (fun s => fun i_ => match i_ with | 0 => .int .i64 ((0 : Nat) : Int) | _ => undef) () A.1 (by kernel_rfl) (by decide) (by decide) ⟨BB, FC, Fgc⟩ ?_ ?_
  · intro i_ hi_ s a X hf hv hn hS
    match i_, hi_ with
    | 0, _ => exact stepV rfl rfl (execAsgB rfl rfl) ⟨s, ⟨_, rfl, rfl⟩, hS, fun _ _ => rfl⟩
    | k_ + 1, h_ => exact absurd h_ (by simp)
  rintro _ a X4 h1 h2 h3 h4 hS
  clear BB
  clear FC
  clear Fgc
  replace hS : Below V.heap.size V X4 ∧ X4.heap[gc]? = some (.cells (ctC (fun _ => 0)) 3) ∧ (V.heap.size ≤ gc) := hS
  obtain ⟨BB, FC, Fgc⟩ := hS
  replace t0 := (h3 0 (by decide)).trans t0
  replace t3 := (h3 3 (by decide)).trans t3
  have t4 : a.eval (.tmp 4) = .int .i64 ((0 : Nat) : Int) := h4 0 _ rfl _ rfl
  replace A := (⟨h1, h2.trans A.2⟩ : a.tmps.size = 108 ∧ a.defers = [])
  clear h1 h2 h3 h4
  refine wp_seq ?_
  refine wp_seq ?_
  refine wp_region_sq (σ := Unit) 108 [(0, 5)] (fun j_ s X => match j_ with | 0 => Below V.heap.size V X ∧ X.heap[gc]? = some (.cells (ctC (fun _ => 0)) 3) ∧ (V.heap.size ≤ gc) | _ => Below V.heap.size V X ∧ X.heap[gc]? = some (.cells (ctC (fun _ => 0)) 3) ∧ (V.heap.size ≤ gc)) (fun s => fun i_ => match i_ with | 0 => .int .i64 ((0 : Nat) : Int) | _ => undef) () A.1 (by kernel_rfl) (by decide) (by decide) ⟨BB, FC, Fgc⟩ ?_ ?_
  · intro i_ hi_ s a X hf hv hn hS
    match i_, hi_ with
    | 0, _ => exact stepV rfl rfl (execAsgB rfl rfl) ⟨s, ⟨_, rfl, rfl⟩, hS, fun _ _ => rfl⟩
    | k_ + 1, h_ => exact absurd h_ (by simp)
  rintro _ a X5 h1 h2 h3 h4 hS
  clear BB
  clear FC
  clear Fgc
  replace hS : Below V.heap.size V X5 ∧ X5.heap[gc]? = some (.cells (ctC (fun _ => 0)) 3) ∧ (V.heap.size ≤ gc) := hS
  obtain ⟨BB, FC, Fgc⟩ := hS
  replace t0 := (h3 0 (by decide)).trans t0
  replace t3 := (h3 3 (by decide)).trans t3
  replace t4 := (h3 4 (by decide)).trans t4
  have t5 : a.eval (.tmp 5) = .int .i64 ((0 : Nat) : Int) := h4 0 _ rfl _ rfl
  replace A := (⟨h1, h2.trans A.2⟩ : a.tmps.size = 108 ∧ a.defers = [])
  clear h1 h2 h3 h4
  refine wp_block ?_
  refine wp_loop (fun a W => ∃ (v : Nat), v ≤ 256 ∧ (a.tmps.size = 108 ∧ a.defers = []) ∧ a.eval (.tmp 0) = .int .i64 sk ∧ a.eval (.tmp 3) = .slice (some ⟨gc, 0, none⟩) 256 256 ∧ a.eval (.tmp 4) = .int .i64 ((0 : Nat) : Int) ∧ a.eval (.tmp 5) = .int .i64 ((v : Nat) : Int) ∧ Below V.heap.size V W ∧ W.heap[gc]? = some (.cells (ctC (fun _ => 0)) 3) ∧ V.heap.size ≤ gc) (fun a _ => 256 - (intOf (a.eval (.tmp 5))).toNat) ⟨0, Nat.zero_le _, A, t0, t3, t4, t5, BB, FC, Fgc⟩ ?_
  clear A t0 t3 t4 t5 BB FC Fgc a
  rintro a XL ⟨v, hvl, A, t0, t3, t4, t5, BB, FC, Fgc⟩
  have e5 := t5
  refine wp_seq ?_
  refine wp_seq ?_
  refine wp_region_sq (σ := Unit) 108 [(0, 13), (1, 14)] (fun j_ s X => match j_ with | 0 => Below V.heap.size V X ∧ X.heap[gc]? = some (.cells (ctC (fun _ => 0)) 3) ∧ (V.heap.size ≤ gc) | 1 => Below V.heap.size V X ∧ X.heap[gc]? = some (.cells (ctC (fun _ => 0)) 3) ∧ (V.heap.size ≤ gc) | _ => Below V.heap.size V X ∧ X.heap[gc]? = some (.cells (ctC (fun _ => 0)) 3) ∧ (V.heap.size ≤ gc)) (fun s => fun i_ => match i_ with | 0 => .int .i64 ((v : Nat) : Int) | 1 => .bool (decide (v < 256)) | _ => undef) () A.1 (by kernel_rfl) (by decide) (by decide) ⟨BB, FC, Fgc⟩ ?_ ?_
  · intro i_ hi_ s a X hf hv hn hS
    match i_, hi_ with
    | 0, _ => exact stepV rfl rfl (execMvB rfl ((hf 5 (by decide)).trans t5)) ⟨s, ⟨_, rfl, rfl⟩, hS, fun _ _ => rfl⟩
    | 1, _ => exact stepV rfl rfl (execLtW (p := v) (q := 256) rfl (hv 0 (by omega) _ rfl _ rfl) rfl) ⟨s, ⟨_, rfl, rfl⟩, hS, fun _ _ => rfl⟩
    | k_ + 2, h_ => exact absurd h_ (by simp)
  rintro _ a X6 h1 h2 h3 h4 hS
  clear BB
  clear FC
  clear Fgc
  replace hS : Below V.heap.size V X6 ∧ X6.heap[gc]? = some (.cells (ctC (fun _ => 0)) 3) ∧ (V.heap.size ≤ gc) := hS
  obtain ⟨BB, FC, Fgc⟩ := hS
  replace t0 := (h3 0 (by decide)).trans t0
  replace t3 := (h3 3 (by decide)).trans t3
  replace t4 := (h3 4 (by decide)).trans t4
  replace t5 := (h3 5 (by decide)).trans t5
  have t14 : a.eval (.tmp 14) = .bool (decide (v < 256)) := h4 1 _ rfl _ rfl
  replace A := (⟨h1, h2.trans A.2⟩ : a.tmps.size = 108 ∧ a.defers = [])
  clear h1 h2 h3 h4
  by_cases hv2 : v < 256
  · rw [decide_eq_true hv2] at t14
    refine wp_cond_true t14 ?_
    refine wp_skip ?_
    clear t14
    refine wp_seq ?_
    refine wp_block ?_
    refine wp_seq ?_
    refine wp_region_sq (σ := Nat × Nat) 108 [(0, 18), (1, 19), (2, 20), (3, 21), (4, 22), (5, 23), (6, 17), (7, 24), (8, 25), (9, 26), (10, 7), (11, 6), (13, 8)] (fun j_ s X => match j_ with | 0 => Below V.heap.size V X ∧ X.heap[gc]? = some (.cells (ctC (fun _ => 0)) 3) ∧ (V.heap.size ≤ gc) | 1 => Below V.heap.size V X ∧ X.heap[gc]? = some (.cells (ctC (fun _ => 0)) 3) ∧ (V.heap.size ≤ gc) | 2 => Below V.heap.size V X ∧ X.heap[gc]? = some (.cells (ctC (fun _ => 0)) 3) ∧ (V.heap.size ≤ gc) | 3 => Below V.heap.size V X ∧ X.heap[gc]? = some (.cells (ctC (fun _ => 0)) 3) ∧ (V.heap.size ≤ gc) ∧ SliceN X (.slice (some ⟨s.1, 0, none⟩) 1 1) (1) (fun _ => v) | 4 => Below V.heap.size V X ∧ X.heap[gc]? = some (.cells (ctC (fun _ => 0)) 3) ∧ (V.heap.size ≤ gc) ∧ SliceN X (.slice (some ⟨s.1, 0, none⟩) 1 1) (1) (fun _ => v) | 5 => Below V.heap.size V X ∧ X.heap[gc]? = some (.cells (ctC (fun _ => 0)) 3) ∧ (V.heap.size ≤ gc) ∧ SliceN X (.slice (some ⟨s.1, 0, none⟩) 1 1) (1) (fun _ => v) | 6 => Below V.heap.size V X ∧ X.heap[gc]? = some (.cells (ctC (fun _ => 0)) 3) ∧ (V.heap.size ≤ gc) ∧ SliceN X (.slice (some ⟨s.1, 0, none⟩) 1 1) (1) (fun _ => v) | 7 => Below V.heap.size V X ∧ X.heap[gc]? = some (.cells (ctC (fun _ => 0)) 3) ∧ (V.heap.size ≤ gc) ∧ SliceN X (.slice (some ⟨s.1, 0, none⟩) 1 1) (1) (fun _ => v) | 8 => Below V.heap.size V X ∧ X.heap[gc]? = some (.cells (ctC (fun _ => 0)) 3) ∧ (V.heap.size ≤ gc) ∧ SliceN X (.slice (some ⟨s.1, 0, none⟩) 1 1) (1) (fun _ => v) | 9 => Below V.heap.size V X ∧ X.heap[gc]? = some (.cells (ctC (fun _ => 0)) 3) ∧ (V.heap.size ≤ gc) ∧ SliceN X (.slice (some ⟨s.1, 0, none⟩) 1 1) (1) (fun _ => v) | 10 => Below V.heap.size V X ∧ X.heap[gc]? = some (.cells (ctC (fun _ => 0)) 3) ∧ (V.heap.size ≤ gc) ∧ SliceN X (.slice (some ⟨s.1, 0, none⟩) 1 1) (1) (fun _ => v) | 11 => Below V.heap.size V X ∧ X.heap[gc]? = some (.cells (ctC (fun _ => 0)) 3) ∧ (V.heap.size ≤ gc) ∧ SliceN X (.slice (some ⟨s.1, 0, none⟩) 1 1) (1) (fun _ => v) ∧ X.heap[s.2]? = some (.cells (tpC (fun _ => 0) 0 0) 25) ∧ (V.heap.size ≤ s.2) ∧ (gc ≠ s.2) | 12 => Below V.heap.size V X ∧ X.heap[gc]? = some (.cells (ctC (fun _ => 0)) 3) ∧ (V.heap.size ≤ gc) ∧ SliceN X (.slice (some ⟨s.1, 0, none⟩) 1 1) (1) (fun _ => v) ∧ X.heap[s.2]? = some (.cells (tpC (fun _ => 0) 0 0) 25) ∧ (V.heap.size ≤ s.2) ∧ (gc ≠ s.2) | 13 => Below V.heap.size V X ∧ X.heap[gc]? = some (.cells (ctC (fun _ => 0)) 3) ∧ (V.heap.size ≤ gc) ∧ (V.heap.size ≤ s.2) ∧ (gc ≠ s.2) ∧ X.heap[s.2]? = some (.cells (tpC (fun _ => v) (if dE (fun _ => v) 1 0 sk = 0 then 1 else 0) (dN (fun _ => v) 1 0 sk)) 25) | _ => Below V.heap.size V X ∧ X.heap[gc]? = some (.cells (ctC (fun _ => 0)) 3) ∧ (V.heap.size ≤ gc) ∧ (V.heap.size ≤ s.2) ∧ (gc ≠ s.2) ∧ X.heap[s.2]? = some (.cells (tpC (fun _ => v) (if dE (fun _ => v) 1 0 sk = 0 then 1 else 0) (dN (fun _ => v) 1 0 sk)) 25)) (fun s => fun i_ => match i_ with | 0 => .int .i64 ((v : Nat) : Int) | 1 => .int .u8 ((v : Nat) : Int) | 2 => .slice (some ⟨s.1, 0, none⟩) 1 1 | 3 => .agg (tpC (fun _ => v) 1 0) | 4 => .int .i64 sk | 5 => .tuple #[.int .i64 ((dV (fun _ => v) 1 0 sk : Nat) : Int), .agg (tpC (fun _ => v) (if dE (fun _ => v) 1 0 sk = 0 then 1 else 0) (dN (fun _ => v) 1 0 sk)), .int .i64 ((dE (fun _ => v) 1 0 sk : Nat) : Int)] | 6 => .tuple #[.int .i64 ((dV (fun _ => v) 1 0 sk : Nat) : Int), .agg (tpC (fun _ => v) (if dE (fun _ => v) 1 0 sk = 0 then 1 else 0) (dN (fun _ => v) 1 0 sk)), .int .i64 ((dE (fun _ => v) 1 0 sk : Nat) : Int)] | 7 => .int .i64 ((dV (fun _ => v) 1 0 sk : Nat) : Int) | 8 => .agg (tpC (fun _ => v) (if dE (fun _ => v) 1 0 sk = 0 then 1 else 0) (dN (fun _ => v) 1 0 sk)) | 9 => .int .i64 ((dE (fun _ => v) 1 0 sk : Nat) : Int) | 10 => .pointer (some ⟨s.2, 0, none⟩) | 11 => .int .i64 ((dV (fun _ => v) 1 0 sk : Nat) : Int) | 12 => undef | 13 => .int .i64 ((dE (fun _ => v) 1 0 sk : Nat) : Int) | _ => undef) (0, 0) A.1 (by kernel_rfl) (by decide) (by decide) ⟨BB, FC, Fgc⟩ ?_ ?_
    · intro i_ hi_ s a X hf hv hn hS
      match i_, hi_ with
      | 0, _ => exact stepV rfl rfl (execMvB rfl ((hf 5 (by decide)).trans t5)) ⟨s, ⟨_, rfl, rfl⟩, hS, fun _ _ => rfl⟩
      | 1, _ => exact stepV rfl rfl (execU8W (n := v) rfl (hv 0 (by omega) _ rfl _ rfl) hv2) ⟨s, ⟨_, rfl, rfl⟩, hS, fun _ _ => rfl⟩
      | 2, _ =>
        refine stepV rfl rfl (execBsV1 (z := ((v : Nat) : Int)) rfl (hv 1 (by omega) _ rfl _ rfl)) ⟨(X.heap.size, s.2), ⟨_, rfl, rfl⟩, ⟨(hS.1).trans (((belNew X _)).mono (hS.1).size), (on9 hS.2.1 (belNew X _)), hS.2.2, one_slice (heapNew X _) rfl hv2⟩, fun i hi => ?_⟩
        match i, hi with
        | 0, _ => rfl
        | 1, _ => rfl
        | n_ + 2, h_ => omega
      | 3, _ => exact stepC rfl rfl (execCall1 Try.func6 (by kernel_rfl) (by kernel_rfl) rfl (hv 2 (by omega) _ rfl _ rfl)) (new_any (fun _ => v) 1 _ X hS.2.2.2) fun e w' hh => ⟨_, hh.1, s, ⟨_, rfl, rfl⟩, ⟨(hS.1).trans ((hh.2).mono (hS.1).size), (on9 hS.2.1 hh.2), hS.2.2.1, (hS.2.2.2.on hh.2)⟩, fun _ _ => rfl⟩
      | 4, _ => exact stepV rfl rfl (execMvB rfl ((hf 0 (by decide)).trans t0)) ⟨s, ⟨_, rfl, rfl⟩, hS, fun _ _ => rfl⟩
      | 5, _ => exact stepC rfl rfl (execCall2 Try.func5 (by kernel_rfl) (by kernel_rfl) rfl (hv 3 (by omega) _ rfl _ rfl) (hv 4 (by omega) _ rfl _ rfl)) (I.below (fun _ => v) 1 0 sk X (by omega) (by omega) (fun _ _ => hv2)) fun e w' hh => ⟨_, hh.1, s, ⟨_, rfl, rfl⟩, ⟨(hS.1).trans ((hh.2).mono (hS.1).size), (on9 hS.2.1 hh.2), hS.2.2.1, (hS.2.2.2.on hh.2)⟩, fun _ _ => rfl⟩
      | 6, _ => exact stepV rfl rfl (execMvB rfl (hv 5 (by omega) _ rfl _ rfl)) ⟨s, ⟨_, rfl, rfl⟩, hS, fun _ _ => rfl⟩
      | 7, _ => exact stepV rfl rfl (execExtT rfl (hv 6 (by omega) _ rfl _ rfl) rfl) ⟨s, ⟨_, rfl, rfl⟩, hS, fun _ _ => rfl⟩
      | 8, _ => exact stepV rfl rfl (execExtT rfl (hv 6 (by omega) _ rfl _ rfl) rfl) ⟨s, ⟨_, rfl, rfl⟩, hS, fun _ _ => rfl⟩
      | 9, _ => exact stepV rfl rfl (execExtT rfl (hv 6 (by omega) _ rfl _ rfl) rfl) ⟨s, ⟨_, rfl, rfl⟩, hS, fun _ _ => rfl⟩
      | 10, _ =>
        refine stepV rfl rfl (execAllTp rfl (fun _ => 0)) ⟨(s.1, X.heap.size), ⟨_, rfl, rfl⟩, ⟨(hS.1).trans (((belNew X _)).mono (hS.1).size), (on9 hS.2.1 (belNew X _)), hS.2.2.1, (hS.2.2.2.on (belNew X _)), heapNew X _, (hS.1).size, ne9 hS.2.1⟩, fun i hi => ?_⟩
        match i, hi with
        | 0, _ => rfl
        | 1, _ => rfl
        | 2, _ => rfl
        | 3, _ => rfl
        | 4, _ => rfl
        | 5, _ => rfl
        | 6, _ => rfl
        | 7, _ => rfl
        | 8, _ => rfl
        | 9, _ => rfl
        | n_ + 10, h_ => omega
      | 11, _ => exact stepV rfl rfl (execAsgB rfl (hv 7 (by omega) _ rfl _ rfl)) ⟨s, ⟨_, rfl, rfl⟩, hS, fun _ _ => rfl⟩
      | 12, _ => exact stepS rfl rfl (execStTp rfl (hv 10 (by omega) _ rfl _ rfl) (hv 8 (by omega) _ rfl _ rfl) hS.2.2.2.2.1 rfl) ⟨s, ⟨_, rfl, rfl⟩, ⟨below4 hS.1 hS.2.2.2.2.2.1 _, (by rw [setRow_other _ _ _ _ (hS.2.2.2.2.2.2)]; exact hS.2.1), hS.2.2.1, hS.2.2.2.2.2.1, hS.2.2.2.2.2.2, setRow_heap _ _ _ _ _ _ hS.2.2.2.2.1⟩, fun _ _ => rfl⟩
      | 13, _ => exact stepV rfl rfl (execAsgB rfl (hv 9 (by omega) _ rfl _ rfl)) ⟨s, ⟨_, rfl, rfl⟩, hS, fun _ _ => rfl⟩
      | k_ + 14, h_ => exact absurd h_ (by simp)
    rintro ⟨g20, g7⟩ a X8 h1 h2 h3 h4 hS
    clear BB
    clear FC
    clear Fgc
    replace hS : Below V.heap.size V X8 ∧ X8.heap[gc]? = some (.cells (ctC (fun _ => 0)) 3) ∧ (V.heap.size ≤ gc) ∧ (V.heap.size ≤ g7) ∧ (gc ≠ g7) ∧ X8.heap[g7]? = some (.cells (tpC (fun _ => v) (if dE (fun _ => v) 1 0 sk = 0 then 1 else 0) (dN (fun _ => v) 1 0 sk)) 25) := hS
    obtain ⟨BB, FC, Fgc, Fge7, Fn7FC, F7⟩ := hS
    replace t0 := (h3 0 (by decide)).trans t0
    replace t3 := (h3 3 (by decide)).trans t3
    replace t4 := (h3 4 (by decide)).trans t4
    replace t5 := (h3 5 (by decide)).trans t5
    have t6 : a.eval (.tmp 6) = .int .i64 ((dV (fun _ => v) 1 0 sk : Nat) : Int) := h4 11 _ rfl _ rfl
    have t7 : a.eval (.tmp 7) = .pointer (some ⟨g7, 0, none⟩) := h4 10 _ rfl _ rfl
    have t8 : a.eval (.tmp 8) = .int .i64 ((dE (fun _ => v) 1 0 sk : Nat) : Int) := h4 13 _ rfl _ rfl
    replace A := (⟨h1, h2.trans A.2⟩ : a.tmps.size = 108 ∧ a.defers = [])
    clear h1 h2 h3 h4
    clear Fge7 Fn7FC
    clear F7 t6 t7
    refine wp_seq ?_
    refine wp_seq ?_
    refine wp_region_sq (σ := Unit) 108 [(0, 27), (1, 28), (2, 29), (3, 30), (4, 31), (5, 32)] (fun j_ s X => match j_ with | 0 => Below V.heap.size V X ∧ X.heap[gc]? = some (.cells (ctC (fun _ => 0)) 3) ∧ (V.heap.size ≤ gc) | 1 => Below V.heap.size V X ∧ X.heap[gc]? = some (.cells (ctC (fun _ => 0)) 3) ∧ (V.heap.size ≤ gc) | 2 => Below V.heap.size V X ∧ X.heap[gc]? = some (.cells (ctC (fun _ => 0)) 3) ∧ (V.heap.size ≤ gc) | 3 => Below V.heap.size V X ∧ X.heap[gc]? = some (.cells (ctC (fun _ => 0)) 3) ∧ (V.heap.size ≤ gc) | 4 => Below V.heap.size V X ∧ X.heap[gc]? = some (.cells (ctC (fun _ => 0)) 3) ∧ (V.heap.size ≤ gc) | 5 => Below V.heap.size V X ∧ X.heap[gc]? = some (.cells (ctC (fun _ => 0)) 3) ∧ (V.heap.size ≤ gc) | _ => Below V.heap.size V X ∧ X.heap[gc]? = some (.cells (ctC (fun _ => 0)) 3) ∧ (V.heap.size ≤ gc)) (fun s => fun i_ => match i_ with | 0 => .int .i64 sk | 1 => .bool false | 2 => .bool false | 3 => .int .i64 sk | 4 => .bool true | 5 => .bool true | _ => undef) () A.1 (by kernel_rfl) (by decide) (by decide) ⟨BB, FC, Fgc⟩ ?_ ?_
    · intro i_ hi_ s a X hf hv hn hS
      match i_, hi_ with
      | 0, _ => exact stepV rfl rfl (execMvB rfl ((hf 0 (by decide)).trans t0)) ⟨s, ⟨_, rfl, rfl⟩, hS, fun _ _ => rfl⟩
      | 1, _ => exact stepV rfl rfl (execLtCf (p := sk) (q := 1) rfl (hv 0 (by omega) _ rfl _ rfl) (by omega)) ⟨s, ⟨_, rfl, rfl⟩, hS, fun _ _ => rfl⟩
      | 2, _ => exact stepV rfl rfl (execMvB rfl (hv 1 (by omega) _ rfl _ rfl)) ⟨s, ⟨_, rfl, rfl⟩, hS, fun _ _ => rfl⟩
      | 3, _ => exact stepV rfl (wantedOf rfl (yieldedAt rfl rfl (show a.eval (.tmp 29) = .bool false from (hv 2 (by omega) _ rfl _ rfl)))) (execMvB rfl ((hf 0 (by decide)).trans t0)) ⟨s, ⟨_, rfl, rfl⟩, hS, fun _ _ => rfl⟩
      | 4, _ => exact stepV rfl (wantedOf rfl (yieldedAt rfl rfl (show a.eval (.tmp 29) = .bool false from (hv 2 (by omega) _ rfl _ rfl)))) (execGtCt (p := sk) (q := 256) rfl (hv 3 (by omega) _ rfl _ rfl) (by exact hk)) ⟨s, ⟨_, rfl, rfl⟩, hS, fun _ _ => rfl⟩
      | 5, _ => exact stepV rfl rfl (execPickF rfl (hv 2 (by omega) _ rfl _ rfl) (hv 4 (by omega) _ rfl _ rfl)) ⟨s, ⟨_, rfl, rfl⟩, hS, fun _ _ => rfl⟩
      | k_ + 6, h_ => exact absurd h_ (by simp)
    rintro _ a X9 h1 h2 h3 h4 hS
    clear BB
    clear FC
    clear Fgc
    replace hS : Below V.heap.size V X9 ∧ X9.heap[gc]? = some (.cells (ctC (fun _ => 0)) 3) ∧ (V.heap.size ≤ gc) := hS
    obtain ⟨BB, FC, Fgc⟩ := hS
    replace t0 := (h3 0 (by decide)).trans t0
    replace t3 := (h3 3 (by decide)).trans t3
    replace t4 := (h3 4 (by decide)).trans t4
    replace t5 := (h3 5 (by decide)).trans t5
    replace t8 := (h3 8 (by decide)).trans t8
    have t32 : a.eval (.tmp 32) = .bool true := h4 5 _ rfl _ rfl
    replace A := (⟨h1, h2.trans A.2⟩ : a.tmps.size = 108 ∧ a.defers = [])
    clear h1 h2 h3 h4
    refine wp_cond_true t32 ?_
    clear t32
    refine wp_seq ?_
    refine wp_seq ?_
    refine wp_region_sq (σ := Unit) 108 [(0, 33), (1, 34)] (fun j_ s X => match j_ with | 0 => Below V.heap.size V X ∧ X.heap[gc]? = some (.cells (ctC (fun _ => 0)) 3) ∧ (V.heap.size ≤ gc) | 1 => Below V.heap.size V X ∧ X.heap[gc]? = some (.cells (ctC (fun _ => 0)) 3) ∧ (V.heap.size ≤ gc) | _ => Below V.heap.size V X ∧ X.heap[gc]? = some (.cells (ctC (fun _ => 0)) 3) ∧ (V.heap.size ≤ gc)) (fun s => fun i_ => match i_ with | 0 => .int .i64 ((dE (fun _ => v) 1 0 sk : Nat) : Int) | 1 => .bool false | _ => undef) () A.1 (by kernel_rfl) (by decide) (by decide) ⟨BB, FC, Fgc⟩ ?_ ?_
    · intro i_ hi_ s a X hf hv hn hS
      match i_, hi_ with
      | 0, _ => exact stepV rfl rfl (execMvB rfl ((hf 8 (by decide)).trans t8)) ⟨s, ⟨_, rfl, rfl⟩, hS, fun _ _ => rfl⟩
      | 1, _ => exact stepV rfl rfl (execDec (execNeE (p := dE (fun _ => v) 1 0 sk) (q := 2) rfl (hv 0 (by omega) _ rfl _ rfl) rfl) (decide_eq_false (by exact fun q => q (dE_bad hbad)))) ⟨s, ⟨_, rfl, rfl⟩, hS, fun _ _ => rfl⟩
      | k_ + 2, h_ => exact absurd h_ (by simp)
    rintro _ a X10 h1 h2 h3 h4 hS
    clear BB
    clear FC
    clear Fgc
    replace hS : Below V.heap.size V X10 ∧ X10.heap[gc]? = some (.cells (ctC (fun _ => 0)) 3) ∧ (V.heap.size ≤ gc) := hS
    obtain ⟨BB, FC, Fgc⟩ := hS
    replace t0 := (h3 0 (by decide)).trans t0
    replace t3 := (h3 3 (by decide)).trans t3
    replace t4 := (h3 4 (by decide)).trans t4
    replace t5 := (h3 5 (by decide)).trans t5
    have t34 : a.eval (.tmp 34) = .bool false := h4 1 _ rfl _ rfl
    replace A := (⟨h1, h2.trans A.2⟩ : a.tmps.size = 108 ∧ a.defers = [])
    clear h1 h2 h3 h4
    clear t8
    refine wp_cond_false t34 ?_
    refine wp_skip ?_
    clear t34
    refine wp_exit ?_
    repeat (first | refine exit_in ?_ | refine exit_then ?_)
    refine wp_region_sq (σ := Unit) 108 [(0, 15), (1, 16), (2, 5)] (fun j_ s X => match j_ with | 0 => Below V.heap.size V X ∧ X.heap[gc]? = some (.cells (ctC (fun _ => 0)) 3) ∧ (V.heap.size ≤ gc) | 1 => Below V.heap.size V X ∧ X.heap[gc]? = some (.cells (ctC (fun _ => 0)) 3) ∧ (V.heap.size ≤ gc) | 2 => Below V.heap.size V X ∧ X.heap[gc]? = some (.cells (ctC (fun _ => 0)) 3) ∧ (V.heap.size ≤ gc) | _ => Below V.heap.size V X ∧ X.heap[gc]? = some (.cells (ctC (fun _ => 0)) 3) ∧ (V.heap.size ≤ gc)) (fun s => fun i_ => match i_ with | 0 => .int .i64 ((v : Nat) : Int) | 1 => .int .i64 ((v + 1 : Nat) : Int) | 2 => .int .i64 ((v + 1 : Nat) : Int) | _ => undef) () A.1 (by kernel_rfl) (by decide) (by decide) ⟨BB, FC, Fgc⟩ ?_ ?_
    · intro i_ hi_ s a X hf hv hn hS
      match i_, hi_ with
      | 0, _ => exact stepV rfl rfl (execMvB rfl ((hn 2 (by omega) _ rfl _ rfl).trans t5)) ⟨s, ⟨_, rfl, rfl⟩, hS, fun _ _ => rfl⟩
      | 1, _ => exact stepV rfl rfl (execAd8 (p := v) (q := 1) rfl (hv 0 (by omega) _ rfl _ rfl) rfl (by omega)) ⟨s, ⟨_, rfl, rfl⟩, hS, fun _ _ => rfl⟩
      | 2, _ => exact stepV rfl rfl (execAsgB rfl (hv 1 (by omega) _ rfl _ rfl)) ⟨s, ⟨_, rfl, rfl⟩, hS, fun _ _ => rfl⟩
      | k_ + 3, h_ => exact absurd h_ (by simp)
    rintro _ a X7 h1 h2 h3 h4 hS
    clear BB
    clear FC
    clear Fgc
    replace hS : Below V.heap.size V X7 ∧ X7.heap[gc]? = some (.cells (ctC (fun _ => 0)) 3) ∧ (V.heap.size ≤ gc) := hS
    obtain ⟨BB, FC, Fgc⟩ := hS
    replace t0 := (h3 0 (by decide)).trans t0
    replace t3 := (h3 3 (by decide)).trans t3
    replace t4 := (h3 4 (by decide)).trans t4
    replace t5 : a.eval (.tmp 5) = .int .i64 ((v + 1 : Nat) : Int) := h4 2 _ rfl _ rfl
    replace A := (⟨h1, h2.trans A.2⟩ : a.tmps.size = 108 ∧ a.defers = [])
    clear h1 h2 h3 h4
    exact ⟨⟨v + 1, hv2, A, t0, t3, t4, t5, BB, FC, Fgc⟩, by show 256 - (intOf (a.eval (.tmp 5))).toNat < 256 - (intOf (Act.eval _ (.tmp 5))).toNat; rw [t5, e5]; show 256 - (v + 1) < 256 - v; omega⟩
  · rw [decide_eq_false hv2] at t14
    refine wp_cond_false t14 ?_
    refine wp_exit ?_
    first | refine exit_in ?_ | refine exit_then (exit_in ?_) | refine exit_then (exit_then (exit_in ?_))
    clear t14
    refine wp_seq ?_
    refine wp_seq ?_
    refine wp_region_sq (σ := Unit) 108 [(0, 76), (1, 77), (2, 78), (3, 79), (4, 80), (5, 81)] (fun j_ s X => match j_ with | 0 => Below V.heap.size V X ∧ X.heap[gc]? = some (.cells (ctC (fun _ => 0)) 3) ∧ (V.heap.size ≤ gc) | 1 => Below V.heap.size V X ∧ X.heap[gc]? = some (.cells (ctC (fun _ => 0)) 3) ∧ (V.heap.size ≤ gc) | 2 => Below V.heap.size V X ∧ X.heap[gc]? = some (.cells (ctC (fun _ => 0)) 3) ∧ (V.heap.size ≤ gc) | 3 => Below V.heap.size V X ∧ X.heap[gc]? = some (.cells (ctC (fun _ => 0)) 3) ∧ (V.heap.size ≤ gc) | 4 => Below V.heap.size V X ∧ X.heap[gc]? = some (.cells (ctC (fun _ => 0)) 3) ∧ (V.heap.size ≤ gc) | 5 => Below V.heap.size V X ∧ X.heap[gc]? = some (.cells (ctC (fun _ => 0)) 3) ∧ (V.heap.size ≤ gc) | _ => Below V.heap.size V X ∧ X.heap[gc]? = some (.cells (ctC (fun _ => 0)) 3) ∧ (V.heap.size ≤ gc)) (fun s => fun i_ => match i_ with | 0 => .int .i64 sk | 1 => .bool false | 2 => .bool false | 3 => .int .i64 sk | 4 => .bool true | 5 => .bool true | _ => undef) () A.1 (by kernel_rfl) (by decide) (by decide) ⟨BB, FC, Fgc⟩ ?_ ?_
    · intro i_ hi_ s a X hf hv hn hS
      match i_, hi_ with
      | 0, _ => exact stepV rfl rfl (execMvB rfl ((hf 0 (by decide)).trans t0)) ⟨s, ⟨_, rfl, rfl⟩, hS, fun _ _ => rfl⟩
      | 1, _ => exact stepV rfl rfl (execLtCf (p := sk) (q := 1) rfl (hv 0 (by omega) _ rfl _ rfl) (by omega)) ⟨s, ⟨_, rfl, rfl⟩, hS, fun _ _ => rfl⟩
      | 2, _ => exact stepV rfl rfl (execMvB rfl (hv 1 (by omega) _ rfl _ rfl)) ⟨s, ⟨_, rfl, rfl⟩, hS, fun _ _ => rfl⟩
      | 3, _ => exact stepV rfl (wantedOf rfl (yieldedAt rfl rfl (show a.eval (.tmp 78) = .bool false from (hv 2 (by omega) _ rfl _ rfl)))) (execMvB rfl ((hf 0 (by decide)).trans t0)) ⟨s, ⟨_, rfl, rfl⟩, hS, fun _ _ => rfl⟩
      | 4, _ => exact stepV rfl (wantedOf rfl (yieldedAt rfl rfl (show a.eval (.tmp 78) = .bool false from (hv 2 (by omega) _ rfl _ rfl)))) (execGtCt (p := sk) (q := 256) rfl (hv 3 (by omega) _ rfl _ rfl) (by exact hk)) ⟨s, ⟨_, rfl, rfl⟩, hS, fun _ _ => rfl⟩
      | 5, _ => exact stepV rfl rfl (execPickF rfl (hv 2 (by omega) _ rfl _ rfl) (hv 4 (by omega) _ rfl _ rfl)) ⟨s, ⟨_, rfl, rfl⟩, hS, fun _ _ => rfl⟩
      | k_ + 6, h_ => exact absurd h_ (by simp)
    rintro _ a X17 h1 h2 h3 h4 hS
    clear BB
    clear FC
    clear Fgc
    replace hS : Below V.heap.size V X17 ∧ X17.heap[gc]? = some (.cells (ctC (fun _ => 0)) 3) ∧ (V.heap.size ≤ gc) := hS
    obtain ⟨BB, FC, Fgc⟩ := hS
    replace t0 := (h3 0 (by decide)).trans t0
    have t81 : a.eval (.tmp 81) = .bool true := h4 5 _ rfl _ rfl
    replace A := (⟨h1, h2.trans A.2⟩ : a.tmps.size = 108 ∧ a.defers = [])
    clear h1 h2 h3 h4
    clear t3 t4 t5
    refine wp_cond_true t81 ?_
    clear t81
    refine wp_seq ?_
    refine wp_region_sq (σ := Unit) 108 [(0, 2)] (fun j_ s X => match j_ with | 0 => Below V.heap.size V X ∧ X.heap[gc]? = some (.cells (ctC (fun _ => 0)) 3) ∧ (V.heap.size ≤ gc) | _ => Below V.heap.size V X ∧ X.heap[gc]? = some (.cells (ctC (fun _ => 0)) 3) ∧ (V.heap.size ≤ gc)) (fun s => fun i_ => match i_ with | 0 => .bool true | _ => undef) () A.1 (by kernel_rfl) (by decide) (by decide) ⟨BB, FC, Fgc⟩ ?_ ?_
    · intro i_ hi_ s a X hf hv hn hS
      match i_, hi_ with
      | 0, _ => exact stepV rfl rfl (execAsgB rfl rfl) ⟨s, ⟨_, rfl, rfl⟩, hS, fun _ _ => rfl⟩
      | k_ + 1, h_ => exact absurd h_ (by simp)
    rintro _ a X18 h1 h2 h3 h4 hS
    clear BB
    clear FC
    clear Fgc
    replace hS : Below V.heap.size V X18 ∧ X18.heap[gc]? = some (.cells (ctC (fun _ => 0)) 3) ∧ (V.heap.size ≤ gc) := hS
    obtain ⟨BB, FC, Fgc⟩ := hS
    have t2 : a.eval (.tmp 2) = .bool true := h4 0 _ rfl _ rfl
    replace A := (⟨h1, h2.trans A.2⟩ : a.tmps.size = 108 ∧ a.defers = [])
    clear h1 h2 h3 h4
    clear t0
    refine wp_ret ?_
    refine ret_then ?_
    refine bodyPost_ret (results_tmp rfl _ _ _) A.2 ⟨?_, BB⟩
    show Ending.returned (a.eval (.tmp 2)) = _
    rw [t2]
set_option maxRecDepth 100000 in
set_option maxHeartbeats 8000000 in
theorem bytes_in (I : Impl) (V : World) (b : Nat) (hb1 : 1 ≤ b) (hb2 : b ≤ 256) : Calls Try.prog 3 #[.int .i64 ((b : Nat) : Int)] V fun e w' => e = .returned (.bool true) ∧ Below V.heap.size V w' := by
  go_enter Try.func3, Try.ntmps3
  refine wp_seq ?_
  refine wp_region_sqK 108 [(0, 2)] (fun i_ => match i_ with | 0 => .bool false | _ => undef) rfl (by kernel_rfl) (by decide) (by decide) ?_ ?_
  · intro i_ hi_ a hf hv hn
    match i_, hi_ with
    | 0, _ => exact stepV rfl rfl (execAsgB rfl rfl) ⟨⟨_, rfl, rfl⟩, rfl⟩
    | k_ + 1, h_ => exact absurd h_ (by simp)
  intro a h1 h2 h3 h4
  have t0 : a.eval (.tmp 0) = .int .i64 ((b : Nat) : Int) := (h3 0 (by decide)).trans rfl
  have A : a.tmps.size = 108 ∧ a.defers = [] := ⟨h1, h2⟩
  have BW : Below V.heap.size V V := Below.refl _ _
  clear h1 h2 h3 h4
  have BB := BW
  clear BW
  refine wp_seq ?_
  refine wp_seq ?_
  refine wp_region_sq (σ := Unit) 108 [(0, 10), (1, 11)] (fun j_ s X => match j_ with | 0 => Below V.heap.size V X | 1 => Below V.heap.size V X | _ => Below V.heap.size V X) (fun s => fun i_ => match i_ with | 0 => .bool true | 1 => .bool false | _ => undef) () A.1 (by kernel_rfl) (by decide) (by decide) (BB) ?_ ?_
  · intro i_ hi_ s a X hf hv hn hS
    match i_, hi_ with
    | 0, _ => exact stepC rfl rfl (execCall0 Try.func4 (by kernel_rfl) (by kernel_rfl) rfl ) (alive10 I X) fun e w' hh => ⟨_, hh.1, s, ⟨_, rfl, rfl⟩, (hS).trans ((hh.2).mono (hS).size), fun _ _ => rfl⟩
    | 1, _ => exact stepV rfl rfl (execNot8 rfl (hv 0 (by omega) _ rfl _ rfl)) ⟨s, ⟨_, rfl, rfl⟩, hS, fun _ _ => rfl⟩
    | k_ + 2, h_ => exact absurd h_ (by simp)
  rintro _ a X1 h1 h2 h3 h4 hS
  clear BB
  replace hS : Below V.heap.size V X1 := hS
  have BB := hS
  clear hS
  replace t0 := (h3 0 (by decide)).trans t0
  have t11 : a.eval (.tmp 11) = .bool false := h4 1 _ rfl _ rfl
  replace A := (⟨h1, h2.trans A.2⟩ : a.tmps.size = 108 ∧ a.defers = [])
  clear h1 h2 h3 h4
  refine wp_cond_false t11 ?_
  refine wp_skip ?_
  clear t11
  refine wp_seq ?_
  refine wp_region_sq (σ := Nat) 108 [(0, 12), (1, 3)] (fun j_ s X => match j_ with | 0 => Below V.heap.size V X | 1 => Below V.heap.size V X ∧ X.heap[s]? = some (.cells (ctC (fun _ => 0)) 3) ∧ (V.heap.size ≤ s) | _ => Below V.heap.size V X ∧ X.heap[s]? = some (.cells (ctC (fun _ => 0)) 3) ∧ (V.heap.size ≤ s)) (fun s => fun i_ => match i_ with | 0 => .slice (some ⟨s, 0, none⟩) 256 256 | 1 => .slice (some ⟨s, 0, none⟩) 256 256 | _ => undef) 0 A.1 (by kernel_rfl) (by decide) (by decide) (BB) ?_ ?_
  · intro i_ hi_ s a X hf hv hn hS
    match i_, hi_ with
    | 0, _ =>
      refine stepV rfl rfl (execMkN (n := 256) rfl rfl rfl (by decide)) ⟨X.heap.size, ⟨_, rfl, rfl⟩, ⟨(hS).trans (((belNew X _)).mono (hS).size), (ctC_made ▸ heapNew X _), (hS).size⟩, fun i hi => ?_⟩
      omega
    | 1, _ => exact stepV rfl rfl (execAsgB rfl (hv 0 (by omega) _ rfl _ rfl)) ⟨s, ⟨_, rfl, rfl⟩, hS, fun _ _ => rfl⟩
    | k_ + 2, h_ => exact absurd h_ (by simp)
  rintro gc a X3 h1 h2 h3 h4 hS
  clear BB
  replace hS : Below V.heap.size V X3 ∧ X3.heap[gc]? = some (.cells (ctC (fun _ => 0)) 3) ∧ (V.heap.size ≤ gc) := hS
  obtain ⟨BB, FC, Fgc⟩ := hS
  replace t0 := (h3 0 (by decide)).trans t0
  have t3 : a.eval (.tmp 3) = .slice (some ⟨gc, 0, none⟩) 256 256 := h4 1 _ rfl _ rfl
  replace A := (⟨h1, h2.trans A.2⟩ : a.tmps.size = 108 ∧ a.defers = [])
  clear h1 h2 h3 h4
  refine wp_seq ?_
  refine wp_region_sq (σ := Unit) 108 [(0, 4)] (fun j_ s X => match j_ with | 0 => Below V.heap.size V X ∧ X.heap[gc]? = some (.cells (ctC (fun _ => 0)) 3) ∧ (V.heap.size ≤ gc) | _ => Below V.heap.size V X ∧ X.heap[gc]? = some (.cells (ctC (fun _ => 0)) 3) ∧ (V.heap.size ≤ gc)) (fun s => fun i_ => match i_ with | 0 => .int .i64 ((0 : Nat) : Int) | _ => undef) () A.1 (by kernel_rfl) (by decide) (by decide) ⟨BB, FC, Fgc⟩ ?_ ?_
  · intro i_ hi_ s a X hf hv hn hS
    match i_, hi_ with
    | 0, _ => exact stepV rfl rfl (execAsgB rfl rfl) ⟨s, ⟨_, rfl, rfl⟩, hS, fun _ _ => rfl⟩
    | k_ + 1, h_ => exact absurd h_ (by simp)
  rintro _ a X4 h1 h2 h3 h4 hS
  clear BB
  clear FC
  clear Fgc
  replace hS : Below V.heap.size V X4 ∧ X4.heap[gc]? = some (.cells (ctC (fun _ => 0)) 3) ∧ (V.heap.size ≤ gc) := hS
  obtain ⟨BB, FC, Fgc⟩ := hS
  replace t0 := (h3 0 (by decide)).trans t0
  replace t3 := (h3 3 (by decide)).trans t3
  have t4 : a.eval (.tmp 4) = .int .i64 ((0 : Nat) : Int) := h4 0 _ rfl _ rfl
  replace A := (⟨h1, h2.trans A.2⟩ : a.tmps.size = 108 ∧ a.defers = [])
  clear h1 h2 h3 h4
  refine wp_seq ?_
  refine wp_seq ?_
  refine wp_region_sq (σ := Unit) 108 [(0, 5)] (fun j_ s X => match j_ with | 0 => Below V.heap.size V X ∧ X.heap[gc]? = some (.cells (ctC (fun _ => 0)) 3) ∧ (V.heap.size ≤ gc) | _ => Below V.heap.size V X ∧ X.heap[gc]? = some (.cells (ctC (fun _ => 0)) 3) ∧ (V.heap.size ≤ gc)) (fun s => fun i_ => match i_ with | 0 => .int .i64 ((0 : Nat) : Int) | _ => undef) () A.1 (by kernel_rfl) (by decide) (by decide) ⟨BB, FC, Fgc⟩ ?_ ?_
  · intro i_ hi_ s a X hf hv hn hS
    match i_, hi_ with
    | 0, _ => exact stepV rfl rfl (execAsgB rfl rfl) ⟨s, ⟨_, rfl, rfl⟩, hS, fun _ _ => rfl⟩
    | k_ + 1, h_ => exact absurd h_ (by simp)
  rintro _ a X5 h1 h2 h3 h4 hS
  clear BB
  clear FC
  clear Fgc
  replace hS : Below V.heap.size V X5 ∧ X5.heap[gc]? = some (.cells (ctC (fun _ => 0)) 3) ∧ (V.heap.size ≤ gc) := hS
  obtain ⟨BB, FC, Fgc⟩ := hS
  replace t0 := (h3 0 (by decide)).trans t0
  replace t3 := (h3 3 (by decide)).trans t3
  replace t4 := (h3 4 (by decide)).trans t4
  have t5 : a.eval (.tmp 5) = .int .i64 ((0 : Nat) : Int) := h4 0 _ rfl _ rfl
  replace A := (⟨h1, h2.trans A.2⟩ : a.tmps.size = 108 ∧ a.defers = [])
  clear h1 h2 h3 h4
  refine wp_block ?_
  refine wp_loop (fun a W => ∃ (v : Nat), v ≤ 256 ∧ (a.tmps.size = 108 ∧ a.defers = []) ∧ a.eval (.tmp 0) = .int .i64 ((b : Nat) : Int) ∧ a.eval (.tmp 3) = .slice (some ⟨gc, 0, none⟩) 256 256 ∧ a.eval (.tmp 4) = .int .i64 ((outs b v : Nat) : Int) ∧ a.eval (.tmp 5) = .int .i64 ((v : Nat) : Int) ∧ Below V.heap.size V W ∧ W.heap[gc]? = some (.cells (ctC (cnt b v)) 3) ∧ V.heap.size ≤ gc) (fun a _ => 256 - (intOf (a.eval (.tmp 5))).toNat) ⟨0, Nat.zero_le _, A, t0, t3, t4, t5, BB, FC, Fgc⟩ ?_
  clear A t0 t3 t4 t5 BB FC Fgc a
  rintro a XL ⟨v, hvl, A, t0, t3, t4, t5, BB, FC, Fgc⟩
  have e5 := t5
  refine wp_seq ?_
  refine wp_seq ?_
  refine wp_region_sq (σ := Unit) 108 [(0, 13), (1, 14)] (fun j_ s X => match j_ with | 0 => Below V.heap.size V X ∧ X.heap[gc]? = some (.cells (ctC (cnt b v)) 3) ∧ (V.heap.size ≤ gc) | 1 => Below V.heap.size V X ∧ X.heap[gc]? = some (.cells (ctC (cnt b v)) 3) ∧ (V.heap.size ≤ gc) | _ => Below V.heap.size V X ∧ X.heap[gc]? = some (.cells (ctC (cnt b v)) 3) ∧ (V.heap.size ≤ gc)) (fun s => fun i_ => match i_ with | 0 => .int .i64 ((v : Nat) : Int) | 1 => .bool (decide (v < 256)) | _ => undef) () A.1 (by kernel_rfl) (by decide) (by decide) ⟨BB, FC, Fgc⟩ ?_ ?_
  · intro i_ hi_ s a X hf hv hn hS
    match i_, hi_ with
    | 0, _ => exact stepV rfl rfl (execMvB rfl ((hf 5 (by decide)).trans t5)) ⟨s, ⟨_, rfl, rfl⟩, hS, fun _ _ => rfl⟩
    | 1, _ => exact stepV rfl rfl (execLtW (p := v) (q := 256) rfl (hv 0 (by omega) _ rfl _ rfl) rfl) ⟨s, ⟨_, rfl, rfl⟩, hS, fun _ _ => rfl⟩
    | k_ + 2, h_ => exact absurd h_ (by simp)
  rintro _ a X6 h1 h2 h3 h4 hS
  clear BB
  clear FC
  clear Fgc
  replace hS : Below V.heap.size V X6 ∧ X6.heap[gc]? = some (.cells (ctC (cnt b v)) 3) ∧ (V.heap.size ≤ gc) := hS
  obtain ⟨BB, FC, Fgc⟩ := hS
  replace t0 := (h3 0 (by decide)).trans t0
  replace t3 := (h3 3 (by decide)).trans t3
  replace t4 := (h3 4 (by decide)).trans t4
  replace t5 := (h3 5 (by decide)).trans t5
  have t14 : a.eval (.tmp 14) = .bool (decide (v < 256)) := h4 1 _ rfl _ rfl
  replace A := (⟨h1, h2.trans A.2⟩ : a.tmps.size = 108 ∧ a.defers = [])
  clear h1 h2 h3 h4
  by_cases hv2 : v < 256
  · rw [decide_eq_true hv2] at t14
    refine wp_cond_true t14 ?_
    refine wp_skip ?_
    clear t14
    refine wp_seq ?_
    refine wp_block ?_
    refine wp_seq ?_
    refine wp_region_sq (σ := Nat × Nat) 108 [(0, 18), (1, 19), (2, 20), (3, 21), (4, 22), (5, 23), (6, 17), (7, 24), (8, 25), (9, 26), (10, 7), (11, 6), (13, 8)] (fun j_ s X => match j_ with | 0 => Below V.heap.size V X ∧ X.heap[gc]? = some (.cells (ctC (cnt b v)) 3) ∧ (V.heap.size ≤ gc) | 1 => Below V.heap.size V X ∧ X.heap[gc]? = some (.cells (ctC (cnt b v)) 3) ∧ (V.heap.size ≤ gc) | 2 => Below V.heap.size V X ∧ X.heap[gc]? = some (.cells (ctC (cnt b v)) 3) ∧ (V.heap.size ≤ gc) | 3 => Below V.heap.size V X ∧ X.heap[gc]? = some (.cells (ctC (cnt b v)) 3) ∧ (V.heap.size ≤ gc) ∧ SliceN X (.slice (some ⟨s.1, 0, none⟩) 1 1) (1) (fun _ => v) | 4 => Below V.heap.size V X ∧ X.heap[gc]? = some (.cells (ctC (cnt b v)) 3) ∧ (V.heap.size ≤ gc) ∧ SliceN X (.slice (some ⟨s.1, 0, none⟩) 1 1) (1) (fun _ => v) | 5 => Below V.heap.size V X ∧ X.heap[gc]? = some (.cells (ctC (cnt b v)) 3) ∧ (V.heap.size ≤ gc) ∧ SliceN X (.slice (some ⟨s.1, 0, none⟩) 1 1) (1) (fun _ => v) | 6 => Below V.heap.size V X ∧ X.heap[gc]? = some (.cells (ctC (cnt b v)) 3) ∧ (V.heap.size ≤ gc) ∧ SliceN X (.slice (some ⟨s.1, 0, none⟩) 1 1) (1) (fun _ => v) | 7 => Below V.heap.size V X ∧ X.heap[gc]? = some (.cells (ctC (cnt b v)) 3) ∧ (V.heap.size ≤ gc) ∧ SliceN X (.slice (some ⟨s.1, 0, none⟩) 1 1) (1) (fun _ => v) | 8 => Below V.heap.size V X ∧ X.heap[gc]? = some (.cells (ctC (cnt b v)) 3) ∧ (V.heap.size ≤ gc) ∧ SliceN X (.slice (some ⟨s.1, 0, none⟩) 1 1) (1) (fun _ => v) | 9 => Below V.heap.size V X ∧ X.heap[gc]? = some (.cells (ctC (cnt b v)) 3) ∧ (V.heap.size ≤ gc) ∧ SliceN X (.slice (some ⟨s.1, 0, none⟩) 1 1) (1) (fun _ => v) | 10 => Below V.heap.size V X ∧ X.heap[gc]? = some (.cells (ctC (cnt b v)) 3) ∧ (V.heap.size ≤ gc) ∧ SliceN X (.slice (some ⟨s.1, 0, none⟩) 1 1) (1) (fun _ => v) | 11 => Below V.heap.size V X ∧ X.heap[gc]? = some (.cells (ctC (cnt b v)) 3) ∧ (V.heap.size ≤ gc) ∧ SliceN X (.slice (some ⟨s.1, 0, none⟩) 1 1) (1) (fun _ => v) ∧ X.heap[s.2]? = some (.cells (tpC (fun _ => 0) 0 0) 25) ∧ (V.heap.size ≤ s.2) ∧ (gc ≠ s.2) | 12 => Below V.heap.size V X ∧ X.heap[gc]? = some (.cells (ctC (cnt b v)) 3) ∧ (V.heap.size ≤ gc) ∧ SliceN X (.slice (some ⟨s.1, 0, none⟩) 1 1) (1) (fun _ => v) ∧ X.heap[s.2]? = some (.cells (tpC (fun _ => 0) 0 0) 25) ∧ (V.heap.size ≤ s.2) ∧ (gc ≠ s.2) | 13 => Below V.heap.size V X ∧ X.heap[gc]? = some (.cells (ctC (cnt b v)) 3) ∧ (V.heap.size ≤ gc) ∧ (V.heap.size ≤ s.2) ∧ (gc ≠ s.2) ∧ X.heap[s.2]? = some (.cells (tpC (fun _ => v) (if dE (fun _ => v) 1 0 ((b : Nat) : Int) = 0 then 1 else 0) (dN (fun _ => v) 1 0 ((b : Nat) : Int))) 25) | _ => Below V.heap.size V X ∧ X.heap[gc]? = some (.cells (ctC (cnt b v)) 3) ∧ (V.heap.size ≤ gc) ∧ (V.heap.size ≤ s.2) ∧ (gc ≠ s.2) ∧ X.heap[s.2]? = some (.cells (tpC (fun _ => v) (if dE (fun _ => v) 1 0 ((b : Nat) : Int) = 0 then 1 else 0) (dN (fun _ => v) 1 0 ((b : Nat) : Int))) 25)) (fun s => fun i_ => match i_ with | 0 => .int .i64 ((v : Nat) : Int) | 1 => .int .u8 ((v : Nat) : Int) | 2 => .slice (some ⟨s.1, 0, none⟩) 1 1 | 3 => .agg (tpC (fun _ => v) 1 0) | 4 => .int .i64 ((b : Nat) : Int) | 5 => .tuple #[.int .i64 ((dV (fun _ => v) 1 0 ((b : Nat) : Int) : Nat) : Int), .agg (tpC (fun _ => v) (if dE (fun _ => v) 1 0 ((b : Nat) : Int) = 0 then 1 else 0) (dN (fun _ => v) 1 0 ((b : Nat) : Int))), .int .i64 ((dE (fun _ => v) 1 0 ((b : Nat) : Int) : Nat) : Int)] | 6 => .tuple #[.int .i64 ((dV (fun _ => v) 1 0 ((b : Nat) : Int) : Nat) : Int), .agg (tpC (fun _ => v) (if dE (fun _ => v) 1 0 ((b : Nat) : Int) = 0 then 1 else 0) (dN (fun _ => v) 1 0 ((b : Nat) : Int))), .int .i64 ((dE (fun _ => v) 1 0 ((b : Nat) : Int) : Nat) : Int)] | 7 => .int .i64 ((dV (fun _ => v) 1 0 ((b : Nat) : Int) : Nat) : Int) | 8 => .agg (tpC (fun _ => v) (if dE (fun _ => v) 1 0 ((b : Nat) : Int) = 0 then 1 else 0) (dN (fun _ => v) 1 0 ((b : Nat) : Int))) | 9 => .int .i64 ((dE (fun _ => v) 1 0 ((b : Nat) : Int) : Nat) : Int) | 10 => .pointer (some ⟨s.2, 0, none⟩) | 11 => .int .i64 ((dV (fun _ => v) 1 0 ((b : Nat) : Int) : Nat) : Int) | 12 => undef | 13 => .int .i64 ((dE (fun _ => v) 1 0 ((b : Nat) : Int) : Nat) : Int) | _ => undef) (0, 0) A.1 (by kernel_rfl) (by decide) (by decide) ⟨BB, FC, Fgc⟩ ?_ ?_
    · intro i_ hi_ s a X hf hv hn hS
      match i_, hi_ with
      | 0, _ => exact stepV rfl rfl (execMvB rfl ((hf 5 (by decide)).trans t5)) ⟨s, ⟨_, rfl, rfl⟩, hS, fun _ _ => rfl⟩
      | 1, _ => exact stepV rfl rfl (execU8W (n := v) rfl (hv 0 (by omega) _ rfl _ rfl) hv2) ⟨s, ⟨_, rfl, rfl⟩, hS, fun _ _ => rfl⟩
      | 2, _ =>
        refine stepV rfl rfl (execBsV1 (z := ((v : Nat) : Int)) rfl (hv 1 (by omega) _ rfl _ rfl)) ⟨(X.heap.size, s.2), ⟨_, rfl, rfl⟩, ⟨(hS.1).trans (((belNew X _)).mono (hS.1).size), (on9 hS.2.1 (belNew X _)), hS.2.2, one_slice (heapNew X _) rfl hv2⟩, fun i hi => ?_⟩
        match i, hi with
        | 0, _ => rfl
        | 1, _ => rfl
        | n_ + 2, h_ => omega
      | 3, _ => exact stepC rfl rfl (execCall1 Try.func6 (by kernel_rfl) (by kernel_rfl) rfl (hv 2 (by omega) _ rfl _ rfl)) (new_any (fun _ => v) 1 _ X hS.2.2.2) fun e w' hh => ⟨_, hh.1, s, ⟨_, rfl, rfl⟩, ⟨(hS.1).trans ((hh.2).mono (hS.1).size), (on9 hS.2.1 hh.2), hS.2.2.1, (hS.2.2.2.on hh.2)⟩, fun _ _ => rfl⟩
      | 4, _ => exact stepV rfl rfl (execMvB rfl ((hf 0 (by decide)).trans t0)) ⟨s, ⟨_, rfl, rfl⟩, hS, fun _ _ => rfl⟩
      | 5, _ => exact stepC rfl rfl (execCall2 Try.func5 (by kernel_rfl) (by kernel_rfl) rfl (hv 3 (by omega) _ rfl _ rfl) (hv 4 (by omega) _ rfl _ rfl)) (I.below (fun _ => v) 1 0 ((b : Nat) : Int) X (by omega) (by omega) (fun _ _ => hv2)) fun e w' hh => ⟨_, hh.1, s, ⟨_, rfl, rfl⟩, ⟨(hS.1).trans ((hh.2).mono (hS.1).size), (on9 hS.2.1 hh.2), hS.2.2.1, (hS.2.2.2.on hh.2)⟩, fun _ _ => rfl⟩
      | 6, _ => exact stepV rfl rfl (execMvB rfl (hv 5 (by omega) _ rfl _ rfl)) ⟨s, ⟨_, rfl, rfl⟩, hS, fun _ _ => rfl⟩
      | 7, _ => exact stepV rfl rfl (execExtT rfl (hv 6 (by omega) _ rfl _ rfl) rfl) ⟨s, ⟨_, rfl, rfl⟩, hS, fun _ _ => rfl⟩
      | 8, _ => exact stepV rfl rfl (execExtT rfl (hv 6 (by omega) _ rfl _ rfl) rfl) ⟨s, ⟨_, rfl, rfl⟩, hS, fun _ _ => rfl⟩
      | 9, _ => exact stepV rfl rfl (execExtT rfl (hv 6 (by omega) _ rfl _ rfl) rfl) ⟨s, ⟨_, rfl, rfl⟩, hS, fun _ _ => rfl⟩
      | 10, _ =>
        refine stepV rfl rfl (execAllTp rfl (fun _ => 0)) ⟨(s.1, X.heap.size), ⟨_, rfl, rfl⟩, ⟨(hS.1).trans (((belNew X _)).mono (hS.1).size), (on9 hS.2.1 (belNew X _)), hS.2.2.1, (hS.2.2.2.on (belNew X _)), heapNew X _, (hS.1).size, ne9 hS.2.1⟩, fun i hi => ?_⟩
        match i, hi with
        | 0, _ => rfl
        | 1, _ => rfl
        | 2, _ => rfl
        | 3, _ => rfl
        | 4, _ => rfl
        | 5, _ => rfl
        | 6, _ => rfl
        | 7, _ => rfl
        | 8, _ => rfl
        | 9, _ => rfl
        | n_ + 10, h_ => omega
      | 11, _ => exact stepV rfl rfl (execAsgB rfl (hv 7 (by omega) _ rfl _ rfl)) ⟨s, ⟨_, rfl, rfl⟩, hS, fun _ _ => rfl⟩
      | 12, _ => exact stepS rfl rfl (execStTp rfl (hv 10 (by omega) _ rfl _ rfl) (hv 8 (by omega) _ rfl _ rfl) hS.2.2.2.2.1 rfl) ⟨s, ⟨_, rfl, rfl⟩, ⟨below4 hS.1 hS.2.2.2.2.2.1 _, (by rw [setRow_other _ _ _ _ (hS.2.2.2.2.2.2)]; exact hS.2.1), hS.2.2.1, hS.2.2.2.2.2.1, hS.2.2.2.2.2.2, setRow_heap _ _ _ _ _ _ hS.2.2.2.2.1⟩, fun _ _ => rfl⟩
      | 13, _ => exact stepV rfl rfl (execAsgB rfl (hv 9 (by omega) _ rfl _ rfl)) ⟨s, ⟨_, rfl, rfl⟩, hS, fun _ _ => rfl⟩
      | k_ + 14, h_ => exact absurd h_ (by simp)
    rintro ⟨g20, g7⟩ a X8 h1 h2 h3 h4 hS
    clear BB
    clear FC
    clear Fgc
    replace hS : Below V.heap.size V X8 ∧ X8.heap[gc]? = some (.cells (ctC (cnt b v)) 3) ∧ (V.heap.size ≤ gc) ∧ (V.heap.size ≤ g7) ∧ (gc ≠ g7) ∧ X8.heap[g7]? = some (.cells (tpC (fun _ => v) (if dE (fun _ => v) 1 0 ((b : Nat) : Int) = 0 then 1 else 0) (dN (fun _ => v) 1 0 ((b : Nat) : Int))) 25) := hS
    obtain ⟨BB, FC, Fgc, Fge7, Fn7FC, F7⟩ := hS
    replace t0 := (h3 0 (by decide)).trans t0
    replace t3 := (h3 3 (by decide)).trans t3
    replace t4 := (h3 4 (by decide)).trans t4
    replace t5 := (h3 5 (by decide)).trans t5
    have t6 : a.eval (.tmp 6) = .int .i64 ((dV (fun _ => v) 1 0 ((b : Nat) : Int) : Nat) : Int) := h4 11 _ rfl _ rfl
    have t7 : a.eval (.tmp 7) = .pointer (some ⟨g7, 0, none⟩) := h4 10 _ rfl _ rfl
    have t8 : a.eval (.tmp 8) = .int .i64 ((dE (fun _ => v) 1 0 ((b : Nat) : Int) : Nat) : Int) := h4 13 _ rfl _ rfl
    replace A := (⟨h1, h2.trans A.2⟩ : a.tmps.size = 108 ∧ a.defers = [])
    clear h1 h2 h3 h4
    clear Fge7 Fn7FC
    refine wp_seq ?_
    refine wp_seq ?_
    refine wp_region_sq (σ := Unit) 108 [(0, 27), (1, 28), (2, 29), (3, 30), (4, 31), (5, 32)] (fun j_ s X => match j_ with | 0 => Below V.heap.size V X ∧ X.heap[gc]? = some (.cells (ctC (cnt b v)) 3) ∧ (V.heap.size ≤ gc) ∧ X.heap[g7]? = some (.cells (tpC (fun _ => v) (if dE (fun _ => v) 1 0 ((b : Nat) : Int) = 0 then 1 else 0) (dN (fun _ => v) 1 0 ((b : Nat) : Int))) 25) | 1 => Below V.heap.size V X ∧ X.heap[gc]? = some (.cells (ctC (cnt b v)) 3) ∧ (V.heap.size ≤ gc) ∧ X.heap[g7]? = some (.cells (tpC (fun _ => v) (if dE (fun _ => v) 1 0 ((b : Nat) : Int) = 0 then 1 else 0) (dN (fun _ => v) 1 0 ((b : Nat) : Int))) 25) | 2 => Below V.heap.size V X ∧ X.heap[gc]? = some (.cells (ctC (cnt b v)) 3) ∧ (V.heap.size ≤ gc) ∧ X.heap[g7]? = some (.cells (tpC (fun _ => v) (if dE (fun _ => v) 1 0 ((b : Nat) : Int) = 0 then 1 else 0) (dN (fun _ => v) 1 0 ((b : Nat) : Int))) 25) | 3 => Below V.heap.size V X ∧ X.heap[gc]? = some (.cells (ctC (cnt b v)) 3) ∧ (V.heap.size ≤ gc) ∧ X.heap[g7]? = some (.cells (tpC (fun _ => v) (if dE (fun _ => v) 1 0 ((b : Nat) : Int) = 0 then 1 else 0) (dN (fun _ => v) 1 0 ((b : Nat) : Int))) 25) | 4 => Below V.heap.size V X ∧ X.heap[gc]? = some (.cells (ctC (cnt b v)) 3) ∧ (V.heap.size ≤ gc) ∧ X.heap[g7]? = some (.cells (tpC (fun _ => v) (if dE (fun _ => v) 1 0 ((b : Nat) : Int) = 0 then 1 else 0) (dN (fun _ => v) 1 0 ((b : Nat) : Int))) 25) | 5 => Below V.heap.size V X ∧ X.heap[gc]? = some (.cells (ctC (cnt b v)) 3) ∧ (V.heap.size ≤ gc) ∧ X.heap[g7]? = some (.cells (tpC (fun _ => v) (if dE (fun _ => v) 1 0 ((b : Nat) : Int) = 0 then 1 else 0) (dN (fun _ => v) 1 0 ((b : Nat) : Int))) 25) | _ => Below V.heap.size V X ∧ X.heap[gc]? = some (.cells (ctC (cnt b v)) 3) ∧ (V.heap.size ≤ gc) ∧ X.heap[g7]? = some (.cells (tpC (fun _ => v) (if dE (fun _ => v) 1 0 ((b : Nat) : Int) = 0 then 1 else 0) (dN (fun _ => v) 1 0 ((b : Nat) : Int))) 25)) (fun s => fun i_ => match i_ with | 0 => .int .i64 ((b : Nat) : Int) | 1 => .bool false | 2 => .bool false | 3 => .int .i64 ((b : Nat) : Int) | 4 => .bool false | 5 => .bool false | _ => undef) () A.1 (by kernel_rfl) (by decide) (by decide) ⟨BB, FC, Fgc, F7⟩ ?_ ?_
    · intro i_ hi_ s a X hf hv hn hS
      match i_, hi_ with
      | 0, _ => exact stepV rfl rfl (execMvB rfl ((hf 0 (by decide)).trans t0)) ⟨s, ⟨_, rfl, rfl⟩, hS, fun _ _ => rfl⟩
      | 1, _ => exact stepV rfl rfl (execDec (execLtW (p := b) (q := 1) rfl (hv 0 (by omega) _ rfl _ rfl) rfl) (decide_eq_false (by omega))) ⟨s, ⟨_, rfl, rfl⟩, hS, fun _ _ => rfl⟩
      | 2, _ => exact stepV rfl rfl (execMvB rfl (hv 1 (by omega) _ rfl _ rfl)) ⟨s, ⟨_, rfl, rfl⟩, hS, fun _ _ => rfl⟩
      | 3, _ => exact stepV rfl (wantedOf rfl (yieldedAt rfl rfl (show a.eval (.tmp 29) = .bool false from (hv 2 (by omega) _ rfl _ rfl)))) (execMvB rfl ((hf 0 (by decide)).trans t0)) ⟨s, ⟨_, rfl, rfl⟩, hS, fun _ _ => rfl⟩
      | 4, _ => exact stepV rfl (wantedOf rfl (yieldedAt rfl rfl (show a.eval (.tmp 29) = .bool false from (hv 2 (by omega) _ rfl _ rfl)))) (execDec (execGtN (p := b) (q := 256) rfl (hv 3 (by omega) _ rfl _ rfl) rfl) (decide_eq_false (by omega))) ⟨s, ⟨_, rfl, rfl⟩, hS, fun _ _ => rfl⟩
      | 5, _ => exact stepV rfl rfl (execPickF rfl (hv 2 (by omega) _ rfl _ rfl) (hv 4 (by omega) _ rfl _ rfl)) ⟨s, ⟨_, rfl, rfl⟩, hS, fun _ _ => rfl⟩
      | k_ + 6, h_ => exact absurd h_ (by simp)
    rintro _ a X9 h1 h2 h3 h4 hS
    clear BB
    clear FC
    clear Fgc
    clear F7
    replace hS : Below V.heap.size V X9 ∧ X9.heap[gc]? = some (.cells (ctC (cnt b v)) 3) ∧ (V.heap.size ≤ gc) ∧ X9.heap[g7]? = some (.cells (tpC (fun _ => v) (if dE (fun _ => v) 1 0 ((b : Nat) : Int) = 0 then 1 else 0) (dN (fun _ => v) 1 0 ((b : Nat) : Int))) 25) := hS
    obtain ⟨BB, FC, Fgc, F7⟩ := hS
    replace t0 := (h3 0 (by decide)).trans t0
    replace t3 := (h3 3 (by decide)).trans t3
    replace t4 := (h3 4 (by decide)).trans t4
    replace t5 := (h3 5 (by decide)).trans t5
    replace t6 := (h3 6 (by decide)).trans t6
    replace t7 := (h3 7 (by decide)).trans t7
    replace t8 := (h3 8 (by decide)).trans t8
    have t32 : a.eval (.tmp 32) = .bool false := h4 5 _ rfl _ rfl
    replace A := (⟨h1, h2.trans A.2⟩ : a.tmps.size = 108 ∧ a.defers = [])
    clear h1 h2 h3 h4
    refine wp_cond_false t32 ?_
    refine wp_skip ?_
    clear t32
    refine wp_block ?_
    have hE := one_E hb1 hb2 hv2
    by_cases ht : v / b < 256 / b
    · rw [if_pos ht] at hE
      have hV := one_V hb1 hb2 hv2 ht
      have hN := one_N hb1 hb2 hv2 ht
      have hm : v % b < b := Nat.mod_lt _ (by omega)
      have hcl := cnt_le b (v % b) v
      rw [hV] at t6
      rw [if_pos hE, hN] at F7
      by_cases h1 : b = 1
      · rw [if_pos h1] at F7
        refine wp_seq ?_
        refine wp_region_sq (σ := Unit) 108 [(0, 42), (1, 43), (2, 41)] (fun j_ s X => match j_ with | 0 => Below V.heap.size V X ∧ X.heap[gc]? = some (.cells (ctC (cnt b v)) 3) ∧ (V.heap.size ≤ gc) ∧ X.heap[g7]? = some (.cells (tpC (fun _ => v) 1 0) 25) | 1 => Below V.heap.size V X ∧ X.heap[gc]? = some (.cells (ctC (cnt b v)) 3) ∧ (V.heap.size ≤ gc) ∧ X.heap[g7]? = some (.cells (tpC (fun _ => v) 1 0) 25) | 2 => Below V.heap.size V X ∧ X.heap[gc]? = some (.cells (ctC (cnt b v)) 3) ∧ (V.heap.size ≤ gc) ∧ X.heap[g7]? = some (.cells (tpC (fun _ => v) 1 0) 25) | _ => Below V.heap.size V X ∧ X.heap[gc]? = some (.cells (ctC (cnt b v)) 3) ∧ (V.heap.size ≤ gc) ∧ X.heap[g7]? = some (.cells (tpC (fun _ => v) 1 0) 25)) (fun s => fun i_ => match i_ with | 0 => .int .i64 ((dE (fun _ => v) 1 0 ((b : Nat) : Int) : Nat) : Int) | 1 => .bool false | 2 => .bool false | _ => undef) () A.1 (by kernel_rfl) (by decide) (by decide) ⟨BB, FC, Fgc, F7⟩ ?_ ?_
        · intro i_ hi_ s a X hf hv hn hS
          match i_, hi_ with
          | 0, _ => exact stepV rfl rfl (execMvB rfl ((hf 8 (by decide)).trans t8)) ⟨s, ⟨_, rfl, rfl⟩, hS, fun _ _ => rfl⟩
          | 1, _ => exact stepV rfl rfl (execDec (execEqE (p := dE (fun _ => v) 1 0 ((b : Nat) : Int)) (q := 3) rfl (hv 0 (by omega) _ rfl _ rfl) rfl) (decide_eq_false (by omega))) ⟨s, ⟨_, rfl, rfl⟩, hS, fun _ _ => rfl⟩
          | 2, _ => exact stepV rfl rfl (execAsgB rfl (hv 1 (by omega) _ rfl _ rfl)) ⟨s, ⟨_, rfl, rfl⟩, hS, fun _ _ => rfl⟩
          | k_ + 3, h_ => exact absurd h_ (by simp)
        rintro _ a X13 h1 h2 h3 h4 hS
        clear BB
        clear FC
        clear Fgc
        clear F7
        replace hS : Below V.heap.size V X13 ∧ X13.heap[gc]? = some (.cells (ctC (cnt b v)) 3) ∧ (V.heap.size ≤ gc) ∧ X13.heap[g7]? = some (.cells (tpC (fun _ => v) 1 0) 25) := hS
        obtain ⟨BB, FC, Fgc, F7⟩ := hS
        replace t0 := (h3 0 (by decide)).trans t0
        replace t3 := (h3 3 (by decide)).trans t3
        replace t4 := (h3 4 (by decide)).trans t4
        replace t5 := (h3 5 (by decide)).trans t5
        replace t6 := (h3 6 (by decide)).trans t6
        replace t7 := (h3 7 (by decide)).trans t7
        replace t8 := (h3 8 (by decide)).trans t8
        have t41 : a.eval (.tmp 41) = .bool false := h4 2 _ rfl _ rfl
        replace A := (⟨h1, h2.trans A.2⟩ : a.tmps.size = 108 ∧ a.defers = [])
        clear h1 h2 h3 h4
        refine wp_cond_false t41 ?_
        clear t41
        refine wp_seq ?_
        refine wp_region_sq (σ := Unit) 108 [(0, 47), (1, 48), (2, 49), (3, 50), (4, 51), (5, 52), (6, 53), (7, 54), (8, 55), (9, 56), (10, 57), (11, 58), (12, 59), (13, 60), (14, 61), (15, 62), (16, 63), (17, 64), (18, 65), (19, 66), (20, 67), (21, 68), (22, 69), (23, 70), (24, 71), (25, 72), (26, 73), (27, 74), (28, 75), (29, 46)] (fun j_ s X => match j_ with | 0 => Below V.heap.size V X ∧ X.heap[gc]? = some (.cells (ctC (cnt b v)) 3) ∧ (V.heap.size ≤ gc) ∧ X.heap[g7]? = some (.cells (tpC (fun _ => v) 1 0) 25) | 1 => Below V.heap.size V X ∧ X.heap[gc]? = some (.cells (ctC (cnt b v)) 3) ∧ (V.heap.size ≤ gc) ∧ X.heap[g7]? = some (.cells (tpC (fun _ => v) 1 0) 25) | 2 => Below V.heap.size V X ∧ X.heap[gc]? = some (.cells (ctC (cnt b v)) 3) ∧ (V.heap.size ≤ gc) ∧ X.heap[g7]? = some (.cells (tpC (fun _ => v) 1 0) 25) | 3 => Below V.heap.size V X ∧ X.heap[gc]? = some (.cells (ctC (cnt b v)) 3) ∧ (V.heap.size ≤ gc) ∧ X.heap[g7]? = some (.cells (tpC (fun _ => v) 1 0) 25) | 4 => Below V.heap.size V X ∧ X.heap[gc]? = some (.cells (ctC (cnt b v)) 3) ∧ (V.heap.size ≤ gc) ∧ X.heap[g7]? = some (.cells (tpC (fun _ => v) 1 0) 25) | 5 => Below V.heap.size V X ∧ X.heap[gc]? = some (.cells (ctC (cnt b v)) 3) ∧ (V.heap.size ≤ gc) ∧ X.heap[g7]? = some (.cells (tpC (fun _ => v) 1 0) 25) | 6 => Below V.heap.size V X ∧ X.heap[gc]? = some (.cells (ctC (cnt b v)) 3) ∧ (V.heap.size ≤ gc) ∧ X.heap[g7]? = some (.cells (tpC (fun _ => v) 1 0) 25) | 7 => Below V.heap.size V X ∧ X.heap[gc]? = some (.cells (ctC (cnt b v)) 3) ∧ (V.heap.size ≤ gc) ∧ X.heap[g7]? = some (.cells (tpC (fun _ => v) 1 0) 25) | 8 => Below V.heap.size V X ∧ X.heap[gc]? = some (.cells (ctC (cnt b v)) 3) ∧ (V.heap.size ≤ gc) ∧ X.heap[g7]? = some (.cells (tpC (fun _ => v) 1 0) 25) | 9 => Below V.heap.size V X ∧ X.heap[gc]? = some (.cells (ctC (cnt b v)) 3) ∧ (V.heap.size ≤ gc) ∧ X.heap[g7]? = some (.cells (tpC (fun _ => v) 1 0) 25) | 10 => Below V.heap.size V X ∧ X.heap[gc]? = some (.cells (ctC (cnt b v)) 3) ∧ (V.heap.size ≤ gc) ∧ X.heap[g7]? = some (.cells (tpC (fun _ => v) 1 0) 25) | 11 => Below V.heap.size V X ∧ X.heap[gc]? = some (.cells (ctC (cnt b v)) 3) ∧ (V.heap.size ≤ gc) ∧ X.heap[g7]? = some (.cells (tpC (fun _ => v) 1 0) 25) | 12 => Below V.heap.size V X ∧ X.heap[gc]? = some (.cells (ctC (cnt b v)) 3) ∧ (V.heap.size ≤ gc) ∧ X.heap[g7]? = some (.cells (tpC (fun _ => v) 1 0) 25) | 13 => Below V.heap.size V X ∧ X.heap[gc]? = some (.cells (ctC (cnt b v)) 3) ∧ (V.heap.size ≤ gc) ∧ X.heap[g7]? = some (.cells (tpC (fun _ => v) 1 0) 25) | 14 => Below V.heap.size V X ∧ X.heap[gc]? = some (.cells (ctC (cnt b v)) 3) ∧ (V.heap.size ≤ gc) ∧ X.heap[g7]? = some (.cells (tpC (fun _ => v) 1 0) 25) | 15 => Below V.heap.size V X ∧ X.heap[gc]? = some (.cells (ctC (cnt b v)) 3) ∧ (V.heap.size ≤ gc) ∧ X.heap[g7]? = some (.cells (tpC (fun _ => v) 1 0) 25) | 16 => Below V.heap.size V X ∧ X.heap[gc]? = some (.cells (ctC (cnt b v)) 3) ∧ (V.heap.size ≤ gc) ∧ X.heap[g7]? = some (.cells (tpC (fun _ => v) 1 0) 25) | 17 => Below V.heap.size V X ∧ X.heap[gc]? = some (.cells (ctC (cnt b v)) 3) ∧ (V.heap.size ≤ gc) ∧ X.heap[g7]? = some (.cells (tpC (fun _ => v) 1 0) 25) | 18 => Below V.heap.size V X ∧ X.heap[gc]? = some (.cells (ctC (cnt b v)) 3) ∧ (V.heap.size ≤ gc) ∧ X.heap[g7]? = some (.cells (tpC (fun _ => v) 1 0) 25) | 19 => Below V.heap.size V X ∧ X.heap[gc]? = some (.cells (ctC (cnt b v)) 3) ∧ (V.heap.size ≤ gc) ∧ X.heap[g7]? = some (.cells (tpC (fun _ => v) 1 0) 25) | 20 => Below V.heap.size V X ∧ X.heap[gc]? = some (.cells (ctC (cnt b v)) 3) ∧ (V.heap.size ≤ gc) ∧ X.heap[g7]? = some (.cells (tpC (fun _ => v) 1 0) 25) | 21 => Below V.heap.size V X ∧ X.heap[gc]? = some (.cells (ctC (cnt b v)) 3) ∧ (V.heap.size ≤ gc) ∧ X.heap[g7]? = some (.cells (tpC (fun _ => v) 1 0) 25) | 22 => Below V.heap.size V X ∧ X.heap[gc]? = some (.cells (ctC (cnt b v)) 3) ∧ (V.heap.size ≤ gc) ∧ X.heap[g7]? = some (.cells (tpC (fun _ => v) 1 0) 25) | 23 => Below V.heap.size V X ∧ X.heap[gc]? = some (.cells (ctC (cnt b v)) 3) ∧ (V.heap.size ≤ gc) ∧ X.heap[g7]? = some (.cells (tpC (fun _ => v) 1 0) 25) | 24 => Below V.heap.size V X ∧ X.heap[gc]? = some (.cells (ctC (cnt b v)) 3) ∧ (V.heap.size ≤ gc) ∧ X.heap[g7]? = some (.cells (tpC (fun _ => v) 1 0) 25) | 25 => Below V.heap.size V X ∧ X.heap[gc]? = some (.cells (ctC (cnt b v)) 3) ∧ (V.heap.size ≤ gc) ∧ X.heap[g7]? = some (.cells (tpC (fun _ => v) 1 0) 25) | 26 => Below V.heap.size V X ∧ X.heap[gc]? = some (.cells (ctC (cnt b v)) 3) ∧ (V.heap.size ≤ gc) ∧ X.heap[g7]? = some (.cells (tpC (fun _ => v) 1 0) 25) | 27 => Below V.heap.size V X ∧ X.heap[gc]? = some (.cells (ctC (cnt b v)) 3) ∧ (V.heap.size ≤ gc) ∧ X.heap[g7]? = some (.cells (tpC (fun _ => v) 1 0) 25) | 28 => Below V.heap.size V X ∧ X.heap[gc]? = some (.cells (ctC (cnt b v)) 3) ∧ (V.heap.size ≤ gc) ∧ X.heap[g7]? = some (.cells (tpC (fun _ => v) 1 0) 25) | 29 => Below V.heap.size V X ∧ X.heap[gc]? = some (.cells (ctC (cnt b v)) 3) ∧ (V.heap.size ≤ gc) ∧ X.heap[g7]? = some (.cells (tpC (fun _ => v) 1 0) 25) | _ => Below V.heap.size V X ∧ X.heap[gc]? = some (.cells (ctC (cnt b v)) 3) ∧ (V.heap.size ≤ gc) ∧ X.heap[g7]? = some (.cells (tpC (fun _ => v) 1 0) 25)) (fun s => fun i_ => match i_ with | 0 => .int .i64 ((dE (fun _ => v) 1 0 ((b : Nat) : Int) : Nat) : Int) | 1 => .bool false | 2 => .bool false | 3 => .int .i64 ((v % b : Nat) : Int) | 4 => .bool false | 5 => .bool false | 6 => .bool false | 7 => .int .i64 ((v % b : Nat) : Int) | 8 => .int .i64 ((b : Nat) : Int) | 9 => .bool false | 10 => .bool false | 11 => .bool false | 12 => .int .i64 ((b : Nat) : Int) | 13 => .bool true | 14 => .bool true | 15 => .agg (tpC (fun _ => v) 1 0) | 16 => .int .i64 ((1 - 0 : Nat) : Int) | 17 => .bool false | 18 => .bool false | 19 => .bool false | 20 => .bool false | 21 => .int .i64 ((b : Nat) : Int) | 22 => .bool false | 23 => .bool false | 24 => undef | 25 => undef | 26 => undef | 27 => .bool false | 28 => .bool false | 29 => .bool false | _ => undef) () A.1 (by kernel_rfl) (by decide) (by decide) ⟨BB, FC, Fgc, F7⟩ ?_ ?_
        · intro i_ hi_ s a X hf hv hn hS
          match i_, hi_ with
          | 0, _ => exact stepV rfl rfl (execMvB rfl ((hf 8 (by decide)).trans t8)) ⟨s, ⟨_, rfl, rfl⟩, hS, fun _ _ => rfl⟩
          | 1, _ => exact stepV rfl rfl (execDec (execNeE (p := dE (fun _ => v) 1 0 ((b : Nat) : Int)) (q := 0) rfl (hv 0 (by omega) _ rfl _ rfl) rfl) (decide_eq_false (by omega))) ⟨s, ⟨_, rfl, rfl⟩, hS, fun _ _ => rfl⟩
          | 2, _ => exact stepV rfl rfl (execMvB rfl (hv 1 (by omega) _ rfl _ rfl)) ⟨s, ⟨_, rfl, rfl⟩, hS, fun _ _ => rfl⟩
          | 3, _ => exact stepV rfl (wantedOf rfl (yieldedAt rfl rfl (show a.eval (.tmp 49) = .bool false from (hv 2 (by omega) _ rfl _ rfl)))) (execMvB rfl ((hf 6 (by decide)).trans t6)) ⟨s, ⟨_, rfl, rfl⟩, hS, fun _ _ => rfl⟩
          | 4, _ => exact stepV rfl (wantedOf rfl (yieldedAt rfl rfl (show a.eval (.tmp 49) = .bool false from (hv 2 (by omega) _ rfl _ rfl)))) (execDec (execLtW (p := v % b) (q := 0) rfl (hv 3 (by omega) _ rfl _ rfl) rfl) (decide_eq_false (by omega))) ⟨s, ⟨_, rfl, rfl⟩, hS, fun _ _ => rfl⟩
          | 5, _ => exact stepV rfl rfl (execPickF rfl (hv 2 (by omega) _ rfl _ rfl) (hv 4 (by omega) _ rfl _ rfl)) ⟨s, ⟨_, rfl, rfl⟩, hS, fun _ _ => rfl⟩
          | 6, _ => exact stepV rfl rfl (execMvB rfl (hv 5 (by omega) _ rfl _ rfl)) ⟨s, ⟨_, rfl, rfl⟩, hS, fun _ _ => rfl⟩
          | 7, _ => exact stepV rfl (wantedOf rfl (yieldedAt rfl rfl (show a.eval (.tmp 53) = .bool false from (hv 6 (by omega) _ rfl _ rfl)))) (execMvB rfl ((hf 6 (by decide)).trans t6)) ⟨s, ⟨_, rfl, rfl⟩, hS, fun _ _ => rfl⟩
          | 8, _ => exact stepV rfl (wantedOf rfl (yieldedAt rfl rfl (show a.eval (.tmp 53) = .bool false from (hv 6 (by omega) _ rfl _ rfl)))) (execMvB rfl ((hf 0 (by decide)).trans t0)) ⟨s, ⟨_, rfl, rfl⟩, hS, fun _ _ => rfl⟩
          | 9, _ => exact stepV rfl (wantedOf rfl (yieldedAt rfl rfl (show a.eval (.tmp 53) = .bool false from (hv 6 (by omega) _ rfl _ rfl)))) (execDec (execGe8 (p := v % b) (q := b) rfl (hv 7 (by omega) _ rfl _ rfl) (hv 8 (by omega) _ rfl _ rfl)) (decide_eq_false (by omega))) ⟨s, ⟨_, rfl, rfl⟩, hS, fun _ _ => rfl⟩
          | 10, _ => exact stepV rfl rfl (execPickF rfl (hv 6 (by omega) _ rfl _ rfl) (hv 9 (by omega) _ rfl _ rfl)) ⟨s, ⟨_, rfl, rfl⟩, hS, fun _ _ => rfl⟩
          | 11, _ => exact stepV rfl rfl (execMvB rfl (hv 10 (by omega) _ rfl _ rfl)) ⟨s, ⟨_, rfl, rfl⟩, hS, fun _ _ => rfl⟩
          | 12, _ => exact stepV rfl (wantedOf rfl (yieldedAt rfl rfl (show a.eval (.tmp 58) = .bool false from (hv 11 (by omega) _ rfl _ rfl)))) (execMvB rfl ((hf 0 (by decide)).trans t0)) ⟨s, ⟨_, rfl, rfl⟩, hS, fun _ _ => rfl⟩
          | 13, _ => exact stepV rfl (wantedOf rfl (yieldedAt rfl rfl (show a.eval (.tmp 58) = .bool false from (hv 11 (by omega) _ rfl _ rfl)))) (execDec (execEqN (p := b) (q := 1) rfl (hv 12 (by omega) _ rfl _ rfl) rfl) (decide_eq_true (by omega))) ⟨s, ⟨_, rfl, rfl⟩, hS, fun _ _ => rfl⟩
          | 14, _ => exact stepV rfl (wantedOf rfl (yieldedAt rfl rfl (show a.eval (.tmp 58) = .bool false from (hv 11 (by omega) _ rfl _ rfl)))) (execMvB rfl (hv 13 (by omega) _ rfl _ rfl)) ⟨s, ⟨_, rfl, rfl⟩, hS, fun _ _ => rfl⟩
          | 15, _ => exact stepV rfl (wantedOf rfl (yieldedAt rfl rfl (show a.eval (.tmp 61) = .bool true from (hv 14 (by omega) _ rfl _ rfl)))) (execLdTp rfl ((hf 7 (by decide)).trans t7) hS.2.2.2) ⟨s, ⟨_, rfl, rfl⟩, hS, fun _ _ => rfl⟩
          | 16, _ => exact stepC rfl (wantedOf rfl (yieldedAt rfl rfl (show a.eval (.tmp 61) = .bool true from (hv 14 (by omega) _ rfl _ rfl)))) (execCall1 Try.func7 (by kernel_rfl) (by kernel_rfl) rfl (hv 15 (by omega) _ rfl _ rfl)) (left_any (fun _ => v) 1 0 X (by omega) (by omega)) fun e w' hh => ⟨_, hh.1, s, ⟨_, rfl, rfl⟩, ⟨(hS.1).trans ((hh.2).mono (hS.1).size), (on9 hS.2.1 hh.2), hS.2.2.1, (on9 hS.2.2.2 hh.2)⟩, fun _ _ => rfl⟩
          | 17, _ => exact stepV rfl (wantedOf rfl (yieldedAt rfl rfl (show a.eval (.tmp 61) = .bool true from (hv 14 (by omega) _ rfl _ rfl)))) (execDec (execNeN (p := 1 - 0) (q := 1) rfl (hv 16 (by omega) _ rfl _ rfl) rfl) (decide_eq_false (by omega))) ⟨s, ⟨_, rfl, rfl⟩, hS, fun _ _ => rfl⟩
          | 18, _ => exact stepV rfl (wantedOf rfl (yieldedAt rfl rfl (show a.eval (.tmp 58) = .bool false from (hv 11 (by omega) _ rfl _ rfl)))) (execPickT rfl (hv 14 (by omega) _ rfl _ rfl) (hv 17 (by omega) _ rfl _ rfl)) ⟨s, ⟨_, rfl, rfl⟩, hS, fun _ _ => rfl⟩
          | 19, _ => exact stepV rfl rfl (execPickF rfl (hv 11 (by omega) _ rfl _ rfl) (hv 18 (by omega) _ rfl _ rfl)) ⟨s, ⟨_, rfl, rfl⟩, hS, fun _ _ => rfl⟩
          | 20, _ => exact stepV rfl rfl (execMvB rfl (hv 19 (by omega) _ rfl _ rfl)) ⟨s, ⟨_, rfl, rfl⟩, hS, fun _ _ => rfl⟩
          | 21, _ => exact stepV rfl (wantedOf rfl (yieldedAt rfl rfl (show a.eval (.tmp 67) = .bool false from (hv 20 (by omega) _ rfl _ rfl)))) (execMvB rfl ((hf 0 (by decide)).trans t0)) ⟨s, ⟨_, rfl, rfl⟩, hS, fun _ _ => rfl⟩
          | 22, _ => exact stepV rfl (wantedOf rfl (yieldedAt rfl rfl (show a.eval (.tmp 67) = .bool false from (hv 20 (by omega) _ rfl _ rfl)))) (execDec (execGtN (p := b) (q := 1) rfl (hv 21 (by omega) _ rfl _ rfl) rfl) (decide_eq_false (by omega))) ⟨s, ⟨_, rfl, rfl⟩, hS, fun _ _ => rfl⟩
          | 23, _ => exact stepV rfl (wantedOf rfl (yieldedAt rfl rfl (show a.eval (.tmp 67) = .bool false from (hv 20 (by omega) _ rfl _ rfl)))) (execMvB rfl (hv 22 (by omega) _ rfl _ rfl)) ⟨s, ⟨_, rfl, rfl⟩, hS, fun _ _ => rfl⟩
          | 24, _ => exact stepU rfl (unwantedOf rfl (yieldedAt rfl rfl (show a.eval (.tmp 70) = .bool (!true) from (hv 23 (by omega) _ rfl _ rfl)))) ⟨s, ⟨_, rfl, rfl⟩, hS, fun _ _ => rfl⟩
          | 25, _ => exact stepU rfl (unwantedOf rfl (yieldedAt rfl rfl (show a.eval (.tmp 70) = .bool (!true) from (hv 23 (by omega) _ rfl _ rfl)))) ⟨s, ⟨_, rfl, rfl⟩, hS, fun _ _ => rfl⟩
          | 26, _ => exact stepU rfl (unwantedOf rfl (yieldedAt rfl rfl (show a.eval (.tmp 70) = .bool (!true) from (hv 23 (by omega) _ rfl _ rfl)))) ⟨s, ⟨_, rfl, rfl⟩, hS, fun _ _ => rfl⟩
          | 27, _ => exact stepV rfl (wantedOf rfl (yieldedAt rfl rfl (show a.eval (.tmp 67) = .bool false from (hv 20 (by omega) _ rfl _ rfl)))) (execPickF rfl (hv 23 (by omega) _ rfl _ rfl) rfl) ⟨s, ⟨_, rfl, rfl⟩, hS, fun _ _ => rfl⟩
          | 28, _ => exact stepV rfl rfl (execPickF rfl (hv 20 (by omega) _ rfl _ rfl) (hv 27 (by omega) _ rfl _ rfl)) ⟨s, ⟨_, rfl, rfl⟩, hS, fun _ _ => rfl⟩
          | 29, _ => exact stepV rfl rfl (execAsgB rfl (hv 28 (by omega) _ rfl _ rfl)) ⟨s, ⟨_, rfl, rfl⟩, hS, fun _ _ => rfl⟩
          | k_ + 30, h_ => exact absurd h_ (by simp)
        rintro _ a X15 h1 h2 h3 h4 hS
        clear BB
        clear FC
        clear Fgc
        clear F7
        replace hS : Below V.heap.size V X15 ∧ X15.heap[gc]? = some (.cells (ctC (cnt b v)) 3) ∧ (V.heap.size ≤ gc) ∧ X15.heap[g7]? = some (.cells (tpC (fun _ => v) 1 0) 25) := hS
        obtain ⟨BB, FC, Fgc, F7⟩ := hS
        replace t0 := (h3 0 (by decide)).trans t0
        replace t3 := (h3 3 (by decide)).trans t3
        replace t4 := (h3 4 (by decide)).trans t4
        replace t5 := (h3 5 (by decide)).trans t5
        replace t6 := (h3 6 (by decide)).trans t6
        have t46 : a.eval (.tmp 46) = .bool false := h4 29 _ rfl _ rfl
        replace A := (⟨h1, h2.trans A.2⟩ : a.tmps.size = 108 ∧ a.defers = [])
        clear h1 h2 h3 h4
        clear t7 t8
        refine wp_cond_false t46 ?_
        clear t46
        refine wp_region_sq (σ := Unit) 108 [(0, 35), (1, 36), (2, 37), (3, 38), (4, 39), (5, 40)] (fun j_ s X => match j_ with | 0 => Below V.heap.size V X ∧ X.heap[gc]? = some (.cells (ctC (cnt b v)) 3) ∧ (V.heap.size ≤ gc) ∧ X.heap[g7]? = some (.cells (tpC (fun _ => v) 1 0) 25) | 1 => Below V.heap.size V X ∧ X.heap[gc]? = some (.cells (ctC (cnt b v)) 3) ∧ (V.heap.size ≤ gc) ∧ X.heap[g7]? = some (.cells (tpC (fun _ => v) 1 0) 25) | 2 => Below V.heap.size V X ∧ X.heap[gc]? = some (.cells (ctC (cnt b v)) 3) ∧ (V.heap.size ≤ gc) ∧ X.heap[g7]? = some (.cells (tpC (fun _ => v) 1 0) 25) | 3 => Below V.heap.size V X ∧ X.heap[gc]? = some (.cells (ctC (cnt b v)) 3) ∧ (V.heap.size ≤ gc) ∧ X.heap[g7]? = some (.cells (tpC (fun _ => v) 1 0) 25) | 4 => Below V.heap.size V X ∧ X.heap[gc]? = some (.cells (ctC (cnt b v)) 3) ∧ (V.heap.size ≤ gc) ∧ X.heap[g7]? = some (.cells (tpC (fun _ => v) 1 0) 25) | 5 => Below V.heap.size V X ∧ X.heap[gc]? = some (.cells (ctC (cnt b v)) 3) ∧ (V.heap.size ≤ gc) ∧ X.heap[g7]? = some (.cells (tpC (fun _ => v) 1 0) 25) | 6 => Below V.heap.size V X ∧ X.heap[gc]? = some (.cells (ctC (cnt b v)) 3) ∧ (V.heap.size ≤ gc) ∧ X.heap[g7]? = some (.cells (tpC (fun _ => v) 1 0) 25) | _ => Below V.heap.size V X ∧ (V.heap.size ≤ gc) ∧ X.heap[gc]? = some (.cells (ctC (fun i => if i = v % b then cnt b v (v % b) + 1 else cnt b v i)) 3)) (fun s => fun i_ => match i_ with | 0 => .slice (some ⟨gc, 0, none⟩) 256 256 | 1 => .int .i64 ((v % b : Nat) : Int) | 2 => .pointer (some ⟨gc, 0 + (v % b), none⟩) | 3 => .int .i64 ((cnt b v (v % b) : Nat) : Int) | 4 => .int .i64 ((cnt b v (v % b) + 1 : Nat) : Int) | 5 => .pointer (some ⟨gc, 0 + (v % b), none⟩) | 6 => undef | _ => undef) () A.1 (by kernel_rfl) (by decide) (by decide) ⟨BB, FC, Fgc, F7⟩ ?_ ?_
        · intro i_ hi_ s a X hf hv hn hS
          match i_, hi_ with
          | 0, _ => exact stepV rfl rfl (execMvB rfl ((hf 3 (by decide)).trans t3)) ⟨s, ⟨_, rfl, rfl⟩, hS, fun _ _ => rfl⟩
          | 1, _ => exact stepV rfl rfl (execMvB rfl ((hf 6 (by decide)).trans t6)) ⟨s, ⟨_, rfl, rfl⟩, hS, fun _ _ => rfl⟩
          | 2, _ => exact stepV rfl rfl (execIdxN (k := v % b) rfl (hv 0 (by omega) _ rfl _ rfl) (hv 1 (by omega) _ rfl _ rfl) (by omega)) ⟨s, ⟨_, rfl, rfl⟩, hS, fun _ _ => rfl⟩
          | 3, _ => exact stepV rfl rfl (execLd3 rfl (hv 2 (by omega) _ rfl _ rfl) (ctC_cell hS.2.1 (by omega) rfl)) ⟨s, ⟨_, rfl, rfl⟩, hS, fun _ _ => rfl⟩
          | 4, _ => exact stepV rfl rfl (execAd8 (p := cnt b v (v % b)) (q := 1) rfl (hv 3 (by omega) _ rfl _ rfl) rfl (by omega)) ⟨s, ⟨_, rfl, rfl⟩, hS, fun _ _ => rfl⟩
          | 5, _ => exact stepV rfl rfl (execIdxN (k := v % b) rfl (hv 0 (by omega) _ rfl _ rfl) (hv 1 (by omega) _ rfl _ rfl) (by omega)) ⟨s, ⟨_, rfl, rfl⟩, hS, fun _ _ => rfl⟩
          | 6, _ => exact stepS rfl rfl (execStC (k := v % b) (z := cnt b v (v % b) + 1) rfl (hv 5 (by omega) _ rfl _ rfl) (hv 4 (by omega) _ rfl _ rfl) hS.2.1 (by omega)) ⟨s, ⟨_, rfl, rfl⟩, ⟨below4 hS.1 hS.2.2.1 _, hS.2.2.1, setRow_heap _ _ _ _ _ _ hS.2.1⟩, fun _ _ => rfl⟩
          | k_ + 7, h_ => exact absurd h_ (by simp)
        rintro _ a X12 h1 h2 h3 h4 hS
        clear BB
        clear FC
        clear Fgc
        clear F7
        replace hS : Below V.heap.size V X12 ∧ (V.heap.size ≤ gc) ∧ X12.heap[gc]? = some (.cells (ctC (fun i => if i = v % b then cnt b v (v % b) + 1 else cnt b v i)) 3) := hS
        obtain ⟨BB, Fgc, FC⟩ := hS
        replace t0 := (h3 0 (by decide)).trans t0
        replace t3 := (h3 3 (by decide)).trans t3
        replace t4 := (h3 4 (by decide)).trans t4
        replace t5 := (h3 5 (by decide)).trans t5
        replace A := (⟨h1, h2.trans A.2⟩ : a.tmps.size = 108 ∧ a.defers = [])
        clear h1 h2 h3 h4
        clear t6
        refine wp_region_sq (σ := Unit) 108 [(0, 15), (1, 16), (2, 5)] (fun j_ s X => match j_ with | 0 => Below V.heap.size V X ∧ (V.heap.size ≤ gc) ∧ X.heap[gc]? = some (.cells (ctC (fun i => if i = v % b then cnt b v (v % b) + 1 else cnt b v i)) 3) | 1 => Below V.heap.size V X ∧ (V.heap.size ≤ gc) ∧ X.heap[gc]? = some (.cells (ctC (fun i => if i = v % b then cnt b v (v % b) + 1 else cnt b v i)) 3) | 2 => Below V.heap.size V X ∧ (V.heap.size ≤ gc) ∧ X.heap[gc]? = some (.cells (ctC (fun i => if i = v % b then cnt b v (v % b) + 1 else cnt b v i)) 3) | _ => Below V.heap.size V X ∧ (V.heap.size ≤ gc) ∧ X.heap[gc]? = some (.cells (ctC (fun i => if i = v % b then cnt b v (v % b) + 1 else cnt b v i)) 3)) (fun s => fun i_ => match i_ with | 0 => .int .i64 ((v : Nat) : Int) | 1 => .int .i64 ((v + 1 : Nat) : Int) | 2 => .int .i64 ((v + 1 : Nat) : Int) | _ => undef) () A.1 (by kernel_rfl) (by decide) (by decide) ⟨BB, Fgc, FC⟩ ?_ ?_
        · intro i_ hi_ s a X hf hv hn hS
          match i_, hi_ with
          | 0, _ => exact stepV rfl rfl (execMvB rfl ((hn 2 (by omega) _ rfl _ rfl).trans t5)) ⟨s, ⟨_, rfl, rfl⟩, hS, fun _ _ => rfl⟩
          | 1, _ => exact stepV rfl rfl (execAd8 (p := v) (q := 1) rfl (hv 0 (by omega) _ rfl _ rfl) rfl (by omega)) ⟨s, ⟨_, rfl, rfl⟩, hS, fun _ _ => rfl⟩
          | 2, _ => exact stepV rfl rfl (execAsgB rfl (hv 1 (by omega) _ rfl _ rfl)) ⟨s, ⟨_, rfl, rfl⟩, hS, fun _ _ => rfl⟩
          | k_ + 3, h_ => exact absurd h_ (by simp)
        rintro _ a X7 h1 h2 h3 h4 hS
        clear BB
        clear Fgc
        clear FC
        replace hS : Below V.heap.size V X7 ∧ (V.heap.size ≤ gc) ∧ X7.heap[gc]? = some (.cells (ctC (fun i => if i = v % b then cnt b v (v % b) + 1 else cnt b v i)) 3) := hS
        obtain ⟨BB, Fgc, FC⟩ := hS
        replace t0 := (h3 0 (by decide)).trans t0
        replace t3 := (h3 3 (by decide)).trans t3
        replace t4 := (h3 4 (by decide)).trans t4
        replace t5 : a.eval (.tmp 5) = .int .i64 ((v + 1 : Nat) : Int) := h4 2 _ rfl _ rfl
        replace A := (⟨h1, h2.trans A.2⟩ : a.tmps.size = 108 ∧ a.defers = [])
        clear h1 h2 h3 h4
        rw [cnt_take ht] at FC
        rw [outs_take ht] at t4
        exact ⟨⟨v + 1, hv2, A, t0, t3, t4, t5, BB, FC, Fgc⟩, by show 256 - (intOf (a.eval (.tmp 5))).toNat < 256 - (intOf (Act.eval _ (.tmp 5))).toNat; rw [t5, e5]; show 256 - (v + 1) < 256 - v; omega⟩
      · rw [if_neg h1] at F7
        refine wp_seq ?_
        refine wp_region_sq (σ := Unit) 108 [(0, 42), (1, 43), (2, 41)] (fun j_ s X => match j_ with | 0 => Below V.heap.size V X ∧ X.heap[gc]? = some (.cells (ctC (cnt b v)) 3) ∧ (V.heap.size ≤ gc) ∧ X.heap[g7]? = some (.cells (tpC (fun _ => v) 1 1) 25) | 1 => Below V.heap.size V X ∧ X.heap[gc]? = some (.cells (ctC (cnt b v)) 3) ∧ (V.heap.size ≤ gc) ∧ X.heap[g7]? = some (.cells (tpC (fun _ => v) 1 1) 25) | 2 => Below V.heap.size V X ∧ X.heap[gc]? = some (.cells (ctC (cnt b v)) 3) ∧ (V.heap.size ≤ gc) ∧ X.heap[g7]? = some (.cells (tpC (fun _ => v) 1 1) 25) | _ => Below V.heap.size V X ∧ X.heap[gc]? = some (.cells (ctC (cnt b v)) 3) ∧ (V.heap.size ≤ gc) ∧ X.heap[g7]? = some (.cells (tpC (fun _ => v) 1 1) 25)) (fun s => fun i_ => match i_ with | 0 => .int .i64 ((dE (fun _ => v) 1 0 ((b : Nat) : Int) : Nat) : Int) | 1 => .bool false | 2 => .bool false | _ => undef) () A.1 (by kernel_rfl) (by decide) (by decide) ⟨BB, FC, Fgc, F7⟩ ?_ ?_
        · intro i_ hi_ s a X hf hv hn hS
          match i_, hi_ with
          | 0, _ => exact stepV rfl rfl (execMvB rfl ((hf 8 (by decide)).trans t8)) ⟨s, ⟨_, rfl, rfl⟩, hS, fun _ _ => rfl⟩
          | 1, _ => exact stepV rfl rfl (execDec (execEqE (p := dE (fun _ => v) 1 0 ((b : Nat) : Int)) (q := 3) rfl (hv 0 (by omega) _ rfl _ rfl) rfl) (decide_eq_false (by omega))) ⟨s, ⟨_, rfl, rfl⟩, hS, fun _ _ => rfl⟩
          | 2, _ => exact stepV rfl rfl (execAsgB rfl (hv 1 (by omega) _ rfl _ rfl)) ⟨s, ⟨_, rfl, rfl⟩, hS, fun _ _ => rfl⟩
          | k_ + 3, h_ => exact absurd h_ (by simp)
        rintro _ a X13 h1 h2 h3 h4 hS
        clear BB
        clear FC
        clear Fgc
        clear F7
        replace hS : Below V.heap.size V X13 ∧ X13.heap[gc]? = some (.cells (ctC (cnt b v)) 3) ∧ (V.heap.size ≤ gc) ∧ X13.heap[g7]? = some (.cells (tpC (fun _ => v) 1 1) 25) := hS
        obtain ⟨BB, FC, Fgc, F7⟩ := hS
        replace t0 := (h3 0 (by decide)).trans t0
        replace t3 := (h3 3 (by decide)).trans t3
        replace t4 := (h3 4 (by decide)).trans t4
        replace t5 := (h3 5 (by decide)).trans t5
        replace t6 := (h3 6 (by decide)).trans t6
        replace t7 := (h3 7 (by decide)).trans t7
        replace t8 := (h3 8 (by decide)).trans t8
        have t41 : a.eval (.tmp 41) = .bool false := h4 2 _ rfl _ rfl
        replace A := (⟨h1, h2.trans A.2⟩ : a.tmps.size = 108 ∧ a.defers = [])
        clear h1 h2 h3 h4
        refine wp_cond_false t41 ?_
        clear t41
        refine wp_seq ?_
        refine wp_region_sq (σ := Unit) 108 [(0, 47), (1, 48), (2, 49), (3, 50), (4, 51), (5, 52), (6, 53), (7, 54), (8, 55), (9, 56), (10, 57), (11, 58), (12, 59), (13, 60), (14, 61), (15, 62), (16, 63), (17, 64), (18, 65), (19, 66), (20, 67), (21, 68), (22, 69), (23, 70), (24, 71), (25, 72), (26, 73), (27, 74), (28, 75), (29, 46)] (fun j_ s X => match j_ with | 0 => Below V.heap.size V X ∧ X.heap[gc]? = some (.cells (ctC (cnt b v)) 3) ∧ (V.heap.size ≤ gc) ∧ X.heap[g7]? = some (.cells (tpC (fun _ => v) 1 1) 25) | 1 => Below V.heap.size V X ∧ X.heap[gc]? = some (.cells (ctC (cnt b v)) 3) ∧ (V.heap.size ≤ gc) ∧ X.heap[g7]? = some (.cells (tpC (fun _ => v) 1 1) 25) | 2 => Below V.heap.size V X ∧ X.heap[gc]? = some (.cells (ctC (cnt b v)) 3) ∧ (V.heap.size ≤ gc) ∧ X.heap[g7]? = some (.cells (tpC (fun _ => v) 1 1) 25) | 3 => Below V.heap.size V X ∧ X.heap[gc]? = some (.cells (ctC (cnt b v)) 3) ∧ (V.heap.size ≤ gc) ∧ X.heap[g7]? = some (.cells (tpC (fun _ => v) 1 1) 25) | 4 => Below V.heap.size V X ∧ X.heap[gc]? = some (.cells (ctC (cnt b v)) 3) ∧ (V.heap.size ≤ gc) ∧ X.heap[g7]? = some (.cells (tpC (fun _ => v) 1 1) 25) | 5 => Below V.heap.size V X ∧ X.heap[gc]? = some (.cells (ctC (cnt b v)) 3) ∧ (V.heap.size ≤ gc) ∧ X.heap[g7]? = some (.cells (tpC (fun _ => v) 1 1) 25) | 6 => Below V.heap.size V X ∧ X.heap[gc]? = some (.cells (ctC (cnt b v)) 3) ∧ (V.heap.size ≤ gc) ∧ X.heap[g7]? = some (.cells (tpC (fun _ => v) 1 1) 25) | 7 => Below V.heap.size V X ∧ X.heap[gc]? = some (.cells (ctC (cnt b v)) 3) ∧ (V.heap.size ≤ gc) ∧ X.heap[g7]? = some (.cells (tpC (fun _ => v) 1 1) 25) | 8 => Below V.heap.size V X ∧ X.heap[gc]? = some (.cells (ctC (cnt b v)) 3) ∧ (V.heap.size ≤ gc) ∧ X.heap[g7]? = some (.cells (tpC (fun _ => v) 1 1) 25) | 9 => Below V.heap.size V X ∧ X.heap[gc]? = some (.cells (ctC (cnt b v)) 3) ∧ (V.heap.size ≤ gc) ∧ X.heap[g7]? = some (.cells (tpC (fun _ => v) 1 1) 25) | 10 => Below V.heap.size V X ∧ X.heap[gc]? = some (.cells (ctC (cnt b v)) 3) ∧ (V.heap.size ≤ gc) ∧ X.heap[g7]? = some (.cells (tpC (fun _ => v) 1 1) 25) | 11 => Below V.heap.size V X ∧ X.heap[gc]? = some (.cells (ctC (cnt b v)) 3) ∧ (V.heap.size ≤ gc) ∧ X.heap[g7]? = some (.cells (tpC (fun _ => v) 1 1) 25) | 12 => Below V.heap.size V X ∧ X.heap[gc]? = some (.cells (ctC (cnt b v)) 3) ∧ (V.heap.size ≤ gc) ∧ X.heap[g7]? = some (.cells (tpC (fun _ => v) 1 1) 25) | 13 => Below V.heap.size V X ∧ X.heap[gc]? = some (.cells (ctC (cnt b v)) 3) ∧ (V.heap.size ≤ gc) ∧ X.heap[g7]? = some (.cells (tpC (fun _ => v) 1 1) 25) | 14 => Below V.heap.size V X ∧ X.heap[gc]? = some (.cells (ctC (cnt b v)) 3) ∧ (V.heap.size ≤ gc) ∧ X.heap[g7]? = some (.cells (tpC (fun _ => v) 1 1) 25) | 15 => Below V.heap.size V X ∧ X.heap[gc]? = some (.cells (ctC (cnt b v)) 3) ∧ (V.heap.size ≤ gc) ∧ X.heap[g7]? = some (.cells (tpC (fun _ => v) 1 1) 25) | 16 => Below V.heap.size V X ∧ X.heap[gc]? = some (.cells (ctC (cnt b v)) 3) ∧ (V.heap.size ≤ gc) ∧ X.heap[g7]? = some (.cells (tpC (fun _ => v) 1 1) 25) | 17 => Below V.heap.size V X ∧ X.heap[gc]? = some (.cells (ctC (cnt b v)) 3) ∧ (V.heap.size ≤ gc) ∧ X.heap[g7]? = some (.cells (tpC (fun _ => v) 1 1) 25) | 18 => Below V.heap.size V X ∧ X.heap[gc]? = some (.cells (ctC (cnt b v)) 3) ∧ (V.heap.size ≤ gc) ∧ X.heap[g7]? = some (.cells (tpC (fun _ => v) 1 1) 25) | 19 => Below V.heap.size V X ∧ X.heap[gc]? = some (.cells (ctC (cnt b v)) 3) ∧ (V.heap.size ≤ gc) ∧ X.heap[g7]? = some (.cells (tpC (fun _ => v) 1 1) 25) | 20 => Below V.heap.size V X ∧ X.heap[gc]? = some (.cells (ctC (cnt b v)) 3) ∧ (V.heap.size ≤ gc) ∧ X.heap[g7]? = some (.cells (tpC (fun _ => v) 1 1) 25) | 21 => Below V.heap.size V X ∧ X.heap[gc]? = some (.cells (ctC (cnt b v)) 3) ∧ (V.heap.size ≤ gc) ∧ X.heap[g7]? = some (.cells (tpC (fun _ => v) 1 1) 25) | 22 => Below V.heap.size V X ∧ X.heap[gc]? = some (.cells (ctC (cnt b v)) 3) ∧ (V.heap.size ≤ gc) ∧ X.heap[g7]? = some (.cells (tpC (fun _ => v) 1 1) 25) | 23 => Below V.heap.size V X ∧ X.heap[gc]? = some (.cells (ctC (cnt b v)) 3) ∧ (V.heap.size ≤ gc) ∧ X.heap[g7]? = some (.cells (tpC (fun _ => v) 1 1) 25) | 24 => Below V.heap.size V X ∧ X.heap[gc]? = some (.cells (ctC (cnt b v)) 3) ∧ (V.heap.size ≤ gc) ∧ X.heap[g7]? = some (.cells (tpC (fun _ => v) 1 1) 25) | 25 => Below V.heap.size V X ∧ X.heap[gc]? = some (.cells (ctC (cnt b v)) 3) ∧ (V.heap.size ≤ gc) ∧ X.heap[g7]? = some (.cells (tpC (fun _ => v) 1 1) 25) | 26 => Below V.heap.size V X ∧ X.heap[gc]? = some (.cells (ctC (cnt b v)) 3) ∧ (V.heap.size ≤ gc) ∧ X.heap[g7]? = some (.cells (tpC (fun _ => v) 1 1) 25) | 27 => Below V.heap.size V X ∧ X.heap[gc]? = some (.cells (ctC (cnt b v)) 3) ∧ (V.heap.size ≤ gc) ∧ X.heap[g7]? = some (.cells (tpC (fun _ => v) 1 1) 25) | 28 => Below V.heap.size V X ∧ X.heap[gc]? = some (.cells (ctC (cnt b v)) 3) ∧ (V.heap.size ≤ gc) ∧ X.heap[g7]? = some (.cells (tpC (fun _ => v) 1 1) 25) | 29 => Below V.heap.size V X ∧ X.heap[gc]? = some (.cells (ctC (cnt b v)) 3) ∧ (V.heap.size ≤ gc) ∧ X.heap[g7]? = some (.cells (tpC (fun _ => v) 1 1) 25) | _ => Below V.heap.size V X ∧ X.heap[gc]? = some (.cells (ctC (cnt b v)) 3) ∧ (V.heap.size ≤ gc) ∧ X.heap[g7]? = some (.cells (tpC (fun _ => v) 1 1) 25)) (fun s => fun i_ => match i_ with | 0 => .int .i64 ((dE (fun _ => v) 1 0 ((b : Nat) : Int) : Nat) : Int) | 1 => .bool false | 2 => .bool false | 3 => .int .i64 ((v % b : Nat) : Int) | 4 => .bool false | 5 => .bool false | 6 => .bool false | 7 => .int .i64 ((v % b : Nat) : Int) | 8 => .int .i64 ((b : Nat) : Int) | 9 => .bool false | 10 => .bool false | 11 => .bool false | 12 => .int .i64 ((b : Nat) : Int) | 13 => .bool false | 14 => .bool false | 15 => undef | 16 => undef | 17 => undef | 18 => .bool false | 19 => .bool false | 20 => .bool false | 21 => .int .i64 ((b : Nat) : Int) | 22 => .bool true | 23 => .bool true | 24 => .agg (tpC (fun _ => v) 1 1) | 25 => .int .i64 ((1 - 1 : Nat) : Int) | 26 => .bool false | 27 => .bool false | 28 => .bool false | 29 => .bool false | _ => undef) () A.1 (by kernel_rfl) (by decide) (by decide) ⟨BB, FC, Fgc, F7⟩ ?_ ?_
        · intro i_ hi_ s a X hf hv hn hS
          match i_, hi_ with
          | 0, _ => exact stepV rfl rfl (execMvB rfl ((hf 8 (by decide)).trans t8)) ⟨s, ⟨_, rfl, rfl⟩, hS, fun _ _ => rfl⟩
          | 1, _ => exact stepV rfl rfl (execDec (execNeE (p := dE (fun _ => v) 1 0 ((b : Nat) : Int)) (q := 0) rfl (hv 0 (by omega) _ rfl _ rfl) rfl) (decide_eq_false (by omega))) ⟨s, ⟨_, rfl, rfl⟩, hS, fun _ _ => rfl⟩
          | 2, _ => exact stepV rfl rfl (execMvB rfl (hv 1 (by omega) _ rfl _ rfl)) ⟨s, ⟨_, rfl, rfl⟩, hS, fun _ _ => rfl⟩
          | 3, _ => exact stepV rfl (wantedOf rfl (yieldedAt rfl rfl (show a.eval (.tmp 49) = .bool false from (hv 2 (by omega) _ rfl _ rfl)))) (execMvB rfl ((hf 6 (by decide)).trans t6)) ⟨s, ⟨_, rfl, rfl⟩, hS, fun _ _ => rfl⟩
          | 4, _ => exact stepV rfl (wantedOf rfl (yieldedAt rfl rfl (show a.eval (.tmp 49) = .bool false from (hv 2 (by omega) _ rfl _ rfl)))) (execDec (execLtW (p := v % b) (q := 0) rfl (hv 3 (by omega) _ rfl _ rfl) rfl) (decide_eq_false (by omega))) ⟨s, ⟨_, rfl, rfl⟩, hS, fun _ _ => rfl⟩
          | 5, _ => exact stepV rfl rfl (execPickF rfl (hv 2 (by omega) _ rfl _ rfl) (hv 4 (by omega) _ rfl _ rfl)) ⟨s, ⟨_, rfl, rfl⟩, hS, fun _ _ => rfl⟩
          | 6, _ => exact stepV rfl rfl (execMvB rfl (hv 5 (by omega) _ rfl _ rfl)) ⟨s, ⟨_, rfl, rfl⟩, hS, fun _ _ => rfl⟩
          | 7, _ => exact stepV rfl (wantedOf rfl (yieldedAt rfl rfl (show a.eval (.tmp 53) = .bool false from (hv 6 (by omega) _ rfl _ rfl)))) (execMvB rfl ((hf 6 (by decide)).trans t6)) ⟨s, ⟨_, rfl, rfl⟩, hS, fun _ _ => rfl⟩
          | 8, _ => exact stepV rfl (wantedOf rfl (yieldedAt rfl rfl (show a.eval (.tmp 53) = .bool false from (hv 6 (by omega) _ rfl _ rfl)))) (execMvB rfl ((hf 0 (by decide)).trans t0)) ⟨s, ⟨_, rfl, rfl⟩, hS, fun _ _ => rfl⟩
          | 9, _ => exact stepV rfl (wantedOf rfl (yieldedAt rfl rfl (show a.eval (.tmp 53) = .bool false from (hv 6 (by omega) _ rfl _ rfl)))) (execDec (execGe8 (p := v % b) (q := b) rfl (hv 7 (by omega) _ rfl _ rfl) (hv 8 (by omega) _ rfl _ rfl)) (decide_eq_false (by omega))) ⟨s, ⟨_, rfl, rfl⟩, hS, fun _ _ => rfl⟩
          | 10, _ => exact stepV rfl rfl (execPickF rfl (hv 6 (by omega) _ rfl _ rfl) (hv 9 (by omega) _ rfl _ rfl)) ⟨s, ⟨_, rfl, rfl⟩, hS, fun _ _ => rfl⟩
          | 11, _ => exact stepV rfl rfl (execMvB rfl (hv 10 (by omega) _ rfl _ rfl)) ⟨s, ⟨_, rfl, rfl⟩, hS, fun _ _ => rfl⟩
          | 12, _ => exact stepV rfl (wantedOf rfl (yieldedAt rfl rfl (show a.eval (.tmp 58) = .bool false from (hv 11 (by omega) _ rfl _ rfl)))) (execMvB rfl ((hf 0 (by decide)).trans t0)) ⟨s, ⟨_, rfl, rfl⟩, hS, fun _ _ => rfl⟩
          | 13, _ => exact stepV rfl (wantedOf rfl (yieldedAt rfl rfl (show a.eval (.tmp 58) = .bool false from (hv 11 (by omega) _ rfl _ rfl)))) (execDec (execEqN (p := b) (q := 1) rfl (hv 12 (by omega) _ rfl _ rfl) rfl) (decide_eq_false (by omega))) ⟨s, ⟨_, rfl, rfl⟩, hS, fun _ _ => rfl⟩
          | 14, _ => exact stepV rfl (wantedOf rfl (yieldedAt rfl rfl (show a.eval (.tmp 58) = .bool false from (hv 11 (by omega) _ rfl _ rfl)))) (execMvB rfl (hv 13 (by omega) _ rfl _ rfl)) ⟨s, ⟨_, rfl, rfl⟩, hS, fun _ _ => rfl⟩
          | 15, _ => exact stepU rfl (unwantedOf rfl (yieldedAt rfl rfl (show a.eval (.tmp 61) = .bool (!true) from (hv 14 (by omega) _ rfl _ rfl)))) ⟨s, ⟨_, rfl, rfl⟩, hS, fun _ _ => rfl⟩
          | 16, _ => exact stepU rfl (unwantedOf rfl (yieldedAt rfl rfl (show a.eval (.tmp 61) = .bool (!true) from (hv 14 (by omega) _ rfl _ rfl)))) ⟨s, ⟨_, rfl, rfl⟩, hS, fun _ _ => rfl⟩
          | 17, _ => exact stepU rfl (unwantedOf rfl (yieldedAt rfl rfl (show a.eval (.tmp 61) = .bool (!true) from (hv 14 (by omega) _ rfl _ rfl)))) ⟨s, ⟨_, rfl, rfl⟩, hS, fun _ _ => rfl⟩
          | 18, _ => exact stepV rfl (wantedOf rfl (yieldedAt rfl rfl (show a.eval (.tmp 58) = .bool false from (hv 11 (by omega) _ rfl _ rfl)))) (execPickF rfl (hv 14 (by omega) _ rfl _ rfl) rfl) ⟨s, ⟨_, rfl, rfl⟩, hS, fun _ _ => rfl⟩
          | 19, _ => exact stepV rfl rfl (execPickF rfl (hv 11 (by omega) _ rfl _ rfl) (hv 18 (by omega) _ rfl _ rfl)) ⟨s, ⟨_, rfl, rfl⟩, hS, fun _ _ => rfl⟩
          | 20, _ => exact stepV rfl rfl (execMvB rfl (hv 19 (by omega) _ rfl _ rfl)) ⟨s, ⟨_, rfl, rfl⟩, hS, fun _ _ => rfl⟩
          | 21, _ => exact stepV rfl (wantedOf rfl (yieldedAt rfl rfl (show a.eval (.tmp 67) = .bool false from (hv 20 (by omega) _ rfl _ rfl)))) (execMvB rfl ((hf 0 (by decide)).trans t0)) ⟨s, ⟨_, rfl, rfl⟩, hS, fun _ _ => rfl⟩
          | 22, _ => exact stepV rfl (wantedOf rfl (yieldedAt rfl rfl (show a.eval (.tmp 67) = .bool false from (hv 20 (by omega) _ rfl _ rfl)))) (execDec (execGtN (p := b) (q := 1) rfl (hv 21 (by omega) _ rfl _ rfl) rfl) (decide_eq_true (by omega))) ⟨s, ⟨_, rfl, rfl⟩, hS, fun _ _ => rfl⟩
          | 23, _ => exact stepV rfl (wantedOf rfl (yieldedAt rfl rfl (show a.eval (.tmp 67) = .bool false from (hv 20 (by omega) _ rfl _ rfl)))) (execMvB rfl (hv 22 (by omega) _ rfl _ rfl)) ⟨s, ⟨_, rfl, rfl⟩, hS, fun _ _ => rfl⟩
          | 24, _ => exact stepV rfl (wantedOf rfl (yieldedAt rfl rfl (show a.eval (.tmp 70) = .bool true from (hv 23 (by omega) _ rfl _ rfl)))) (execLdTp rfl ((hf 7 (by decide)).trans t7) hS.2.2.2) ⟨s, ⟨_, rfl, rfl⟩, hS, fun _ _ => rfl⟩
          | 25, _ => exact stepC rfl (wantedOf rfl (yieldedAt rfl rfl (show a.eval (.tmp 70) = .bool true from (hv 23 (by omega) _ rfl _ rfl)))) (execCall1 Try.func7 (by kernel_rfl) (by kernel_rfl) rfl (hv 24 (by omega) _ rfl _ rfl)) (left_any (fun _ => v) 1 1 X (by omega) (by omega)) fun e w' hh => ⟨_, hh.1, s, ⟨_, rfl, rfl⟩, ⟨(hS.1).trans ((hh.2).mono (hS.1).size), (on9 hS.2.1 hh.2), hS.2.2.1, (on9 hS.2.2.2 hh.2)⟩, fun _ _ => rfl⟩
          | 26, _ => exact stepV rfl (wantedOf rfl (yieldedAt rfl rfl (show a.eval (.tmp 70) = .bool true from (hv 23 (by omega) _ rfl _ rfl)))) (execDec (execNeN (p := 1 - 1) (q := 0) rfl (hv 25 (by omega) _ rfl _ rfl) rfl) (decide_eq_false (by omega))) ⟨s, ⟨_, rfl, rfl⟩, hS, fun _ _ => rfl⟩
          | 27, _ => exact stepV rfl (wantedOf rfl (yieldedAt rfl rfl (show a.eval (.tmp 67) = .bool false from (hv 20 (by omega) _ rfl _ rfl)))) (execPickT rfl (hv 23 (by omega) _ rfl _ rfl) (hv 26 (by omega) _ rfl _ rfl)) ⟨s, ⟨_, rfl, rfl⟩, hS, fun _ _ => rfl⟩
          | 28, _ => exact stepV rfl rfl (execPickF rfl (hv 20 (by omega) _ rfl _ rfl) (hv 27 (by omega) _ rfl _ rfl)) ⟨s, ⟨_, rfl, rfl⟩, hS, fun _ _ => rfl⟩
          | 29, _ => exact stepV rfl rfl (execAsgB rfl (hv 28 (by omega) _ rfl _ rfl)) ⟨s, ⟨_, rfl, rfl⟩, hS, fun _ _ => rfl⟩
          | k_ + 30, h_ => exact absurd h_ (by simp)
        rintro _ a X15 h1 h2 h3 h4 hS
        clear BB
        clear FC
        clear Fgc
        clear F7
        replace hS : Below V.heap.size V X15 ∧ X15.heap[gc]? = some (.cells (ctC (cnt b v)) 3) ∧ (V.heap.size ≤ gc) ∧ X15.heap[g7]? = some (.cells (tpC (fun _ => v) 1 1) 25) := hS
        obtain ⟨BB, FC, Fgc, F7⟩ := hS
        replace t0 := (h3 0 (by decide)).trans t0
        replace t3 := (h3 3 (by decide)).trans t3
        replace t4 := (h3 4 (by decide)).trans t4
        replace t5 := (h3 5 (by decide)).trans t5
        replace t6 := (h3 6 (by decide)).trans t6
        have t46 : a.eval (.tmp 46) = .bool false := h4 29 _ rfl _ rfl
        replace A := (⟨h1, h2.trans A.2⟩ : a.tmps.size = 108 ∧ a.defers = [])
        clear h1 h2 h3 h4
        clear t7 t8
        refine wp_cond_false t46 ?_
        clear t46
        refine wp_region_sq (σ := Unit) 108 [(0, 35), (1, 36), (2, 37), (3, 38), (4, 39), (5, 40)] (fun j_ s X => match j_ with | 0 => Below V.heap.size V X ∧ X.heap[gc]? = some (.cells (ctC (cnt b v)) 3) ∧ (V.heap.size ≤ gc) ∧ X.heap[g7]? = some (.cells (tpC (fun _ => v) 1 1) 25) | 1 => Below V.heap.size V X ∧ X.heap[gc]? = some (.cells (ctC (cnt b v)) 3) ∧ (V.heap.size ≤ gc) ∧ X.heap[g7]? = some (.cells (tpC (fun _ => v) 1 1) 25) | 2 => Below V.heap.size V X ∧ X.heap[gc]? = some (.cells (ctC (cnt b v)) 3) ∧ (V.heap.size ≤ gc) ∧ X.heap[g7]? = some (.cells (tpC (fun _ => v) 1 1) 25) | 3 => Below V.heap.size V X ∧ X.heap[gc]? = some (.cells (ctC (cnt b v)) 3) ∧ (V.heap.size ≤ gc) ∧ X.heap[g7]? = some (.cells (tpC (fun _ => v) 1 1) 25) | 4 => Below V.heap.size V X ∧ X.heap[gc]? = some (.cells (ctC (cnt b v)) 3) ∧ (V.heap.size ≤ gc) ∧ X.heap[g7]? = some (.cells (tpC (fun _ => v) 1 1) 25) | 5 => Below V.heap.size V X ∧ X.heap[gc]? = some (.cells (ctC (cnt b v)) 3) ∧ (V.heap.size ≤ gc) ∧ X.heap[g7]? = some (.cells (tpC (fun _ => v) 1 1) 25) | 6 => Below V.heap.size V X ∧ X.heap[gc]? = some (.cells (ctC (cnt b v)) 3) ∧ (V.heap.size ≤ gc) ∧ X.heap[g7]? = some (.cells (tpC (fun _ => v) 1 1) 25) | _ => Below V.heap.size V X ∧ (V.heap.size ≤ gc) ∧ X.heap[gc]? = some (.cells (ctC (fun i => if i = v % b then cnt b v (v % b) + 1 else cnt b v i)) 3)) (fun s => fun i_ => match i_ with | 0 => .slice (some ⟨gc, 0, none⟩) 256 256 | 1 => .int .i64 ((v % b : Nat) : Int) | 2 => .pointer (some ⟨gc, 0 + (v % b), none⟩) | 3 => .int .i64 ((cnt b v (v % b) : Nat) : Int) | 4 => .int .i64 ((cnt b v (v % b) + 1 : Nat) : Int) | 5 => .pointer (some ⟨gc, 0 + (v % b), none⟩) | 6 => undef | _ => undef) () A.1 (by kernel_rfl) (by decide) (by decide) ⟨BB, FC, Fgc, F7⟩ ?_ ?_
        · intro i_ hi_ s a X hf hv hn hS
          match i_, hi_ with
          | 0, _ => exact stepV rfl rfl (execMvB rfl ((hf 3 (by decide)).trans t3)) ⟨s, ⟨_, rfl, rfl⟩, hS, fun _ _ => rfl⟩
          | 1, _ => exact stepV rfl rfl (execMvB rfl ((hf 6 (by decide)).trans t6)) ⟨s, ⟨_, rfl, rfl⟩, hS, fun _ _ => rfl⟩
          | 2, _ => exact stepV rfl rfl (execIdxN (k := v % b) rfl (hv 0 (by omega) _ rfl _ rfl) (hv 1 (by omega) _ rfl _ rfl) (by omega)) ⟨s, ⟨_, rfl, rfl⟩, hS, fun _ _ => rfl⟩
          | 3, _ => exact stepV rfl rfl (execLd3 rfl (hv 2 (by omega) _ rfl _ rfl) (ctC_cell hS.2.1 (by omega) rfl)) ⟨s, ⟨_, rfl, rfl⟩, hS, fun _ _ => rfl⟩
          | 4, _ => exact stepV rfl rfl (execAd8 (p := cnt b v (v % b)) (q := 1) rfl (hv 3 (by omega) _ rfl _ rfl) rfl (by omega)) ⟨s, ⟨_, rfl, rfl⟩, hS, fun _ _ => rfl⟩
          | 5, _ => exact stepV rfl rfl (execIdxN (k := v % b) rfl (hv 0 (by omega) _ rfl _ rfl) (hv 1 (by omega) _ rfl _ rfl) (by omega)) ⟨s, ⟨_, rfl, rfl⟩, hS, fun _ _ => rfl⟩
          | 6, _ => exact stepS rfl rfl (execStC (k := v % b) (z := cnt b v (v % b) + 1) rfl (hv 5 (by omega) _ rfl _ rfl) (hv 4 (by omega) _ rfl _ rfl) hS.2.1 (by omega)) ⟨s, ⟨_, rfl, rfl⟩, ⟨below4 hS.1 hS.2.2.1 _, hS.2.2.1, setRow_heap _ _ _ _ _ _ hS.2.1⟩, fun _ _ => rfl⟩
          | k_ + 7, h_ => exact absurd h_ (by simp)
        rintro _ a X12 h1 h2 h3 h4 hS
        clear BB
        clear FC
        clear Fgc
        clear F7
        replace hS : Below V.heap.size V X12 ∧ (V.heap.size ≤ gc) ∧ X12.heap[gc]? = some (.cells (ctC (fun i => if i = v % b then cnt b v (v % b) + 1 else cnt b v i)) 3) := hS
        obtain ⟨BB, Fgc, FC⟩ := hS
        replace t0 := (h3 0 (by decide)).trans t0
        replace t3 := (h3 3 (by decide)).trans t3
        replace t4 := (h3 4 (by decide)).trans t4
        replace t5 := (h3 5 (by decide)).trans t5
        replace A := (⟨h1, h2.trans A.2⟩ : a.tmps.size = 108 ∧ a.defers = [])
        clear h1 h2 h3 h4
        clear t6
        refine wp_region_sq (σ := Unit) 108 [(0, 15), (1, 16), (2, 5)] (fun j_ s X => match j_ with | 0 => Below V.heap.size V X ∧ (V.heap.size ≤ gc) ∧ X.heap[gc]? = some (.cells (ctC (fun i => if i = v % b then cnt b v (v % b) + 1 else cnt b v i)) 3) | 1 => Below V.heap.size V X ∧ (V.heap.size ≤ gc) ∧ X.heap[gc]? = some (.cells (ctC (fun i => if i = v % b then cnt b v (v % b) + 1 else cnt b v i)) 3) | 2 => Below V.heap.size V X ∧ (V.heap.size ≤ gc) ∧ X.heap[gc]? = some (.cells (ctC (fun i => if i = v % b then cnt b v (v % b) + 1 else cnt b v i)) 3) | _ => Below V.heap.size V X ∧ (V.heap.size ≤ gc) ∧ X.heap[gc]? = some (.cells (ctC (fun i => if i = v % b then cnt b v (v % b) + 1 else cnt b v i)) 3)) (fun s => fun i_ => match i_ with | 0 => .int .i64 ((v : Nat) : Int) | 1 => .int .i64 ((v + 1 : Nat) : Int) | 2 => .int .i64 ((v + 1 : Nat) : Int) | _ => undef) () A.1 (by kernel_rfl) (by decide) (by decide) ⟨BB, Fgc, FC⟩ ?_ ?_
        · intro i_ hi_ s a X hf hv hn hS
          match i_, hi_ with
          | 0, _ => exact stepV rfl rfl (execMvB rfl ((hn 2 (by omega) _ rfl _ rfl).trans t5)) ⟨s, ⟨_, rfl, rfl⟩, hS, fun _ _ => rfl⟩
          | 1, _ => exact stepV rfl rfl (execAd8 (p := v) (q := 1) rfl (hv 0 (by omega) _ rfl _ rfl) rfl (by omega)) ⟨s, ⟨_, rfl, rfl⟩, hS, fun _ _ => rfl⟩
          | 2, _ => exact stepV rfl rfl (execAsgB rfl (hv 1 (by omega) _ rfl _ rfl)) ⟨s, ⟨_, rfl, rfl⟩, hS, fun _ _ => rfl⟩
          | k_ + 3, h_ => exact absurd h_ (by simp)
        rintro _ a X7 h1 h2 h3 h4 hS
        clear BB
        clear Fgc
        clear FC
        replace hS : Below V.heap.size V X7 ∧ (V.heap.size ≤ gc) ∧ X7.heap[gc]? = some (.cells (ctC (fun i => if i = v % b then cnt b v (v % b) + 1 else cnt b v i)) 3) := hS
        obtain ⟨BB, Fgc, FC⟩ := hS
        replace t0 := (h3 0 (by decide)).trans t0
        replace t3 := (h3 3 (by decide)).trans t3
        replace t4 := (h3 4 (by decide)).trans t4
        replace t5 : a.eval (.tmp 5) = .int .i64 ((v + 1 : Nat) : Int) := h4 2 _ rfl _ rfl
        replace A := (⟨h1, h2.trans A.2⟩ : a.tmps.size = 108 ∧ a.defers = [])
        clear h1 h2 h3 h4
        rw [cnt_take ht] at FC
        rw [outs_take ht] at t4
        exact ⟨⟨v + 1, hv2, A, t0, t3, t4, t5, BB, FC, Fgc⟩, by show 256 - (intOf (a.eval (.tmp 5))).toNat < 256 - (intOf (Act.eval _ (.tmp 5))).toNat; rw [t5, e5]; show 256 - (v + 1) < 256 - v; omega⟩
    · rw [if_neg ht] at hE
      clear F7 t6 t7
      refine wp_seq ?_
      refine wp_region_sq (σ := Unit) 108 [(0, 42), (1, 43), (2, 41)] (fun j_ s X => match j_ with | 0 => Below V.heap.size V X ∧ X.heap[gc]? = some (.cells (ctC (cnt b v)) 3) ∧ (V.heap.size ≤ gc) | 1 => Below V.heap.size V X ∧ X.heap[gc]? = some (.cells (ctC (cnt b v)) 3) ∧ (V.heap.size ≤ gc) | 2 => Below V.heap.size V X ∧ X.heap[gc]? = some (.cells (ctC (cnt b v)) 3) ∧ (V.heap.size ≤ gc) | _ => Below V.heap.size V X ∧ X.heap[gc]? = some (.cells (ctC (cnt b v)) 3) ∧ (V.heap.size ≤ gc)) (fun s => fun i_ => match i_ with | 0 => .int .i64 ((dE (fun _ => v) 1 0 ((b : Nat) : Int) : Nat) : Int) | 1 => .bool true | 2 => .bool true | _ => undef) () A.1 (by kernel_rfl) (by decide) (by decide) ⟨BB, FC, Fgc⟩ ?_ ?_
      · intro i_ hi_ s a X hf hv hn hS
        match i_, hi_ with
        | 0, _ => exact stepV rfl rfl (execMvB rfl ((hf 8 (by decide)).trans t8)) ⟨s, ⟨_, rfl, rfl⟩, hS, fun _ _ => rfl⟩
        | 1, _ => exact stepV rfl rfl (execDec (execEqE (p := dE (fun _ => v) 1 0 ((b : Nat) : Int)) (q := 3) rfl (hv 0 (by omega) _ rfl _ rfl) rfl) (decide_eq_true (by omega))) ⟨s, ⟨_, rfl, rfl⟩, hS, fun _ _ => rfl⟩
        | 2, _ => exact stepV rfl rfl (execAsgB rfl (hv 1 (by omega) _ rfl _ rfl)) ⟨s, ⟨_, rfl, rfl⟩, hS, fun _ _ => rfl⟩
        | k_ + 3, h_ => exact absurd h_ (by simp)
      rintro _ a X13 h1 h2 h3 h4 hS
      clear BB
      clear FC
      clear Fgc
      replace hS : Below V.heap.size V X13 ∧ X13.heap[gc]? = some (.cells (ctC (cnt b v)) 3) ∧ (V.heap.size ≤ gc) := hS
      obtain ⟨BB, FC, Fgc⟩ := hS
      replace t0 := (h3 0 (by decide)).trans t0
      replace t3 := (h3 3 (by decide)).trans t3
      replace t4 := (h3 4 (by decide)).trans t4
      replace t5 := (h3 5 (by decide)).trans t5
      have t41 : a.eval (.tmp 41) = .bool true := h4 2 _ rfl _ rfl
      replace A := (⟨h1, h2.trans A.2⟩ : a.tmps.size = 108 ∧ a.defers = [])
      clear h1 h2 h3 h4
      clear t8
      refine wp_cond_true t41 ?_
      clear t41
      have hol := outs_le b v
      refine wp_region_sq (σ := Unit) 108 [(0, 44), (1, 45), (2, 4)] (fun j_ s X => match j_ with | 0 => Below V.heap.size V X ∧ X.heap[gc]? = some (.cells (ctC (cnt b v)) 3) ∧ (V.heap.size ≤ gc) | 1 => Below V.heap.size V X ∧ X.heap[gc]? = some (.cells (ctC (cnt b v)) 3) ∧ (V.heap.size ≤ gc) | 2 => Below V.heap.size V X ∧ X.heap[gc]? = some (.cells (ctC (cnt b v)) 3) ∧ (V.heap.size ≤ gc) | _ => Below V.heap.size V X ∧ X.heap[gc]? = some (.cells (ctC (cnt b v)) 3) ∧ (V.heap.size ≤ gc)) (fun s => fun i_ => match i_ with | 0 => .int .i64 ((outs b v : Nat) : Int) | 1 => .int .i64 ((outs b v + 1 : Nat) : Int) | 2 => .int .i64 ((outs b v + 1 : Nat) : Int) | _ => undef) () A.1 (by kernel_rfl) (by decide) (by decide) ⟨BB, FC, Fgc⟩ ?_ ?_
      · intro i_ hi_ s a X hf hv hn hS
        match i_, hi_ with
        | 0, _ => exact stepV rfl rfl (execMvB rfl ((hn 2 (by omega) _ rfl _ rfl).trans t4)) ⟨s, ⟨_, rfl, rfl⟩, hS, fun _ _ => rfl⟩
        | 1, _ => exact stepV rfl rfl (execAd8 (p := outs b v) (q := 1) rfl (hv 0 (by omega) _ rfl _ rfl) rfl (by omega)) ⟨s, ⟨_, rfl, rfl⟩, hS, fun _ _ => rfl⟩
        | 2, _ => exact stepV rfl rfl (execAsgB rfl (hv 1 (by omega) _ rfl _ rfl)) ⟨s, ⟨_, rfl, rfl⟩, hS, fun _ _ => rfl⟩
        | k_ + 3, h_ => exact absurd h_ (by simp)
      rintro _ a X14 h1 h2 h3 h4 hS
      clear BB
      clear FC
      clear Fgc
      replace hS : Below V.heap.size V X14 ∧ X14.heap[gc]? = some (.cells (ctC (cnt b v)) 3) ∧ (V.heap.size ≤ gc) := hS
      obtain ⟨BB, FC, Fgc⟩ := hS
      replace t0 := (h3 0 (by decide)).trans t0
      replace t3 := (h3 3 (by decide)).trans t3
      replace t4 : a.eval (.tmp 4) = .int .i64 ((outs b v + 1 : Nat) : Int) := h4 2 _ rfl _ rfl
      replace t5 := (h3 5 (by decide)).trans t5
      replace A := (⟨h1, h2.trans A.2⟩ : a.tmps.size = 108 ∧ a.defers = [])
      clear h1 h2 h3 h4
      refine wp_region_sq (σ := Unit) 108 [(0, 15), (1, 16), (2, 5)] (fun j_ s X => match j_ with | 0 => Below V.heap.size V X ∧ X.heap[gc]? = some (.cells (ctC (cnt b v)) 3) ∧ (V.heap.size ≤ gc) | 1 => Below V.heap.size V X ∧ X.heap[gc]? = some (.cells (ctC (cnt b v)) 3) ∧ (V.heap.size ≤ gc) | 2 => Below V.heap.size V X ∧ X.heap[gc]? = some (.cells (ctC (cnt b v)) 3) ∧ (V.heap.size ≤ gc) | _ => Below V.heap.size V X ∧ X.heap[gc]? = some (.cells (ctC (cnt b v)) 3) ∧ (V.heap.size ≤ gc)) (fun s => fun i_ => match i_ with | 0 => .int .i64 ((v : Nat) : Int) | 1 => .int .i64 ((v + 1 : Nat) : Int) | 2 => .int .i64 ((v + 1 : Nat) : Int) | _ => undef) () A.1 (by kernel_rfl) (by decide) (by decide) ⟨BB, FC, Fgc⟩ ?_ ?_
      · intro i_ hi_ s a X hf hv hn hS
        match i_, hi_ with
        | 0, _ => exact stepV rfl rfl (execMvB rfl ((hn 2 (by omega) _ rfl _ rfl).trans t5)) ⟨s, ⟨_, rfl, rfl⟩, hS, fun _ _ => rfl⟩
        | 1, _ => exact stepV rfl rfl (execAd8 (p := v) (q := 1) rfl (hv 0 (by omega) _ rfl _ rfl) rfl (by omega)) ⟨s, ⟨_, rfl, rfl⟩, hS, fun _ _ => rfl⟩
        | 2, _ => exact stepV rfl rfl (execAsgB rfl (hv 1 (by omega) _ rfl _ rfl)) ⟨s, ⟨_, rfl, rfl⟩, hS, fun _ _ => rfl⟩
        | k_ + 3, h_ => exact absurd h_ (by simp)
      rintro _ a X7 h1 h2 h3 h4 hS
      clear BB
      clear FC
      clear Fgc
      replace hS : Below V.heap.size V X7 ∧ X7.heap[gc]? = some (.cells (ctC (cnt b v)) 3) ∧ (V.heap.size ≤ gc) := hS
      obtain ⟨BB, FC, Fgc⟩ := hS
      replace t0 := (h3 0 (by decide)).trans t0
      replace t3 := (h3 3 (by decide)).trans t3
      replace t4 := (h3 4 (by decide)).trans t4
      replace t5 : a.eval (.tmp 5) = .int .i64 ((v + 1 : Nat) : Int) := h4 2 _ rfl _ rfl
      replace A := (⟨h1, h2.trans A.2⟩ : a.tmps.size = 108 ∧ a.defers = [])
      clear h1 h2 h3 h4
      rw [cnt_pass ht] at FC
      rw [outs_pass ht] at t4
      exact ⟨⟨v + 1, hv2, A, t0, t3, t4, t5, BB, FC, Fgc⟩, by show 256 - (intOf (a.eval (.tmp 5))).toNat < 256 - (intOf (Act.eval _ (.tmp 5))).toNat; rw [t5, e5]; show 256 - (v + 1) < 256 - v; omega⟩
  · rw [decide_eq_false hv2] at t14
    refine wp_cond_false t14 ?_
    refine wp_exit ?_
    first | refine exit_in ?_ | refine exit_then (exit_in ?_) | refine exit_then (exit_then (exit_in ?_))
    clear t14
    obtain rfl : v = 256 := by omega
    clear e5 t5
    have hoa := outs_all (b := b) (by omega)
    refine wp_seq ?_
    refine wp_seq ?_
    refine wp_region_sq (σ := Unit) 108 [(0, 76), (1, 77), (2, 78), (3, 79), (4, 80), (5, 81)] (fun j_ s X => match j_ with | 0 => Below V.heap.size V X ∧ X.heap[gc]? = some (.cells (ctC (cnt b 256)) 3) ∧ (V.heap.size ≤ gc) | 1 => Below V.heap.size V X ∧ X.heap[gc]? = some (.cells (ctC (cnt b 256)) 3) ∧ (V.heap.size ≤ gc) | 2 => Below V.heap.size V X ∧ X.heap[gc]? = some (.cells (ctC (cnt b 256)) 3) ∧ (V.heap.size ≤ gc) | 3 => Below V.heap.size V X ∧ X.heap[gc]? = some (.cells (ctC (cnt b 256)) 3) ∧ (V.heap.size ≤ gc) | 4 => Below V.heap.size V X ∧ X.heap[gc]? = some (.cells (ctC (cnt b 256)) 3) ∧ (V.heap.size ≤ gc) | 5 => Below V.heap.size V X ∧ X.heap[gc]? = some (.cells (ctC (cnt b 256)) 3) ∧ (V.heap.size ≤ gc) | _ => Below V.heap.size V X ∧ X.heap[gc]? = some (.cells (ctC (cnt b 256)) 3) ∧ (V.heap.size ≤ gc)) (fun s => fun i_ => match i_ with | 0 => .int .i64 ((b : Nat) : Int) | 1 => .bool false | 2 => .bool false | 3 => .int .i64 ((b : Nat) : Int) | 4 => .bool false | 5 => .bool false | _ => undef) () A.1 (by kernel_rfl) (by decide) (by decide) ⟨BB, FC, Fgc⟩ ?_ ?_
    · intro i_ hi_ s a X hf hv hn hS
      match i_, hi_ with
      | 0, _ => exact stepV rfl rfl (execMvB rfl ((hf 0 (by decide)).trans t0)) ⟨s, ⟨_, rfl, rfl⟩, hS, fun _ _ => rfl⟩
      | 1, _ => exact stepV rfl rfl (execDec (execLtW (p := b) (q := 1) rfl (hv 0 (by omega) _ rfl _ rfl) rfl) (decide_eq_false (by omega))) ⟨s, ⟨_, rfl, rfl⟩, hS, fun _ _ => rfl⟩
      | 2, _ => exact stepV rfl rfl (execMvB rfl (hv 1 (by omega) _ rfl _ rfl)) ⟨s, ⟨_, rfl, rfl⟩, hS, fun _ _ => rfl⟩
      | 3, _ => exact stepV rfl (wantedOf rfl (yieldedAt rfl rfl (show a.eval (.tmp 78) = .bool false from (hv 2 (by omega) _ rfl _ rfl)))) (execMvB rfl ((hf 0 (by decide)).trans t0)) ⟨s, ⟨_, rfl, rfl⟩, hS, fun _ _ => rfl⟩
      | 4, _ => exact stepV rfl (wantedOf rfl (yieldedAt rfl rfl (show a.eval (.tmp 78) = .bool false from (hv 2 (by omega) _ rfl _ rfl)))) (execDec (execGtN (p := b) (q := 256) rfl (hv 3 (by omega) _ rfl _ rfl) rfl) (decide_eq_false (by omega))) ⟨s, ⟨_, rfl, rfl⟩, hS, fun _ _ => rfl⟩
      | 5, _ => exact stepV rfl rfl (execPickF rfl (hv 2 (by omega) _ rfl _ rfl) (hv 4 (by omega) _ rfl _ rfl)) ⟨s, ⟨_, rfl, rfl⟩, hS, fun _ _ => rfl⟩
      | k_ + 6, h_ => exact absurd h_ (by simp)
    rintro _ a X17 h1 h2 h3 h4 hS
    clear BB
    clear FC
    clear Fgc
    replace hS : Below V.heap.size V X17 ∧ X17.heap[gc]? = some (.cells (ctC (cnt b 256)) 3) ∧ (V.heap.size ≤ gc) := hS
    obtain ⟨BB, FC, Fgc⟩ := hS
    replace t0 := (h3 0 (by decide)).trans t0
    replace t3 := (h3 3 (by decide)).trans t3
    replace t4 := (h3 4 (by decide)).trans t4
    have t81 : a.eval (.tmp 81) = .bool false := h4 5 _ rfl _ rfl
    replace A := (⟨h1, h2.trans A.2⟩ : a.tmps.size = 108 ∧ a.defers = [])
    clear h1 h2 h3 h4
    refine wp_cond_false t81 ?_
    refine wp_skip ?_
    clear t81
    refine wp_seq ?_
    refine wp_seq ?_
    refine wp_region_sq (σ := Unit) 108 [(0, 9)] (fun j_ s X => match j_ with | 0 => Below V.heap.size V X ∧ X.heap[gc]? = some (.cells (ctC (cnt b 256)) 3) ∧ (V.heap.size ≤ gc) | _ => Below V.heap.size V X ∧ X.heap[gc]? = some (.cells (ctC (cnt b 256)) 3) ∧ (V.heap.size ≤ gc)) (fun s => fun i_ => match i_ with | 0 => .int .i64 ((1 : Nat) : Int) | _ => undef) () A.1 (by kernel_rfl) (by decide) (by decide) ⟨BB, FC, Fgc⟩ ?_ ?_
    · intro i_ hi_ s a X hf hv hn hS
      match i_, hi_ with
      | 0, _ => exact stepV rfl rfl (execAsgB rfl rfl) ⟨s, ⟨_, rfl, rfl⟩, hS, fun _ _ => rfl⟩
      | k_ + 1, h_ => exact absurd h_ (by simp)
    rintro _ a X19 h1 h2 h3 h4 hS
    clear BB
    clear FC
    clear Fgc
    replace hS : Below V.heap.size V X19 ∧ X19.heap[gc]? = some (.cells (ctC (cnt b 256)) 3) ∧ (V.heap.size ≤ gc) := hS
    obtain ⟨BB, FC, Fgc⟩ := hS
    replace t0 := (h3 0 (by decide)).trans t0
    replace t3 := (h3 3 (by decide)).trans t3
    replace t4 := (h3 4 (by decide)).trans t4
    have t9 : a.eval (.tmp 9) = .int .i64 ((1 : Nat) : Int) := h4 0 _ rfl _ rfl
    replace A := (⟨h1, h2.trans A.2⟩ : a.tmps.size = 108 ∧ a.defers = [])
    clear h1 h2 h3 h4
    refine wp_block ?_
    refine wp_loop (fun a W => ∃ (x : Nat), 1 ≤ x ∧ x ≤ b ∧ (a.tmps.size = 108 ∧ a.defers = []) ∧ a.eval (.tmp 0) = .int .i64 ((b : Nat) : Int) ∧ a.eval (.tmp 3) = .slice (some ⟨gc, 0, none⟩) 256 256 ∧ a.eval (.tmp 4) = .int .i64 ((outs b 256 : Nat) : Int) ∧ a.eval (.tmp 9) = .int .i64 ((x : Nat) : Int) ∧ Below V.heap.size V W ∧ W.heap[gc]? = some (.cells (ctC (cnt b 256)) 3) ∧ V.heap.size ≤ gc) (fun a _ => b - (intOf (a.eval (.tmp 9))).toNat) ⟨1, Nat.le_refl _, hb1, A, t0, t3, t4, t9, BB, FC, Fgc⟩ ?_
    clear A t0 t3 t4 t9 BB FC Fgc a
    rintro a XM ⟨x, hx1, hxb, A, t0, t3, t4, t9, BB, FC, Fgc⟩
    have e9 := t9
    refine wp_seq ?_
    refine wp_seq ?_
    refine wp_region_sq (σ := Unit) 108 [(0, 82), (1, 83), (2, 84)] (fun j_ s X => match j_ with | 0 => Below V.heap.size V X ∧ X.heap[gc]? = some (.cells (ctC (cnt b 256)) 3) ∧ (V.heap.size ≤ gc) | 1 => Below V.heap.size V X ∧ X.heap[gc]? = some (.cells (ctC (cnt b 256)) 3) ∧ (V.heap.size ≤ gc) | 2 => Below V.heap.size V X ∧ X.heap[gc]? = some (.cells (ctC (cnt b 256)) 3) ∧ (V.heap.size ≤ gc) | _ => Below V.heap.size V X ∧ X.heap[gc]? = some (.cells (ctC (cnt b 256)) 3) ∧ (V.heap.size ≤ gc)) (fun s => fun i_ => match i_ with | 0 => .int .i64 ((x : Nat) : Int) | 1 => .int .i64 ((b : Nat) : Int) | 2 => .bool (decide (x < b)) | _ => undef) () A.1 (by kernel_rfl) (by decide) (by decide) ⟨BB, FC, Fgc⟩ ?_ ?_
    · intro i_ hi_ s a X hf hv hn hS
      match i_, hi_ with
      | 0, _ => exact stepV rfl rfl (execMvB rfl ((hf 9 (by decide)).trans t9)) ⟨s, ⟨_, rfl, rfl⟩, hS, fun _ _ => rfl⟩
      | 1, _ => exact stepV rfl rfl (execMvB rfl ((hf 0 (by decide)).trans t0)) ⟨s, ⟨_, rfl, rfl⟩, hS, fun _ _ => rfl⟩
      | 2, _ => exact stepV rfl rfl (execLtW (p := x) (q := b) rfl (hv 0 (by omega) _ rfl _ rfl) (hv 1 (by omega) _ rfl _ rfl)) ⟨s, ⟨_, rfl, rfl⟩, hS, fun _ _ => rfl⟩
      | k_ + 3, h_ => exact absurd h_ (by simp)
    rintro _ a X20 h1 h2 h3 h4 hS
    clear BB
    clear FC
    clear Fgc
    replace hS : Below V.heap.size V X20 ∧ X20.heap[gc]? = some (.cells (ctC (cnt b 256)) 3) ∧ (V.heap.size ≤ gc) := hS
    obtain ⟨BB, FC, Fgc⟩ := hS
    replace t0 := (h3 0 (by decide)).trans t0
    replace t3 := (h3 3 (by decide)).trans t3
    replace t4 := (h3 4 (by decide)).trans t4
    replace t9 := (h3 9 (by decide)).trans t9
    have t84 : a.eval (.tmp 84) = .bool (decide (x < b)) := h4 2 _ rfl _ rfl
    replace A := (⟨h1, h2.trans A.2⟩ : a.tmps.size = 108 ∧ a.defers = [])
    clear h1 h2 h3 h4
    by_cases hx : x < b
    · rw [decide_eq_true hx] at t84
      refine wp_cond_true t84 ?_
      refine wp_skip ?_
      clear t84
      refine wp_seq ?_
      refine wp_block ?_
      refine wp_seq ?_
      refine wp_region_detA 108 [(0, 87), (1, 88), (2, 89), (3, 90), (4, 91), (5, 92), (6, 93), (7, 94)] (fun i_ => match i_ with | 0 => .slice (some ⟨gc, 0, none⟩) 256 256 | 1 => .int .i64 ((x : Nat) : Int) | 2 => .pointer (some ⟨gc, 0 + x, none⟩) | 3 => .int .i64 ((256 / b : Nat) : Int) | 4 => .slice (some ⟨gc, 0, none⟩) 256 256 | 5 => .pointer (some ⟨gc, 0 + 0, none⟩) | 6 => .int .i64 ((256 / b : Nat) : Int) | 7 => .bool false | _ => undef) (fun _ X => Below V.heap.size V X ∧ X.heap[gc]? = some (.cells (ctC (cnt b 256)) 3) ∧ (V.heap.size ≤ gc)) (by kernel_rfl) (by kernel_rfl) A.1 (by kernel_rfl) (by decide) (by decide) ⟨BB.drew, (on9 FC (Below.refl _ _).drew), Fgc⟩ ?_ ?_
      · intro i_ hi_ l_ a X hl_ hf hdep hl2 hcl hno hT
        match i_, hi_ with
        | 0, _ => exact stepV rfl rfl (execMvB rfl ((hf 3 (by decide)).trans t3)) ⟨⟨_, rfl, rfl⟩, hT⟩
        | 1, _ => exact stepV rfl rfl (execMvB rfl ((hf 9 (by decide)).trans t9)) ⟨⟨_, rfl, rfl⟩, hT⟩
        | 2, _ => exact stepV rfl rfl (execIdxN (k := x) rfl (hdep _ rfl 0 rfl _ rfl _ rfl) (hdep _ rfl 1 rfl _ rfl _ rfl) (by omega)) ⟨⟨_, rfl, rfl⟩, hT⟩
        | 3, _ => exact stepV rfl rfl (execLd3 rfl (hdep _ rfl 2 rfl _ rfl _ rfl) (ctC_cell hT.2.1 (by omega) (cnt_all (by omega)))) ⟨⟨_, rfl, rfl⟩, hT⟩
        | 4, _ => exact stepV rfl rfl (execMvB rfl ((hf 3 (by decide)).trans t3)) ⟨⟨_, rfl, rfl⟩, hT⟩
        | 5, _ => exact stepV rfl rfl (execIdxN (k := 0) rfl (hdep _ rfl 4 rfl _ rfl _ rfl) rfl (by omega)) ⟨⟨_, rfl, rfl⟩, hT⟩
        | 6, _ => exact stepV rfl rfl (execLd3 rfl (hdep _ rfl 5 rfl _ rfl _ rfl) (ctC_cell hT.2.1 (by omega) (cnt_all (by omega)))) ⟨⟨_, rfl, rfl⟩, hT⟩
        | 7, _ => exact stepV rfl rfl (execDec (execNeN (p := 256 / b) (q := 256 / b) rfl (hdep _ rfl 3 rfl _ rfl _ rfl) (hdep _ rfl 6 rfl _ rfl _ rfl)) (decide_eq_false (by exact fun q => q rfl))) ⟨⟨_, rfl, rfl⟩, hT⟩
        | k_ + 8, h_ => exact absurd h_ (by simp)
      intro l_ a X22 h1 h2 h3 h4 hall hT
      clear hall
      clear BB
      clear FC
      clear Fgc
      obtain ⟨BB, FC, Fgc⟩ := hT
      replace t0 := (h3 0 (by decide)).trans t0
      replace t3 := (h3 3 (by decide)).trans t3
      replace t4 := (h3 4 (by decide)).trans t4
      replace t9 := (h3 9 (by decide)).trans t9
      have t94 : a.eval (.tmp 94) = .bool false := h4 (7, 94) (by decide)
      replace A := (⟨h1, h2.trans A.2⟩ : a.tmps.size = 108 ∧ a.defers = [])
      clear h1 h2 h3 h4
      refine wp_cond_false t94 ?_
      refine wp_skip ?_
      clear t94
      refine wp_region_sq (σ := Unit) 108 [(0, 85), (1, 86), (2, 9)] (fun j_ s X => match j_ with | 0 => Below V.heap.size V X ∧ X.heap[gc]? = some (.cells (ctC (cnt b 256)) 3) ∧ (V.heap.size ≤ gc) | 1 => Below V.heap.size V X ∧ X.heap[gc]? = some (.cells (ctC (cnt b 256)) 3) ∧ (V.heap.size ≤ gc) | 2 => Below V.heap.size V X ∧ X.heap[gc]? = some (.cells (ctC (cnt b 256)) 3) ∧ (V.heap.size ≤ gc) | _ => Below V.heap.size V X ∧ X.heap[gc]? = some (.cells (ctC (cnt b 256)) 3) ∧ (V.heap.size ≤ gc)) (fun s => fun i_ => match i_ with | 0 => .int .i64 ((x : Nat) : Int) | 1 => .int .i64 ((x + 1 : Nat) : Int) | 2 => .int .i64 ((x + 1 : Nat) : Int) | _ => undef) () A.1 (by kernel_rfl) (by decide) (by decide) ⟨BB, FC, Fgc⟩ ?_ ?_
      · intro i_ hi_ s a X hf hv hn hS
        match i_, hi_ with
        | 0, _ => exact stepV rfl rfl (execMvB rfl ((hn 2 (by omega) _ rfl _ rfl).trans t9)) ⟨s, ⟨_, rfl, rfl⟩, hS, fun _ _ => rfl⟩
        | 1, _ => exact stepV rfl rfl (execAd8 (p := x) (q := 1) rfl (hv 0 (by omega) _ rfl _ rfl) rfl (by omega)) ⟨s, ⟨_, rfl, rfl⟩, hS, fun _ _ => rfl⟩
        | 2, _ => exact stepV rfl rfl (execAsgB rfl (hv 1 (by omega) _ rfl _ rfl)) ⟨s, ⟨_, rfl, rfl⟩, hS, fun _ _ => rfl⟩
        | k_ + 3, h_ => exact absurd h_ (by simp)
      rintro _ a X21 h1 h2 h3 h4 hS
      clear BB
      clear FC
      clear Fgc
      replace hS : Below V.heap.size V X21 ∧ X21.heap[gc]? = some (.cells (ctC (cnt b 256)) 3) ∧ (V.heap.size ≤ gc) := hS
      obtain ⟨BB, FC, Fgc⟩ := hS
      replace t0 := (h3 0 (by decide)).trans t0
      replace t3 := (h3 3 (by decide)).trans t3
      replace t4 := (h3 4 (by decide)).trans t4
      replace t9 : a.eval (.tmp 9) = .int .i64 ((x + 1 : Nat) : Int) := h4 2 _ rfl _ rfl
      replace A := (⟨h1, h2.trans A.2⟩ : a.tmps.size = 108 ∧ a.defers = [])
      clear h1 h2 h3 h4
      exact ⟨⟨x + 1, by omega, hx, A, t0, t3, t4, t9, BB, FC, Fgc⟩, by show b - (intOf (a.eval (.tmp 9))).toNat < b - (intOf (Act.eval _ (.tmp 9))).toNat; rw [t9, e9]; show b - (x + 1) < b - x; omega⟩
    · rw [decide_eq_false hx] at t84
      refine wp_cond_false t84 ?_
      refine wp_exit ?_
      first | refine exit_in ?_ | refine exit_then (exit_in ?_) | refine exit_then (exit_then (exit_in ?_))
      clear t84
      have hoa1 := hoa.1
      have hoa2 := hoa.2
      refine wp_seq ?_
      refine wp_region_sq (σ := Unit) 108 [(0, 95), (1, 96), (2, 97), (3, 98), (4, 99), (5, 100), (6, 101), (7, 102), (8, 103), (9, 104), (10, 105), (11, 106), (12, 107), (13, 2)] (fun j_ s X => match j_ with | 0 => Below V.heap.size V X ∧ X.heap[gc]? = some (.cells (ctC (cnt b 256)) 3) ∧ (V.heap.size ≤ gc) | 1 => Below V.heap.size V X ∧ X.heap[gc]? = some (.cells (ctC (cnt b 256)) 3) ∧ (V.heap.size ≤ gc) | 2 => Below V.heap.size V X ∧ X.heap[gc]? = some (.cells (ctC (cnt b 256)) 3) ∧ (V.heap.size ≤ gc) | 3 => Below V.heap.size V X ∧ X.heap[gc]? = some (.cells (ctC (cnt b 256)) 3) ∧ (V.heap.size ≤ gc) | 4 => Below V.heap.size V X ∧ X.heap[gc]? = some (.cells (ctC (cnt b 256)) 3) ∧ (V.heap.size ≤ gc) | 5 => Below V.heap.size V X ∧ X.heap[gc]? = some (.cells (ctC (cnt b 256)) 3) ∧ (V.heap.size ≤ gc) | 6 => Below V.heap.size V X ∧ X.heap[gc]? = some (.cells (ctC (cnt b 256)) 3) ∧ (V.heap.size ≤ gc) | 7 => Below V.heap.size V X ∧ X.heap[gc]? = some (.cells (ctC (cnt b 256)) 3) ∧ (V.heap.size ≤ gc) | 8 => Below V.heap.size V X ∧ X.heap[gc]? = some (.cells (ctC (cnt b 256)) 3) ∧ (V.heap.size ≤ gc) | 9 => Below V.heap.size V X ∧ X.heap[gc]? = some (.cells (ctC (cnt b 256)) 3) ∧ (V.heap.size ≤ gc) | 10 => Below V.heap.size V X ∧ X.heap[gc]? = some (.cells (ctC (cnt b 256)) 3) ∧ (V.heap.size ≤ gc) | 11 => Below V.heap.size V X ∧ X.heap[gc]? = some (.cells (ctC (cnt b 256)) 3) ∧ (V.heap.size ≤ gc) | 12 => Below V.heap.size V X ∧ X.heap[gc]? = some (.cells (ctC (cnt b 256)) 3) ∧ (V.heap.size ≤ gc) | 13 => Below V.heap.size V X ∧ X.heap[gc]? = some (.cells (ctC (cnt b 256)) 3) ∧ (V.heap.size ≤ gc) | _ => Below V.heap.size V X ∧ X.heap[gc]? = some (.cells (ctC (cnt b 256)) 3) ∧ (V.heap.size ≤ gc)) (fun s => fun i_ => match i_ with | 0 => .int .i64 ((outs b 256 : Nat) : Int) | 1 => .int .i64 ((b : Nat) : Int) | 2 => .bool true | 3 => .bool true | 4 => .int .i64 ((outs b 256 : Nat) : Int) | 5 => .int .i64 ((b : Nat) : Int) | 6 => .slice (some ⟨gc, 0, none⟩) 256 256 | 7 => .pointer (some ⟨gc, 0 + 0, none⟩) | 8 => .int .i64 ((256 / b : Nat) : Int) | 9 => .int .i64 ((b * (256 / b) : Nat) : Int) | 10 => .int .i64 ((outs b 256 + b * (256 / b) : Nat) : Int) | 11 => .bool true | 12 => .bool true | 13 => .bool true | _ => undef) () A.1 (by kernel_rfl) (by decide) (by decide) ⟨BB, FC, Fgc⟩ ?_ ?_
      · intro i_ hi_ s a X hf hv hn hS
        match i_, hi_ with
        | 0, _ => exact stepV rfl rfl (execMvB rfl ((hf 4 (by decide)).trans t4)) ⟨s, ⟨_, rfl, rfl⟩, hS, fun _ _ => rfl⟩
        | 1, _ => exact stepV rfl rfl (execMvB rfl ((hf 0 (by decide)).trans t0)) ⟨s, ⟨_, rfl, rfl⟩, hS, fun _ _ => rfl⟩
        | 2, _ => exact stepV rfl rfl (execDec (execLtW (p := outs b 256) (q := b) rfl (hv 0 (by omega) _ rfl _ rfl) (hv 1 (by omega) _ rfl _ rfl)) (decide_eq_true (by exact hoa.1))) ⟨s, ⟨_, rfl, rfl⟩, hS, fun _ _ => rfl⟩
        | 3, _ => exact stepV rfl rfl (execMvB rfl (hv 2 (by omega) _ rfl _ rfl)) ⟨s, ⟨_, rfl, rfl⟩, hS, fun _ _ => rfl⟩
        | 4, _ => exact stepV rfl (wantedOf rfl (yieldedAt rfl rfl (show a.eval (.tmp 98) = .bool true from (hv 3 (by omega) _ rfl _ rfl)))) (execMvB rfl ((hf 4 (by decide)).trans t4)) ⟨s, ⟨_, rfl, rfl⟩, hS, fun _ _ => rfl⟩
        | 5, _ => exact stepV rfl (wantedOf rfl (yieldedAt rfl rfl (show a.eval (.tmp 98) = .bool true from (hv 3 (by omega) _ rfl _ rfl)))) (execMvB rfl ((hf 0 (by decide)).trans t0)) ⟨s, ⟨_, rfl, rfl⟩, hS, fun _ _ => rfl⟩
        | 6, _ => exact stepV rfl (wantedOf rfl (yieldedAt rfl rfl (show a.eval (.tmp 98) = .bool true from (hv 3 (by omega) _ rfl _ rfl)))) (execMvB rfl ((hf 3 (by decide)).trans t3)) ⟨s, ⟨_, rfl, rfl⟩, hS, fun _ _ => rfl⟩
        | 7, _ => exact stepV rfl (wantedOf rfl (yieldedAt rfl rfl (show a.eval (.tmp 98) = .bool true from (hv 3 (by omega) _ rfl _ rfl)))) (execIdxN (k := 0) rfl (hv 6 (by omega) _ rfl _ rfl) rfl (by omega)) ⟨s, ⟨_, rfl, rfl⟩, hS, fun _ _ => rfl⟩
        | 8, _ => exact stepV rfl (wantedOf rfl (yieldedAt rfl rfl (show a.eval (.tmp 98) = .bool true from (hv 3 (by omega) _ rfl _ rfl)))) (execLd3 rfl (hv 7 (by omega) _ rfl _ rfl) (ctC_cell hS.2.1 (by omega) (cnt_all (by omega)))) ⟨s, ⟨_, rfl, rfl⟩, hS, fun _ _ => rfl⟩
        | 9, _ => exact stepV rfl (wantedOf rfl (yieldedAt rfl rfl (show a.eval (.tmp 98) = .bool true from (hv 3 (by omega) _ rfl _ rfl)))) (execMulD (p := b) (q := 256 / b) rfl (hv 5 (by omega) _ rfl _ rfl) (hv 8 (by omega) _ rfl _ rfl) (by omega)) ⟨s, ⟨_, rfl, rfl⟩, hS, fun _ _ => rfl⟩
        | 10, _ => exact stepV rfl (wantedOf rfl (yieldedAt rfl rfl (show a.eval (.tmp 98) = .bool true from (hv 3 (by omega) _ rfl _ rfl)))) (execAd8 (p := outs b 256) (q := b * (256 / b)) rfl (hv 4 (by omega) _ rfl _ rfl) (hv 9 (by omega) _ rfl _ rfl) (by omega)) ⟨s, ⟨_, rfl, rfl⟩, hS, fun _ _ => rfl⟩
        | 11, _ => exact stepV rfl (wantedOf rfl (yieldedAt rfl rfl (show a.eval (.tmp 98) = .bool true from (hv 3 (by omega) _ rfl _ rfl)))) (execDec (execEqN (p := outs b 256 + b * (256 / b)) (q := 256) rfl (hv 10 (by omega) _ rfl _ rfl) rfl) (decide_eq_true (by exact hoa.2))) ⟨s, ⟨_, rfl, rfl⟩, hS, fun _ _ => rfl⟩
        | 12, _ => exact stepV rfl rfl (execPickT rfl (hv 3 (by omega) _ rfl _ rfl) (hv 11 (by omega) _ rfl _ rfl)) ⟨s, ⟨_, rfl, rfl⟩, hS, fun _ _ => rfl⟩
        | 13, _ => exact stepV rfl rfl (execAsgB rfl (hv 12 (by omega) _ rfl _ rfl)) ⟨s, ⟨_, rfl, rfl⟩, hS, fun _ _ => rfl⟩
        | k_ + 14, h_ => exact absurd h_ (by simp)
      rintro _ a X24 h1 h2 h3 h4 hS
      clear BB
      clear FC
      clear Fgc
      replace hS : Below V.heap.size V X24 ∧ X24.heap[gc]? = some (.cells (ctC (cnt b 256)) 3) ∧ (V.heap.size ≤ gc) := hS
      obtain ⟨BB, FC, Fgc⟩ := hS
      have t2 : a.eval (.tmp 2) = .bool true := h4 13 _ rfl _ rfl
      replace A := (⟨h1, h2.trans A.2⟩ : a.tmps.size = 108 ∧ a.defers = [])
      clear h1 h2 h3 h4
      clear t0 t3 t4 t9
      refine wp_ret ?_
      refine bodyPost_ret (results_tmp rfl _ _ _) A.2 ⟨?_, BB⟩
      show Ending.returned (a.eval (.tmp 2)) = _
      rw [t2]
theorem bytes_any (I : Impl) (V : World) (sk : Int) : Calls Try.prog 3 #[.int .i64 sk] V fun e w' => e = .returned (.bool true) ∧ Below V.heap.size V w' := by
  by_cases h1 : sk < 1
  · exact bytes_lo I V sk h1
  · by_cases h2 : 256 < sk
    · exact bytes_hi I V sk h2
    · obtain ⟨b, rfl⟩ : ∃ b : Nat, sk = b := ⟨sk.toNat, by omega⟩
      exact bytes_in I V b (by omega) (by omega)
end Go.Proofs.Ytmlealepeoefpaa.Drw
