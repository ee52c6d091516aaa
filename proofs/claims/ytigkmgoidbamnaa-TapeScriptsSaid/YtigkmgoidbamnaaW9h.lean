import Derived.Test.YtigkmgoidbamnaaW9g
namespace Go.Proofs.Ytigkmgoidbamnaa.Tap
open Go.RowKit Gf8 Aes By8 Cel Cf
/- TapeScripts, whole. Written by tools/mkW9h.py. -/

set_option maxRecDepth 100000 in
set_option maxHeartbeats 8000000 in
theorem scripts_any (V : World) (v : Value) (n : Nat) (kd tt nn : Nat → Int) (pw : Nat → Value) (pl : Nat → Nat) (pp : Nat → Nat → Nat) (hsc : Scr9 V v n kd tt nn pw pl pp) :
    Calls Try.prog 3 #[v] V fun e w' => e = .returned (.bool true) ∧ Below V.heap.size V w' := by
  obtain ⟨sa, scap, rfl, hnn, hsh⟩ := id hsc.shape
  go_enter Try.func3, Try.ntmps3
  refine wp_seq ?_
  refine wp_region_sqK 270 [(0, 2)] (fun i_ => match i_ with | 0 => .bool false | _ => undef) rfl (by kernel_rfl) (by decide) (by decide) ?_ ?_
  · intro i_ hi_ a hf hv hn
    match i_, hi_ with
    | 0, _ => exact stepV rfl rfl (execAsgB rfl rfl) ⟨⟨_, rfl, rfl⟩, rfl⟩
    | k_ + 1, h_ => exact absurd h_ (by simp)
  intro a h1 h2 h3 h4
  have t0 : a.eval (.tmp 0) = .slice sa n scap := (h3 0 (by decide)).trans rfl
  have A : a.tmps.size = 270 ∧ a.defers = [] := ⟨h1, h2⟩
  have BW : Below V.heap.size V V := Below.refl _ _
  clear h1 h2 h3 h4
  refine wp_seq ?_
  refine wp_seq ?_
  refine wp_region_sq (σ := Unit) 270 [(0, 33), (1, 34)] (fun j_ s X => match j_ with | 0 => Below V.heap.size V X | 1 => Below V.heap.size V X | _ => Below V.heap.size V X) (fun s => fun i_ => match i_ with | 0 => .bool true | 1 => .bool false | _ => undef) () A.1 (by kernel_rfl) (by decide) (by decide) (Below.refl _ _) ?_ ?_
  · intro i_ hi_ s a X hf hv hn hS
    match i_, hi_ with
    | 0, _ => exact stepC rfl rfl (execCall0 Try.func7 (by kernel_rfl) (by kernel_rfl) rfl ) (awake9 X) fun e w' hh => ⟨_, hh.1, s, ⟨_, rfl, rfl⟩, (hS).trans ((hh.2).mono (hS).size), fun _ _ => rfl⟩
    | 1, _ => exact stepV rfl rfl (execNot8 rfl (hv 0 (by omega) _ rfl _ rfl)) ⟨s, ⟨_, rfl, rfl⟩, hS, fun _ _ => rfl⟩
    | k_ + 2, h_ => exact absurd h_ (by simp)
  rintro _ a X1 h1 h2 h3 h4 hS
  replace hS : Below V.heap.size V X1 := hS
  have bX := hS
  clear hS
  replace t0 := (h3 0 (by decide)).trans t0
  have t34 : a.eval (.tmp 34) = .bool false := h4 1 _ rfl _ rfl
  have ZX1 := bX.size
  replace BW := BW.trans (bX.mono BW.size)
  clear bX
  replace A := (⟨h1, h2.trans A.2⟩ : a.tmps.size = 270 ∧ a.defers = [])
  clear h1 h2 h3 h4
  refine wp_cond_false t34 ?_
  refine wp_skip ?_
  clear t34
  refine wp_seq ?_
  refine wp_region_sq (σ := Nat × Nat) 270 [(0, 35), (1, 36), (2, 37), (3, 38), (4, 3), (5, 4)] (fun j_ s X => match j_ with | 0 => Below X1.heap.size X1 X | 1 => Below X1.heap.size X1 X | 2 => Below X1.heap.size X1 X ∧ (X.heap[s.1]? = some (.cells (tpC (fun _ => 0) 0 0) 25)) ∧ (X1.heap.size ≤ s.1) | 3 => Below X1.heap.size X1 X ∧ (X.heap[s.1]? = some (.cells (tpC (fun _ => 0) 0 0) 25)) ∧ (X1.heap.size ≤ s.1) | 4 => Below X1.heap.size X1 X ∧ (X.heap[s.1]? = some (.cells (tpC (fun _ => 0) 0 0) 25)) ∧ (X1.heap.size ≤ s.1) ∧ (X.heap[s.2]? = some (.cells (bkC (.slice none 0 0) 0) 29)) ∧ (X1.heap.size ≤ s.2) | 5 => Below X1.heap.size X1 X ∧ (X.heap[s.1]? = some (.cells (tpC (fun _ => 0) 0 0) 25)) ∧ (X1.heap.size ≤ s.1) ∧ (X.heap[s.2]? = some (.cells (bkC (.slice none 0 0) 0) 29)) ∧ (X1.heap.size ≤ s.2) | _ => Below X1.heap.size X1 X ∧ (X.heap[s.1]? = some (.cells (tpC (fun _ => 0) 0 0) 25)) ∧ (X1.heap.size ≤ s.1) ∧ (X.heap[s.2]? = some (.cells (bkC (.slice none 0 0) 0) 29)) ∧ (X1.heap.size ≤ s.2)) (fun s => fun i_ => match i_ with | 0 => .agg (tpC (fun _ => 0) 0 0) | 1 => .slice (some ⟨s.1, 0, none⟩) 1 1 | 2 => .agg (bkC (.slice none 0 0) 0) | 3 => .slice (some ⟨s.2, 0, none⟩) 1 1 | 4 => .slice (some ⟨s.1, 0, none⟩) 1 1 | 5 => .slice (some ⟨s.2, 0, none⟩) 1 1 | _ => undef) (0, 0) A.1 (by kernel_rfl) (by decide) (by decide) (Below.refl _ _) ?_ ?_
  · intro i_ hi_ s a X hf hv hn hS
    match i_, hi_ with
    | 0, _ => exact stepV rfl rfl (execBldTp rfl (fun _ => 0)) ⟨s, ⟨_, rfl, rfl⟩, hS, fun _ _ => rfl⟩
    | 1, _ =>
      refine stepV rfl rfl (execBsT rfl (hv 0 (by omega) _ rfl _ rfl)) ⟨(X.heap.size, s.2), ⟨_, rfl, rfl⟩, ⟨(hS).trans (((belNew X _)).mono (hS).size), heapNew X _, (hS).size⟩, fun i hi => ?_⟩
      match i, hi with
      | 0, _ => rfl
      | n_ + 1, h_ => omega
    | 2, _ => exact stepV rfl rfl (execBldK0 rfl) ⟨s, ⟨_, rfl, rfl⟩, hS, fun _ _ => rfl⟩
    | 3, _ =>
      refine stepV rfl rfl (execBsK rfl (hv 2 (by omega) _ rfl _ rfl) ⟨_, _, _, rfl⟩) ⟨(s.1, X.heap.size), ⟨_, rfl, rfl⟩, ⟨(hS.1).trans (((belNew X _)).mono (hS.1).size), (on9 hS.2.1 (belNew X _)), hS.2.2, heapNew X _, (hS.1).size⟩, fun i hi => ?_⟩
      match i, hi with
      | 0, _ => rfl
      | 1, _ => rfl
      | 2, _ => rfl
      | n_ + 3, h_ => omega
    | 4, _ => exact stepV rfl rfl (execAsgB rfl (hv 1 (by omega) _ rfl _ rfl)) ⟨s, ⟨_, rfl, rfl⟩, hS, fun _ _ => rfl⟩
    | 5, _ => exact stepV rfl rfl (execAsgB rfl (hv 3 (by omega) _ rfl _ rfl)) ⟨s, ⟨_, rfl, rfl⟩, hS, fun _ _ => rfl⟩
    | k_ + 6, h_ => exact absurd h_ (by simp)
  rintro ⟨g36, g38⟩ a X3 h1 h2 h3 h4 hS
  replace hS : Below X1.heap.size X1 X3 ∧ (X3.heap[g36]? = some (.cells (tpC (fun _ => 0) 0 0) 25)) ∧ (X1.heap.size ≤ g36) ∧ (X3.heap[g38]? = some (.cells (bkC (.slice none 0 0) 0) 29)) ∧ (X1.heap.size ≤ g38) := hS
  obtain ⟨bX, Fg36, Fgeg36, Fg38, Fgeg38⟩ := hS
  replace t0 := (h3 0 (by decide)).trans t0
  have t3 : a.eval (.tmp 3) = .slice (some ⟨g36, 0, none⟩) 1 1 := h4 4 _ rfl _ rfl
  have t4 : a.eval (.tmp 4) = .slice (some ⟨g38, 0, none⟩) 1 1 := h4 5 _ rfl _ rfl
  have ZX3 := bX.size
  replace BW := BW.trans (bX.mono BW.size)
  clear bX
  replace A := (⟨h1, h2.trans A.2⟩ : a.tmps.size = 270 ∧ a.defers = [])
  clear h1 h2 h3 h4
  have FT := tb_begin V X3 g36 g38 Fg36 Fg38 (Nat.le_trans ZX1 Fgeg36) (Nat.le_trans ZX1 Fgeg38)
  clear Fg36 Fg38 Fgeg36 Fgeg38
  refine wp_seq ?_
  refine wp_seq ?_
  refine wp_region_sq (σ := Unit) 270 [(0, 39), (1, 40), (2, 41)] (fun j_ s X => match j_ with | 0 => Below X3.heap.size X3 X | 1 => Below X3.heap.size X3 X | 2 => Below X3.heap.size X3 X | _ => Below X3.heap.size X3 X) (fun s => fun i_ => match i_ with | 0 => .slice sa n scap | 1 => .int .i64 ((n : Nat) : Int) | 2 => .int .i64 ((0 : Nat) : Int) | _ => undef) () A.1 (by kernel_rfl) (by decide) (by decide) (Below.refl _ _) ?_ ?_
  · intro i_ hi_ s a X hf hv hn hS
    match i_, hi_ with
    | 0, _ => exact stepV rfl rfl (execMvB rfl ((hf 0 (by decide)).trans t0)) ⟨s, ⟨_, rfl, rfl⟩, hS, fun _ _ => rfl⟩
    | 1, _ => exact stepV rfl rfl (execLenSp (len := n) rfl (hv 0 (by omega) _ rfl _ rfl) ⟨_, _, rfl⟩) ⟨s, ⟨_, rfl, rfl⟩, hS, fun _ _ => rfl⟩
    | 2, _ => exact stepV rfl rfl (execMvB rfl rfl) ⟨s, ⟨_, rfl, rfl⟩, hS, fun _ _ => rfl⟩
    | k_ + 3, h_ => exact absurd h_ (by simp)
  rintro _ a X4 h1 h2 h3 h4 hS
  replace hS : Below X3.heap.size X3 X4 := hS
  have bX := hS
  clear hS
  replace t3 := (h3 3 (by decide)).trans t3
  replace t4 := (h3 4 (by decide)).trans t4
  have t39 : a.eval (.tmp 39) = .slice sa n scap := h4 0 _ rfl _ rfl
  have t40 : a.eval (.tmp 40) = .int .i64 ((n : Nat) : Int) := h4 1 _ rfl _ rfl
  have t41 : a.eval (.tmp 41) = .int .i64 ((0 : Nat) : Int) := h4 2 _ rfl _ rfl
  replace FT := (FT.on bX)
  have ZX4 := bX.size
  replace BW := BW.trans (bX.mono BW.size)
  clear bX
  replace A := (⟨h1, h2.trans A.2⟩ : a.tmps.size = 270 ∧ a.defers = [])
  clear h1 h2 h3 h4
  clear t0
  refine wp_block ?_
  refine wp_loop (fun a W => ∃ (i : Nat) (tv bv : Value) (m : Nat) (P : Nat → Nat → Nat) (Ln At : Nat → Nat) (pvs : Nat → Value), i ≤ n ∧ (m ≤ i + 1 ∧ (a.tmps.size = 270 ∧ a.defers = []) ∧ a.eval (.tmp 3) = tv ∧ a.eval (.tmp 4) = bv ∧ a.eval (.tmp 39) = .slice sa n scap ∧ a.eval (.tmp 40) = .int .i64 ((n : Nat) : Int) ∧ a.eval (.tmp 41) = .int .i64 ((i : Nat) : Int) ∧ Below V.heap.size V W ∧ TB V tv bv m P Ln At pvs W)) (fun a _ => n - (intOf (a.eval (.tmp 41))).toNat) ⟨0, _, _, 1, _, _, _, _, Nat.zero_le _, Nat.le_refl _, A, t3, t4, t39, t40, t41, BW, FT⟩ ?_
  clear A t3 t4 t39 t40 t41 BW FT a
  rintro a XL ⟨i, tv, bv, m, P, Ln, At, pvs, hi, hmi, A, t3, t4, t39, t40, t41, BW, FT⟩
  have e41 := t41
  have hm : m ≤ 3000000000000 := by omega
  refine wp_seq ?_
  refine wp_region_sq (σ := Unit) 270 [(0, 42)] (fun j_ s X => match j_ with | 0 => Below XL.heap.size XL X | _ => Below XL.heap.size XL X) (fun s => fun i_ => match i_ with | 0 => .bool (decide (i < n)) | _ => undef) () A.1 (by kernel_rfl) (by decide) (by decide) (Below.refl _ _) ?_ ?_
  · intro i_ hi_ s a X hf hv hn hS
    match i_, hi_ with
    | 0, _ => exact stepV rfl rfl (execLtW (p := i) (q := n) rfl ((hf 41 (by decide)).trans t41) ((hf 40 (by decide)).trans t40)) ⟨s, ⟨_, rfl, rfl⟩, hS, fun _ _ => rfl⟩
    | k_ + 1, h_ => exact absurd h_ (by simp)
  rintro _ a X5 h1 h2 h3 h4 hS
  replace hS : Below XL.heap.size XL X5 := hS
  have bX := hS
  clear hS
  replace t3 := (h3 3 (by decide)).trans t3
  replace t4 := (h3 4 (by decide)).trans t4
  replace t39 := (h3 39 (by decide)).trans t39
  replace t40 := (h3 40 (by decide)).trans t40
  replace t41 := (h3 41 (by decide)).trans t41
  have t42 : a.eval (.tmp 42) = .bool (decide (i < n)) := h4 0 _ rfl _ rfl
  replace FT := (FT.on bX)
  have ZX5 := bX.size
  replace BW := BW.trans (bX.mono BW.size)
  clear bX
  replace A := (⟨h1, h2.trans A.2⟩ : a.tmps.size = 270 ∧ a.defers = [])
  clear h1 h2 h3 h4
  refine wp_seq ?_
  by_cases hin : i < n
  · rw [decide_eq_true hin] at t42
    refine wp_cond_true t42 ?_
    refine wp_skip ?_
    clear t42
    obtain ⟨sb, so, rfl, hsb, hcell⟩ := hsh (by omega)
    have cB : ∀ X, Below V.heap.size V X → X.cell? ⟨sb, so + i * 4, none⟩ = some (.int .i64 (kd i)) ∧ X.cell? ⟨sb, so + i * 4 + 1, none⟩ = some (.int .i64 (tt i)) ∧ X.cell? ⟨sb, so + i * 4 + 2, none⟩ = some (.int .i64 (nn i)) ∧ X.cell? ⟨sb, so + i * 4 + 3, none⟩ = some (pw i) := fun X hX => by
      rw [cell_below hX hsb, cell_below hX hsb, cell_below hX hsb, cell_below hX hsb]
      exact hcell i hin
    obtain ⟨hpw, hlp, nw⟩ := hsc.each i hin
    obtain ⟨⟨ht1, ht2⟩, hn1, hn2⟩ := hsc.fits i hin
    have spi : ∃ g l k, pw i = .slice g l k := by obtain ⟨g, c, e⟩ := shp9 hpw; exact ⟨g, _, c, e⟩
    refine wp_seq ?_
    refine wp_block ?_
    refine wp_seq ?_
    refine wp_region_sq (σ := Nat) 270 [(0, 43), (1, 44), (2, 6)] (fun j_ s X => match j_ with | 0 => Below X5.heap.size X5 X | 1 => Below X5.heap.size X5 X | 2 => Below X5.heap.size X5 X | 3 => Below X5.heap.size X5 X ∧ X.heap[s]? = some (.cells (stC 0 0 0 (.slice none 0 0)) 32) ∧ (X5.heap.size ≤ s) | _ => Below X5.heap.size X5 X ∧ (X5.heap.size ≤ s) ∧ X.heap[s]? = some (.cells (stC (kd i) (tt i) (nn i) (pw i)) 32)) (fun s => fun i_ => match i_ with | 0 => .pointer (some ⟨sb, so + i * 4, none⟩) | 1 => .agg (stC (kd i) (tt i) (nn i) (pw i)) | 2 => .pointer (some ⟨s, 0, none⟩) | 3 => undef | _ => undef) 0 A.1 (by kernel_rfl) (by decide) (by decide) (Below.refl _ _) ?_ ?_
    · intro i_ hi_ s a X hf hv hn hS
      match i_, hi_ with
      | 0, _ => exact stepV rfl rfl (execIdxSp (k := i) rfl ((hf 39 (by decide)).trans t39) ((hf 41 (by decide)).trans t41) hin) ⟨s, ⟨_, rfl, rfl⟩, hS, fun _ _ => rfl⟩
      | 1, _ => exact stepV rfl rfl (execLdSp rfl (hv 0 (by omega) _ rfl _ rfl) (cB X (BW.trans ((hS).mono BW.size))).1 (cB X (BW.trans ((hS).mono BW.size))).2.1 (cB X (BW.trans ((hS).mono BW.size))).2.2.1 (cB X (BW.trans ((hS).mono BW.size))).2.2.2) ⟨s, ⟨_, rfl, rfl⟩, hS, fun _ _ => rfl⟩
      | 2, _ =>
        refine stepV rfl rfl (execAllSp rfl) ⟨X.heap.size, ⟨_, rfl, rfl⟩, ⟨(hS).trans (((belNew X _)).mono (hS).size), heapNew X _, (hS).size⟩, fun i hi => ?_⟩
        match i, hi with
        | 0, _ => rfl
        | 1, _ => rfl
        | n_ + 2, h_ => omega
      | 3, _ => exact stepS rfl rfl (execStRowA rfl (hv 2 (by omega) _ rfl _ rfl) (hv 1 (by omega) _ rfl _ rfl) hS.2.1 rfl (size_st _ _ _ _) (st_one _ _ _ spi)) ⟨s, ⟨_, rfl, rfl⟩, ⟨below4 hS.1 hS.2.2 _, hS.2.2, setRow_heap _ _ _ _ _ _ hS.2.1⟩, fun _ _ => rfl⟩
      | k_ + 4, h_ => exact absurd h_ (by simp)
    rintro g6 a X6 h1 h2 h3 h4 hS
    replace hS : Below X5.heap.size X5 X6 ∧ (X5.heap.size ≤ g6) ∧ X6.heap[g6]? = some (.cells (stC (kd i) (tt i) (nn i) (pw i)) 32) := hS
    obtain ⟨bX, Fge6, F6⟩ := hS
    replace t3 := (h3 3 (by decide)).trans t3
    replace t4 := (h3 4 (by decide)).trans t4
    replace t39 := (h3 39 (by decide)).trans t39
    replace t40 := (h3 40 (by decide)).trans t40
    replace t41 := (h3 41 (by decide)).trans t41
    have t6 : a.eval (.tmp 6) = .pointer (some ⟨g6, 0, none⟩) := h4 2 _ rfl _ rfl
    replace FT := (FT.on bX)
    have ZX6 := bX.size
    replace BW := BW.trans (bX.mono BW.size)
    clear bX
    replace A := (⟨h1, h2.trans A.2⟩ : a.tmps.size = 270 ∧ a.defers = [])
    clear h1 h2 h3 h4
    obtain ⟨tg, tc, rfl, _, _⟩ := ownL_some FT.tap FT.pos
    obtain ⟨bg, bc, rfl, _, _⟩ := ownL_some FT.boo FT.pos
    obtain ⟨k, ek⟩ : ∃ k, plcN (tt i) m = k := ⟨_, rfl⟩
    have hk : k < m := by rw [← ek]; exact plc_lt _ _ FT.pos
    refine wp_seq ?_
    refine wp_region_sq (σ := Unit) 270 [(0, 45), (1, 46), (2, 47), (3, 48), (4, 49), (5, 7)] (fun j_ s X => match j_ with | 0 => Below X6.heap.size X6 X | 1 => Below X6.heap.size X6 X | 2 => Below X6.heap.size X6 X | 3 => Below X6.heap.size X6 X | 4 => Below X6.heap.size X6 X | 5 => Below X6.heap.size X6 X | _ => Below X6.heap.size X6 X) (fun s => fun i_ => match i_ with | 0 => .pointer (some ⟨g6, 1, none⟩) | 1 => .int .i64 (tt i) | 2 => .slice (some ⟨tg, 0, none⟩) m tc | 3 => .int .i64 ((m : Nat) : Int) | 4 => .int .i64 ((k : Nat) : Int) | 5 => .int .i64 ((k : Nat) : Int) | _ => undef) () A.1 (by kernel_rfl) (by decide) (by decide) (Below.refl _ _) ?_ ?_
    · intro i_ hi_ s a X hf hv hn hS
      match i_, hi_ with
      | 0, _ => exact stepV rfl rfl (execFldS1 rfl ((hf 6 (by decide)).trans t6)) ⟨s, ⟨_, rfl, rfl⟩, hS, fun _ _ => rfl⟩
      | 1, _ => exact stepV rfl rfl (execLd3 rfl (hv 0 (by omega) _ rfl _ rfl) (stC_at (on9 F6 hS)).2.1) ⟨s, ⟨_, rfl, rfl⟩, hS, fun _ _ => rfl⟩
      | 2, _ => exact stepV rfl rfl (execMvB rfl ((hf 3 (by decide)).trans t3)) ⟨s, ⟨_, rfl, rfl⟩, hS, fun _ _ => rfl⟩
      | 3, _ => exact stepV rfl rfl (execLenT (len := m) rfl (hv 2 (by omega) _ rfl _ rfl) ⟨_, _, rfl⟩) ⟨s, ⟨_, rfl, rfl⟩, hS, fun _ _ => rfl⟩
      | 4, _ => exact stepC rfl rfl (execCall2 Try.func8 (by kernel_rfl) (by kernel_rfl) rfl (hv 1 (by omega) _ rfl _ rfl) (hv 3 (by omega) _ rfl _ rfl)) (ek ▸ place_any (tt i) m X ht1 ht2 FT.pos (by omega)) fun e w' hh => ⟨_, hh.1, s, ⟨_, rfl, rfl⟩, by rw [hh.2]; exact hS, fun _ _ => rfl⟩
      | 5, _ => exact stepV rfl rfl (execAsgB rfl (hv 4 (by omega) _ rfl _ rfl)) ⟨s, ⟨_, rfl, rfl⟩, hS, fun _ _ => rfl⟩
      | k_ + 6, h_ => exact absurd h_ (by simp)
    rintro _ a X7 h1 h2 h3 h4 hS
    replace hS : Below X6.heap.size X6 X7 := hS
    have bX := hS
    clear hS
    replace t3 := (h3 3 (by decide)).trans t3
    replace t4 := (h3 4 (by decide)).trans t4
    replace t39 := (h3 39 (by decide)).trans t39
    replace t40 := (h3 40 (by decide)).trans t40
    replace t41 := (h3 41 (by decide)).trans t41
    replace t6 := (h3 6 (by decide)).trans t6
    have t7 : a.eval (.tmp 7) = .int .i64 ((k : Nat) : Int) := h4 5 _ rfl _ rfl
    replace FT := (FT.on bX)
    replace Fge6 := Fge6
    replace F6 := (on9 F6 bX)
    have ZX7 := bX.size
    replace BW := BW.trans (bX.mono BW.size)
    clear bX
    replace A := (⟨h1, h2.trans A.2⟩ : a.tmps.size = 270 ∧ a.defers = [])
    clear h1 h2 h3 h4
    obtain ⟨hat, hlk, hsk, hzk⟩ := FT.ok k hk
    have spk : ∃ g l k_, pvs k = .slice g l k_ := by obtain ⟨g, c, e⟩ := shp9 hsk; exact ⟨g, _, c, e⟩
    have hbg := (FT.boo.lt bg rfl).2
    have ZV := BW.size
    refine wp_seq ?_
    refine wp_region_stB (σ := Nat × Nat) 270 [(0, 50), (1, 51), (2, 52), (3, 53), (4, 54), (5, 55), (6, 56), (7, 57), (8, 8), (9, 9)] (fun l_ s X => Below X7.heap.size X7 X ∧ (l_ 8 = true → l_ 10 = false → X.heap[s.1]? = some (.cells (tpC (fun _ => 0) 0 0) 25)) ∧ (l_ 8 = true → (X7.heap.size ≤ s.1)) ∧ (l_ 9 = true → l_ 11 = false → X.heap[s.2]? = some (.cells (bkC (.slice none 0 0) 0) 29)) ∧ (l_ 9 = true → (X7.heap.size ≤ s.2)) ∧ (l_ 10 = true → X.heap[s.1]? = some (.cells (tpC (P k) (Ln k) (At k)) 25)) ∧ (l_ 11 = true → X.heap[s.2]? = some (.cells (bkC (pvs k) (At k)) 29))) (fun s => fun i_ => match i_ with | 0 => .slice (some ⟨tg, 0, none⟩) m tc | 1 => .int .i64 ((k : Nat) : Int) | 2 => .pointer (some ⟨tg, k * 2, none⟩) | 3 => .agg (tpC (P k) (Ln k) (At k)) | 4 => .slice (some ⟨bg, 0, none⟩) m bc | 5 => .int .i64 ((k : Nat) : Int) | 6 => .pointer (some ⟨bg, k * 2, none⟩) | 7 => .agg (bkC (pvs k) (At k)) | 8 => .pointer (some ⟨s.1, 0, none⟩) | 9 => .pointer (some ⟨s.2, 0, none⟩) | 10 => undef | 11 => undef | _ => undef) (0, 0) (by kernel_rfl) (by kernel_rfl) A.1 (by kernel_rfl) (by decide) (by decide) ⟨((Below.refl _ _).drew), (fun q0_ q1_ => by cases q0_), (fun q0_ => by cases q0_), (fun q0_ q1_ => by cases q0_), (fun q0_ => by cases q0_), (fun q0_ => by cases q0_), (fun q0_ => by cases q0_)⟩ ?_ ?_
    · intro i_ hi_ l_ s a X hl_ hf hdep hl2 hcl hno hT
      have up : ∀ j x, x ≠ j → updB l_ j x = l_ x := fun j x hj => by unfold updB; simp [hj]
      match i_, hi_ with
      | 0, _ => exact stepV rfl rfl (execMvB rfl ((hf 3 (by decide)).trans t3)) ⟨s, ⟨_, rfl, rfl⟩, ⟨hT.1, (fun q0_ q1_ => (hT.2.1 (by rw [up 0 8 (by decide)] at q0_; exact q0_) (by rw [up 0 10 (by decide)] at q1_; exact q1_))), (fun q0_ => (hT.2.2.1 (by rw [up 0 8 (by decide)] at q0_; exact q0_))), (fun q0_ q1_ => (hT.2.2.2.1 (by rw [up 0 9 (by decide)] at q0_; exact q0_) (by rw [up 0 11 (by decide)] at q1_; exact q1_))), (fun q0_ => (hT.2.2.2.2.1 (by rw [up 0 9 (by decide)] at q0_; exact q0_))), (fun q0_ => absurd (hl_.symm.trans (hcl 10 _ rfl ((up 0 10 (by decide)).symm.trans q0_) 0 rfl)) (by decide)), (fun q0_ => absurd (hl_.symm.trans (hcl 11 _ rfl ((up 0 11 (by decide)).symm.trans q0_) 0 rfl)) (by decide))⟩, fun _ _ _ => rfl⟩
      | 1, _ => exact stepV rfl rfl (execMvB rfl ((hf 7 (by decide)).trans t7)) ⟨s, ⟨_, rfl, rfl⟩, ⟨hT.1, (fun q0_ q1_ => (hT.2.1 (by rw [up 1 8 (by decide)] at q0_; exact q0_) (by rw [up 1 10 (by decide)] at q1_; exact q1_))), (fun q0_ => (hT.2.2.1 (by rw [up 1 8 (by decide)] at q0_; exact q0_))), (fun q0_ q1_ => (hT.2.2.2.1 (by rw [up 1 9 (by decide)] at q0_; exact q0_) (by rw [up 1 11 (by decide)] at q1_; exact q1_))), (fun q0_ => (hT.2.2.2.2.1 (by rw [up 1 9 (by decide)] at q0_; exact q0_))), (fun q0_ => absurd (hl_.symm.trans (hcl 10 _ rfl ((up 1 10 (by decide)).symm.trans q0_) 1 rfl)) (by decide)), (fun q0_ => absurd (hl_.symm.trans (hcl 11 _ rfl ((up 1 11 (by decide)).symm.trans q0_) 1 rfl)) (by decide))⟩, fun _ _ _ => rfl⟩
      | 2, _ => exact stepV rfl rfl (execIdxT (k := k) rfl (hdep _ rfl 0 rfl _ rfl _ rfl) (hdep _ rfl 1 rfl _ rfl _ rfl) hk) ⟨s, ⟨_, rfl, rfl⟩, ⟨hT.1, (fun q0_ q1_ => (hT.2.1 (by rw [up 2 8 (by decide)] at q0_; exact q0_) (by rw [up 2 10 (by decide)] at q1_; exact q1_))), (fun q0_ => (hT.2.2.1 (by rw [up 2 8 (by decide)] at q0_; exact q0_))), (fun q0_ q1_ => (hT.2.2.2.1 (by rw [up 2 9 (by decide)] at q0_; exact q0_) (by rw [up 2 11 (by decide)] at q1_; exact q1_))), (fun q0_ => (hT.2.2.2.2.1 (by rw [up 2 9 (by decide)] at q0_; exact q0_))), (fun q0_ => absurd (hl_.symm.trans (hcl 10 _ rfl ((up 2 10 (by decide)).symm.trans q0_) 2 rfl)) (by decide)), (fun q0_ => absurd (hl_.symm.trans (hcl 11 _ rfl ((up 2 11 (by decide)).symm.trans q0_) 2 rfl)) (by decide))⟩, fun _ _ _ => rfl⟩
      | 3, _ => exact stepV rfl rfl (execLdT rfl (hdep _ rfl 2 rfl _ rfl _ rfl) (pair_cells (FT.on hT.1).tap hk).1 (pair_cells (FT.on hT.1).tap hk).2) ⟨s, ⟨_, rfl, rfl⟩, ⟨hT.1, (fun q0_ q1_ => (hT.2.1 (by rw [up 3 8 (by decide)] at q0_; exact q0_) (by rw [up 3 10 (by decide)] at q1_; exact q1_))), (fun q0_ => (hT.2.2.1 (by rw [up 3 8 (by decide)] at q0_; exact q0_))), (fun q0_ q1_ => (hT.2.2.2.1 (by rw [up 3 9 (by decide)] at q0_; exact q0_) (by rw [up 3 11 (by decide)] at q1_; exact q1_))), (fun q0_ => (hT.2.2.2.2.1 (by rw [up 3 9 (by decide)] at q0_; exact q0_))), (fun q0_ => absurd (hl_.symm.trans (hcl 10 _ rfl ((up 3 10 (by decide)).symm.trans q0_) 3 rfl)) (by decide)), (fun q0_ => absurd (hl_.symm.trans (hcl 11 _ rfl ((up 3 11 (by decide)).symm.trans q0_) 3 rfl)) (by decide))⟩, fun _ _ _ => rfl⟩
      | 4, _ => exact stepV rfl rfl (execMvB rfl ((hf 4 (by decide)).trans t4)) ⟨s, ⟨_, rfl, rfl⟩, ⟨hT.1, (fun q0_ q1_ => (hT.2.1 (by rw [up 4 8 (by decide)] at q0_; exact q0_) (by rw [up 4 10 (by decide)] at q1_; exact q1_))), (fun q0_ => (hT.2.2.1 (by rw [up 4 8 (by decide)] at q0_; exact q0_))), (fun q0_ q1_ => (hT.2.2.2.1 (by rw [up 4 9 (by decide)] at q0_; exact q0_) (by rw [up 4 11 (by decide)] at q1_; exact q1_))), (fun q0_ => (hT.2.2.2.2.1 (by rw [up 4 9 (by decide)] at q0_; exact q0_))), (fun q0_ => (hT.2.2.2.2.2.1 (by rw [up 4 10 (by decide)] at q0_; exact q0_))), (fun q0_ => absurd (hl_.symm.trans (hcl 11 _ rfl ((up 4 11 (by decide)).symm.trans q0_) 4 rfl)) (by decide))⟩, fun _ _ _ => rfl⟩
      | 5, _ => exact stepV rfl rfl (execMvB rfl ((hf 7 (by decide)).trans t7)) ⟨s, ⟨_, rfl, rfl⟩, ⟨hT.1, (fun q0_ q1_ => (hT.2.1 (by rw [up 5 8 (by decide)] at q0_; exact q0_) (by rw [up 5 10 (by decide)] at q1_; exact q1_))), (fun q0_ => (hT.2.2.1 (by rw [up 5 8 (by decide)] at q0_; exact q0_))), (fun q0_ q1_ => (hT.2.2.2.1 (by rw [up 5 9 (by decide)] at q0_; exact q0_) (by rw [up 5 11 (by decide)] at q1_; exact q1_))), (fun q0_ => (hT.2.2.2.2.1 (by rw [up 5 9 (by decide)] at q0_; exact q0_))), (fun q0_ => (hT.2.2.2.2.2.1 (by rw [up 5 10 (by decide)] at q0_; exact q0_))), (fun q0_ => absurd (hl_.symm.trans (hcl 11 _ rfl ((up 5 11 (by decide)).symm.trans q0_) 5 rfl)) (by decide))⟩, fun _ _ _ => rfl⟩
      | 6, _ => exact stepV rfl rfl (execIdxK (k := k) rfl (hdep _ rfl 4 rfl _ rfl _ rfl) (hdep _ rfl 5 rfl _ rfl _ rfl) hk) ⟨s, ⟨_, rfl, rfl⟩, ⟨hT.1, (fun q0_ q1_ => (hT.2.1 (by rw [up 6 8 (by decide)] at q0_; exact q0_) (by rw [up 6 10 (by decide)] at q1_; exact q1_))), (fun q0_ => (hT.2.2.1 (by rw [up 6 8 (by decide)] at q0_; exact q0_))), (fun q0_ q1_ => (hT.2.2.2.1 (by rw [up 6 9 (by decide)] at q0_; exact q0_) (by rw [up 6 11 (by decide)] at q1_; exact q1_))), (fun q0_ => (hT.2.2.2.2.1 (by rw [up 6 9 (by decide)] at q0_; exact q0_))), (fun q0_ => (hT.2.2.2.2.2.1 (by rw [up 6 10 (by decide)] at q0_; exact q0_))), (fun q0_ => absurd (hl_.symm.trans (hcl 11 _ rfl ((up 6 11 (by decide)).symm.trans q0_) 6 rfl)) (by decide))⟩, fun _ _ _ => rfl⟩
      | 7, _ => exact stepV rfl rfl (execLdK rfl (hdep _ rfl 6 rfl _ rfl _ rfl) (pair_cells (FT.on hT.1).boo hk).1 (pair_cells (FT.on hT.1).boo hk).2) ⟨s, ⟨_, rfl, rfl⟩, ⟨hT.1, (fun q0_ q1_ => (hT.2.1 (by rw [up 7 8 (by decide)] at q0_; exact q0_) (by rw [up 7 10 (by decide)] at q1_; exact q1_))), (fun q0_ => (hT.2.2.1 (by rw [up 7 8 (by decide)] at q0_; exact q0_))), (fun q0_ q1_ => (hT.2.2.2.1 (by rw [up 7 9 (by decide)] at q0_; exact q0_) (by rw [up 7 11 (by decide)] at q1_; exact q1_))), (fun q0_ => (hT.2.2.2.2.1 (by rw [up 7 9 (by decide)] at q0_; exact q0_))), (fun q0_ => (hT.2.2.2.2.2.1 (by rw [up 7 10 (by decide)] at q0_; exact q0_))), (fun q0_ => absurd (hl_.symm.trans (hcl 11 _ rfl ((up 7 11 (by decide)).symm.trans q0_) 7 rfl)) (by decide))⟩, fun _ _ _ => rfl⟩
      | 8, _ =>
        refine stepV rfl rfl (execAllTp rfl (fun _ => 0)) ⟨(X.heap.size, s.2), ⟨_, rfl, rfl⟩, ⟨hT.1.trans (((belNew X _)).mono hT.1.size), (fun _q0_ _q1_ => heapNew X _), (fun _q0_ => (hT.1).size), (fun q0_ q1_ => (on9 (hT.2.2.2.1 (by rw [up 8 9 (by decide)] at q0_; exact q0_) (by rw [up 8 11 (by decide)] at q1_; exact q1_)) (belNew X _))), (fun q0_ => (hT.2.2.2.2.1 (by rw [up 8 9 (by decide)] at q0_; exact q0_))), (fun q0_ => absurd (hl_.symm.trans (hcl 10 _ rfl ((up 8 10 (by decide)).symm.trans q0_) 8 rfl)) (by decide)), (fun q0_ => absurd (hl_.symm.trans (hcl 11 _ rfl ((up 8 11 (by decide)).symm.trans q0_) 8 rfl)) (by decide))⟩, fun i hi hli => ?_⟩
        match i, hi with
        | 0, _ => rfl
        | 1, _ => rfl
        | 2, _ => rfl
        | 3, _ => rfl
        | 4, _ => rfl
        | 5, _ => rfl
        | 6, _ => rfl
        | 7, _ => rfl
        | 8, _ => exact absurd (hl_.symm.trans hli) (by decide)
        | 9, _ => rfl
        | 10, _ => rfl
        | 11, _ => rfl
        | k_ + 12, h_ => exact absurd h_ (by simp)
      | 9, _ =>
        refine stepV rfl rfl (execAllK rfl) ⟨(s.1, X.heap.size), ⟨_, rfl, rfl⟩, ⟨hT.1.trans (((belNew X _)).mono hT.1.size), (fun q0_ q1_ => (on9 (hT.2.1 (by rw [up 9 8 (by decide)] at q0_; exact q0_) (by rw [up 9 10 (by decide)] at q1_; exact q1_)) (belNew X _))), (fun q0_ => (hT.2.2.1 (by rw [up 9 8 (by decide)] at q0_; exact q0_))), (fun _q0_ _q1_ => heapNew X _), (fun _q0_ => (hT.1).size), (fun q0_ => absurd (hl_.symm.trans (hcl 10 _ rfl ((up 9 10 (by decide)).symm.trans q0_) 9 rfl)) (by decide)), (fun q0_ => absurd (hl_.symm.trans (hcl 11 _ rfl ((up 9 11 (by decide)).symm.trans q0_) 9 rfl)) (by decide))⟩, fun i hi hli => ?_⟩
        match i, hi with
        | 0, _ => rfl
        | 1, _ => rfl
        | 2, _ => rfl
        | 3, _ => rfl
        | 4, _ => rfl
        | 5, _ => rfl
        | 6, _ => rfl
        | 7, _ => rfl
        | 8, _ => rfl
        | 9, _ => exact absurd (hl_.symm.trans hli) (by decide)
        | 10, _ => rfl
        | 11, _ => rfl
        | k_ + 12, h_ => exact absurd h_ (by simp)
      | 10, _ => exact stepS rfl rfl (execStTp rfl (hdep _ rfl 8 rfl _ rfl _ rfl) (hdep _ rfl 3 rfl _ rfl _ rfl) (hT.2.1 (hl2 _ rfl 8 rfl) hl_) rfl) ⟨s, ⟨_, rfl, rfl⟩, ⟨below4 hT.1 (hT.2.2.1 (hl2 _ rfl 8 rfl)) _, (fun q0_ q1_ => absurd q1_ (by unfold updB; simp)), (fun q0_ => (hT.2.2.1 (by rw [up 10 8 (by decide)] at q0_; exact q0_))), (fun q0_ q1_ => (by rw [setRow_other _ _ _ _ (ne_ty (hT.2.2.2.1 (hl2 _ rfl 9 rfl) (by cases hq_ : l_ 11 with | false => rfl | true => exact absurd (hl_.symm.trans (hcl 11 _ rfl hq_ 10 rfl)) (by decide))) (hT.2.1 (hl2 _ rfl 8 rfl) hl_) (by decide))]; exact (hT.2.2.2.1 (by rw [up 10 9 (by decide)] at q0_; exact q0_) (by rw [up 10 11 (by decide)] at q1_; exact q1_)))), (fun q0_ => (hT.2.2.2.2.1 (by rw [up 10 9 (by decide)] at q0_; exact q0_))), (fun _q0_ => setRow_heap _ _ _ _ _ _ (hT.2.1 (hl2 _ rfl 8 rfl) hl_)), (fun q0_ => absurd (hl_.symm.trans (hcl 11 _ rfl ((up 10 11 (by decide)).symm.trans q0_) 10 rfl)) (by decide))⟩, fun _ _ _ => rfl⟩
      | 11, _ => exact stepS rfl rfl (execStRowA rfl (hdep _ rfl 9 rfl _ rfl _ rfl) (hdep _ rfl 7 rfl _ rfl _ rfl) (hT.2.2.2.1 (hl2 _ rfl 9 rfl) hl_) rfl (size_bk _ _) (bk_one _ spk)) ⟨s, ⟨_, rfl, rfl⟩, ⟨below4 hT.1 (hT.2.2.2.2.1 (hl2 _ rfl 9 rfl)) _, (fun q0_ q1_ => absurd (q1_.symm.trans ((up 11 10 (by decide)).trans (hl2 _ rfl 10 rfl))) (by decide)), (fun q0_ => (hT.2.2.1 (by rw [up 11 8 (by decide)] at q0_; exact q0_))), (fun q0_ q1_ => absurd q1_ (by unfold updB; simp)), (fun q0_ => (hT.2.2.2.2.1 (by rw [up 11 9 (by decide)] at q0_; exact q0_))), (fun q0_ => (by rw [setRow_other _ _ _ _ (ne_ty (hT.2.2.2.2.2.1 (hl2 _ rfl 10 rfl)) (hT.2.2.2.1 (hl2 _ rfl 9 rfl) hl_) (by decide))]; exact (hT.2.2.2.2.2.1 (by rw [up 11 10 (by decide)] at q0_; exact q0_)))), (fun _q0_ => setRow_heap _ _ _ _ _ _ (hT.2.2.2.1 (hl2 _ rfl 9 rfl) hl_))⟩, fun _ _ _ => rfl⟩
      | k_ + 12, h_ => exact absurd h_ (by simp)
    rintro l_ ⟨g8, g9⟩ a X8 h1 h2 h3 h4 hall hT
    obtain ⟨bX, F8, Fge8, F9, Fge9, F8s, F9s⟩ := hT
    clear F8
    replace Fge8 : (X7.heap.size ≤ g8) := Fge8 (hall 8 (by decide))
    clear F9
    replace Fge9 : (X7.heap.size ≤ g9) := Fge9 (hall 9 (by decide))
    replace F8s : X8.heap[g8]? = some (.cells (tpC (P k) (Ln k) (At k)) 25) := F8s (hall 10 (by decide))
    replace F9s : X8.heap[g9]? = some (.cells (bkC (pvs k) (At k)) 29) := F9s (hall 11 (by decide))
    clear hall
    replace t3 := (h3 3 (by decide)).trans t3
    replace t4 := (h3 4 (by decide)).trans t4
    replace t39 := (h3 39 (by decide)).trans t39
    replace t40 := (h3 40 (by decide)).trans t40
    replace t41 := (h3 41 (by decide)).trans t41
    replace t6 := (h3 6 (by decide)).trans t6
    have t8 : a.eval (.tmp 8) = .pointer (some ⟨g8, 0, none⟩) := h4 (8, 8) (by decide)
    have t9 : a.eval (.tmp 9) = .pointer (some ⟨g9, 0, none⟩) := h4 (9, 9) (by decide)
    replace FT := (FT.on bX)
    replace Fge6 := Fge6
    replace F6 := (on9 F6 bX)
    have ZX8 := bX.size
    replace BW := BW.trans (bX.mono BW.size)
    clear bX
    replace A := (⟨h1, h2.trans A.2⟩ : a.tmps.size = 270 ∧ a.defers = [])
    clear h1 h2 h3 h4
    clear t7
    have hn9 : (Value.slice (some ⟨bg, 0, none⟩) m bc).ownBlock ≠ some g9 := fun e => by have e2 : bg = g9 := Option.some.inj e; omega
    have h9V := Nat.le_trans ZV Fge9
    clear Fge6 Fge8 Fge9 hbg ZV
    refine wp_seq ?_
    refine wp_seq ?_
    refine wp_region_sq (σ := Unit) 270 [(0, 58), (1, 59)] (fun j_ s X => match j_ with | 0 => Below X8.heap.size X8 X | 1 => Below X8.heap.size X8 X | _ => Below X8.heap.size X8 X) (fun s => fun i_ => match i_ with | 0 => .pointer (some ⟨g6, 0, none⟩) | 1 => .int .i64 (kd i) | _ => undef) () A.1 (by kernel_rfl) (by decide) (by decide) (Below.refl _ _) ?_ ?_
    · intro i_ hi_ s a X hf hv hn hS
      match i_, hi_ with
      | 0, _ => exact stepV rfl rfl (execFldS0 rfl ((hf 6 (by decide)).trans t6)) ⟨s, ⟨_, rfl, rfl⟩, hS, fun _ _ => rfl⟩
      | 1, _ => exact stepV rfl rfl (execLd3 rfl (hv 0 (by omega) _ rfl _ rfl) (stC_at (on9 F6 hS)).1) ⟨s, ⟨_, rfl, rfl⟩, hS, fun _ _ => rfl⟩
      | k_ + 2, h_ => exact absurd h_ (by simp)
    rintro _ a X9 h1 h2 h3 h4 hS
    replace hS : Below X8.heap.size X8 X9 := hS
    have bX := hS
    clear hS
    replace t3 := (h3 3 (by decide)).trans t3
    replace t4 := (h3 4 (by decide)).trans t4
    replace t39 := (h3 39 (by decide)).trans t39
    replace t40 := (h3 40 (by decide)).trans t40
    replace t41 := (h3 41 (by decide)).trans t41
    replace t6 := (h3 6 (by decide)).trans t6
    replace t8 := (h3 8 (by decide)).trans t8
    replace t9 := (h3 9 (by decide)).trans t9
    have t59 : a.eval (.tmp 59) = .int .i64 (kd i) := h4 1 _ rfl _ rfl
    replace FT := (FT.on bX)
    replace F6 := (on9 F6 bX)
    replace F8s := (on9 F8s bX)
    replace F9s := (on9 F9s bX)
    have ZX9 := bX.size
    replace BW := BW.trans (bX.mono BW.size)
    clear bX
    replace A := (⟨h1, h2.trans A.2⟩ : a.tmps.size = 270 ∧ a.defers = [])
    clear h1 h2 h3 h4
    refine wp_block ?_
    refine wp_seq ?_
    by_cases h0 : kd i = 0
    · refine wp_region_sq (σ := Unit) 270 [(0, 61), (1, 60)] (fun j_ s X => match j_ with | 0 => Below X9.heap.size X9 X | 1 => Below X9.heap.size X9 X | _ => Below X9.heap.size X9 X) (fun s => fun i_ => match i_ with | 0 => .bool true | 1 => .bool true | _ => undef) () A.1 (by kernel_rfl) (by decide) (by decide) (Below.refl _ _) ?_ ?_
      · intro i_ hi_ s a X hf hv hn hS
        match i_, hi_ with
        | 0, _ => exact stepV rfl rfl (execEqIt rfl ((hf 59 (by decide)).trans t59) h0) ⟨s, ⟨_, rfl, rfl⟩, hS, fun _ _ => rfl⟩
        | 1, _ => exact stepV rfl rfl (execAsgB rfl (hv 0 (by omega) _ rfl _ rfl)) ⟨s, ⟨_, rfl, rfl⟩, hS, fun _ _ => rfl⟩
        | k_ + 2, h_ => exact absurd h_ (by simp)
      rintro _ a X10 h1 h2 h3 h4 hS
      replace hS : Below X9.heap.size X9 X10 := hS
      have bX := hS
      clear hS
      replace t3 := (h3 3 (by decide)).trans t3
      replace t4 := (h3 4 (by decide)).trans t4
      replace t39 := (h3 39 (by decide)).trans t39
      replace t40 := (h3 40 (by decide)).trans t40
      replace t41 := (h3 41 (by decide)).trans t41
      replace t6 := (h3 6 (by decide)).trans t6
      replace t8 := (h3 8 (by decide)).trans t8
      replace t9 := (h3 9 (by decide)).trans t9
      replace t59 := (h3 59 (by decide)).trans t59
      have t60 : a.eval (.tmp 60) = .bool true := h4 1 _ rfl _ rfl
      replace FT := (FT.on bX)
      replace F6 := (on9 F6 bX)
      replace F8s := (on9 F8s bX)
      replace F9s := (on9 F9s bX)
      have ZX10 := bX.size
      replace BW := BW.trans (bX.mono BW.size)
      clear bX
      replace A := (⟨h1, h2.trans A.2⟩ : a.tmps.size = 270 ∧ a.defers = [])
      clear h1 h2 h3 h4
      refine wp_cond_true t60 ?_
      refine scr_case0 V X10 (.slice (some ⟨tg, 0, none⟩) m tc) (.slice (some ⟨bg, 0, none⟩) m bc) m P Ln At pvs FT hm g6 (kd i) (tt i) (nn i) (pw i) F6 BW (.slice (some ⟨sb, so, none⟩) n scap) n i (pl i) (pp i) hpw hlp nw a A t3 t4 t6 t39 t40 t41 _ ?_
      intro a X' tv' bv' m' P' Ln' At' pvs' A t3 t4 t6 t39 t40 t41 BW FT hm' F6
      refine scr_tail V X' tv' bv' m' P' Ln' At' pvs' FT (by omega) g6 (kd i) (tt i) (nn i) (pw i) F6 BW (.slice (some ⟨sb, so, none⟩) n scap) n i a A t3 t4 t6 t39 t40 t41 _ ?_
      intro a XT A t3 t4 t39 t40 t41 BW FT
      refine wp_region_sq (σ := Unit) 270 [(0, 235), (1, 41)] (fun j_ s X => match j_ with | 0 => Below XT.heap.size XT X | 1 => Below XT.heap.size XT X | _ => Below XT.heap.size XT X) (fun s => fun i_ => match i_ with | 0 => .int .i64 ((i + 1 : Nat) : Int) | 1 => .int .i64 ((i + 1 : Nat) : Int) | _ => undef) () A.1 (by kernel_rfl) (by decide) (by decide) (Below.refl _ _) ?_ ?_
      · intro i_ hi_ s a X hf hv hn hS
        match i_, hi_ with
        | 0, _ => exact stepV rfl rfl (execAd8 (p := i) (q := 1) rfl ((hn 1 (by omega) _ rfl _ rfl).trans t41) rfl (by omega)) ⟨s, ⟨_, rfl, rfl⟩, hS, fun _ _ => rfl⟩
        | 1, _ => exact stepV rfl rfl (execMvB rfl (hv 0 (by omega) _ rfl _ rfl)) ⟨s, ⟨_, rfl, rfl⟩, hS, fun _ _ => rfl⟩
        | k_ + 2, h_ => exact absurd h_ (by simp)
      rintro _ a XU h1 h2 h3 h4 hS
      replace hS : Below XT.heap.size XT XU := hS
      have bX := hS
      clear hS
      replace t3 := (h3 3 (by decide)).trans t3
      replace t4 := (h3 4 (by decide)).trans t4
      replace t39 := (h3 39 (by decide)).trans t39
      replace t40 := (h3 40 (by decide)).trans t40
      replace t41 : a.eval (.tmp 41) = .int .i64 ((i + 1 : Nat) : Int) := h4 1 _ rfl _ rfl
      replace FT := (FT.on bX)
      have ZXU := bX.size
      replace BW := BW.trans (bX.mono BW.size)
      clear bX
      replace A := (⟨h1, h2.trans A.2⟩ : a.tmps.size = 270 ∧ a.defers = [])
      clear h1 h2 h3 h4
      exact ⟨⟨i + 1, _, _, m', _, _, _, _, hin, by omega, A, t3, t4, t39, t40, t41, BW, FT⟩, by show n - (intOf (a.eval (.tmp 41))).toNat < n - (intOf (Act.eval _ (.tmp 41))).toNat; rw [t41, e41]; show n - (i + 1) < n - i; omega⟩
    · refine wp_region_sq (σ := Unit) 270 [(0, 61), (1, 60)] (fun j_ s X => match j_ with | 0 => Below X9.heap.size X9 X | 1 => Below X9.heap.size X9 X | _ => Below X9.heap.size X9 X) (fun s => fun i_ => match i_ with | 0 => .bool false | 1 => .bool false | _ => undef) () A.1 (by kernel_rfl) (by decide) (by decide) (Below.refl _ _) ?_ ?_
      · intro i_ hi_ s a X hf hv hn hS
        match i_, hi_ with
        | 0, _ => exact stepV rfl rfl (execEqIf rfl ((hf 59 (by decide)).trans t59) h0) ⟨s, ⟨_, rfl, rfl⟩, hS, fun _ _ => rfl⟩
        | 1, _ => exact stepV rfl rfl (execAsgB rfl (hv 0 (by omega) _ rfl _ rfl)) ⟨s, ⟨_, rfl, rfl⟩, hS, fun _ _ => rfl⟩
        | k_ + 2, h_ => exact absurd h_ (by simp)
      rintro _ a X10 h1 h2 h3 h4 hS
      replace hS : Below X9.heap.size X9 X10 := hS
      have bX := hS
      clear hS
      replace t3 := (h3 3 (by decide)).trans t3
      replace t4 := (h3 4 (by decide)).trans t4
      replace t39 := (h3 39 (by decide)).trans t39
      replace t40 := (h3 40 (by decide)).trans t40
      replace t41 := (h3 41 (by decide)).trans t41
      replace t6 := (h3 6 (by decide)).trans t6
      replace t8 := (h3 8 (by decide)).trans t8
      replace t9 := (h3 9 (by decide)).trans t9
      replace t59 := (h3 59 (by decide)).trans t59
      have t60 : a.eval (.tmp 60) = .bool false := h4 1 _ rfl _ rfl
      replace FT := (FT.on bX)
      replace F6 := (on9 F6 bX)
      replace F8s := (on9 F8s bX)
      replace F9s := (on9 F9s bX)
      have ZX10 := bX.size
      replace BW := BW.trans (bX.mono BW.size)
      clear bX
      replace A := (⟨h1, h2.trans A.2⟩ : a.tmps.size = 270 ∧ a.defers = [])
      clear h1 h2 h3 h4
      refine wp_cond_false t60 ?_
      clear t60
      refine wp_seq ?_
      by_cases h1 : kd i = 1
      · refine wp_region_sq (σ := Unit) 270 [(0, 96), (1, 95)] (fun j_ s X => match j_ with | 0 => Below X10.heap.size X10 X | 1 => Below X10.heap.size X10 X | _ => Below X10.heap.size X10 X) (fun s => fun i_ => match i_ with | 0 => .bool true | 1 => .bool true | _ => undef) () A.1 (by kernel_rfl) (by decide) (by decide) (Below.refl _ _) ?_ ?_
        · intro i_ hi_ s a X hf hv hn hS
          match i_, hi_ with
          | 0, _ => exact stepV rfl rfl (execEqIt rfl ((hf 59 (by decide)).trans t59) h1) ⟨s, ⟨_, rfl, rfl⟩, hS, fun _ _ => rfl⟩
          | 1, _ => exact stepV rfl rfl (execAsgB rfl (hv 0 (by omega) _ rfl _ rfl)) ⟨s, ⟨_, rfl, rfl⟩, hS, fun _ _ => rfl⟩
          | k_ + 2, h_ => exact absurd h_ (by simp)
        rintro _ a X21 h1 h2 h3 h4 hS
        replace hS : Below X10.heap.size X10 X21 := hS
        have bX := hS
        clear hS
        replace t3 := (h3 3 (by decide)).trans t3
        replace t4 := (h3 4 (by decide)).trans t4
        replace t39 := (h3 39 (by decide)).trans t39
        replace t40 := (h3 40 (by decide)).trans t40
        replace t41 := (h3 41 (by decide)).trans t41
        replace t6 := (h3 6 (by decide)).trans t6
        replace t8 := (h3 8 (by decide)).trans t8
        replace t9 := (h3 9 (by decide)).trans t9
        replace t59 := (h3 59 (by decide)).trans t59
        have t95 : a.eval (.tmp 95) = .bool true := h4 1 _ rfl _ rfl
        replace FT := (FT.on bX)
        replace F6 := (on9 F6 bX)
        replace F8s := (on9 F8s bX)
        replace F9s := (on9 F9s bX)
        have ZX21 := bX.size
        replace BW := BW.trans (bX.mono BW.size)
        clear bX
        replace A := (⟨h1, h2.trans A.2⟩ : a.tmps.size = 270 ∧ a.defers = [])
        clear h1 h2 h3 h4
        refine wp_cond_true t95 ?_
        refine scr_case1 V X21 (.slice (some ⟨tg, 0, none⟩) m tc) (.slice (some ⟨bg, 0, none⟩) m bc) m P Ln At pvs FT hm g6 (kd i) (tt i) (nn i) (pw i) F6 BW (.slice (some ⟨sb, so, none⟩) n scap) n i k hk g8 g9 F8s F9s hn9 h9V a A t3 t4 t6 t39 t40 t41 t8 t9 _ ?_
        intro a X' tv' bv' m' P' Ln' At' pvs' A t3 t4 t6 t39 t40 t41 BW FT hm' F6
        refine scr_tail V X' tv' bv' m' P' Ln' At' pvs' FT (by omega) g6 (kd i) (tt i) (nn i) (pw i) F6 BW (.slice (some ⟨sb, so, none⟩) n scap) n i a A t3 t4 t6 t39 t40 t41 _ ?_
        intro a XT A t3 t4 t39 t40 t41 BW FT
        refine wp_region_sq (σ := Unit) 270 [(0, 235), (1, 41)] (fun j_ s X => match j_ with | 0 => Below XT.heap.size XT X | 1 => Below XT.heap.size XT X | _ => Below XT.heap.size XT X) (fun s => fun i_ => match i_ with | 0 => .int .i64 ((i + 1 : Nat) : Int) | 1 => .int .i64 ((i + 1 : Nat) : Int) | _ => undef) () A.1 (by kernel_rfl) (by decide) (by decide) (Below.refl _ _) ?_ ?_
        · intro i_ hi_ s a X hf hv hn hS
          match i_, hi_ with
          | 0, _ => exact stepV rfl rfl (execAd8 (p := i) (q := 1) rfl ((hn 1 (by omega) _ rfl _ rfl).trans t41) rfl (by omega)) ⟨s, ⟨_, rfl, rfl⟩, hS, fun _ _ => rfl⟩
          | 1, _ => exact stepV rfl rfl (execMvB rfl (hv 0 (by omega) _ rfl _ rfl)) ⟨s, ⟨_, rfl, rfl⟩, hS, fun _ _ => rfl⟩
          | k_ + 2, h_ => exact absurd h_ (by simp)
        rintro _ a XU h1 h2 h3 h4 hS
        replace hS : Below XT.heap.size XT XU := hS
        have bX := hS
        clear hS
        replace t3 := (h3 3 (by decide)).trans t3
        replace t4 := (h3 4 (by decide)).trans t4
        replace t39 := (h3 39 (by decide)).trans t39
        replace t40 := (h3 40 (by decide)).trans t40
        replace t41 : a.eval (.tmp 41) = .int .i64 ((i + 1 : Nat) : Int) := h4 1 _ rfl _ rfl
        replace FT := (FT.on bX)
        have ZXU := bX.size
        replace BW := BW.trans (bX.mono BW.size)
        clear bX
        replace A := (⟨h1, h2.trans A.2⟩ : a.tmps.size = 270 ∧ a.defers = [])
        clear h1 h2 h3 h4
        exact ⟨⟨i + 1, _, _, m', _, _, _, _, hin, by omega, A, t3, t4, t39, t40, t41, BW, FT⟩, by show n - (intOf (a.eval (.tmp 41))).toNat < n - (intOf (Act.eval _ (.tmp 41))).toNat; rw [t41, e41]; show n - (i + 1) < n - i; omega⟩
      · refine wp_region_sq (σ := Unit) 270 [(0, 96), (1, 95)] (fun j_ s X => match j_ with | 0 => Below X10.heap.size X10 X | 1 => Below X10.heap.size X10 X | _ => Below X10.heap.size X10 X) (fun s => fun i_ => match i_ with | 0 => .bool false | 1 => .bool false | _ => undef) () A.1 (by kernel_rfl) (by decide) (by decide) (Below.refl _ _) ?_ ?_
        · intro i_ hi_ s a X hf hv hn hS
          match i_, hi_ with
          | 0, _ => exact stepV rfl rfl (execEqIf rfl ((hf 59 (by decide)).trans t59) h1) ⟨s, ⟨_, rfl, rfl⟩, hS, fun _ _ => rfl⟩
          | 1, _ => exact stepV rfl rfl (execAsgB rfl (hv 0 (by omega) _ rfl _ rfl)) ⟨s, ⟨_, rfl, rfl⟩, hS, fun _ _ => rfl⟩
          | k_ + 2, h_ => exact absurd h_ (by simp)
        rintro _ a X21 h1 h2 h3 h4 hS
        replace hS : Below X10.heap.size X10 X21 := hS
        have bX := hS
        clear hS
        replace t3 := (h3 3 (by decide)).trans t3
        replace t4 := (h3 4 (by decide)).trans t4
        replace t39 := (h3 39 (by decide)).trans t39
        replace t40 := (h3 40 (by decide)).trans t40
        replace t41 := (h3 41 (by decide)).trans t41
        replace t6 := (h3 6 (by decide)).trans t6
        replace t8 := (h3 8 (by decide)).trans t8
        replace t9 := (h3 9 (by decide)).trans t9
        replace t59 := (h3 59 (by decide)).trans t59
        have t95 : a.eval (.tmp 95) = .bool false := h4 1 _ rfl _ rfl
        replace FT := (FT.on bX)
        replace F6 := (on9 F6 bX)
        replace F8s := (on9 F8s bX)
        replace F9s := (on9 F9s bX)
        have ZX21 := bX.size
        replace BW := BW.trans (bX.mono BW.size)
        clear bX
        replace A := (⟨h1, h2.trans A.2⟩ : a.tmps.size = 270 ∧ a.defers = [])
        clear h1 h2 h3 h4
        refine wp_cond_false t95 ?_
        clear t95
        refine wp_seq ?_
        by_cases h2 : kd i = 2
        · refine wp_region_sq (σ := Unit) 270 [(0, 135), (1, 134)] (fun j_ s X => match j_ with | 0 => Below X21.heap.size X21 X | 1 => Below X21.heap.size X21 X | _ => Below X21.heap.size X21 X) (fun s => fun i_ => match i_ with | 0 => .bool true | 1 => .bool true | _ => undef) () A.1 (by kernel_rfl) (by decide) (by decide) (Below.refl _ _) ?_ ?_
          · intro i_ hi_ s a X hf hv hn hS
            match i_, hi_ with
            | 0, _ => exact stepV rfl rfl (execEqIt rfl ((hf 59 (by decide)).trans t59) h2) ⟨s, ⟨_, rfl, rfl⟩, hS, fun _ _ => rfl⟩
            | 1, _ => exact stepV rfl rfl (execAsgB rfl (hv 0 (by omega) _ rfl _ rfl)) ⟨s, ⟨_, rfl, rfl⟩, hS, fun _ _ => rfl⟩
            | k_ + 2, h_ => exact absurd h_ (by simp)
          rintro _ a X29 h1 h2 h3 h4 hS
          replace hS : Below X21.heap.size X21 X29 := hS
          have bX := hS
          clear hS
          replace t3 := (h3 3 (by decide)).trans t3
          replace t4 := (h3 4 (by decide)).trans t4
          replace t39 := (h3 39 (by decide)).trans t39
          replace t40 := (h3 40 (by decide)).trans t40
          replace t41 := (h3 41 (by decide)).trans t41
          replace t6 := (h3 6 (by decide)).trans t6
          replace t8 := (h3 8 (by decide)).trans t8
          replace t9 := (h3 9 (by decide)).trans t9
          replace t59 := (h3 59 (by decide)).trans t59
          have t134 : a.eval (.tmp 134) = .bool true := h4 1 _ rfl _ rfl
          replace FT := (FT.on bX)
          replace F6 := (on9 F6 bX)
          replace F8s := (on9 F8s bX)
          replace F9s := (on9 F9s bX)
          have ZX29 := bX.size
          replace BW := BW.trans (bX.mono BW.size)
          clear bX
          replace A := (⟨h1, h2.trans A.2⟩ : a.tmps.size = 270 ∧ a.defers = [])
          clear h1 h2 h3 h4
          refine wp_cond_true t134 ?_
          refine scr_case2 V X29 (.slice (some ⟨tg, 0, none⟩) m tc) (.slice (some ⟨bg, 0, none⟩) m bc) m P Ln At pvs FT hm g6 (kd i) (tt i) (nn i) (pw i) F6 BW (.slice (some ⟨sb, so, none⟩) n scap) n i k hk g8 g9 F8s F9s hn9 h9V a A t3 t4 t6 t39 t40 t41 t8 t9 _ ?_
          intro a X' tv' bv' m' P' Ln' At' pvs' A t3 t4 t6 t39 t40 t41 BW FT hm' F6
          refine scr_tail V X' tv' bv' m' P' Ln' At' pvs' FT (by omega) g6 (kd i) (tt i) (nn i) (pw i) F6 BW (.slice (some ⟨sb, so, none⟩) n scap) n i a A t3 t4 t6 t39 t40 t41 _ ?_
          intro a XT A t3 t4 t39 t40 t41 BW FT
          refine wp_region_sq (σ := Unit) 270 [(0, 235), (1, 41)] (fun j_ s X => match j_ with | 0 => Below XT.heap.size XT X | 1 => Below XT.heap.size XT X | _ => Below XT.heap.size XT X) (fun s => fun i_ => match i_ with | 0 => .int .i64 ((i + 1 : Nat) : Int) | 1 => .int .i64 ((i + 1 : Nat) : Int) | _ => undef) () A.1 (by kernel_rfl) (by decide) (by decide) (Below.refl _ _) ?_ ?_
          · intro i_ hi_ s a X hf hv hn hS
            match i_, hi_ with
            | 0, _ => exact stepV rfl rfl (execAd8 (p := i) (q := 1) rfl ((hn 1 (by omega) _ rfl _ rfl).trans t41) rfl (by omega)) ⟨s, ⟨_, rfl, rfl⟩, hS, fun _ _ => rfl⟩
            | 1, _ => exact stepV rfl rfl (execMvB rfl (hv 0 (by omega) _ rfl _ rfl)) ⟨s, ⟨_, rfl, rfl⟩, hS, fun _ _ => rfl⟩
            | k_ + 2, h_ => exact absurd h_ (by simp)
          rintro _ a XU h1 h2 h3 h4 hS
          replace hS : Below XT.heap.size XT XU := hS
          have bX := hS
          clear hS
          replace t3 := (h3 3 (by decide)).trans t3
          replace t4 := (h3 4 (by decide)).trans t4
          replace t39 := (h3 39 (by decide)).trans t39
          replace t40 := (h3 40 (by decide)).trans t40
          replace t41 : a.eval (.tmp 41) = .int .i64 ((i + 1 : Nat) : Int) := h4 1 _ rfl _ rfl
          replace FT := (FT.on bX)
          have ZXU := bX.size
          replace BW := BW.trans (bX.mono BW.size)
          clear bX
          replace A := (⟨h1, h2.trans A.2⟩ : a.tmps.size = 270 ∧ a.defers = [])
          clear h1 h2 h3 h4
          exact ⟨⟨i + 1, _, _, m', _, _, _, _, hin, by omega, A, t3, t4, t39, t40, t41, BW, FT⟩, by show n - (intOf (a.eval (.tmp 41))).toNat < n - (intOf (Act.eval _ (.tmp 41))).toNat; rw [t41, e41]; show n - (i + 1) < n - i; omega⟩
        · refine wp_region_sq (σ := Unit) 270 [(0, 135), (1, 134)] (fun j_ s X => match j_ with | 0 => Below X21.heap.size X21 X | 1 => Below X21.heap.size X21 X | _ => Below X21.heap.size X21 X) (fun s => fun i_ => match i_ with | 0 => .bool false | 1 => .bool false | _ => undef) () A.1 (by kernel_rfl) (by decide) (by decide) (Below.refl _ _) ?_ ?_
          · intro i_ hi_ s a X hf hv hn hS
            match i_, hi_ with
            | 0, _ => exact stepV rfl rfl (execEqIf rfl ((hf 59 (by decide)).trans t59) h2) ⟨s, ⟨_, rfl, rfl⟩, hS, fun _ _ => rfl⟩
            | 1, _ => exact stepV rfl rfl (execAsgB rfl (hv 0 (by omega) _ rfl _ rfl)) ⟨s, ⟨_, rfl, rfl⟩, hS, fun _ _ => rfl⟩
            | k_ + 2, h_ => exact absurd h_ (by simp)
          rintro _ a X29 h1 h2 h3 h4 hS
          replace hS : Below X21.heap.size X21 X29 := hS
          have bX := hS
          clear hS
          replace t3 := (h3 3 (by decide)).trans t3
          replace t4 := (h3 4 (by decide)).trans t4
          replace t39 := (h3 39 (by decide)).trans t39
          replace t40 := (h3 40 (by decide)).trans t40
          replace t41 := (h3 41 (by decide)).trans t41
          replace t6 := (h3 6 (by decide)).trans t6
          replace t8 := (h3 8 (by decide)).trans t8
          replace t9 := (h3 9 (by decide)).trans t9
          replace t59 := (h3 59 (by decide)).trans t59
          have t134 : a.eval (.tmp 134) = .bool false := h4 1 _ rfl _ rfl
          replace FT := (FT.on bX)
          replace F6 := (on9 F6 bX)
          replace F8s := (on9 F8s bX)
          replace F9s := (on9 F9s bX)
          have ZX29 := bX.size
          replace BW := BW.trans (bX.mono BW.size)
          clear bX
          replace A := (⟨h1, h2.trans A.2⟩ : a.tmps.size = 270 ∧ a.defers = [])
          clear h1 h2 h3 h4
          refine wp_cond_false t134 ?_
          refine wp_skip ?_
          clear t134
          refine scr_tail V X29 (.slice (some ⟨tg, 0, none⟩) m tc) (.slice (some ⟨bg, 0, none⟩) m bc) m P Ln At pvs FT hm g6 (kd i) (tt i) (nn i) (pw i) F6 BW (.slice (some ⟨sb, so, none⟩) n scap) n i a A t3 t4 t6 t39 t40 t41 _ ?_
          intro a XT A t3 t4 t39 t40 t41 BW FT
          refine wp_region_sq (σ := Unit) 270 [(0, 235), (1, 41)] (fun j_ s X => match j_ with | 0 => Below XT.heap.size XT X | 1 => Below XT.heap.size XT X | _ => Below XT.heap.size XT X) (fun s => fun i_ => match i_ with | 0 => .int .i64 ((i + 1 : Nat) : Int) | 1 => .int .i64 ((i + 1 : Nat) : Int) | _ => undef) () A.1 (by kernel_rfl) (by decide) (by decide) (Below.refl _ _) ?_ ?_
          · intro i_ hi_ s a X hf hv hn hS
            match i_, hi_ with
            | 0, _ => exact stepV rfl rfl (execAd8 (p := i) (q := 1) rfl ((hn 1 (by omega) _ rfl _ rfl).trans t41) rfl (by omega)) ⟨s, ⟨_, rfl, rfl⟩, hS, fun _ _ => rfl⟩
            | 1, _ => exact stepV rfl rfl (execMvB rfl (hv 0 (by omega) _ rfl _ rfl)) ⟨s, ⟨_, rfl, rfl⟩, hS, fun _ _ => rfl⟩
            | k_ + 2, h_ => exact absurd h_ (by simp)
          rintro _ a XU h1 h2 h3 h4 hS
          replace hS : Below XT.heap.size XT XU := hS
          have bX := hS
          clear hS
          replace t3 := (h3 3 (by decide)).trans t3
          replace t4 := (h3 4 (by decide)).trans t4
          replace t39 := (h3 39 (by decide)).trans t39
          replace t40 := (h3 40 (by decide)).trans t40
          replace t41 : a.eval (.tmp 41) = .int .i64 ((i + 1 : Nat) : Int) := h4 1 _ rfl _ rfl
          replace FT := (FT.on bX)
          have ZXU := bX.size
          replace BW := BW.trans (bX.mono BW.size)
          clear bX
          replace A := (⟨h1, h2.trans A.2⟩ : a.tmps.size = 270 ∧ a.defers = [])
          clear h1 h2 h3 h4
          exact ⟨⟨i + 1, _, _, m, _, _, _, _, hin, by omega, A, t3, t4, t39, t40, t41, BW, FT⟩, by show n - (intOf (a.eval (.tmp 41))).toNat < n - (intOf (Act.eval _ (.tmp 41))).toNat; rw [t41, e41]; show n - (i + 1) < n - i; omega⟩
  · rw [decide_eq_false hin] at t42
    refine wp_cond_false t42 ?_
    refine wp_exit ?_
    first | refine exit_in ?_ | refine exit_then (exit_in ?_) | refine exit_then (exit_then (exit_in ?_))
    exact scr_end V _ tv bv m P Ln At pvs FT hm BW a A t3 t4
end Go.Proofs.Ytigkmgoidbamnaa.Tap
