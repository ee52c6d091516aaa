import Derived.Test.YtigkmgoidbamnaaW9f
namespace Go.Proofs.Ytigkmgoidbamnaa.Tap
open Go.RowKit Gf8 Aes By8 Cel Cf
/- TapeScripts: what is asked behind each step, and at the end. Written by tools/mkW9g.py. -/

set_option maxRecDepth 100000 in
set_option maxHeartbeats 4000000 in
theorem scr_tail (V W : World) (tv bv : Value) (m : Nat) (P : Nat → Nat → Nat) (Ln At : Nat → Nat) (pvs : Nat → Value) (FT : TB V tv bv m P Ln At pvs W) (hm : m ≤ 3000000000000) (g6 : Nat) (kd tt nn : Int) (pw : Value) (F6 : W.heap[g6]? = some (.cells (stC kd tt nn pw) 32)) (BW : Below V.heap.size V W) (sc : Value) (n i : Nat)
    (a : Act) (A : a.tmps.size = 270 ∧ a.defers = []) (t3 : a.eval (.tmp 3) = tv) (t4 : a.eval (.tmp 4) = bv) (t6 : a.eval (.tmp 6) = .pointer (some ⟨g6, 0, none⟩)) (t39 : a.eval (.tmp 39) = sc) (t40 : a.eval (.tmp 40) = .int .i64 ((n : Nat) : Int)) (t41 : a.eval (.tmp 41) = .int .i64 ((i : Nat) : Int))
    (Q : Exit → Act → World → Prop) (hQ : ∀ (a : Act) (X : World), (a.tmps.size = 270 ∧ a.defers = []) → a.eval (.tmp 3) = tv → a.eval (.tmp 4) = bv → a.eval (.tmp 39) = sc → a.eval (.tmp 40) = .int .i64 ((n : Nat) : Int) → a.eval (.tmp 41) = .int .i64 ((i : Nat) : Int) → Below V.heap.size V X → TB V tv bv m P Ln At pvs X → Q .normal a X) :
    (findR 43 (Try.f3.body.getD .skip)).wp Try.prog Q a W := by
  obtain ⟨tg, tc, rfl, _, _⟩ := ownL_some FT.tap FT.pos
  obtain ⟨bg, bc, rfl, _, _⟩ := ownL_some FT.boo FT.pos
  refine wp_seq ?_
  refine wp_region_sq (σ := Unit) 270 [(0, 193)] (fun j_ s X => match j_ with | 0 => Below W.heap.size W X | _ => Below W.heap.size W X) (fun s => fun i_ => match i_ with | 0 => .int .i64 ((0 : Nat) : Int) | _ => undef) () A.1 (by kernel_rfl) (by decide) (by decide) (Below.refl _ _) ?_ ?_
  · intro i_ hi_ s a X hf hv hn hS
    match i_, hi_ with
    | 0, _ => exact stepV rfl rfl (execMvB rfl rfl) ⟨s, ⟨_, rfl, rfl⟩, hS, fun _ _ => rfl⟩
    | k_ + 1, h_ => exact absurd h_ (by simp)
  rintro _ a X43 h1 h2 h3 h4 hS
  replace hS : Below W.heap.size W X43 := hS
  have bX := hS
  clear hS
  replace t3 := (h3 3 (by decide)).trans t3
  replace t4 := (h3 4 (by decide)).trans t4
  replace t6 := (h3 6 (by decide)).trans t6
  replace t39 := (h3 39 (by decide)).trans t39
  replace t40 := (h3 40 (by decide)).trans t40
  replace t41 := (h3 41 (by decide)).trans t41
  have t193 : a.eval (.tmp 193) = .int .i64 ((0 : Nat) : Int) := h4 0 _ rfl _ rfl
  replace FT := (FT.on bX)
  replace F6 := (on9 F6 bX)
  have ZX43 := bX.size
  replace BW := BW.trans (bX.mono BW.size)
  clear bX
  replace A := (⟨h1, h2.trans A.2⟩ : a.tmps.size = 270 ∧ a.defers = [])
  clear h1 h2 h3 h4
  have BB : Below X43.heap.size X43 X43 := Below.refl _ _
  refine wp_block ?_
  refine wp_loop (fun a W => ∃ (ix : Nat), ix ≤ 3 ∧ ((a.tmps.size = 270 ∧ a.defers = []) ∧ a.eval (.tmp 3) = .slice (some ⟨tg, 0, none⟩) m tc ∧ a.eval (.tmp 4) = .slice (some ⟨bg, 0, none⟩) m bc ∧ a.eval (.tmp 6) = .pointer (some ⟨g6, 0, none⟩) ∧ a.eval (.tmp 39) = sc ∧ a.eval (.tmp 40) = .int .i64 ((n : Nat) : Int) ∧ a.eval (.tmp 41) = .int .i64 ((i : Nat) : Int) ∧ a.eval (.tmp 193) = .int .i64 ((ix : Nat) : Int) ∧ Below X43.heap.size X43 W)) (fun a _ => 3 - (intOf (a.eval (.tmp 193))).toNat) ⟨0, by omega, A, t3, t4, t6, t39, t40, t41, t193, BB⟩ ?_
  clear A t3 t4 t6 t39 t40 t41 t193 BB a
  rintro a XL ⟨ix, hix, A, t3, t4, t6, t39, t40, t41, t193, BB⟩
  have e193 := t193
  refine wp_seq ?_
  refine wp_region_sq (σ := Unit) 270 [(0, 194)] (fun j_ s X => match j_ with | 0 => Below X43.heap.size X43 X | _ => Below X43.heap.size X43 X) (fun s => fun i_ => match i_ with | 0 => .bool (decide (ix < 3)) | _ => undef) () A.1 (by kernel_rfl) (by decide) (by decide) (BB) ?_ ?_
  · intro i_ hi_ s a X hf hv hn hS
    match i_, hi_ with
    | 0, _ => exact stepV rfl rfl (execLtW (p := ix) (q := 3) rfl ((hf 193 (by decide)).trans t193) rfl) ⟨s, ⟨_, rfl, rfl⟩, hS, fun _ _ => rfl⟩
    | k_ + 1, h_ => exact absurd h_ (by simp)
  rintro _ a X44 h1 h2 h3 h4 hS
  clear BB
  replace hS : Below X43.heap.size X43 X44 := hS
  have BB := hS
  clear hS
  replace t3 := (h3 3 (by decide)).trans t3
  replace t4 := (h3 4 (by decide)).trans t4
  replace t6 := (h3 6 (by decide)).trans t6
  replace t39 := (h3 39 (by decide)).trans t39
  replace t40 := (h3 40 (by decide)).trans t40
  replace t41 := (h3 41 (by decide)).trans t41
  replace t193 := (h3 193 (by decide)).trans t193
  have t194 : a.eval (.tmp 194) = .bool (decide (ix < 3)) := h4 0 _ rfl _ rfl
  replace A := (⟨h1, h2.trans A.2⟩ : a.tmps.size = 270 ∧ a.defers = [])
  clear h1 h2 h3 h4
  refine wp_seq ?_
  by_cases hlt : ix < 3
  · rw [decide_eq_true hlt] at t194
    refine wp_cond_true t194 ?_
    refine wp_skip ?_
    clear t194
    refine wp_seq ?_
    refine wp_block ?_
    refine wp_seq ?_
    refine wp_region_sq (σ := Unit) 270 [(0, 195), (1, 26)] (fun j_ s X => match j_ with | 0 => Below X43.heap.size X43 X | 1 => Below X43.heap.size X43 X | _ => Below X43.heap.size X43 X) (fun s => fun i_ => match i_ with | 0 => .int .i64 ((ix : Nat) : Int) | 1 => .int .i64 ((ix : Nat) : Int) | _ => undef) () A.1 (by kernel_rfl) (by decide) (by decide) (BB) ?_ ?_
    · intro i_ hi_ s a X hf hv hn hS
      match i_, hi_ with
      | 0, _ => exact stepV rfl rfl (execMvB rfl ((hf 193 (by decide)).trans t193)) ⟨s, ⟨_, rfl, rfl⟩, hS, fun _ _ => rfl⟩
      | 1, _ => exact stepV rfl rfl (execAsgB rfl (hv 0 (by omega) _ rfl _ rfl)) ⟨s, ⟨_, rfl, rfl⟩, hS, fun _ _ => rfl⟩
      | k_ + 2, h_ => exact absurd h_ (by simp)
    rintro _ a X45 h1 h2 h3 h4 hS
    clear BB
    replace hS : Below X43.heap.size X43 X45 := hS
    have BB := hS
    clear hS
    replace t3 := (h3 3 (by decide)).trans t3
    replace t4 := (h3 4 (by decide)).trans t4
    replace t6 := (h3 6 (by decide)).trans t6
    replace t39 := (h3 39 (by decide)).trans t39
    replace t40 := (h3 40 (by decide)).trans t40
    replace t41 := (h3 41 (by decide)).trans t41
    replace t193 := (h3 193 (by decide)).trans t193
    have t26 : a.eval (.tmp 26) = .int .i64 ((ix : Nat) : Int) := h4 1 _ rfl _ rfl
    replace A := (⟨h1, h2.trans A.2⟩ : a.tmps.size = 270 ∧ a.defers = [])
    clear h1 h2 h3 h4
    obtain ⟨k, ek⟩ : ∃ k, plcN (IntKind.i64.wrap (nn + ((ix : Nat) : Int))) m = k := ⟨_, rfl⟩
    have hk : k < m := by rw [← ek]; exact plc_lt _ _ FT.pos
    obtain ⟨hat, hlk, hsk, hzk⟩ := FT.ok k hk
    refine wp_seq ?_
    refine wp_region_sq (σ := Unit) 270 [(0, 196), (1, 197), (2, 198), (3, 199), (4, 200), (5, 201), (6, 202), (7, 27)] (fun j_ s X => match j_ with | 0 => Below X43.heap.size X43 X | 1 => Below X43.heap.size X43 X | 2 => Below X43.heap.size X43 X | 3 => Below X43.heap.size X43 X | 4 => Below X43.heap.size X43 X | 5 => Below X43.heap.size X43 X | 6 => Below X43.heap.size X43 X | 7 => Below X43.heap.size X43 X | _ => Below X43.heap.size X43 X) (fun s => fun i_ => match i_ with | 0 => .pointer (some ⟨g6, 2, none⟩) | 1 => .int .i64 nn | 2 => .int .i64 ((ix : Nat) : Int) | 3 => .int .i64 (IntKind.i64.wrap (nn + ((ix : Nat) : Int))) | 4 => .slice (some ⟨tg, 0, none⟩) m tc | 5 => .int .i64 ((m : Nat) : Int) | 6 => .int .i64 ((k : Nat) : Int) | 7 => .int .i64 ((k : Nat) : Int) | _ => undef) () A.1 (by kernel_rfl) (by decide) (by decide) (BB) ?_ ?_
    · intro i_ hi_ s a X hf hv hn hS
      match i_, hi_ with
      | 0, _ => exact stepV rfl rfl (execFldS2 rfl ((hf 6 (by decide)).trans t6)) ⟨s, ⟨_, rfl, rfl⟩, hS, fun _ _ => rfl⟩
      | 1, _ => exact stepV rfl rfl (execLd3 rfl (hv 0 (by omega) _ rfl _ rfl) (stC_at (on9 F6 hS)).2.2.1) ⟨s, ⟨_, rfl, rfl⟩, hS, fun _ _ => rfl⟩
      | 2, _ => exact stepV rfl rfl (execMvB rfl ((hf 26 (by decide)).trans t26)) ⟨s, ⟨_, rfl, rfl⟩, hS, fun _ _ => rfl⟩
      | 3, _ => exact stepV rfl rfl (execAdI rfl (hv 1 (by omega) _ rfl _ rfl) (hv 2 (by omega) _ rfl _ rfl)) ⟨s, ⟨_, rfl, rfl⟩, hS, fun _ _ => rfl⟩
      | 4, _ => exact stepV rfl rfl (execMvB rfl ((hf 3 (by decide)).trans t3)) ⟨s, ⟨_, rfl, rfl⟩, hS, fun _ _ => rfl⟩
      | 5, _ => exact stepV rfl rfl (execLenT (len := m) rfl (hv 4 (by omega) _ rfl _ rfl) ⟨_, _, rfl⟩) ⟨s, ⟨_, rfl, rfl⟩, hS, fun _ _ => rfl⟩
      | 6, _ => exact stepC rfl rfl (execCall2 Try.func8 (by kernel_rfl) (by kernel_rfl) rfl (hv 3 (by omega) _ rfl _ rfl) (hv 5 (by omega) _ rfl _ rfl)) (ek ▸ place_any _ m X (wrap_in _).1 (wrap_in _).2 FT.pos (by omega)) fun e w' hh => ⟨_, hh.1, s, ⟨_, rfl, rfl⟩, by rw [hh.2]; exact hS, fun _ _ => rfl⟩
      | 7, _ => exact stepV rfl rfl (execAsgB rfl (hv 6 (by omega) _ rfl _ rfl)) ⟨s, ⟨_, rfl, rfl⟩, hS, fun _ _ => rfl⟩
      | k_ + 8, h_ => exact absurd h_ (by simp)
    rintro _ a X46 h1 h2 h3 h4 hS
    clear BB
    replace hS : Below X43.heap.size X43 X46 := hS
    have BB := hS
    clear hS
    replace t3 := (h3 3 (by decide)).trans t3
    replace t4 := (h3 4 (by decide)).trans t4
    replace t6 := (h3 6 (by decide)).trans t6
    replace t39 := (h3 39 (by decide)).trans t39
    replace t40 := (h3 40 (by decide)).trans t40
    replace t41 := (h3 41 (by decide)).trans t41
    replace t193 := (h3 193 (by decide)).trans t193
    have t27 : a.eval (.tmp 27) = .int .i64 ((k : Nat) : Int) := h4 7 _ rfl _ rfl
    replace A := (⟨h1, h2.trans A.2⟩ : a.tmps.size = 270 ∧ a.defers = [])
    clear h1 h2 h3 h4
    clear t26
    refine wp_seq ?_
    refine wp_region_detA 270 [(0, 203), (1, 204), (2, 205), (3, 206), (4, 207), (5, 208), (6, 209), (7, 210), (8, 211), (9, 212), (10, 213), (11, 214), (12, 215), (13, 216), (14, 217), (15, 218), (16, 219), (17, 220), (18, 221), (19, 222), (20, 223), (21, 224), (22, 225), (23, 226), (24, 227), (25, 228), (26, 229), (27, 230), (28, 231), (29, 232), (30, 233)] (fun i_ => match i_ with | 0 => .slice (some ⟨tg, 0, none⟩) m tc | 1 => .int .i64 ((k : Nat) : Int) | 2 => .pointer (some ⟨tg, k * 2, none⟩) | 3 => .agg (tpC (P k) (Ln k) (At k)) | 4 => .int .i64 (((Ln k) - (At k) : Nat) : Int) | 5 => .slice (some ⟨bg, 0, none⟩) m bc | 6 => .int .i64 ((k : Nat) : Int) | 7 => .pointer (some ⟨bg, k * 2, none⟩) | 8 => .pointer (some ⟨bg, k * 2, none⟩) | 9 => (pvs k) | 10 => .int .i64 ((Ln k : Nat) : Int) | 11 => .slice (some ⟨bg, 0, none⟩) m bc | 12 => .int .i64 ((k : Nat) : Int) | 13 => .pointer (some ⟨bg, k * 2, none⟩) | 14 => .pointer (some ⟨bg, k * 2 + 1, none⟩) | 15 => .int .i64 ((At k : Nat) : Int) | 16 => .int .i64 ((Ln k - At k : Nat) : Int) | 17 => .bool false | 18 => .bool false | 19 => .slice (some ⟨tg, 0, none⟩) m tc | 20 => .int .i64 ((k : Nat) : Int) | 21 => .pointer (some ⟨tg, k * 2, none⟩) | 22 => .agg (tpC (P k) (Ln k) (At k)) | 23 => .int .i64 (((At k) : Nat) : Int) | 24 => .slice (some ⟨bg, 0, none⟩) m bc | 25 => .int .i64 ((k : Nat) : Int) | 26 => .pointer (some ⟨bg, k * 2, none⟩) | 27 => .pointer (some ⟨bg, k * 2 + 1, none⟩) | 28 => .int .i64 ((At k : Nat) : Int) | 29 => .bool false | 30 => .bool false | _ => undef) (fun _ X => Below X43.heap.size X43 X) (by kernel_rfl) (by kernel_rfl) A.1 (by kernel_rfl) (by decide) (by decide) BB.drew ?_ ?_
    · intro i_ hi_ l_ a X hl_ hf hdep hl2 hcl hno hT
      match i_, hi_ with
      | 0, _ => exact stepV rfl rfl (execMvB rfl ((hf 3 (by decide)).trans t3)) ⟨⟨_, rfl, rfl⟩, hT⟩
      | 1, _ => exact stepV rfl rfl (execMvB rfl ((hf 27 (by decide)).trans t27)) ⟨⟨_, rfl, rfl⟩, hT⟩
      | 2, _ => exact stepV rfl rfl (execIdxT (k := k) rfl (hdep _ rfl 0 rfl _ rfl _ rfl) (hdep _ rfl 1 rfl _ rfl _ rfl) hk) ⟨⟨_, rfl, rfl⟩, hT⟩
      | 3, _ => exact stepV rfl rfl (execLdT rfl (hdep _ rfl 2 rfl _ rfl _ rfl) (pair_cells (FT.on hT).tap hk).1 (pair_cells (FT.on hT).tap hk).2) ⟨⟨_, rfl, rfl⟩, hT⟩
      | 4, _ => exact stepC rfl rfl (execCall1 Try.func15 (by kernel_rfl) (by kernel_rfl) rfl (hdep _ rfl 3 rfl _ rfl _ rfl)) (left_any (P k) (Ln k) (At k) X (by omega) (by omega)) fun e w' hh => ⟨_, hh.1, ⟨_, rfl, rfl⟩, hT.trans (hh.2.mono hT.size)⟩
      | 5, _ => exact stepV rfl rfl (execMvB rfl ((hf 4 (by decide)).trans t4)) ⟨⟨_, rfl, rfl⟩, hT⟩
      | 6, _ => exact stepV rfl rfl (execMvB rfl ((hf 27 (by decide)).trans t27)) ⟨⟨_, rfl, rfl⟩, hT⟩
      | 7, _ => exact stepV rfl rfl (execIdxK (k := k) rfl (hdep _ rfl 5 rfl _ rfl _ rfl) (hdep _ rfl 6 rfl _ rfl _ rfl) hk) ⟨⟨_, rfl, rfl⟩, hT⟩
      | 8, _ => exact stepV rfl rfl (execFldK0 rfl (hdep _ rfl 7 rfl _ rfl _ rfl)) ⟨⟨_, rfl, rfl⟩, hT⟩
      | 9, _ => exact stepV rfl rfl (execLdL rfl (hdep _ rfl 8 rfl _ rfl _ rfl) (pair_cells (FT.on hT).boo hk).1) ⟨⟨_, rfl, rfl⟩, hT⟩
      | 10, _ => exact stepV rfl rfl (execLenV (len := Ln k) rfl (hdep _ rfl 9 rfl _ rfl _ rfl) (shp9 (FT.ok k hk).2.2.1)) ⟨⟨_, rfl, rfl⟩, hT⟩
      | 11, _ => exact stepV rfl rfl (execMvB rfl ((hf 4 (by decide)).trans t4)) ⟨⟨_, rfl, rfl⟩, hT⟩
      | 12, _ => exact stepV rfl rfl (execMvB rfl ((hf 27 (by decide)).trans t27)) ⟨⟨_, rfl, rfl⟩, hT⟩
      | 13, _ => exact stepV rfl rfl (execIdxK (k := k) rfl (hdep _ rfl 11 rfl _ rfl _ rfl) (hdep _ rfl 12 rfl _ rfl _ rfl) hk) ⟨⟨_, rfl, rfl⟩, hT⟩
      | 14, _ => exact stepV rfl rfl (execFldK1 rfl (hdep _ rfl 13 rfl _ rfl _ rfl)) ⟨⟨_, rfl, rfl⟩, hT⟩
      | 15, _ => exact stepV rfl rfl (execLd3 rfl (hdep _ rfl 14 rfl _ rfl _ rfl) (pair_cells (FT.on hT).boo hk).2) ⟨⟨_, rfl, rfl⟩, hT⟩
      | 16, _ => exact stepV rfl rfl (By8.execSubI (p := Ln k) (q := At k) rfl (hdep _ rfl 10 rfl _ rfl _ rfl) (hdep _ rfl 15 rfl _ rfl _ rfl) hat (by omega)) ⟨⟨_, rfl, rfl⟩, hT⟩
      | 17, _ => exact stepV rfl rfl (execDec (execNeN (p := (Ln k) - (At k)) (q := Ln k - At k) rfl (hdep _ rfl 4 rfl _ rfl _ rfl) (hdep _ rfl 16 rfl _ rfl _ rfl)) (decide_eq_false (by omega))) ⟨⟨_, rfl, rfl⟩, hT⟩
      | 18, _ => exact stepV rfl rfl (execMvB rfl (hdep _ rfl 17 rfl _ rfl _ rfl)) ⟨⟨_, rfl, rfl⟩, hT⟩
      | 19, _ => exact stepV rfl (wantedOf rfl (yieldedAt rfl rfl (show a.eval (.tmp 221) = .bool false from (hdep _ rfl 18 rfl _ rfl _ rfl)))) (execMvB rfl ((hf 3 (by decide)).trans t3)) ⟨⟨_, rfl, rfl⟩, hT⟩
      | 20, _ => exact stepV rfl (wantedOf rfl (yieldedAt rfl rfl (show a.eval (.tmp 221) = .bool false from (hdep _ rfl 18 rfl _ rfl _ rfl)))) (execMvB rfl ((hf 27 (by decide)).trans t27)) ⟨⟨_, rfl, rfl⟩, hT⟩
      | 21, _ => exact stepV rfl (wantedOf rfl (yieldedAt rfl rfl (show a.eval (.tmp 221) = .bool false from (hdep _ rfl 18 rfl _ rfl _ rfl)))) (execIdxT (k := k) rfl (hdep _ rfl 19 rfl _ rfl _ rfl) (hdep _ rfl 20 rfl _ rfl _ rfl) hk) ⟨⟨_, rfl, rfl⟩, hT⟩
      | 22, _ => exact stepV rfl (wantedOf rfl (yieldedAt rfl rfl (show a.eval (.tmp 221) = .bool false from (hdep _ rfl 18 rfl _ rfl _ rfl)))) (execLdT rfl (hdep _ rfl 21 rfl _ rfl _ rfl) (pair_cells (FT.on hT).tap hk).1 (pair_cells (FT.on hT).tap hk).2) ⟨⟨_, rfl, rfl⟩, hT⟩
      | 23, _ => exact stepC rfl (wantedOf rfl (yieldedAt rfl rfl (show a.eval (.tmp 221) = .bool false from (hdep _ rfl 18 rfl _ rfl _ rfl)))) (execCall1 Try.func16 (by kernel_rfl) (by kernel_rfl) rfl (hdep _ rfl 22 rfl _ rfl _ rfl)) (used_any (P k) (Ln k) (At k) X) fun e w' hh => ⟨_, hh.1, ⟨_, rfl, rfl⟩, hT.trans (hh.2.mono hT.size)⟩
      | 24, _ => exact stepV rfl (wantedOf rfl (yieldedAt rfl rfl (show a.eval (.tmp 221) = .bool false from (hdep _ rfl 18 rfl _ rfl _ rfl)))) (execMvB rfl ((hf 4 (by decide)).trans t4)) ⟨⟨_, rfl, rfl⟩, hT⟩
      | 25, _ => exact stepV rfl (wantedOf rfl (yieldedAt rfl rfl (show a.eval (.tmp 221) = .bool false from (hdep _ rfl 18 rfl _ rfl _ rfl)))) (execMvB rfl ((hf 27 (by decide)).trans t27)) ⟨⟨_, rfl, rfl⟩, hT⟩
      | 26, _ => exact stepV rfl (wantedOf rfl (yieldedAt rfl rfl (show a.eval (.tmp 221) = .bool false from (hdep _ rfl 18 rfl _ rfl _ rfl)))) (execIdxK (k := k) rfl (hdep _ rfl 24 rfl _ rfl _ rfl) (hdep _ rfl 25 rfl _ rfl _ rfl) hk) ⟨⟨_, rfl, rfl⟩, hT⟩
      | 27, _ => exact stepV rfl (wantedOf rfl (yieldedAt rfl rfl (show a.eval (.tmp 221) = .bool false from (hdep _ rfl 18 rfl _ rfl _ rfl)))) (execFldK1 rfl (hdep _ rfl 26 rfl _ rfl _ rfl)) ⟨⟨_, rfl, rfl⟩, hT⟩
      | 28, _ => exact stepV rfl (wantedOf rfl (yieldedAt rfl rfl (show a.eval (.tmp 221) = .bool false from (hdep _ rfl 18 rfl _ rfl _ rfl)))) (execLd3 rfl (hdep _ rfl 27 rfl _ rfl _ rfl) (pair_cells (FT.on hT).boo hk).2) ⟨⟨_, rfl, rfl⟩, hT⟩
      | 29, _ => exact stepV rfl (wantedOf rfl (yieldedAt rfl rfl (show a.eval (.tmp 221) = .bool false from (hdep _ rfl 18 rfl _ rfl _ rfl)))) (execDec (execNeN (p := (At k)) (q := At k) rfl (hdep _ rfl 23 rfl _ rfl _ rfl) (hdep _ rfl 28 rfl _ rfl _ rfl)) (decide_eq_false (by omega))) ⟨⟨_, rfl, rfl⟩, hT⟩
      | 30, _ => exact stepV rfl rfl (execPickF rfl (hdep _ rfl 18 rfl _ rfl _ rfl) (hdep _ rfl 29 rfl _ rfl _ rfl)) ⟨⟨_, rfl, rfl⟩, hT⟩
      | k_ + 31, h_ => exact absurd h_ (by simp)
    intro l_ a X47 h1 h2 h3 h4 hall hT
    clear hall
    clear BB
    have BB := hT
    clear hT
    replace t3 := (h3 3 (by decide)).trans t3
    replace t4 := (h3 4 (by decide)).trans t4
    replace t6 := (h3 6 (by decide)).trans t6
    replace t39 := (h3 39 (by decide)).trans t39
    replace t40 := (h3 40 (by decide)).trans t40
    replace t41 := (h3 41 (by decide)).trans t41
    replace t193 := (h3 193 (by decide)).trans t193
    have t233 : a.eval (.tmp 233) = .bool false := h4 (30, 233) (by decide)
    replace A := (⟨h1, h2.trans A.2⟩ : a.tmps.size = 270 ∧ a.defers = [])
    clear h1 h2 h3 h4
    clear t27
    refine wp_cond_false t233 ?_
    refine wp_skip ?_
    clear t233
    refine wp_region_sq (σ := Unit) 270 [(0, 234), (1, 193)] (fun j_ s X => match j_ with | 0 => Below X43.heap.size X43 X | 1 => Below X43.heap.size X43 X | _ => Below X43.heap.size X43 X) (fun s => fun i_ => match i_ with | 0 => .int .i64 ((ix + 1 : Nat) : Int) | 1 => .int .i64 ((ix + 1 : Nat) : Int) | _ => undef) () A.1 (by kernel_rfl) (by decide) (by decide) (BB) ?_ ?_
    · intro i_ hi_ s a X hf hv hn hS
      match i_, hi_ with
      | 0, _ => exact stepV rfl rfl (execAd8 (p := ix) (q := 1) rfl ((hn 1 (by omega) _ rfl _ rfl).trans t193) rfl (by omega)) ⟨s, ⟨_, rfl, rfl⟩, hS, fun _ _ => rfl⟩
      | 1, _ => exact stepV rfl rfl (execMvB rfl (hv 0 (by omega) _ rfl _ rfl)) ⟨s, ⟨_, rfl, rfl⟩, hS, fun _ _ => rfl⟩
      | k_ + 2, h_ => exact absurd h_ (by simp)
    rintro _ a X49 h1 h2 h3 h4 hS
    clear BB
    replace hS : Below X43.heap.size X43 X49 := hS
    have BB := hS
    clear hS
    replace t3 := (h3 3 (by decide)).trans t3
    replace t4 := (h3 4 (by decide)).trans t4
    replace t6 := (h3 6 (by decide)).trans t6
    replace t39 := (h3 39 (by decide)).trans t39
    replace t40 := (h3 40 (by decide)).trans t40
    replace t41 := (h3 41 (by decide)).trans t41
    replace t193 : a.eval (.tmp 193) = .int .i64 ((ix + 1 : Nat) : Int) := h4 1 _ rfl _ rfl
    replace A := (⟨h1, h2.trans A.2⟩ : a.tmps.size = 270 ∧ a.defers = [])
    clear h1 h2 h3 h4
    exact ⟨⟨ix + 1, hlt, A, t3, t4, t6, t39, t40, t41, t193, BB⟩, by show 3 - (intOf (a.eval (.tmp 193))).toNat < 3 - (intOf (Act.eval _ (.tmp 193))).toNat; rw [t193, e193]; show 3 - (ix + 1) < 3 - ix; omega⟩
  · rw [decide_eq_false hlt] at t194
    refine wp_cond_false t194 ?_
    refine wp_exit ?_
    first | refine exit_in ?_ | refine exit_then (exit_in ?_) | refine exit_then (exit_then (exit_in ?_))
    exact hQ a _ A t3 t4 t39 t40 t41 (BW.trans (BB.mono BW.size)) (FT.on BB)
set_option maxRecDepth 100000 in
set_option maxHeartbeats 4000000 in
theorem scr_end (V W : World) (tv bv : Value) (m : Nat) (P : Nat → Nat → Nat) (Ln At : Nat → Nat) (pvs : Nat → Value) (FT : TB V tv bv m P Ln At pvs W) (hm : m ≤ 3000000000000) (BW : Below V.heap.size V W)
    (a : Act) (A : a.tmps.size = 270 ∧ a.defers = []) (t3 : a.eval (.tmp 3) = tv) (t4 : a.eval (.tmp 4) = bv) :
    (findR 51 (Try.f3.body.getD .skip)).wp Try.prog (bodyPost Try.prog Try.f3 fun e w' => e = .returned (.bool true) ∧ Below V.heap.size V w') a W := by
  obtain ⟨tg, tc, rfl, _, _⟩ := ownL_some FT.tap FT.pos
  obtain ⟨bg, bc, rfl, _, _⟩ := ownL_some FT.boo FT.pos
  refine wp_seq ?_
  refine wp_seq ?_
  refine wp_region_sq (σ := Unit) 270 [(0, 236), (1, 237), (2, 238)] (fun j_ s X => match j_ with | 0 => Below W.heap.size W X | 1 => Below W.heap.size W X | 2 => Below W.heap.size W X | _ => Below W.heap.size W X) (fun s => fun i_ => match i_ with | 0 => .slice (some ⟨tg, 0, none⟩) m tc | 1 => .int .i64 ((m : Nat) : Int) | 2 => .int .i64 ((0 : Nat) : Int) | _ => undef) () A.1 (by kernel_rfl) (by decide) (by decide) (Below.refl _ _) ?_ ?_
  · intro i_ hi_ s a X hf hv hn hS
    match i_, hi_ with
    | 0, _ => exact stepV rfl rfl (execMvB rfl ((hf 3 (by decide)).trans t3)) ⟨s, ⟨_, rfl, rfl⟩, hS, fun _ _ => rfl⟩
    | 1, _ => exact stepV rfl rfl (execLenT (len := m) rfl (hv 0 (by omega) _ rfl _ rfl) ⟨_, _, rfl⟩) ⟨s, ⟨_, rfl, rfl⟩, hS, fun _ _ => rfl⟩
    | 2, _ => exact stepV rfl rfl (execMvB rfl rfl) ⟨s, ⟨_, rfl, rfl⟩, hS, fun _ _ => rfl⟩
    | k_ + 3, h_ => exact absurd h_ (by simp)
  rintro _ a X51 h1 h2 h3 h4 hS
  replace hS : Below W.heap.size W X51 := hS
  have bX := hS
  clear hS
  replace t4 := (h3 4 (by decide)).trans t4
  have t236 : a.eval (.tmp 236) = .slice (some ⟨tg, 0, none⟩) m tc := h4 0 _ rfl _ rfl
  have t237 : a.eval (.tmp 237) = .int .i64 ((m : Nat) : Int) := h4 1 _ rfl _ rfl
  have t238 : a.eval (.tmp 238) = .int .i64 ((0 : Nat) : Int) := h4 2 _ rfl _ rfl
  replace FT := (FT.on bX)
  have ZX51 := bX.size
  replace BW := BW.trans (bX.mono BW.size)
  clear bX
  replace A := (⟨h1, h2.trans A.2⟩ : a.tmps.size = 270 ∧ a.defers = [])
  clear h1 h2 h3 h4
  clear t3
  have BB : Below X51.heap.size X51 X51 := Below.refl _ _
  refine wp_block ?_
  refine wp_loop (fun a W => ∃ (k : Nat), k ≤ m ∧ ((a.tmps.size = 270 ∧ a.defers = []) ∧ a.eval (.tmp 4) = .slice (some ⟨bg, 0, none⟩) m bc ∧ a.eval (.tmp 236) = .slice (some ⟨tg, 0, none⟩) m tc ∧ a.eval (.tmp 237) = .int .i64 ((m : Nat) : Int) ∧ a.eval (.tmp 238) = .int .i64 ((k : Nat) : Int) ∧ Below X51.heap.size X51 W)) (fun a _ => m - (intOf (a.eval (.tmp 238))).toNat) ⟨0, Nat.zero_le _, A, t4, t236, t237, t238, BB⟩ ?_
  clear A t4 t236 t237 t238 BB a
  rintro a XL ⟨k, hix, A, t4, t236, t237, t238, BB⟩
  have e238 := t238
  refine wp_seq ?_
  refine wp_region_sq (σ := Unit) 270 [(0, 239)] (fun j_ s X => match j_ with | 0 => Below X51.heap.size X51 X | _ => Below X51.heap.size X51 X) (fun s => fun i_ => match i_ with | 0 => .bool (decide (k < m)) | _ => undef) () A.1 (by kernel_rfl) (by decide) (by decide) (BB) ?_ ?_
  · intro i_ hi_ s a X hf hv hn hS
    match i_, hi_ with
    | 0, _ => exact stepV rfl rfl (execLtW (p := k) (q := m) rfl ((hf 238 (by decide)).trans t238) ((hf 237 (by decide)).trans t237)) ⟨s, ⟨_, rfl, rfl⟩, hS, fun _ _ => rfl⟩
    | k_ + 1, h_ => exact absurd h_ (by simp)
  rintro _ a X52 h1 h2 h3 h4 hS
  clear BB
  replace hS : Below X51.heap.size X51 X52 := hS
  have BB := hS
  clear hS
  replace t4 := (h3 4 (by decide)).trans t4
  replace t236 := (h3 236 (by decide)).trans t236
  replace t237 := (h3 237 (by decide)).trans t237
  replace t238 := (h3 238 (by decide)).trans t238
  have t239 : a.eval (.tmp 239) = .bool (decide (k < m)) := h4 0 _ rfl _ rfl
  replace A := (⟨h1, h2.trans A.2⟩ : a.tmps.size = 270 ∧ a.defers = [])
  clear h1 h2 h3 h4
  refine wp_seq ?_
  by_cases hk : k < m
  · rw [decide_eq_true hk] at t239
    refine wp_cond_true t239 ?_
    refine wp_skip ?_
    clear t239
    obtain ⟨hat, hlk, hsk, hzk⟩ := FT.ok k hk
    have hpk := hsk.bytes
    obtain ⟨pa, pc, epk⟩ := shp9 hsk
    obtain ⟨pz, epz⟩ : ∃ pz, sliced pa (At k) (Ln k) pc 1 = pz := ⟨_, rfl⟩
    have hpz : SliceN V pz (Ln k - At k) (fun j => P k (At k + j)) := by
      have h := hsk
      rw [epk] at h
      have := h.sub (At k) (Ln k) hat (Nat.le_refl _)
      rw [epz] at this
      exact this
    refine wp_seq ?_
    refine wp_block ?_
    refine wp_seq ?_
    refine wp_region_sq (σ := Nat) 270 [(0, 240), (1, 241), (2, 242), (3, 29), (4, 28)] (fun j_ s X => match j_ with | 0 => Below X51.heap.size X51 X | 1 => Below X51.heap.size X51 X | 2 => Below X51.heap.size X51 X | 3 => Below X51.heap.size X51 X | 4 => Below X51.heap.size X51 X ∧ X.heap[s]? = some (.cells (tpC (fun _ => 0) 0 0) 25) ∧ (X51.heap.size ≤ s) | 5 => Below X51.heap.size X51 X ∧ X.heap[s]? = some (.cells (tpC (fun _ => 0) 0 0) 25) ∧ (X51.heap.size ≤ s) | _ => Below X51.heap.size X51 X ∧ (X51.heap.size ≤ s) ∧ X.heap[s]? = some (.cells (tpC (P k) (Ln k) (At k)) 25)) (fun s => fun i_ => match i_ with | 0 => .int .i64 ((k : Nat) : Int) | 1 => .pointer (some ⟨tg, k * 2, none⟩) | 2 => .agg (tpC (P k) (Ln k) (At k)) | 3 => .pointer (some ⟨s, 0, none⟩) | 4 => .int .i64 ((k : Nat) : Int) | 5 => undef | _ => undef) 0 A.1 (by kernel_rfl) (by decide) (by decide) (BB) ?_ ?_
    · intro i_ hi_ s a X hf hv hn hS
      match i_, hi_ with
      | 0, _ => exact stepV rfl rfl (execMvB rfl ((hf 238 (by decide)).trans t238)) ⟨s, ⟨_, rfl, rfl⟩, hS, fun _ _ => rfl⟩
      | 1, _ => exact stepV rfl rfl (execIdxT (k := k) rfl ((hf 236 (by decide)).trans t236) ((hf 238 (by decide)).trans t238) hk) ⟨s, ⟨_, rfl, rfl⟩, hS, fun _ _ => rfl⟩
      | 2, _ => exact stepV rfl rfl (execLdT rfl (hv 1 (by omega) _ rfl _ rfl) (pair_cells (FT.on hS).tap hk).1 (pair_cells (FT.on hS).tap hk).2) ⟨s, ⟨_, rfl, rfl⟩, hS, fun _ _ => rfl⟩
      | 3, _ =>
        refine stepV rfl rfl (execAllTp rfl (fun _ => 0)) ⟨X.heap.size, ⟨_, rfl, rfl⟩, ⟨(hS).trans (((belNew X _)).mono (hS).size), heapNew X _, (hS).size⟩, fun i hi => ?_⟩
        match i, hi with
        | 0, _ => rfl
        | 1, _ => rfl
        | 2, _ => rfl
        | n_ + 3, h_ => omega
      | 4, _ => exact stepV rfl rfl (execAsgB rfl (hv 0 (by omega) _ rfl _ rfl)) ⟨s, ⟨_, rfl, rfl⟩, hS, fun _ _ => rfl⟩
      | 5, _ => exact stepS rfl rfl (execStTp rfl (hv 3 (by omega) _ rfl _ rfl) (hv 2 (by omega) _ rfl _ rfl) hS.2.1 rfl) ⟨s, ⟨_, rfl, rfl⟩, ⟨below4 hS.1 hS.2.2 _, hS.2.2, setRow_heap _ _ _ _ _ _ hS.2.1⟩, fun _ _ => rfl⟩
      | k_ + 6, h_ => exact absurd h_ (by simp)
    rintro g29 a X53 h1 h2 h3 h4 hS
    clear BB
    replace hS : Below X51.heap.size X51 X53 ∧ (X51.heap.size ≤ g29) ∧ X53.heap[g29]? = some (.cells (tpC (P k) (Ln k) (At k)) 25) := hS
    obtain ⟨BB, Fge29, F29⟩ := hS
    replace t4 := (h3 4 (by decide)).trans t4
    replace t236 := (h3 236 (by decide)).trans t236
    replace t237 := (h3 237 (by decide)).trans t237
    replace t238 := (h3 238 (by decide)).trans t238
    have t28 : a.eval (.tmp 28) = .int .i64 ((k : Nat) : Int) := h4 4 _ rfl _ rfl
    have t29 : a.eval (.tmp 29) = .pointer (some ⟨g29, 0, none⟩) := h4 3 _ rfl _ rfl
    replace A := (⟨h1, h2.trans A.2⟩ : a.tmps.size = 270 ∧ a.defers = [])
    clear h1 h2 h3 h4
    refine wp_seq ?_
    refine wp_region_stB (σ := Value × Nat) 270 [(0, 244), (1, 245), (2, 246), (3, 247), (4, 243), (5, 248), (6, 249), (7, 250), (8, 31), (9, 30), (11, 32)] (fun l_ s X => Below X51.heap.size X51 X ∧ ((X51.heap.size ≤ g29)) ∧ (X.heap[g29]? = some (.cells (tpC (P k) (Ln k) (At k)) 25)) ∧ (l_ 3 = true → OwnM X (X51.heap.size) s.1 (((Ln k) - (At k))) (fun j => (P k) ((At k) + j))) ∧ (l_ 8 = true → l_ 10 = false → X.heap[s.2]? = some (.cells (tpC (fun _ => 0) 0 0) 25)) ∧ (l_ 8 = true → (X51.heap.size ≤ s.2)) ∧ (l_ 8 = true → (g29 ≠ s.2)) ∧ (l_ 10 = true → X.heap[s.2]? = some (.cells (tpC (P k) (Ln k) ((At k) + ((Ln k) - (At k)))) 25))) (fun s => fun i_ => match i_ with | 0 => .agg (tpC (P k) (Ln k) (At k)) | 1 => .agg (tpC (P k) (Ln k) (At k)) | 2 => .int .i64 (((Ln k) - (At k) : Nat) : Int) | 3 => .tuple #[s.1, .agg (tpC (P k) (Ln k) ((At k) + ((Ln k) - (At k)))), .int .i64 ((0 : Nat) : Int)] | 4 => .tuple #[s.1, .agg (tpC (P k) (Ln k) ((At k) + ((Ln k) - (At k)))), .int .i64 ((0 : Nat) : Int)] | 5 => s.1 | 6 => .agg (tpC (P k) (Ln k) ((At k) + ((Ln k) - (At k)))) | 7 => .int .i64 ((0 : Nat) : Int) | 8 => .pointer (some ⟨s.2, 0, none⟩) | 9 => s.1 | 10 => undef | 11 => .int .i64 ((0 : Nat) : Int) | _ => undef) (undef, 0) (by kernel_rfl) (by kernel_rfl) A.1 (by kernel_rfl) (by decide) (by decide) ⟨(BB.drew), (Fge29), ((on9 F29 (Below.refl _ _).drew)), (fun q0_ => by cases q0_), (fun q0_ q1_ => by cases q0_), (fun q0_ => by cases q0_), (fun q0_ => by cases q0_), (fun q0_ => by cases q0_)⟩ ?_ ?_
    · intro i_ hi_ l_ s a X hl_ hf hdep hl2 hcl hno hT
      have up : ∀ j x, x ≠ j → updB l_ j x = l_ x := fun j x hj => by unfold updB; simp [hj]
      match i_, hi_ with
      | 0, _ => exact stepV rfl rfl (execLdTp rfl ((hf 29 (by decide)).trans t29) hT.2.2.1) ⟨s, ⟨_, rfl, rfl⟩, ⟨hT.1, (hT.2.1), (hT.2.2.1), (fun q0_ => absurd (hl_.symm.trans (hcl 3 _ rfl ((up 0 3 (by decide)).symm.trans q0_) 0 rfl)) (by decide)), (fun q0_ q1_ => (hT.2.2.2.2.1 (by rw [up 0 8 (by decide)] at q0_; exact q0_) (by rw [up 0 10 (by decide)] at q1_; exact q1_))), (fun q0_ => (hT.2.2.2.2.2.1 (by rw [up 0 8 (by decide)] at q0_; exact q0_))), (fun q0_ => (hT.2.2.2.2.2.2.1 (by rw [up 0 8 (by decide)] at q0_; exact q0_))), (fun q0_ => absurd (hl_.symm.trans (hcl 10 _ rfl ((up 0 10 (by decide)).symm.trans q0_) 0 rfl)) (by decide))⟩, fun _ _ _ => rfl⟩
      | 1, _ => exact stepV rfl rfl (execLdTp rfl ((hf 29 (by decide)).trans t29) hT.2.2.1) ⟨s, ⟨_, rfl, rfl⟩, ⟨hT.1, (hT.2.1), (hT.2.2.1), (fun q0_ => absurd (hl_.symm.trans (hcl 2 _ rfl (hcl 3 _ rfl ((up 1 3 (by decide)).symm.trans q0_) 2 rfl) 1 rfl)) (by decide)), (fun q0_ q1_ => (hT.2.2.2.2.1 (by rw [up 1 8 (by decide)] at q0_; exact q0_) (by rw [up 1 10 (by decide)] at q1_; exact q1_))), (fun q0_ => (hT.2.2.2.2.2.1 (by rw [up 1 8 (by decide)] at q0_; exact q0_))), (fun q0_ => (hT.2.2.2.2.2.2.1 (by rw [up 1 8 (by decide)] at q0_; exact q0_))), (fun q0_ => absurd (hl_.symm.trans (hcl 10 _ rfl ((up 1 10 (by decide)).symm.trans q0_) 1 rfl)) (by decide))⟩, fun _ _ _ => rfl⟩
      | 2, _ => exact stepC rfl rfl (execCall1 Try.func15 (by kernel_rfl) (by kernel_rfl) rfl (hdep _ rfl 1 rfl _ rfl _ rfl)) (left_any (P k) (Ln k) (At k) X (by omega) (by omega)) fun e w' hh => ⟨_, hh.1, s, ⟨_, rfl, rfl⟩, ⟨hT.1.trans (hh.2.mono hT.1.size), (hT.2.1), ((on9 hT.2.2.1 hh.2)), (fun q0_ => absurd (hl_.symm.trans (hcl 3 _ rfl ((up 2 3 (by decide)).symm.trans q0_) 2 rfl)) (by decide)), (fun q0_ q1_ => (on9 (hT.2.2.2.2.1 (by rw [up 2 8 (by decide)] at q0_; exact q0_) (by rw [up 2 10 (by decide)] at q1_; exact q1_)) hh.2)), (fun q0_ => (hT.2.2.2.2.2.1 (by rw [up 2 8 (by decide)] at q0_; exact q0_))), (fun q0_ => (hT.2.2.2.2.2.2.1 (by rw [up 2 8 (by decide)] at q0_; exact q0_))), (fun q0_ => absurd (hl_.symm.trans (hcl 10 _ rfl ((up 2 10 (by decide)).symm.trans q0_) 2 rfl)) (by decide))⟩, fun _ _ _ => rfl⟩
      | 3, _ =>
        refine stepC rfl rfl (execCall2 Try.func13 (by kernel_rfl) (by kernel_rfl) rfl (hdep _ rfl 0 rfl _ rfl _ rfl) (hdep _ rfl 2 rfl _ rfl _ rfl)) (take_ok (P k) (Ln k) (At k) ((Ln k) - (At k)) X (by omega) (by omega) hpk) fun e w' hh => ?_
        obtain ⟨r_, he, hk, hb⟩ := hh
        refine ⟨_, he, (r_, s.2), ⟨_, rfl, rfl⟩, ⟨hT.1.trans ((hb).mono hT.1.size), (hT.2.1), ((on9 hT.2.2.1 hb)), (fun _q0_ => hk.base (hT.1).size), (fun q0_ q1_ => (on9 (hT.2.2.2.2.1 (by rw [up 3 8 (by decide)] at q0_; exact q0_) (by rw [up 3 10 (by decide)] at q1_; exact q1_)) hb)), (fun q0_ => (hT.2.2.2.2.2.1 (by rw [up 3 8 (by decide)] at q0_; exact q0_))), (fun q0_ => (hT.2.2.2.2.2.2.1 (by rw [up 3 8 (by decide)] at q0_; exact q0_))), (fun q0_ => absurd (hl_.symm.trans (hcl 10 _ rfl ((up 3 10 (by decide)).symm.trans q0_) 3 rfl)) (by decide))⟩, fun i hi hli => ?_⟩
        match i, hi with
        | 0, _ => rfl
        | 1, _ => rfl
        | 2, _ => rfl
        | 3, _ => exact absurd (hl_.symm.trans hli) (by decide)
        | 4, _ => exact absurd (hl_.symm.trans (hcl 4 _ rfl hli 3 rfl)) (by decide)
        | 5, _ => exact absurd (hl_.symm.trans (hcl 4 _ rfl (hcl 5 _ rfl hli 4 rfl) 3 rfl)) (by decide)
        | 6, _ => rfl
        | 7, _ => rfl
        | 8, _ => rfl
        | 9, _ => exact absurd (hl_.symm.trans (hcl 9 _ rfl hli 3 rfl)) (by decide)
        | 10, _ => rfl
        | 11, _ => rfl
        | k_ + 12, h_ => exact absurd h_ (by simp)
      | 4, _ => exact stepV rfl rfl (execMvB rfl (hdep _ rfl 3 rfl _ rfl _ rfl)) ⟨s, ⟨_, rfl, rfl⟩, ⟨hT.1, (hT.2.1), (hT.2.2.1), (fun q0_ => (hT.2.2.2.1 (by rw [up 4 3 (by decide)] at q0_; exact q0_))), (fun q0_ q1_ => (hT.2.2.2.2.1 (by rw [up 4 8 (by decide)] at q0_; exact q0_) (by rw [up 4 10 (by decide)] at q1_; exact q1_))), (fun q0_ => (hT.2.2.2.2.2.1 (by rw [up 4 8 (by decide)] at q0_; exact q0_))), (fun q0_ => (hT.2.2.2.2.2.2.1 (by rw [up 4 8 (by decide)] at q0_; exact q0_))), (fun q0_ => absurd (hl_.symm.trans (hcl 10 _ rfl ((up 4 10 (by decide)).symm.trans q0_) 4 rfl)) (by decide))⟩, fun _ _ _ => rfl⟩
      | 5, _ => exact stepV rfl rfl (execExtT rfl (hdep _ rfl 4 rfl _ rfl _ rfl) rfl) ⟨s, ⟨_, rfl, rfl⟩, ⟨hT.1, (hT.2.1), (hT.2.2.1), (fun q0_ => (hT.2.2.2.1 (by rw [up 5 3 (by decide)] at q0_; exact q0_))), (fun q0_ q1_ => (hT.2.2.2.2.1 (by rw [up 5 8 (by decide)] at q0_; exact q0_) (by rw [up 5 10 (by decide)] at q1_; exact q1_))), (fun q0_ => (hT.2.2.2.2.2.1 (by rw [up 5 8 (by decide)] at q0_; exact q0_))), (fun q0_ => (hT.2.2.2.2.2.2.1 (by rw [up 5 8 (by decide)] at q0_; exact q0_))), (fun q0_ => absurd (hl_.symm.trans (hcl 10 _ rfl ((up 5 10 (by decide)).symm.trans q0_) 5 rfl)) (by decide))⟩, fun _ _ _ => rfl⟩
      | 6, _ => exact stepV rfl rfl (execExtT rfl (hdep _ rfl 4 rfl _ rfl _ rfl) rfl) ⟨s, ⟨_, rfl, rfl⟩, ⟨hT.1, (hT.2.1), (hT.2.2.1), (fun q0_ => (hT.2.2.2.1 (by rw [up 6 3 (by decide)] at q0_; exact q0_))), (fun q0_ q1_ => (hT.2.2.2.2.1 (by rw [up 6 8 (by decide)] at q0_; exact q0_) (by rw [up 6 10 (by decide)] at q1_; exact q1_))), (fun q0_ => (hT.2.2.2.2.2.1 (by rw [up 6 8 (by decide)] at q0_; exact q0_))), (fun q0_ => (hT.2.2.2.2.2.2.1 (by rw [up 6 8 (by decide)] at q0_; exact q0_))), (fun q0_ => absurd (hl_.symm.trans (hcl 10 _ rfl ((up 6 10 (by decide)).symm.trans q0_) 6 rfl)) (by decide))⟩, fun _ _ _ => rfl⟩
      | 7, _ => exact stepV rfl rfl (execExtT rfl (hdep _ rfl 4 rfl _ rfl _ rfl) rfl) ⟨s, ⟨_, rfl, rfl⟩, ⟨hT.1, (hT.2.1), (hT.2.2.1), (fun q0_ => (hT.2.2.2.1 (by rw [up 7 3 (by decide)] at q0_; exact q0_))), (fun q0_ q1_ => (hT.2.2.2.2.1 (by rw [up 7 8 (by decide)] at q0_; exact q0_) (by rw [up 7 10 (by decide)] at q1_; exact q1_))), (fun q0_ => (hT.2.2.2.2.2.1 (by rw [up 7 8 (by decide)] at q0_; exact q0_))), (fun q0_ => (hT.2.2.2.2.2.2.1 (by rw [up 7 8 (by decide)] at q0_; exact q0_))), (fun q0_ => (hT.2.2.2.2.2.2.2 (by rw [up 7 10 (by decide)] at q0_; exact q0_)))⟩, fun _ _ _ => rfl⟩
      | 8, _ =>
        refine stepV rfl rfl (execAllTp rfl (fun _ => 0)) ⟨(s.1, X.heap.size), ⟨_, rfl, rfl⟩, ⟨hT.1.trans (((belNew X _)).mono hT.1.size), (hT.2.1), ((on9 hT.2.2.1 (belNew X _))), (fun q0_ => ((hT.2.2.2.1 (by rw [up 8 3 (by decide)] at q0_; exact q0_)).on (belNew X _))), (fun _q0_ _q1_ => heapNew X _), (fun _q0_ => (hT.1).size), (fun _q0_ => ne9 hT.2.2.1), (fun q0_ => absurd (hl_.symm.trans (hcl 10 _ rfl ((up 8 10 (by decide)).symm.trans q0_) 8 rfl)) (by decide))⟩, fun i hi hli => ?_⟩
        match i, hi with
        | 0, _ => rfl
        | 1, _ => rfl
        | 2, _ => rfl
        | 3, _ => rfl
        | 4, _ => rfl
        | 5, _ => rfl
        | 6, _ => rfl
        | 7, _ => rfl
        | 8, _ => exact absurd (hl_.symm.trans hli) (by decide)
        | 9, _ => rfl
        | 10, _ => rfl
        | 11, _ => rfl
        | k_ + 12, h_ => exact absurd h_ (by simp)
      | 9, _ => exact stepV rfl rfl (execAsgB rfl (hdep _ rfl 5 rfl _ rfl _ rfl)) ⟨s, ⟨_, rfl, rfl⟩, ⟨hT.1, (hT.2.1), (hT.2.2.1), (fun q0_ => (hT.2.2.2.1 (by rw [up 9 3 (by decide)] at q0_; exact q0_))), (fun q0_ q1_ => (hT.2.2.2.2.1 (by rw [up 9 8 (by decide)] at q0_; exact q0_) (by rw [up 9 10 (by decide)] at q1_; exact q1_))), (fun q0_ => (hT.2.2.2.2.2.1 (by rw [up 9 8 (by decide)] at q0_; exact q0_))), (fun q0_ => (hT.2.2.2.2.2.2.1 (by rw [up 9 8 (by decide)] at q0_; exact q0_))), (fun q0_ => absurd (hl_.symm.trans (hcl 10 _ rfl ((up 9 10 (by decide)).symm.trans q0_) 9 rfl)) (by decide))⟩, fun _ _ _ => rfl⟩
      | 10, _ => exact stepS rfl rfl (execStTp rfl (hdep _ rfl 8 rfl _ rfl _ rfl) (hdep _ rfl 6 rfl _ rfl _ rfl) (hT.2.2.2.2.1 (hl2 _ rfl 8 rfl) hl_) rfl) ⟨s, ⟨_, rfl, rfl⟩, ⟨below4 hT.1 (hT.2.2.2.2.2.1 (hl2 _ rfl 8 rfl)) _, (hT.2.1), ((by rw [setRow_other _ _ _ _ ((hT.2.2.2.2.2.2.1 (hl2 _ rfl 8 rfl)))]; exact hT.2.2.1)), (fun q0_ => ((hT.2.2.2.1 (by rw [up 10 3 (by decide)] at q0_; exact q0_)).set (hT.2.2.2.2.1 (hl2 _ rfl 8 rfl) hl_) (by decide))), (fun q0_ q1_ => absurd q1_ (by unfold updB; simp)), (fun q0_ => (hT.2.2.2.2.2.1 (by rw [up 10 8 (by decide)] at q0_; exact q0_))), (fun q0_ => (hT.2.2.2.2.2.2.1 (by rw [up 10 8 (by decide)] at q0_; exact q0_))), (fun _q0_ => setRow_heap _ _ _ _ _ _ (hT.2.2.2.2.1 (hl2 _ rfl 8 rfl) hl_))⟩, fun _ _ _ => rfl⟩
      | 11, _ => exact stepV rfl rfl (execAsgB rfl (hdep _ rfl 7 rfl _ rfl _ rfl)) ⟨s, ⟨_, rfl, rfl⟩, ⟨hT.1, (hT.2.1), (hT.2.2.1), (fun q0_ => (hT.2.2.2.1 (by rw [up 11 3 (by decide)] at q0_; exact q0_))), (fun q0_ q1_ => absurd (q1_.symm.trans ((up 11 10 (by decide)).trans (hl2 _ rfl 10 rfl))) (by decide)), (fun q0_ => (hT.2.2.2.2.2.1 (by rw [up 11 8 (by decide)] at q0_; exact q0_))), (fun q0_ => (hT.2.2.2.2.2.2.1 (by rw [up 11 8 (by decide)] at q0_; exact q0_))), (fun q0_ => (hT.2.2.2.2.2.2.2 (by rw [up 11 10 (by decide)] at q0_; exact q0_)))⟩, fun _ _ _ => rfl⟩
      | k_ + 12, h_ => exact absurd h_ (by simp)
    rintro l_ ⟨v247, g31⟩ a X54 h1 h2 h3 h4 hall hT
    clear BB
    clear Fge29
    clear F29
    obtain ⟨BB, Fge29, F29, Fv247, F31, Fge31, Fn31F29, F31s⟩ := hT
    replace Fge29 : (X51.heap.size ≤ g29) := Fge29
    replace F29 : X54.heap[g29]? = some (.cells (tpC (P k) (Ln k) (At k)) 25) := F29
    replace Fv247 : OwnM X54 (X51.heap.size) v247 (((Ln k) - (At k))) (fun j => (P k) ((At k) + j)) := Fv247 (hall 3 (by decide))
    clear F31
    replace Fge31 : (X51.heap.size ≤ g31) := Fge31 (hall 8 (by decide))
    replace Fn31F29 : (g29 ≠ g31) := Fn31F29 (hall 8 (by decide))
    replace F31s : X54.heap[g31]? = some (.cells (tpC (P k) (Ln k) ((At k) + ((Ln k) - (At k)))) 25) := F31s (hall 10 (by decide))
    clear hall
    replace t4 := (h3 4 (by decide)).trans t4
    replace t236 := (h3 236 (by decide)).trans t236
    replace t237 := (h3 237 (by decide)).trans t237
    replace t238 := (h3 238 (by decide)).trans t238
    replace t28 := (h3 28 (by decide)).trans t28
    have t30 : a.eval (.tmp 30) = v247 := h4 (9, 30) (by decide)
    have t32 : a.eval (.tmp 32) = .int .i64 ((0 : Nat) : Int) := h4 (11, 32) (by decide)
    replace A := (⟨h1, h2.trans A.2⟩ : a.tmps.size = 270 ∧ a.defers = [])
    clear h1 h2 h3 h4
    clear t29
    refine wp_seq ?_
    refine wp_region_detA 270 [(0, 251), (1, 252), (2, 253), (3, 254), (4, 255), (5, 256), (6, 257), (7, 258), (8, 259), (9, 260), (10, 261), (11, 262), (12, 263), (13, 264), (14, 265), (15, 266), (16, 267), (17, 268)] (fun i_ => match i_ with | 0 => .int .i64 ((0 : Nat) : Int) | 1 => .bool false | 2 => .bool false | 3 => v247 | 4 => .slice (some ⟨bg, 0, none⟩) m bc | 5 => .int .i64 ((k : Nat) : Int) | 6 => .pointer (some ⟨bg, k * 2, none⟩) | 7 => .pointer (some ⟨bg, k * 2, none⟩) | 8 => (pvs k) | 9 => .slice (some ⟨bg, 0, none⟩) m bc | 10 => .int .i64 ((k : Nat) : Int) | 11 => .pointer (some ⟨bg, k * 2, none⟩) | 12 => .pointer (some ⟨bg, k * 2 + 1, none⟩) | 13 => .int .i64 ((At k : Nat) : Int) | 14 => pz | 15 => .bool true | 16 => .bool false | 17 => .bool false | _ => undef) (fun _ X => Below X51.heap.size X51 X ∧ (X51.heap.size ≤ g29) ∧ X.heap[g29]? = some (.cells (tpC (P k) (Ln k) (At k)) 25) ∧ OwnM X (X51.heap.size) v247 (((Ln k) - (At k))) (fun j => (P k) ((At k) + j)) ∧ (X51.heap.size ≤ g31) ∧ (g29 ≠ g31) ∧ X.heap[g31]? = some (.cells (tpC (P k) (Ln k) ((At k) + ((Ln k) - (At k)))) 25)) (by kernel_rfl) (by kernel_rfl) A.1 (by kernel_rfl) (by decide) (by decide) ⟨BB.drew, Fge29, (on9 F29 (Below.refl _ _).drew), (Fv247.on (Below.refl _ _).drew), Fge31, Fn31F29, (on9 F31s (Below.refl _ _).drew)⟩ ?_ ?_
    · intro i_ hi_ l_ a X hl_ hf hdep hl2 hcl hno hT
      match i_, hi_ with
      | 0, _ => exact stepV rfl rfl (execMvB rfl ((hf 32 (by decide)).trans t32)) ⟨⟨_, rfl, rfl⟩, hT⟩
      | 1, _ => exact stepV rfl rfl (execDec (execNeE (p := 0) (q := 0) rfl (hdep _ rfl 0 rfl _ rfl _ rfl) rfl) (decide_eq_false (by omega))) ⟨⟨_, rfl, rfl⟩, hT⟩
      | 2, _ => exact stepV rfl rfl (execMvB rfl (hdep _ rfl 1 rfl _ rfl _ rfl)) ⟨⟨_, rfl, rfl⟩, hT⟩
      | 3, _ => exact stepV rfl (wantedOf rfl (yieldedAt rfl rfl (show a.eval (.tmp 253) = .bool false from (hdep _ rfl 2 rfl _ rfl _ rfl)))) (execMvB rfl ((hf 30 (by decide)).trans t30)) ⟨⟨_, rfl, rfl⟩, hT⟩
      | 4, _ => exact stepV rfl (wantedOf rfl (yieldedAt rfl rfl (show a.eval (.tmp 253) = .bool false from (hdep _ rfl 2 rfl _ rfl _ rfl)))) (execMvB rfl ((hf 4 (by decide)).trans t4)) ⟨⟨_, rfl, rfl⟩, hT⟩
      | 5, _ => exact stepV rfl (wantedOf rfl (yieldedAt rfl rfl (show a.eval (.tmp 253) = .bool false from (hdep _ rfl 2 rfl _ rfl _ rfl)))) (execMvB rfl ((hf 28 (by decide)).trans t28)) ⟨⟨_, rfl, rfl⟩, hT⟩
      | 6, _ => exact stepV rfl (wantedOf rfl (yieldedAt rfl rfl (show a.eval (.tmp 253) = .bool false from (hdep _ rfl 2 rfl _ rfl _ rfl)))) (execIdxK (k := k) rfl (hdep _ rfl 4 rfl _ rfl _ rfl) (hdep _ rfl 5 rfl _ rfl _ rfl) hk) ⟨⟨_, rfl, rfl⟩, hT⟩
      | 7, _ => exact stepV rfl (wantedOf rfl (yieldedAt rfl rfl (show a.eval (.tmp 253) = .bool false from (hdep _ rfl 2 rfl _ rfl _ rfl)))) (execFldK0 rfl (hdep _ rfl 6 rfl _ rfl _ rfl)) ⟨⟨_, rfl, rfl⟩, hT⟩
      | 8, _ => exact stepV rfl (wantedOf rfl (yieldedAt rfl rfl (show a.eval (.tmp 253) = .bool false from (hdep _ rfl 2 rfl _ rfl _ rfl)))) (execLdL rfl (hdep _ rfl 7 rfl _ rfl _ rfl) (pair_cells (FT.on hT.1).boo hk).1) ⟨⟨_, rfl, rfl⟩, hT⟩
      | 9, _ => exact stepV rfl (wantedOf rfl (yieldedAt rfl rfl (show a.eval (.tmp 253) = .bool false from (hdep _ rfl 2 rfl _ rfl _ rfl)))) (execMvB rfl ((hf 4 (by decide)).trans t4)) ⟨⟨_, rfl, rfl⟩, hT⟩
      | 10, _ => exact stepV rfl (wantedOf rfl (yieldedAt rfl rfl (show a.eval (.tmp 253) = .bool false from (hdep _ rfl 2 rfl _ rfl _ rfl)))) (execMvB rfl ((hf 28 (by decide)).trans t28)) ⟨⟨_, rfl, rfl⟩, hT⟩
      | 11, _ => exact stepV rfl (wantedOf rfl (yieldedAt rfl rfl (show a.eval (.tmp 253) = .bool false from (hdep _ rfl 2 rfl _ rfl _ rfl)))) (execIdxK (k := k) rfl (hdep _ rfl 9 rfl _ rfl _ rfl) (hdep _ rfl 10 rfl _ rfl _ rfl) hk) ⟨⟨_, rfl, rfl⟩, hT⟩
      | 12, _ => exact stepV rfl (wantedOf rfl (yieldedAt rfl rfl (show a.eval (.tmp 253) = .bool false from (hdep _ rfl 2 rfl _ rfl _ rfl)))) (execFldK1 rfl (hdep _ rfl 11 rfl _ rfl _ rfl)) ⟨⟨_, rfl, rfl⟩, hT⟩
      | 13, _ => exact stepV rfl (wantedOf rfl (yieldedAt rfl rfl (show a.eval (.tmp 253) = .bool false from (hdep _ rfl 2 rfl _ rfl _ rfl)))) (execLd3 rfl (hdep _ rfl 12 rfl _ rfl _ rfl) (pair_cells (FT.on hT.1).boo hk).2) ⟨⟨_, rfl, rfl⟩, hT⟩
      | 14, _ => exact stepV rfl (wantedOf rfl (yieldedAt rfl rfl (show a.eval (.tmp 253) = .bool false from (hdep _ rfl 2 rfl _ rfl _ rfl)))) (epz ▸ By8.execSlL rfl ((hdep _ rfl 8 rfl _ rfl _ rfl).trans epk) (hdep _ rfl 13 rfl _ rfl _ rfl) (By8.slice_l pa (Ln k) pc (At k) hat X)) ⟨⟨_, rfl, rfl⟩, hT⟩
      | 15, _ => exact stepC rfl (wantedOf rfl (yieldedAt rfl rfl (show a.eval (.tmp 253) = .bool false from (hdep _ rfl 2 rfl _ rfl _ rfl)))) (execCall2 Try.func10 (by kernel_rfl) (by kernel_rfl) rfl (hdep _ rfl 3 rfl _ rfl _ rfl) (hdep _ rfl 14 rfl _ rfl _ rfl)) (same_true _ _ (((Ln k) - (At k))) _ _ X hT.2.2.2.1.slice ((hpz.on BW).on hT.1) (by intro j hj; rfl)) fun e w' hh => ⟨_, hh.1, ⟨_, rfl, rfl⟩, by rw [hh.2]; exact hT⟩
      | 16, _ => exact stepV rfl (wantedOf rfl (yieldedAt rfl rfl (show a.eval (.tmp 253) = .bool false from (hdep _ rfl 2 rfl _ rfl _ rfl)))) (execNot8 rfl (hdep _ rfl 15 rfl _ rfl _ rfl)) ⟨⟨_, rfl, rfl⟩, hT⟩
      | 17, _ => exact stepV rfl rfl (execPickF rfl (hdep _ rfl 2 rfl _ rfl _ rfl) (hdep _ rfl 16 rfl _ rfl _ rfl)) ⟨⟨_, rfl, rfl⟩, hT⟩
      | k_ + 18, h_ => exact absurd h_ (by simp)
    intro l_ a X55 h1 h2 h3 h4 hall hT
    clear hall
    clear BB
    clear Fge29
    clear F29
    clear Fv247
    clear Fge31
    clear Fn31F29
    clear F31s
    obtain ⟨BB, Fge29, F29, Fv247, Fge31, Fn31F29, F31s⟩ := hT
    replace t4 := (h3 4 (by decide)).trans t4
    replace t236 := (h3 236 (by decide)).trans t236
    replace t237 := (h3 237 (by decide)).trans t237
    replace t238 := (h3 238 (by decide)).trans t238
    have t268 : a.eval (.tmp 268) = .bool false := h4 (17, 268) (by decide)
    replace A := (⟨h1, h2.trans A.2⟩ : a.tmps.size = 270 ∧ a.defers = [])
    clear h1 h2 h3 h4
    clear t28 t30 t32
    refine wp_cond_false t268 ?_
    refine wp_skip ?_
    clear t268
    refine wp_region_sq (σ := Unit) 270 [(0, 269), (1, 238)] (fun j_ s X => match j_ with | 0 => Below X51.heap.size X51 X ∧ (X51.heap.size ≤ g29) ∧ X.heap[g29]? = some (.cells (tpC (P k) (Ln k) (At k)) 25) ∧ OwnM X (X51.heap.size) v247 (((Ln k) - (At k))) (fun j => (P k) ((At k) + j)) ∧ (X51.heap.size ≤ g31) ∧ (g29 ≠ g31) ∧ X.heap[g31]? = some (.cells (tpC (P k) (Ln k) ((At k) + ((Ln k) - (At k)))) 25) | 1 => Below X51.heap.size X51 X ∧ (X51.heap.size ≤ g29) ∧ X.heap[g29]? = some (.cells (tpC (P k) (Ln k) (At k)) 25) ∧ OwnM X (X51.heap.size) v247 (((Ln k) - (At k))) (fun j => (P k) ((At k) + j)) ∧ (X51.heap.size ≤ g31) ∧ (g29 ≠ g31) ∧ X.heap[g31]? = some (.cells (tpC (P k) (Ln k) ((At k) + ((Ln k) - (At k)))) 25) | _ => Below X51.heap.size X51 X ∧ (X51.heap.size ≤ g29) ∧ X.heap[g29]? = some (.cells (tpC (P k) (Ln k) (At k)) 25) ∧ OwnM X (X51.heap.size) v247 (((Ln k) - (At k))) (fun j => (P k) ((At k) + j)) ∧ (X51.heap.size ≤ g31) ∧ (g29 ≠ g31) ∧ X.heap[g31]? = some (.cells (tpC (P k) (Ln k) ((At k) + ((Ln k) - (At k)))) 25)) (fun s => fun i_ => match i_ with | 0 => .int .i64 ((k + 1 : Nat) : Int) | 1 => .int .i64 ((k + 1 : Nat) : Int) | _ => undef) () A.1 (by kernel_rfl) (by decide) (by decide) ⟨BB, Fge29, F29, Fv247, Fge31, Fn31F29, F31s⟩ ?_ ?_
    · intro i_ hi_ s a X hf hv hn hS
      match i_, hi_ with
      | 0, _ => exact stepV rfl rfl (execAd8 (p := k) (q := 1) rfl ((hn 1 (by omega) _ rfl _ rfl).trans t238) rfl (by omega)) ⟨s, ⟨_, rfl, rfl⟩, hS, fun _ _ => rfl⟩
      | 1, _ => exact stepV rfl rfl (execMvB rfl (hv 0 (by omega) _ rfl _ rfl)) ⟨s, ⟨_, rfl, rfl⟩, hS, fun _ _ => rfl⟩
      | k_ + 2, h_ => exact absurd h_ (by simp)
    rintro _ a X57 h1 h2 h3 h4 hS
    clear BB
    clear Fge29
    clear F29
    clear Fv247
    clear Fge31
    clear Fn31F29
    clear F31s
    replace hS : Below X51.heap.size X51 X57 ∧ (X51.heap.size ≤ g29) ∧ X57.heap[g29]? = some (.cells (tpC (P k) (Ln k) (At k)) 25) ∧ OwnM X57 (X51.heap.size) v247 (((Ln k) - (At k))) (fun j => (P k) ((At k) + j)) ∧ (X51.heap.size ≤ g31) ∧ (g29 ≠ g31) ∧ X57.heap[g31]? = some (.cells (tpC (P k) (Ln k) ((At k) + ((Ln k) - (At k)))) 25) := hS
    obtain ⟨BB, Fge29, F29, Fv247, Fge31, Fn31F29, F31s⟩ := hS
    replace t4 := (h3 4 (by decide)).trans t4
    replace t236 := (h3 236 (by decide)).trans t236
    replace t237 := (h3 237 (by decide)).trans t237
    replace t238 : a.eval (.tmp 238) = .int .i64 ((k + 1 : Nat) : Int) := h4 1 _ rfl _ rfl
    replace A := (⟨h1, h2.trans A.2⟩ : a.tmps.size = 270 ∧ a.defers = [])
    clear h1 h2 h3 h4
    exact ⟨⟨k + 1, hk, A, t4, t236, t237, t238, BB⟩, by show m - (intOf (a.eval (.tmp 238))).toNat < m - (intOf (Act.eval _ (.tmp 238))).toNat; rw [t238, e238]; show m - (k + 1) < m - k; omega⟩
  · rw [decide_eq_false hk] at t239
    refine wp_cond_false t239 ?_
    refine wp_exit ?_
    first | refine exit_in ?_ | refine exit_then (exit_in ?_) | refine exit_then (exit_then (exit_in ?_))
    refine wp_seq ?_
    refine wp_region_sq (σ := Unit) 270 [(0, 2)] (fun j_ s X => match j_ with | 0 => Below X51.heap.size X51 X | _ => Below X51.heap.size X51 X) (fun s => fun i_ => match i_ with | 0 => .bool true | _ => undef) () A.1 (by kernel_rfl) (by decide) (by decide) (BB) ?_ ?_
    · intro i_ hi_ s a X hf hv hn hS
      match i_, hi_ with
      | 0, _ => exact stepV rfl rfl (execAsgB rfl rfl) ⟨s, ⟨_, rfl, rfl⟩, hS, fun _ _ => rfl⟩
      | k_ + 1, h_ => exact absurd h_ (by simp)
    rintro _ a X58 h1 h2 h3 h4 hS
    clear BB
    replace hS : Below X51.heap.size X51 X58 := hS
    have BB := hS
    clear hS
    have t2 : a.eval (.tmp 2) = .bool true := h4 0 _ rfl _ rfl
    replace A := (⟨h1, h2.trans A.2⟩ : a.tmps.size = 270 ∧ a.defers = [])
    clear h1 h2 h3 h4
    clear t4 t236 t237 t238
    refine wp_ret ?_
    refine bodyPost_ret (results_tmp rfl _ _ _) A.2 ⟨?_, BW.trans (BB.mono BW.size)⟩
    show Ending.returned (a.eval (.tmp 2)) = _
    rw [t2]
end Go.Proofs.Ytigkmgoidbamnaa.Tap
