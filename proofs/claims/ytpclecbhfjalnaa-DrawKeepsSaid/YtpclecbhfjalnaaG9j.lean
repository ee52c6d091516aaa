import Derived.Test.YtpclecbhfjalnaaG9i
namespace Go.Proofs.Ytpclecbhfjalnaa.Drw
open Go.RowKit Gf8 Aes By8 Cel Cf Tap
/- The laws' alive, DrawAlls, DrawTurns over any Impl. Written by tools/mkG9j.py. -/

theorem cell_on9 {W X : World} {b o : Nat} {v : Value} (h : W.cell? ⟨b, o, none⟩ = some v) (hb : Below W.heap.size W X) : X.cell? ⟨b, o, none⟩ = some v := by
  rw [cell_below hb (World.block_lt_of_cell? W _ h)]
  exact h
theorem int1 (V : World) (z : Int) (h : -9223372036854775808 ≤ z ∧ z < 9223372036854775808) : SliceI (V.alloc (.cells #[.int .i64 z] 3)) (.slice (some ⟨V.heap.size, 0, none⟩) 1 1) 1 (fun _ => z) :=
  lit_ints (heapNew V _) (fun j hj => by
    match j, hj with
    | 0, _ => rfl
    | k + 1, h => omega) (fun _ _ => h) (by omega)
theorem allN_le (p : Nat → Nat) (l : Nat) (bs : Nat → Int) (n : Nat) : allN p l bs n ≤ n := by
  unfold allN
  by_cases h : allE p l bs n = 0
  · rw [if_pos h]; exact Nat.le_refl _
  · rw [if_neg h]; omega
set_option maxRecDepth 100000 in
set_option maxHeartbeats 4000000 in
theorem alive10 (I : Impl) (V : World) : Calls Try.prog 9 #[] V fun e w' => e = .returned (.bool true) ∧ Below V.heap.size V w' := by
  have hl1 : ∀ j, j < 3 → l1 j < 256 := by decide
  have hpb : ∀ j, j < 1 → (fun _ : Nat => 5) j < 256 := by decide
  go_enter Try.func9, Try.ntmps9
  refine wp_seq ?_
  refine wp_region_sqK 83 [(0, 0)] (fun i_ => match i_ with | 0 => .bool false | _ => undef) rfl (by kernel_rfl) (by decide) (by decide) ?_ ?_
  · intro i_ hi_ a hf hv hn
    match i_, hi_ with
    | 0, _ => exact stepV rfl rfl (execAsgB rfl rfl) ⟨⟨_, rfl, rfl⟩, rfl⟩
    | k_ + 1, h_ => exact absurd h_ (by simp)
  intro a h1 h2 h3 h4
  have A : a.tmps.size = 83 ∧ a.defers = [] := ⟨h1, h2⟩
  have BW : Below V.heap.size V V := Below.refl _ _
  clear h1 h2 h3 h4
  refine wp_seq ?_
  refine wp_region_sq (σ := Nat × Nat) 83 [(0, 10), (1, 11), (2, 12), (3, 9), (4, 13), (5, 14), (6, 15), (7, 2), (8, 1), (10, 3)] (fun j_ s X => match j_ with | 0 => Below V.heap.size V X | 1 => Below V.heap.size V X ∧ SliceN X (.slice (some ⟨s.1, 0, none⟩) 3 3) (3) (l1) | 2 => Below V.heap.size V X ∧ SliceN X (.slice (some ⟨s.1, 0, none⟩) 3 3) (3) (l1) | 3 => Below V.heap.size V X ∧ SliceN X (.slice (some ⟨s.1, 0, none⟩) 3 3) (3) (l1) | 4 => Below V.heap.size V X ∧ SliceN X (.slice (some ⟨s.1, 0, none⟩) 3 3) (3) (l1) | 5 => Below V.heap.size V X ∧ SliceN X (.slice (some ⟨s.1, 0, none⟩) 3 3) (3) (l1) | 6 => Below V.heap.size V X ∧ SliceN X (.slice (some ⟨s.1, 0, none⟩) 3 3) (3) (l1) | 7 => Below V.heap.size V X ∧ SliceN X (.slice (some ⟨s.1, 0, none⟩) 3 3) (3) (l1) | 8 => Below V.heap.size V X ∧ SliceN X (.slice (some ⟨s.1, 0, none⟩) 3 3) (3) (l1) ∧ X.heap[s.2]? = some (.cells (tpC (fun _ => 0) 0 0) 26) ∧ (V.heap.size ≤ s.2) | 9 => Below V.heap.size V X ∧ SliceN X (.slice (some ⟨s.1, 0, none⟩) 3 3) (3) (l1) ∧ X.heap[s.2]? = some (.cells (tpC (fun _ => 0) 0 0) 26) ∧ (V.heap.size ≤ s.2) | 10 => Below V.heap.size V X ∧ (V.heap.size ≤ s.2) ∧ X.heap[s.2]? = some (.cells (tpC l1 (if dE l1 3 0 ((3 : Nat) : Int) = 0 then 3 else 0) (dN l1 3 0 ((3 : Nat) : Int))) 26) | _ => Below V.heap.size V X ∧ (V.heap.size ≤ s.2) ∧ X.heap[s.2]? = some (.cells (tpC l1 (if dE l1 3 0 ((3 : Nat) : Int) = 0 then 3 else 0) (dN l1 3 0 ((3 : Nat) : Int))) 26)) (fun s => fun i_ => match i_ with | 0 => .slice (some ⟨s.1, 0, none⟩) 3 3 | 1 => .agg (tpC l1 3 0) | 2 => .tuple #[.int .i64 ((dV l1 3 0 ((3 : Nat) : Int) : Nat) : Int), .agg (tpC l1 (if dE l1 3 0 ((3 : Nat) : Int) = 0 then 3 else 0) (dN l1 3 0 ((3 : Nat) : Int))), .int .i64 ((dE l1 3 0 ((3 : Nat) : Int) : Nat) : Int)] | 3 => .tuple #[.int .i64 ((dV l1 3 0 ((3 : Nat) : Int) : Nat) : Int), .agg (tpC l1 (if dE l1 3 0 ((3 : Nat) : Int) = 0 then 3 else 0) (dN l1 3 0 ((3 : Nat) : Int))), .int .i64 ((dE l1 3 0 ((3 : Nat) : Int) : Nat) : Int)] | 4 => .int .i64 ((dV l1 3 0 ((3 : Nat) : Int) : Nat) : Int) | 5 => .agg (tpC l1 (if dE l1 3 0 ((3 : Nat) : Int) = 0 then 3 else 0) (dN l1 3 0 ((3 : Nat) : Int))) | 6 => .int .i64 ((dE l1 3 0 ((3 : Nat) : Int) : Nat) : Int) | 7 => .pointer (some ⟨s.2, 0, none⟩) | 8 => .int .i64 ((dV l1 3 0 ((3 : Nat) : Int) : Nat) : Int) | 9 => undef | 10 => .int .i64 ((dE l1 3 0 ((3 : Nat) : Int) : Nat) : Int) | _ => undef) (0, 0) A.1 (by kernel_rfl) (by decide) (by decide) (Below.refl _ _) ?_ ?_
  · intro i_ hi_ s a X hf hv hn hS
    match i_, hi_ with
    | 0, _ =>
      refine stepV rfl rfl (execLitB rfl) ⟨(X.heap.size, s.2), ⟨_, rfl, rfl⟩, ⟨(hS).trans (((belNew X _)).mono (hS).size), sliceB1 X⟩, fun i hi => ?_⟩
      omega
    | 1, _ => exact stepC rfl rfl (execCall1 Try.func10 (by kernel_rfl) (by kernel_rfl) rfl (hv 0 (by omega) _ rfl _ rfl)) (new_any l1 3 _ X hS.2) fun e w' hh => ⟨_, hh.1, s, ⟨_, rfl, rfl⟩, ⟨(hS.1).trans ((hh.2).mono (hS.1).size), (hS.2.on hh.2)⟩, fun _ _ => rfl⟩
    | 2, _ => exact stepC rfl rfl (execCall2 Try.func13 (by kernel_rfl) (by kernel_rfl) rfl (hv 1 (by omega) _ rfl _ rfl) rfl) (I.below l1 3 0 ((3 : Nat) : Int) X (by decide) (by decide) hl1) fun e w' hh => ⟨_, hh.1, s, ⟨_, rfl, rfl⟩, ⟨(hS.1).trans ((hh.2).mono (hS.1).size), (hS.2.on hh.2)⟩, fun _ _ => rfl⟩
    | 3, _ => exact stepV rfl rfl (execMvB rfl (hv 2 (by omega) _ rfl _ rfl)) ⟨s, ⟨_, rfl, rfl⟩, hS, fun _ _ => rfl⟩
    | 4, _ => exact stepV rfl rfl (execExtT rfl (hv 3 (by omega) _ rfl _ rfl) rfl) ⟨s, ⟨_, rfl, rfl⟩, hS, fun _ _ => rfl⟩
    | 5, _ => exact stepV rfl rfl (execExtT rfl (hv 3 (by omega) _ rfl _ rfl) rfl) ⟨s, ⟨_, rfl, rfl⟩, hS, fun _ _ => rfl⟩
    | 6, _ => exact stepV rfl rfl (execExtT rfl (hv 3 (by omega) _ rfl _ rfl) rfl) ⟨s, ⟨_, rfl, rfl⟩, hS, fun _ _ => rfl⟩
    | 7, _ =>
      refine stepV rfl rfl (execAllTp rfl (fun _ => 0)) ⟨(s.1, X.heap.size), ⟨_, rfl, rfl⟩, ⟨(hS.1).trans (((belNew X _)).mono (hS.1).size), (hS.2.on (belNew X _)), heapNew X _, (hS.1).size⟩, fun i hi => ?_⟩
      match i, hi with
      | 0, _ => rfl
      | 1, _ => rfl
      | 2, _ => rfl
      | 3, _ => rfl
      | 4, _ => rfl
      | 5, _ => rfl
      | 6, _ => rfl
      | n_ + 7, h_ => omega
    | 8, _ => exact stepV rfl rfl (execAsgB rfl (hv 4 (by omega) _ rfl _ rfl)) ⟨s, ⟨_, rfl, rfl⟩, hS, fun _ _ => rfl⟩
    | 9, _ => exact stepS rfl rfl (execStTp rfl (hv 7 (by omega) _ rfl _ rfl) (hv 5 (by omega) _ rfl _ rfl) hS.2.2.1 rfl) ⟨s, ⟨_, rfl, rfl⟩, ⟨below4 hS.1 hS.2.2.2 _, hS.2.2.2, setRow_heap _ _ _ _ _ _ hS.2.2.1⟩, fun _ _ => rfl⟩
    | 10, _ => exact stepV rfl rfl (execAsgB rfl (hv 6 (by omega) _ rfl _ rfl)) ⟨s, ⟨_, rfl, rfl⟩, hS, fun _ _ => rfl⟩
    | k_ + 11, h_ => exact absurd h_ (by simp)
  rintro ⟨g10, g2⟩ a X1 h1 h2 h3 h4 hS
  replace hS : Below V.heap.size V X1 ∧ (V.heap.size ≤ g2) ∧ X1.heap[g2]? = some (.cells (tpC l1 (if dE l1 3 0 ((3 : Nat) : Int) = 0 then 3 else 0) (dN l1 3 0 ((3 : Nat) : Int))) 26) := hS
  obtain ⟨bX, Fge2, F2⟩ := hS
  have t1 : a.eval (.tmp 1) = .int .i64 ((dV l1 3 0 ((3 : Nat) : Int) : Nat) : Int) := h4 8 _ rfl _ rfl
  have t2 : a.eval (.tmp 2) = .pointer (some ⟨g2, 0, none⟩) := h4 7 _ rfl _ rfl
  have t3 : a.eval (.tmp 3) = .int .i64 ((dE l1 3 0 ((3 : Nat) : Int) : Nat) : Int) := h4 10 _ rfl _ rfl
  have ZX1 := bX.size
  replace BW := BW.trans (bX.mono BW.size)
  clear bX
  replace A := (⟨h1, h2.trans A.2⟩ : a.tmps.size = 83 ∧ a.defers = [])
  clear h1 h2 h3 h4
  refine wp_seq ?_
  refine wp_region_sq (σ := Nat × Nat × Value) 83 [(0, 17), (1, 18), (2, 19), (3, 16), (4, 20), (5, 21), (6, 22), (7, 4), (8, 5), (9, 6)] (fun j_ s X => match j_ with | 0 => Below X1.heap.size X1 X | 1 => Below X1.heap.size X1 X ∧ SliceN X (.slice (some ⟨s.1, 0, none⟩) 3 3) (3) (l1) | 2 => Below X1.heap.size X1 X ∧ SliceN X (.slice (some ⟨s.1, 0, none⟩) 3 3) (3) (l1) ∧ (SliceI X (.slice (some ⟨s.2.1, 0, none⟩) 3 3) (3) (b1)) | 3 => Below X1.heap.size X1 X ∧ SliceN X (.slice (some ⟨s.1, 0, none⟩) 3 3) (3) (l1) ∧ (SliceI X (.slice (some ⟨s.2.1, 0, none⟩) 3 3) (3) (b1)) ∧ (SliceI X s.2.2 (allN l1 3 b1 3) (fun i => (dA l1 3 b1 i : Int))) | 4 => Below X1.heap.size X1 X ∧ SliceN X (.slice (some ⟨s.1, 0, none⟩) 3 3) (3) (l1) ∧ (SliceI X (.slice (some ⟨s.2.1, 0, none⟩) 3 3) (3) (b1)) ∧ (SliceI X s.2.2 (allN l1 3 b1 3) (fun i => (dA l1 3 b1 i : Int))) | 5 => Below X1.heap.size X1 X ∧ SliceN X (.slice (some ⟨s.1, 0, none⟩) 3 3) (3) (l1) ∧ (SliceI X (.slice (some ⟨s.2.1, 0, none⟩) 3 3) (3) (b1)) ∧ (SliceI X s.2.2 (allN l1 3 b1 3) (fun i => (dA l1 3 b1 i : Int))) | 6 => Below X1.heap.size X1 X ∧ SliceN X (.slice (some ⟨s.1, 0, none⟩) 3 3) (3) (l1) ∧ (SliceI X (.slice (some ⟨s.2.1, 0, none⟩) 3 3) (3) (b1)) ∧ (SliceI X s.2.2 (allN l1 3 b1 3) (fun i => (dA l1 3 b1 i : Int))) | 7 => Below X1.heap.size X1 X ∧ SliceN X (.slice (some ⟨s.1, 0, none⟩) 3 3) (3) (l1) ∧ (SliceI X (.slice (some ⟨s.2.1, 0, none⟩) 3 3) (3) (b1)) ∧ (SliceI X s.2.2 (allN l1 3 b1 3) (fun i => (dA l1 3 b1 i : Int))) | 8 => Below X1.heap.size X1 X ∧ SliceN X (.slice (some ⟨s.1, 0, none⟩) 3 3) (3) (l1) ∧ (SliceI X (.slice (some ⟨s.2.1, 0, none⟩) 3 3) (3) (b1)) ∧ (SliceI X s.2.2 (allN l1 3 b1 3) (fun i => (dA l1 3 b1 i : Int))) | 9 => Below X1.heap.size X1 X ∧ SliceN X (.slice (some ⟨s.1, 0, none⟩) 3 3) (3) (l1) ∧ (SliceI X (.slice (some ⟨s.2.1, 0, none⟩) 3 3) (3) (b1)) ∧ (SliceI X s.2.2 (allN l1 3 b1 3) (fun i => (dA l1 3 b1 i : Int))) | _ => Below X1.heap.size X1 X ∧ SliceN X (.slice (some ⟨s.1, 0, none⟩) 3 3) (3) (l1) ∧ (SliceI X (.slice (some ⟨s.2.1, 0, none⟩) 3 3) (3) (b1)) ∧ (SliceI X s.2.2 (allN l1 3 b1 3) (fun i => (dA l1 3 b1 i : Int)))) (fun s => fun i_ => match i_ with | 0 => .slice (some ⟨s.1, 0, none⟩) 3 3 | 1 => .slice (some ⟨s.2.1, 0, none⟩) 3 3 | 2 => .tuple #[s.2.2, .int .i64 ((allK l1 3 b1 3 : Nat) : Int), .int .i64 ((allE l1 3 b1 3 : Nat) : Int)] | 3 => .tuple #[s.2.2, .int .i64 ((allK l1 3 b1 3 : Nat) : Int), .int .i64 ((allE l1 3 b1 3 : Nat) : Int)] | 4 => s.2.2 | 5 => .int .i64 ((allK l1 3 b1 3 : Nat) : Int) | 6 => .int .i64 ((allE l1 3 b1 3 : Nat) : Int) | 7 => s.2.2 | 8 => .int .i64 ((allK l1 3 b1 3 : Nat) : Int) | 9 => .int .i64 ((allE l1 3 b1 3 : Nat) : Int) | _ => undef) (0, 0, undef) A.1 (by kernel_rfl) (by decide) (by decide) (Below.refl _ _) ?_ ?_
  · intro i_ hi_ s a X hf hv hn hS
    match i_, hi_ with
    | 0, _ =>
      refine stepV rfl rfl (execLitB rfl) ⟨(X.heap.size, s.2.1, s.2.2), ⟨_, rfl, rfl⟩, ⟨(hS).trans (((belNew X _)).mono (hS).size), sliceB1 X⟩, fun i hi => ?_⟩
      omega
    | 1, _ =>
      refine stepV rfl rfl (execLitI rfl) ⟨(s.1, X.heap.size, s.2.2), ⟨_, rfl, rfl⟩, ⟨(hS.1).trans (((belNew X _)).mono (hS.1).size), (hS.2.on (belNew X _)), sliceI1 X⟩, fun i hi => ?_⟩
      match i, hi with
      | 0, _ => rfl
      | n_ + 1, h_ => omega
    | 2, _ =>
      refine stepC rfl rfl (execCall2 Try.func17 (by kernel_rfl) (by kernel_rfl) rfl (hv 0 (by omega) _ rfl _ rfl) (hv 1 (by omega) _ rfl _ rfl)) (I.all l1 3 b1 3 _ _ X hS.2.1 (by decide) hS.2.2 (by decide)) fun e w' hh => ?_
      obtain ⟨r_, he, hk, hb⟩ := hh
      refine ⟨_, he, (s.1, s.2.1, r_), ⟨_, rfl, rfl⟩, ⟨(hS.1).trans ((hb).mono (hS.1).size), (hS.2.1.on hb), (hS.2.2.on hb), own_ints hk (dA_fits _ _ _ _)⟩, fun i hi => ?_⟩
      match i, hi with
      | 0, _ => rfl
      | 1, _ => rfl
      | n_ + 2, h_ => omega
    | 3, _ => exact stepV rfl rfl (execMvB rfl (hv 2 (by omega) _ rfl _ rfl)) ⟨s, ⟨_, rfl, rfl⟩, hS, fun _ _ => rfl⟩
    | 4, _ => exact stepV rfl rfl (execExtT rfl (hv 3 (by omega) _ rfl _ rfl) rfl) ⟨s, ⟨_, rfl, rfl⟩, hS, fun _ _ => rfl⟩
    | 5, _ => exact stepV rfl rfl (execExtT rfl (hv 3 (by omega) _ rfl _ rfl) rfl) ⟨s, ⟨_, rfl, rfl⟩, hS, fun _ _ => rfl⟩
    | 6, _ => exact stepV rfl rfl (execExtT rfl (hv 3 (by omega) _ rfl _ rfl) rfl) ⟨s, ⟨_, rfl, rfl⟩, hS, fun _ _ => rfl⟩
    | 7, _ => exact stepV rfl rfl (execAsgB rfl (hv 4 (by omega) _ rfl _ rfl)) ⟨s, ⟨_, rfl, rfl⟩, hS, fun _ _ => rfl⟩
    | 8, _ => exact stepV rfl rfl (execAsgB rfl (hv 5 (by omega) _ rfl _ rfl)) ⟨s, ⟨_, rfl, rfl⟩, hS, fun _ _ => rfl⟩
    | 9, _ => exact stepV rfl rfl (execAsgB rfl (hv 6 (by omega) _ rfl _ rfl)) ⟨s, ⟨_, rfl, rfl⟩, hS, fun _ _ => rfl⟩
    | k_ + 10, h_ => exact absurd h_ (by simp)
  rintro ⟨g17, g18, v19⟩ a X2 h1 h2 h3 h4 hS
  replace hS : Below X1.heap.size X1 X2 ∧ SliceN X2 (.slice (some ⟨g17, 0, none⟩) 3 3) (3) (l1) ∧ (SliceI X2 (.slice (some ⟨g18, 0, none⟩) 3 3) (3) (b1)) ∧ (SliceI X2 v19 (allN l1 3 b1 3) (fun i => (dA l1 3 b1 i : Int))) := hS
  obtain ⟨bX, Fg17, Fg18, Fv19⟩ := hS
  replace t1 := (h3 1 (by decide)).trans t1
  replace t2 := (h3 2 (by decide)).trans t2
  replace t3 := (h3 3 (by decide)).trans t3
  have t4 : a.eval (.tmp 4) = v19 := h4 7 _ rfl _ rfl
  have t5 : a.eval (.tmp 5) = .int .i64 ((allK l1 3 b1 3 : Nat) : Int) := h4 8 _ rfl _ rfl
  have t6 : a.eval (.tmp 6) = .int .i64 ((allE l1 3 b1 3 : Nat) : Int) := h4 9 _ rfl _ rfl
  replace Fge2 := Fge2
  replace F2 := (on9 F2 bX)
  have ZX2 := bX.size
  replace BW := BW.trans (bX.mono BW.size)
  clear bX
  replace A := (⟨h1, h2.trans A.2⟩ : a.tmps.size = 83 ∧ a.defers = [])
  clear h1 h2 h3 h4
  rw [show allN l1 3 b1 3 = 3 by decide] at Fv19
  obtain ⟨da, dc, rfl, -, -, hd⟩ := id Fv19.shape
  obtain ⟨db, dq, rfl, hdb, hdc⟩ := hd (by decide)
  have FD0 : X2.cell? ⟨db, dq + 0, none⟩ = some (.int .i64 ((2 : Nat) : Int)) := hdc 0 (by decide)
  have FD2 : X2.cell? ⟨db, dq + 2, none⟩ = some (.int .i64 ((7 : Nat) : Int)) := hdc 2 (by decide)
  clear Fv19 hd hdc Fg17 Fg18
  refine wp_seq ?_
  refine wp_region_sq (σ := Nat × Nat × Nat × Value) 83 [(0, 24), (1, 25), (2, 26), (3, 27), (4, 23), (5, 28), (6, 29), (7, 7), (8, 8)] (fun j_ s X => match j_ with | 0 => Below X2.heap.size X2 X | 1 => Below X2.heap.size X2 X ∧ SliceN X (.slice (some ⟨s.1, 0, none⟩) 1 1) (1) (fun _ => 5) | 2 => Below X2.heap.size X2 X ∧ SliceN X (.slice (some ⟨s.1, 0, none⟩) 1 1) (1) (fun _ => 5) ∧ (SliceI X (.slice (some ⟨s.2.1, 0, none⟩) 1 1) (1) (fun _ => 2)) | 3 => Below X2.heap.size X2 X ∧ SliceN X (.slice (some ⟨s.1, 0, none⟩) 1 1) (1) (fun _ => 5) ∧ (SliceI X (.slice (some ⟨s.2.1, 0, none⟩) 1 1) (1) (fun _ => 2)) ∧ (SliceI X (.slice (some ⟨s.2.2.1, 0, none⟩) 1 1) (1) (fun _ => 0)) | 4 => Below X2.heap.size X2 X ∧ SliceN X (.slice (some ⟨s.1, 0, none⟩) 1 1) (1) (fun _ => 5) ∧ (SliceI X (.slice (some ⟨s.2.1, 0, none⟩) 1 1) (1) (fun _ => 2)) ∧ (SliceI X (.slice (some ⟨s.2.2.1, 0, none⟩) 1 1) (1) (fun _ => 0)) ∧ SliceN X s.2.2.2 (trN (fun _ => 5) 1 (fun _ => 2) 1 (fun _ => 0) 1) (trF (fun _ => 5) 1 (fun _ => 2) (fun _ => 0) 1) | 5 => Below X2.heap.size X2 X ∧ SliceN X (.slice (some ⟨s.1, 0, none⟩) 1 1) (1) (fun _ => 5) ∧ (SliceI X (.slice (some ⟨s.2.1, 0, none⟩) 1 1) (1) (fun _ => 2)) ∧ (SliceI X (.slice (some ⟨s.2.2.1, 0, none⟩) 1 1) (1) (fun _ => 0)) ∧ SliceN X s.2.2.2 (trN (fun _ => 5) 1 (fun _ => 2) 1 (fun _ => 0) 1) (trF (fun _ => 5) 1 (fun _ => 2) (fun _ => 0) 1) | 6 => Below X2.heap.size X2 X ∧ SliceN X (.slice (some ⟨s.1, 0, none⟩) 1 1) (1) (fun _ => 5) ∧ (SliceI X (.slice (some ⟨s.2.1, 0, none⟩) 1 1) (1) (fun _ => 2)) ∧ (SliceI X (.slice (some ⟨s.2.2.1, 0, none⟩) 1 1) (1) (fun _ => 0)) ∧ SliceN X s.2.2.2 (trN (fun _ => 5) 1 (fun _ => 2) 1 (fun _ => 0) 1) (trF (fun _ => 5) 1 (fun _ => 2) (fun _ => 0) 1) | 7 => Below X2.heap.size X2 X ∧ SliceN X (.slice (some ⟨s.1, 0, none⟩) 1 1) (1) (fun _ => 5) ∧ (SliceI X (.slice (some ⟨s.2.1, 0, none⟩) 1 1) (1) (fun _ => 2)) ∧ (SliceI X (.slice (some ⟨s.2.2.1, 0, none⟩) 1 1) (1) (fun _ => 0)) ∧ SliceN X s.2.2.2 (trN (fun _ => 5) 1 (fun _ => 2) 1 (fun _ => 0) 1) (trF (fun _ => 5) 1 (fun _ => 2) (fun _ => 0) 1) | 8 => Below X2.heap.size X2 X ∧ SliceN X (.slice (some ⟨s.1, 0, none⟩) 1 1) (1) (fun _ => 5) ∧ (SliceI X (.slice (some ⟨s.2.1, 0, none⟩) 1 1) (1) (fun _ => 2)) ∧ (SliceI X (.slice (some ⟨s.2.2.1, 0, none⟩) 1 1) (1) (fun _ => 0)) ∧ SliceN X s.2.2.2 (trN (fun _ => 5) 1 (fun _ => 2) 1 (fun _ => 0) 1) (trF (fun _ => 5) 1 (fun _ => 2) (fun _ => 0) 1) | _ => Below X2.heap.size X2 X ∧ SliceN X (.slice (some ⟨s.1, 0, none⟩) 1 1) (1) (fun _ => 5) ∧ (SliceI X (.slice (some ⟨s.2.1, 0, none⟩) 1 1) (1) (fun _ => 2)) ∧ (SliceI X (.slice (some ⟨s.2.2.1, 0, none⟩) 1 1) (1) (fun _ => 0)) ∧ SliceN X s.2.2.2 (trN (fun _ => 5) 1 (fun _ => 2) 1 (fun _ => 0) 1) (trF (fun _ => 5) 1 (fun _ => 2) (fun _ => 0) 1)) (fun s => fun i_ => match i_ with | 0 => .slice (some ⟨s.1, 0, none⟩) 1 1 | 1 => .slice (some ⟨s.2.1, 0, none⟩) 1 1 | 2 => .slice (some ⟨s.2.2.1, 0, none⟩) 1 1 | 3 => .tuple #[s.2.2.2, .int .i64 ((trE (fun _ => 5) 1 (fun _ => 2) 1 (fun _ => 0) 1 : Nat) : Int)] | 4 => .tuple #[s.2.2.2, .int .i64 ((trE (fun _ => 5) 1 (fun _ => 2) 1 (fun _ => 0) 1 : Nat) : Int)] | 5 => s.2.2.2 | 6 => .int .i64 ((trE (fun _ => 5) 1 (fun _ => 2) 1 (fun _ => 0) 1 : Nat) : Int) | 7 => s.2.2.2 | 8 => .int .i64 ((trE (fun _ => 5) 1 (fun _ => 2) 1 (fun _ => 0) 1 : Nat) : Int) | _ => undef) (0, 0, 0, undef) A.1 (by kernel_rfl) (by decide) (by decide) (Below.refl _ _) ?_ ?_
  · intro i_ hi_ s a X hf hv hn hS
    match i_, hi_ with
    | 0, _ =>
      refine stepV rfl rfl (execBsU rfl) ⟨(X.heap.size, s.2.1, s.2.2.1, s.2.2.2), ⟨_, rfl, rfl⟩, ⟨(hS).trans (((belNew X _)).mono (hS).size), one_slice (heapNew X _) rfl (by decide)⟩, fun i hi => ?_⟩
      omega
    | 1, _ =>
      refine stepV rfl rfl (execBsI (z := 2) rfl rfl) ⟨(s.1, X.heap.size, s.2.2.1, s.2.2.2), ⟨_, rfl, rfl⟩, ⟨(hS.1).trans (((belNew X _)).mono (hS.1).size), (hS.2.on (belNew X _)), int1 X _ (by decide)⟩, fun i hi => ?_⟩
      match i, hi with
      | 0, _ => rfl
      | n_ + 1, h_ => omega
    | 2, _ =>
      refine stepV rfl rfl (execBsI (z := 0) rfl rfl) ⟨(s.1, s.2.1, X.heap.size, s.2.2.2), ⟨_, rfl, rfl⟩, ⟨(hS.1).trans (((belNew X _)).mono (hS.1).size), (hS.2.1.on (belNew X _)), (hS.2.2.on (belNew X _)), int1 X _ (by decide)⟩, fun i hi => ?_⟩
      match i, hi with
      | 0, _ => rfl
      | 1, _ => rfl
      | n_ + 2, h_ => omega
    | 3, _ =>
      refine stepC rfl rfl (execCall3 Try.func20 (by kernel_rfl) (by kernel_rfl) rfl (hv 0 (by omega) _ rfl _ rfl) (hv 1 (by omega) _ rfl _ rfl) (hv 2 (by omega) _ rfl _ rfl)) (I.turn (fun _ => 5) 1 (fun _ => 2) (fun _ => 0) 1 1 _ _ _ X hS.2.1 (by decide) (fun l c e => by cases e) hS.2.2.1 (by decide) hS.2.2.2 (by decide)) fun e w' hh => ?_
      obtain ⟨r_, he, hk, hb⟩ := hh
      refine ⟨_, he, (s.1, s.2.1, s.2.2.1, r_), ⟨_, rfl, rfl⟩, ⟨(hS.1).trans ((hb).mono (hS.1).size), (hS.2.1.on hb), (hS.2.2.1.on hb), (hS.2.2.2.on hb), hk.slice⟩, fun i hi => ?_⟩
      match i, hi with
      | 0, _ => rfl
      | 1, _ => rfl
      | 2, _ => rfl
      | n_ + 3, h_ => omega
    | 4, _ => exact stepV rfl rfl (execMvB rfl (hv 3 (by omega) _ rfl _ rfl)) ⟨s, ⟨_, rfl, rfl⟩, hS, fun _ _ => rfl⟩
    | 5, _ => exact stepV rfl rfl (execExtT rfl (hv 4 (by omega) _ rfl _ rfl) rfl) ⟨s, ⟨_, rfl, rfl⟩, hS, fun _ _ => rfl⟩
    | 6, _ => exact stepV rfl rfl (execExtT rfl (hv 4 (by omega) _ rfl _ rfl) rfl) ⟨s, ⟨_, rfl, rfl⟩, hS, fun _ _ => rfl⟩
    | 7, _ => exact stepV rfl rfl (execAsgB rfl (hv 5 (by omega) _ rfl _ rfl)) ⟨s, ⟨_, rfl, rfl⟩, hS, fun _ _ => rfl⟩
    | 8, _ => exact stepV rfl rfl (execAsgB rfl (hv 6 (by omega) _ rfl _ rfl)) ⟨s, ⟨_, rfl, rfl⟩, hS, fun _ _ => rfl⟩
    | k_ + 9, h_ => exact absurd h_ (by simp)
  rintro ⟨g24, g25, g26, v27⟩ a X3 h1 h2 h3 h4 hS
  replace hS : Below X2.heap.size X2 X3 ∧ SliceN X3 (.slice (some ⟨g24, 0, none⟩) 1 1) (1) (fun _ => 5) ∧ (SliceI X3 (.slice (some ⟨g25, 0, none⟩) 1 1) (1) (fun _ => 2)) ∧ (SliceI X3 (.slice (some ⟨g26, 0, none⟩) 1 1) (1) (fun _ => 0)) ∧ SliceN X3 v27 (trN (fun _ => 5) 1 (fun _ => 2) 1 (fun _ => 0) 1) (trF (fun _ => 5) 1 (fun _ => 2) (fun _ => 0) 1) := hS
  obtain ⟨bX, Fg24, Fg25, Fg26, Fv27⟩ := hS
  replace t1 := (h3 1 (by decide)).trans t1
  replace t2 := (h3 2 (by decide)).trans t2
  replace t3 := (h3 3 (by decide)).trans t3
  replace t4 := (h3 4 (by decide)).trans t4
  replace t5 := (h3 5 (by decide)).trans t5
  replace t6 := (h3 6 (by decide)).trans t6
  have t7 : a.eval (.tmp 7) = v27 := h4 7 _ rfl _ rfl
  have t8 : a.eval (.tmp 8) = .int .i64 ((trE (fun _ => 5) 1 (fun _ => 2) 1 (fun _ => 0) 1 : Nat) : Int) := h4 8 _ rfl _ rfl
  replace Fge2 := Fge2
  replace F2 := (on9 F2 bX)
  replace FD0 := (cell_on9 FD0 bX)
  replace FD2 := (cell_on9 FD2 bX)
  have ZX3 := bX.size
  replace BW := BW.trans (bX.mono BW.size)
  clear bX
  replace A := (⟨h1, h2.trans A.2⟩ : a.tmps.size = 83 ∧ a.defers = [])
  clear h1 h2 h3 h4
  rw [show trN (fun _ => 5) 1 (fun _ => 2) 1 (fun _ => 0) 1 = 1 by decide] at Fv27
  obtain ⟨qa, qc, rfl, -, -, hd⟩ := id Fv27.shape
  obtain ⟨qb, qo, rfl, hqb, hqc⟩ := hd (by decide)
  have FQ0 : X3.cell? ⟨qb, qo + 0, none⟩ = some (.int .u8 ((4 : Nat) : Int)) := hqc 0 (by decide)
  clear Fv27 hd hqc Fg24 Fg25 Fg26
  refine wp_seq ?_
  refine wp_region_sq (σ := Unit) 83 [(0, 30), (1, 31), (2, 32), (3, 33), (4, 34), (5, 35), (6, 36), (7, 37), (8, 38), (9, 39), (10, 40), (11, 41), (12, 42), (13, 43), (14, 44), (15, 45), (16, 46), (17, 47), (18, 48), (19, 49), (20, 50), (21, 51), (22, 52), (23, 53), (24, 54), (25, 55), (26, 56), (27, 57), (28, 58), (29, 59), (30, 60), (31, 61), (32, 62), (33, 63), (34, 64), (35, 65), (36, 66), (37, 67), (38, 68), (39, 69), (40, 70), (41, 71), (42, 72), (43, 73), (44, 74), (45, 75), (46, 76), (47, 77), (48, 78), (49, 79), (50, 80), (51, 81), (52, 82), (53, 0)] (fun j_ s X => match j_ with | 0 => Below X3.heap.size X3 X | 1 => Below X3.heap.size X3 X | 2 => Below X3.heap.size X3 X | 3 => Below X3.heap.size X3 X | 4 => Below X3.heap.size X3 X | 5 => Below X3.heap.size X3 X | 6 => Below X3.heap.size X3 X | 7 => Below X3.heap.size X3 X | 8 => Below X3.heap.size X3 X | 9 => Below X3.heap.size X3 X | 10 => Below X3.heap.size X3 X | 11 => Below X3.heap.size X3 X | 12 => Below X3.heap.size X3 X | 13 => Below X3.heap.size X3 X | 14 => Below X3.heap.size X3 X | 15 => Below X3.heap.size X3 X | 16 => Below X3.heap.size X3 X | 17 => Below X3.heap.size X3 X | 18 => Below X3.heap.size X3 X | 19 => Below X3.heap.size X3 X | 20 => Below X3.heap.size X3 X | 21 => Below X3.heap.size X3 X | 22 => Below X3.heap.size X3 X | 23 => Below X3.heap.size X3 X | 24 => Below X3.heap.size X3 X | 25 => Below X3.heap.size X3 X | 26 => Below X3.heap.size X3 X | 27 => Below X3.heap.size X3 X | 28 => Below X3.heap.size X3 X | 29 => Below X3.heap.size X3 X | 30 => Below X3.heap.size X3 X | 31 => Below X3.heap.size X3 X | 32 => Below X3.heap.size X3 X | 33 => Below X3.heap.size X3 X | 34 => Below X3.heap.size X3 X | 35 => Below X3.heap.size X3 X | 36 => Below X3.heap.size X3 X | 37 => Below X3.heap.size X3 X | 38 => Below X3.heap.size X3 X | 39 => Below X3.heap.size X3 X | 40 => Below X3.heap.size X3 X | 41 => Below X3.heap.size X3 X | 42 => Below X3.heap.size X3 X | 43 => Below X3.heap.size X3 X | 44 => Below X3.heap.size X3 X | 45 => Below X3.heap.size X3 X | 46 => Below X3.heap.size X3 X | 47 => Below X3.heap.size X3 X | 48 => Below X3.heap.size X3 X | 49 => Below X3.heap.size X3 X | 50 => Below X3.heap.size X3 X | 51 => Below X3.heap.size X3 X | 52 => Below X3.heap.size X3 X | 53 => Below X3.heap.size X3 X | _ => Below X3.heap.size X3 X) (fun s => fun i_ => match i_ with | 0 => .bool true | 1 => .int .i64 ((dV l1 3 0 ((3 : Nat) : Int) : Nat) : Int) | 2 => .bool true | 3 => .bool true | 4 => .bool true | 5 => .agg (tpC l1 (if dE l1 3 0 ((3 : Nat) : Int) = 0 then 3 else 0) (dN l1 3 0 ((3 : Nat) : Int))) | 6 => .int .i64 (((if dE l1 3 0 ((3 : Nat) : Int) = 0 then 3 else 0) - (dN l1 3 0 ((3 : Nat) : Int)) : Nat) : Int) | 7 => .bool true | 8 => .bool true | 9 => .bool true | 10 => .int .i64 ((dE l1 3 0 ((3 : Nat) : Int) : Nat) : Int) | 11 => .bool true | 12 => .bool true | 13 => .bool true | 14 => .slice (some ⟨db, dq, none⟩) 3 dc | 15 => .int .i64 ((3 : Nat) : Int) | 16 => .bool true | 17 => .bool true | 18 => .bool true | 19 => .slice (some ⟨db, dq, none⟩) 3 dc | 20 => .pointer (some ⟨db, dq + 0, none⟩) | 21 => .int .i64 ((2 : Nat) : Int) | 22 => .bool true | 23 => .bool true | 24 => .bool true | 25 => .slice (some ⟨db, dq, none⟩) 3 dc | 26 => .pointer (some ⟨db, dq + 2, none⟩) | 27 => .int .i64 ((7 : Nat) : Int) | 28 => .bool true | 29 => .bool true | 30 => .bool true | 31 => .int .i64 ((allK l1 3 b1 3 : Nat) : Int) | 32 => .bool true | 33 => .bool true | 34 => .bool true | 35 => .int .i64 ((allE l1 3 b1 3 : Nat) : Int) | 36 => .bool true | 37 => .bool true | 38 => .bool true | 39 => .slice (some ⟨qb, qo, none⟩) 1 qc | 40 => .int .i64 ((1 : Nat) : Int) | 41 => .bool true | 42 => .bool true | 43 => .bool true | 44 => .slice (some ⟨qb, qo, none⟩) 1 qc | 45 => .pointer (some ⟨qb, qo + 0, none⟩) | 46 => .int .u8 ((4 : Nat) : Int) | 47 => .bool true | 48 => .bool true | 49 => .bool true | 50 => .int .i64 ((trE (fun _ => 5) 1 (fun _ => 2) 1 (fun _ => 0) 1 : Nat) : Int) | 51 => .bool true | 52 => .bool true | 53 => .bool true | _ => undef) () A.1 (by kernel_rfl) (by decide) (by decide) (Below.refl _ _) ?_ ?_
  · intro i_ hi_ s a X hf hv hn hS
    match i_, hi_ with
    | 0, _ => exact stepV rfl rfl (execMvB rfl rfl) ⟨s, ⟨_, rfl, rfl⟩, hS, fun _ _ => rfl⟩
    | 1, _ => exact stepV rfl (wantedOf rfl (yieldedAt rfl rfl (show a.eval (.tmp 30) = .bool true from (hv 0 (by omega) _ rfl _ rfl)))) (execMvB rfl ((hf 1 (by decide)).trans t1)) ⟨s, ⟨_, rfl, rfl⟩, hS, fun _ _ => rfl⟩
    | 2, _ => exact stepV rfl (wantedOf rfl (yieldedAt rfl rfl (show a.eval (.tmp 30) = .bool true from (hv 0 (by omega) _ rfl _ rfl)))) (execDec (execEqN (p := dV l1 3 0 ((3 : Nat) : Int)) (q := 2) rfl (hv 1 (by omega) _ rfl _ rfl) rfl) (decide_eq_true (by decide))) ⟨s, ⟨_, rfl, rfl⟩, hS, fun _ _ => rfl⟩
    | 3, _ => exact stepV rfl rfl (execPickT rfl (hv 0 (by omega) _ rfl _ rfl) (hv 2 (by omega) _ rfl _ rfl)) ⟨s, ⟨_, rfl, rfl⟩, hS, fun _ _ => rfl⟩
    | 4, _ => exact stepV rfl rfl (execMvB rfl (hv 3 (by omega) _ rfl _ rfl)) ⟨s, ⟨_, rfl, rfl⟩, hS, fun _ _ => rfl⟩
    | 5, _ => exact stepV rfl (wantedOf rfl (yieldedAt rfl rfl (show a.eval (.tmp 34) = .bool true from (hv 4 (by omega) _ rfl _ rfl)))) (execLdTp rfl ((hf 2 (by decide)).trans t2) (on9 F2 hS)) ⟨s, ⟨_, rfl, rfl⟩, hS, fun _ _ => rfl⟩
    | 6, _ => exact stepC rfl (wantedOf rfl (yieldedAt rfl rfl (show a.eval (.tmp 34) = .bool true from (hv 4 (by omega) _ rfl _ rfl)))) (execCall1 Try.func15 (by kernel_rfl) (by kernel_rfl) rfl (hv 5 (by omega) _ rfl _ rfl)) (left_any l1 (if dE l1 3 0 ((3 : Nat) : Int) = 0 then 3 else 0) (dN l1 3 0 ((3 : Nat) : Int)) X (by decide) (by decide)) fun e w' hh => ⟨_, hh.1, s, ⟨_, rfl, rfl⟩, (hS).trans ((hh.2).mono (hS).size), fun _ _ => rfl⟩
    | 7, _ => exact stepV rfl (wantedOf rfl (yieldedAt rfl rfl (show a.eval (.tmp 34) = .bool true from (hv 4 (by omega) _ rfl _ rfl)))) (execDec (execEqN (p := (if dE l1 3 0 ((3 : Nat) : Int) = 0 then 3 else 0) - (dN l1 3 0 ((3 : Nat) : Int))) (q := 1) rfl (hv 6 (by omega) _ rfl _ rfl) rfl) (decide_eq_true (by decide))) ⟨s, ⟨_, rfl, rfl⟩, hS, fun _ _ => rfl⟩
    | 8, _ => exact stepV rfl rfl (execPickT rfl (hv 4 (by omega) _ rfl _ rfl) (hv 7 (by omega) _ rfl _ rfl)) ⟨s, ⟨_, rfl, rfl⟩, hS, fun _ _ => rfl⟩
    | 9, _ => exact stepV rfl rfl (execMvB rfl (hv 8 (by omega) _ rfl _ rfl)) ⟨s, ⟨_, rfl, rfl⟩, hS, fun _ _ => rfl⟩
    | 10, _ => exact stepV rfl (wantedOf rfl (yieldedAt rfl rfl (show a.eval (.tmp 39) = .bool true from (hv 9 (by omega) _ rfl _ rfl)))) (execMvB rfl ((hf 3 (by decide)).trans t3)) ⟨s, ⟨_, rfl, rfl⟩, hS, fun _ _ => rfl⟩
    | 11, _ => exact stepV rfl (wantedOf rfl (yieldedAt rfl rfl (show a.eval (.tmp 39) = .bool true from (hv 9 (by omega) _ rfl _ rfl)))) (execDec (execEqE (p := dE l1 3 0 ((3 : Nat) : Int)) (q := 0) rfl (hv 10 (by omega) _ rfl _ rfl) rfl) (decide_eq_true (by decide))) ⟨s, ⟨_, rfl, rfl⟩, hS, fun _ _ => rfl⟩
    | 12, _ => exact stepV rfl rfl (execPickT rfl (hv 9 (by omega) _ rfl _ rfl) (hv 11 (by omega) _ rfl _ rfl)) ⟨s, ⟨_, rfl, rfl⟩, hS, fun _ _ => rfl⟩
    | 13, _ => exact stepV rfl rfl (execMvB rfl (hv 12 (by omega) _ rfl _ rfl)) ⟨s, ⟨_, rfl, rfl⟩, hS, fun _ _ => rfl⟩
    | 14, _ => exact stepV rfl (wantedOf rfl (yieldedAt rfl rfl (show a.eval (.tmp 43) = .bool true from (hv 13 (by omega) _ rfl _ rfl)))) (execMvB rfl ((hf 4 (by decide)).trans t4)) ⟨s, ⟨_, rfl, rfl⟩, hS, fun _ _ => rfl⟩
    | 15, _ => exact stepV rfl (wantedOf rfl (yieldedAt rfl rfl (show a.eval (.tmp 43) = .bool true from (hv 13 (by omega) _ rfl _ rfl)))) (execLenI (len := 3) rfl (hv 14 (by omega) _ rfl _ rfl) ⟨_, _, rfl⟩) ⟨s, ⟨_, rfl, rfl⟩, hS, fun _ _ => rfl⟩
    | 16, _ => exact stepV rfl (wantedOf rfl (yieldedAt rfl rfl (show a.eval (.tmp 43) = .bool true from (hv 13 (by omega) _ rfl _ rfl)))) (execDec (execEqN (p := 3) (q := 3) rfl (hv 15 (by omega) _ rfl _ rfl) rfl) (decide_eq_true (by decide))) ⟨s, ⟨_, rfl, rfl⟩, hS, fun _ _ => rfl⟩
    | 17, _ => exact stepV rfl rfl (execPickT rfl (hv 13 (by omega) _ rfl _ rfl) (hv 16 (by omega) _ rfl _ rfl)) ⟨s, ⟨_, rfl, rfl⟩, hS, fun _ _ => rfl⟩
    | 18, _ => exact stepV rfl rfl (execMvB rfl (hv 17 (by omega) _ rfl _ rfl)) ⟨s, ⟨_, rfl, rfl⟩, hS, fun _ _ => rfl⟩
    | 19, _ => exact stepV rfl (wantedOf rfl (yieldedAt rfl rfl (show a.eval (.tmp 48) = .bool true from (hv 18 (by omega) _ rfl _ rfl)))) (execMvB rfl ((hf 4 (by decide)).trans t4)) ⟨s, ⟨_, rfl, rfl⟩, hS, fun _ _ => rfl⟩
    | 20, _ => exact stepV rfl (wantedOf rfl (yieldedAt rfl rfl (show a.eval (.tmp 48) = .bool true from (hv 18 (by omega) _ rfl _ rfl)))) (execIdxN (k := 0) rfl (hv 19 (by omega) _ rfl _ rfl) rfl (by decide)) ⟨s, ⟨_, rfl, rfl⟩, hS, fun _ _ => rfl⟩
    | 21, _ => exact stepV rfl (wantedOf rfl (yieldedAt rfl rfl (show a.eval (.tmp 48) = .bool true from (hv 18 (by omega) _ rfl _ rfl)))) (execLd3 rfl (hv 20 (by omega) _ rfl _ rfl) (cell_on9 FD0 hS)) ⟨s, ⟨_, rfl, rfl⟩, hS, fun _ _ => rfl⟩
    | 22, _ => exact stepV rfl (wantedOf rfl (yieldedAt rfl rfl (show a.eval (.tmp 48) = .bool true from (hv 18 (by omega) _ rfl _ rfl)))) (execDec (execEqN (p := 2) (q := 2) rfl (hv 21 (by omega) _ rfl _ rfl) rfl) (decide_eq_true (by decide))) ⟨s, ⟨_, rfl, rfl⟩, hS, fun _ _ => rfl⟩
    | 23, _ => exact stepV rfl rfl (execPickT rfl (hv 18 (by omega) _ rfl _ rfl) (hv 22 (by omega) _ rfl _ rfl)) ⟨s, ⟨_, rfl, rfl⟩, hS, fun _ _ => rfl⟩
    | 24, _ => exact stepV rfl rfl (execMvB rfl (hv 23 (by omega) _ rfl _ rfl)) ⟨s, ⟨_, rfl, rfl⟩, hS, fun _ _ => rfl⟩
    | 25, _ => exact stepV rfl (wantedOf rfl (yieldedAt rfl rfl (show a.eval (.tmp 54) = .bool true from (hv 24 (by omega) _ rfl _ rfl)))) (execMvB rfl ((hf 4 (by decide)).trans t4)) ⟨s, ⟨_, rfl, rfl⟩, hS, fun _ _ => rfl⟩
    | 26, _ => exact stepV rfl (wantedOf rfl (yieldedAt rfl rfl (show a.eval (.tmp 54) = .bool true from (hv 24 (by omega) _ rfl _ rfl)))) (execIdxN (k := 2) rfl (hv 25 (by omega) _ rfl _ rfl) rfl (by decide)) ⟨s, ⟨_, rfl, rfl⟩, hS, fun _ _ => rfl⟩
    | 27, _ => exact stepV rfl (wantedOf rfl (yieldedAt rfl rfl (show a.eval (.tmp 54) = .bool true from (hv 24 (by omega) _ rfl _ rfl)))) (execLd3 rfl (hv 26 (by omega) _ rfl _ rfl) (cell_on9 FD2 hS)) ⟨s, ⟨_, rfl, rfl⟩, hS, fun _ _ => rfl⟩
    | 28, _ => exact stepV rfl (wantedOf rfl (yieldedAt rfl rfl (show a.eval (.tmp 54) = .bool true from (hv 24 (by omega) _ rfl _ rfl)))) (execDec (execEqN (p := 7) (q := 7) rfl (hv 27 (by omega) _ rfl _ rfl) rfl) (decide_eq_true (by decide))) ⟨s, ⟨_, rfl, rfl⟩, hS, fun _ _ => rfl⟩
    | 29, _ => exact stepV rfl rfl (execPickT rfl (hv 24 (by omega) _ rfl _ rfl) (hv 28 (by omega) _ rfl _ rfl)) ⟨s, ⟨_, rfl, rfl⟩, hS, fun _ _ => rfl⟩
    | 30, _ => exact stepV rfl rfl (execMvB rfl (hv 29 (by omega) _ rfl _ rfl)) ⟨s, ⟨_, rfl, rfl⟩, hS, fun _ _ => rfl⟩
    | 31, _ => exact stepV rfl (wantedOf rfl (yieldedAt rfl rfl (show a.eval (.tmp 60) = .bool true from (hv 30 (by omega) _ rfl _ rfl)))) (execMvB rfl ((hf 5 (by decide)).trans t5)) ⟨s, ⟨_, rfl, rfl⟩, hS, fun _ _ => rfl⟩
    | 32, _ => exact stepV rfl (wantedOf rfl (yieldedAt rfl rfl (show a.eval (.tmp 60) = .bool true from (hv 30 (by omega) _ rfl _ rfl)))) (execDec (execEqN (p := allK l1 3 b1 3) (q := 3) rfl (hv 31 (by omega) _ rfl _ rfl) rfl) (decide_eq_true (by decide))) ⟨s, ⟨_, rfl, rfl⟩, hS, fun _ _ => rfl⟩
    | 33, _ => exact stepV rfl rfl (execPickT rfl (hv 30 (by omega) _ rfl _ rfl) (hv 32 (by omega) _ rfl _ rfl)) ⟨s, ⟨_, rfl, rfl⟩, hS, fun _ _ => rfl⟩
    | 34, _ => exact stepV rfl rfl (execMvB rfl (hv 33 (by omega) _ rfl _ rfl)) ⟨s, ⟨_, rfl, rfl⟩, hS, fun _ _ => rfl⟩
    | 35, _ => exact stepV rfl (wantedOf rfl (yieldedAt rfl rfl (show a.eval (.tmp 64) = .bool true from (hv 34 (by omega) _ rfl _ rfl)))) (execMvB rfl ((hf 6 (by decide)).trans t6)) ⟨s, ⟨_, rfl, rfl⟩, hS, fun _ _ => rfl⟩
    | 36, _ => exact stepV rfl (wantedOf rfl (yieldedAt rfl rfl (show a.eval (.tmp 64) = .bool true from (hv 34 (by omega) _ rfl _ rfl)))) (execDec (execEqE (p := allE l1 3 b1 3) (q := 0) rfl (hv 35 (by omega) _ rfl _ rfl) rfl) (decide_eq_true (by decide))) ⟨s, ⟨_, rfl, rfl⟩, hS, fun _ _ => rfl⟩
    | 37, _ => exact stepV rfl rfl (execPickT rfl (hv 34 (by omega) _ rfl _ rfl) (hv 36 (by omega) _ rfl _ rfl)) ⟨s, ⟨_, rfl, rfl⟩, hS, fun _ _ => rfl⟩
    | 38, _ => exact stepV rfl rfl (execMvB rfl (hv 37 (by omega) _ rfl _ rfl)) ⟨s, ⟨_, rfl, rfl⟩, hS, fun _ _ => rfl⟩
    | 39, _ => exact stepV rfl (wantedOf rfl (yieldedAt rfl rfl (show a.eval (.tmp 68) = .bool true from (hv 38 (by omega) _ rfl _ rfl)))) (execMvB rfl ((hf 7 (by decide)).trans t7)) ⟨s, ⟨_, rfl, rfl⟩, hS, fun _ _ => rfl⟩
    | 40, _ => exact stepV rfl (wantedOf rfl (yieldedAt rfl rfl (show a.eval (.tmp 68) = .bool true from (hv 38 (by omega) _ rfl _ rfl)))) (execLenV (len := 1) rfl (hv 39 (by omega) _ rfl _ rfl) ⟨_, _, rfl⟩) ⟨s, ⟨_, rfl, rfl⟩, hS, fun _ _ => rfl⟩
    | 41, _ => exact stepV rfl (wantedOf rfl (yieldedAt rfl rfl (show a.eval (.tmp 68) = .bool true from (hv 38 (by omega) _ rfl _ rfl)))) (execDec (execEqN (p := 1) (q := 1) rfl (hv 40 (by omega) _ rfl _ rfl) rfl) (decide_eq_true (by decide))) ⟨s, ⟨_, rfl, rfl⟩, hS, fun _ _ => rfl⟩
    | 42, _ => exact stepV rfl rfl (execPickT rfl (hv 38 (by omega) _ rfl _ rfl) (hv 41 (by omega) _ rfl _ rfl)) ⟨s, ⟨_, rfl, rfl⟩, hS, fun _ _ => rfl⟩
    | 43, _ => exact stepV rfl rfl (execMvB rfl (hv 42 (by omega) _ rfl _ rfl)) ⟨s, ⟨_, rfl, rfl⟩, hS, fun _ _ => rfl⟩
    | 44, _ => exact stepV rfl (wantedOf rfl (yieldedAt rfl rfl (show a.eval (.tmp 73) = .bool true from (hv 43 (by omega) _ rfl _ rfl)))) (execMvB rfl ((hf 7 (by decide)).trans t7)) ⟨s, ⟨_, rfl, rfl⟩, hS, fun _ _ => rfl⟩
    | 45, _ => exact stepV rfl (wantedOf rfl (yieldedAt rfl rfl (show a.eval (.tmp 73) = .bool true from (hv 43 (by omega) _ rfl _ rfl)))) (execIdxB9 (k := 0) rfl (hv 44 (by omega) _ rfl _ rfl) rfl (by decide)) ⟨s, ⟨_, rfl, rfl⟩, hS, fun _ _ => rfl⟩
    | 46, _ => exact stepV rfl (wantedOf rfl (yieldedAt rfl rfl (show a.eval (.tmp 73) = .bool true from (hv 43 (by omega) _ rfl _ rfl)))) (execLdB rfl (hv 45 (by omega) _ rfl _ rfl) (cell_on9 FQ0 hS)) ⟨s, ⟨_, rfl, rfl⟩, hS, fun _ _ => rfl⟩
    | 47, _ => exact stepV rfl (wantedOf rfl (yieldedAt rfl rfl (show a.eval (.tmp 73) = .bool true from (hv 43 (by omega) _ rfl _ rfl)))) (execEqlU8 rfl (hv 46 (by omega) _ rfl _ rfl) rfl) ⟨s, ⟨_, rfl, rfl⟩, hS, fun _ _ => rfl⟩
    | 48, _ => exact stepV rfl rfl (execPickT rfl (hv 43 (by omega) _ rfl _ rfl) (hv 47 (by omega) _ rfl _ rfl)) ⟨s, ⟨_, rfl, rfl⟩, hS, fun _ _ => rfl⟩
    | 49, _ => exact stepV rfl rfl (execMvB rfl (hv 48 (by omega) _ rfl _ rfl)) ⟨s, ⟨_, rfl, rfl⟩, hS, fun _ _ => rfl⟩
    | 50, _ => exact stepV rfl (wantedOf rfl (yieldedAt rfl rfl (show a.eval (.tmp 79) = .bool true from (hv 49 (by omega) _ rfl _ rfl)))) (execMvB rfl ((hf 8 (by decide)).trans t8)) ⟨s, ⟨_, rfl, rfl⟩, hS, fun _ _ => rfl⟩
    | 51, _ => exact stepV rfl (wantedOf rfl (yieldedAt rfl rfl (show a.eval (.tmp 79) = .bool true from (hv 49 (by omega) _ rfl _ rfl)))) (execDec (execEqE (p := trE (fun _ => 5) 1 (fun _ => 2) 1 (fun _ => 0) 1) (q := 0) rfl (hv 50 (by omega) _ rfl _ rfl) rfl) (decide_eq_true (by decide))) ⟨s, ⟨_, rfl, rfl⟩, hS, fun _ _ => rfl⟩
    | 52, _ => exact stepV rfl rfl (execPickT rfl (hv 49 (by omega) _ rfl _ rfl) (hv 51 (by omega) _ rfl _ rfl)) ⟨s, ⟨_, rfl, rfl⟩, hS, fun _ _ => rfl⟩
    | 53, _ => exact stepV rfl rfl (execAsgB rfl (hv 52 (by omega) _ rfl _ rfl)) ⟨s, ⟨_, rfl, rfl⟩, hS, fun _ _ => rfl⟩
    | k_ + 54, h_ => exact absurd h_ (by simp)
  rintro _ a X4 h1 h2 h3 h4 hS
  replace hS : Below X3.heap.size X3 X4 := hS
  have bX := hS
  clear hS
  have t0 : a.eval (.tmp 0) = .bool true := h4 53 _ rfl _ rfl
  replace Fge2 := Fge2
  replace F2 := (on9 F2 bX)
  replace FD0 := (cell_on9 FD0 bX)
  replace FD2 := (cell_on9 FD2 bX)
  replace FQ0 := (cell_on9 FQ0 bX)
  have ZX4 := bX.size
  replace BW := BW.trans (bX.mono BW.size)
  clear bX
  replace A := (⟨h1, h2.trans A.2⟩ : a.tmps.size = 83 ∧ a.defers = [])
  clear h1 h2 h3 h4
  clear t1 t2 t3 t4 t5 t6 t7 t8
  refine wp_ret ?_
  refine bodyPost_ret (results_tmp rfl _ _ _) A.2 ⟨?_, BW⟩
  show Ending.returned (a.eval (.tmp 0)) = _
  rw [t0]
set_option maxRecDepth 100000 in
set_option maxHeartbeats 4000000 in
theorem alls_any (I : Impl) (p : Nat → Nat) (l : Nat) (bs : Nat → Int) (n : Nat) (pv bv : Value) (V : World) (hp : SliceN V pv l p) (hl : l ≤ 140737488351232) (hb : SliceI V bv n bs) (hn17 : n ≤ 17592186044416) :
    Calls Try.prog 4 #[pv, bv] V fun e w' => e = .returned (.bool true) ∧ Below V.heap.size V w' := by
  have FP := hp
  have FI := hb
  go_enter Try.func4, Try.ntmps4
  refine wp_seq ?_
  refine wp_region_sqK 40 [(0, 4)] (fun i_ => match i_ with | 0 => .bool false | _ => undef) rfl (by kernel_rfl) (by decide) (by decide) ?_ ?_
  · intro i_ hi_ a hf hv hn
    match i_, hi_ with
    | 0, _ => exact stepV rfl rfl (execAsgB rfl rfl) ⟨⟨_, rfl, rfl⟩, rfl⟩
    | k_ + 1, h_ => exact absurd h_ (by simp)
  intro a h1 h2 h3 h4
  have t0 : a.eval (.tmp 0) = pv := (h3 0 (by decide)).trans rfl
  have t1 : a.eval (.tmp 1) = bv := (h3 1 (by decide)).trans rfl
  have A : a.tmps.size = 40 ∧ a.defers = [] := ⟨h1, h2⟩
  have BW : Below V.heap.size V V := Below.refl _ _
  clear h1 h2 h3 h4
  refine wp_seq ?_
  refine wp_seq ?_
  refine wp_region_sq (σ := Unit) 40 [(0, 11), (1, 12)] (fun j_ s X => match j_ with | 0 => Below V.heap.size V X | 1 => Below V.heap.size V X | _ => Below V.heap.size V X) (fun s => fun i_ => match i_ with | 0 => .bool true | 1 => .bool false | _ => undef) () A.1 (by kernel_rfl) (by decide) (by decide) (Below.refl _ _) ?_ ?_
  · intro i_ hi_ s a X hf hv hn hS
    match i_, hi_ with
    | 0, _ => exact stepC rfl rfl (execCall0 Try.func9 (by kernel_rfl) (by kernel_rfl) rfl ) (alive10 I X) fun e w' hh => ⟨_, hh.1, s, ⟨_, rfl, rfl⟩, (hS).trans ((hh.2).mono (hS).size), fun _ _ => rfl⟩
    | 1, _ => exact stepV rfl rfl (execNot8 rfl (hv 0 (by omega) _ rfl _ rfl)) ⟨s, ⟨_, rfl, rfl⟩, hS, fun _ _ => rfl⟩
    | k_ + 2, h_ => exact absurd h_ (by simp)
  rintro _ a X1 h1 h2 h3 h4 hS
  replace hS : Below V.heap.size V X1 := hS
  have bX := hS
  clear hS
  replace t0 := (h3 0 (by decide)).trans t0
  replace t1 := (h3 1 (by decide)).trans t1
  have t12 : a.eval (.tmp 12) = .bool false := h4 1 _ rfl _ rfl
  replace FP := (FP.on bX)
  replace FI := (FI.on bX)
  have ZX1 := bX.size
  replace BW := BW.trans (bX.mono BW.size)
  clear bX
  replace A := (⟨h1, h2.trans A.2⟩ : a.tmps.size = 40 ∧ a.defers = [])
  clear h1 h2 h3 h4
  refine wp_cond_false t12 ?_
  refine wp_skip ?_
  clear t12
  refine wp_seq ?_
  refine wp_region_sq (σ := Value) 40 [(0, 14), (1, 15), (2, 16), (3, 13), (4, 17), (5, 18), (6, 19), (7, 5), (8, 6), (9, 7)] (fun j_ s X => match j_ with | 0 => Below X1.heap.size X1 X | 1 => Below X1.heap.size X1 X | 2 => Below X1.heap.size X1 X | 3 => Below X1.heap.size X1 X ∧ (SliceI X s (allN p l bs n) (fun i => (dA p l bs i : Int))) | 4 => Below X1.heap.size X1 X ∧ (SliceI X s (allN p l bs n) (fun i => (dA p l bs i : Int))) | 5 => Below X1.heap.size X1 X ∧ (SliceI X s (allN p l bs n) (fun i => (dA p l bs i : Int))) | 6 => Below X1.heap.size X1 X ∧ (SliceI X s (allN p l bs n) (fun i => (dA p l bs i : Int))) | 7 => Below X1.heap.size X1 X ∧ (SliceI X s (allN p l bs n) (fun i => (dA p l bs i : Int))) | 8 => Below X1.heap.size X1 X ∧ (SliceI X s (allN p l bs n) (fun i => (dA p l bs i : Int))) | 9 => Below X1.heap.size X1 X ∧ (SliceI X s (allN p l bs n) (fun i => (dA p l bs i : Int))) | _ => Below X1.heap.size X1 X ∧ (SliceI X s (allN p l bs n) (fun i => (dA p l bs i : Int)))) (fun s => fun i_ => match i_ with | 0 => pv | 1 => bv | 2 => .tuple #[s, .int .i64 ((allK p l bs n : Nat) : Int), .int .i64 ((allE p l bs n : Nat) : Int)] | 3 => .tuple #[s, .int .i64 ((allK p l bs n : Nat) : Int), .int .i64 ((allE p l bs n : Nat) : Int)] | 4 => s | 5 => .int .i64 ((allK p l bs n : Nat) : Int) | 6 => .int .i64 ((allE p l bs n : Nat) : Int) | 7 => s | 8 => .int .i64 ((allK p l bs n : Nat) : Int) | 9 => .int .i64 ((allE p l bs n : Nat) : Int) | _ => undef) undef A.1 (by kernel_rfl) (by decide) (by decide) (Below.refl _ _) ?_ ?_
  · intro i_ hi_ s a X hf hv hn hS
    match i_, hi_ with
    | 0, _ => exact stepV rfl rfl (execMvB rfl ((hf 0 (by decide)).trans t0)) ⟨s, ⟨_, rfl, rfl⟩, hS, fun _ _ => rfl⟩
    | 1, _ => exact stepV rfl rfl (execMvB rfl ((hf 1 (by decide)).trans t1)) ⟨s, ⟨_, rfl, rfl⟩, hS, fun _ _ => rfl⟩
    | 2, _ =>
      refine stepC rfl rfl (execCall2 Try.func16 (by kernel_rfl) (by kernel_rfl) rfl (hv 0 (by omega) _ rfl _ rfl) (hv 1 (by omega) _ rfl _ rfl)) (rall_any p l bs n _ _ X (FP.on hS) (by omega) (FI.on hS) (by omega)) fun e w' hh => ?_
      obtain ⟨r_, he, hk, hb⟩ := hh
      refine ⟨_, he, r_, ⟨_, rfl, rfl⟩, ⟨(hS).trans ((hb).mono (hS).size), own_ints hk (dA_fits _ _ _ _)⟩, fun i hi => ?_⟩
      match i, hi with
      | 0, _ => rfl
      | 1, _ => rfl
      | n_ + 2, h_ => omega
    | 3, _ => exact stepV rfl rfl (execMvB rfl (hv 2 (by omega) _ rfl _ rfl)) ⟨s, ⟨_, rfl, rfl⟩, hS, fun _ _ => rfl⟩
    | 4, _ => exact stepV rfl rfl (execExtT rfl (hv 3 (by omega) _ rfl _ rfl) rfl) ⟨s, ⟨_, rfl, rfl⟩, hS, fun _ _ => rfl⟩
    | 5, _ => exact stepV rfl rfl (execExtT rfl (hv 3 (by omega) _ rfl _ rfl) rfl) ⟨s, ⟨_, rfl, rfl⟩, hS, fun _ _ => rfl⟩
    | 6, _ => exact stepV rfl rfl (execExtT rfl (hv 3 (by omega) _ rfl _ rfl) rfl) ⟨s, ⟨_, rfl, rfl⟩, hS, fun _ _ => rfl⟩
    | 7, _ => exact stepV rfl rfl (execAsgB rfl (hv 4 (by omega) _ rfl _ rfl)) ⟨s, ⟨_, rfl, rfl⟩, hS, fun _ _ => rfl⟩
    | 8, _ => exact stepV rfl rfl (execAsgB rfl (hv 5 (by omega) _ rfl _ rfl)) ⟨s, ⟨_, rfl, rfl⟩, hS, fun _ _ => rfl⟩
    | 9, _ => exact stepV rfl rfl (execAsgB rfl (hv 6 (by omega) _ rfl _ rfl)) ⟨s, ⟨_, rfl, rfl⟩, hS, fun _ _ => rfl⟩
    | k_ + 10, h_ => exact absurd h_ (by simp)
  rintro v16 a X3 h1 h2 h3 h4 hS
  replace hS : Below X1.heap.size X1 X3 ∧ (SliceI X3 v16 (allN p l bs n) (fun i => (dA p l bs i : Int))) := hS
  obtain ⟨bX, Fv16⟩ := hS
  replace t0 := (h3 0 (by decide)).trans t0
  replace t1 := (h3 1 (by decide)).trans t1
  have t5 : a.eval (.tmp 5) = v16 := h4 7 _ rfl _ rfl
  have t6 : a.eval (.tmp 6) = .int .i64 ((allK p l bs n : Nat) : Int) := h4 8 _ rfl _ rfl
  have t7 : a.eval (.tmp 7) = .int .i64 ((allE p l bs n : Nat) : Int) := h4 9 _ rfl _ rfl
  replace FP := (FP.on bX)
  replace FI := (FI.on bX)
  have ZX3 := bX.size
  replace BW := BW.trans (bX.mono BW.size)
  clear bX
  replace A := (⟨h1, h2.trans A.2⟩ : a.tmps.size = 40 ∧ a.defers = [])
  clear h1 h2 h3 h4
  refine wp_seq ?_
  refine wp_region_sq (σ := Value) 40 [(0, 21), (1, 22), (2, 23), (3, 20), (4, 24), (5, 25), (6, 26), (7, 8), (8, 9), (9, 10)] (fun j_ s X => match j_ with | 0 => Below X3.heap.size X3 X | 1 => Below X3.heap.size X3 X | 2 => Below X3.heap.size X3 X | 3 => Below X3.heap.size X3 X ∧ (SliceI X s (allN p l bs n) (fun i => (dA p l bs i : Int))) | 4 => Below X3.heap.size X3 X ∧ (SliceI X s (allN p l bs n) (fun i => (dA p l bs i : Int))) | 5 => Below X3.heap.size X3 X ∧ (SliceI X s (allN p l bs n) (fun i => (dA p l bs i : Int))) | 6 => Below X3.heap.size X3 X ∧ (SliceI X s (allN p l bs n) (fun i => (dA p l bs i : Int))) | 7 => Below X3.heap.size X3 X ∧ (SliceI X s (allN p l bs n) (fun i => (dA p l bs i : Int))) | 8 => Below X3.heap.size X3 X ∧ (SliceI X s (allN p l bs n) (fun i => (dA p l bs i : Int))) | 9 => Below X3.heap.size X3 X ∧ (SliceI X s (allN p l bs n) (fun i => (dA p l bs i : Int))) | _ => Below X3.heap.size X3 X ∧ (SliceI X s (allN p l bs n) (fun i => (dA p l bs i : Int)))) (fun s => fun i_ => match i_ with | 0 => pv | 1 => bv | 2 => .tuple #[s, .int .i64 ((allK p l bs n : Nat) : Int), .int .i64 ((allE p l bs n : Nat) : Int)] | 3 => .tuple #[s, .int .i64 ((allK p l bs n : Nat) : Int), .int .i64 ((allE p l bs n : Nat) : Int)] | 4 => s | 5 => .int .i64 ((allK p l bs n : Nat) : Int) | 6 => .int .i64 ((allE p l bs n : Nat) : Int) | 7 => s | 8 => .int .i64 ((allK p l bs n : Nat) : Int) | 9 => .int .i64 ((allE p l bs n : Nat) : Int) | _ => undef) undef A.1 (by kernel_rfl) (by decide) (by decide) (Below.refl _ _) ?_ ?_
  · intro i_ hi_ s a X hf hv hn hS
    match i_, hi_ with
    | 0, _ => exact stepV rfl rfl (execMvB rfl ((hf 0 (by decide)).trans t0)) ⟨s, ⟨_, rfl, rfl⟩, hS, fun _ _ => rfl⟩
    | 1, _ => exact stepV rfl rfl (execMvB rfl ((hf 1 (by decide)).trans t1)) ⟨s, ⟨_, rfl, rfl⟩, hS, fun _ _ => rfl⟩
    | 2, _ =>
      refine stepC rfl rfl (execCall2 Try.func17 (by kernel_rfl) (by kernel_rfl) rfl (hv 0 (by omega) _ rfl _ rfl) (hv 1 (by omega) _ rfl _ rfl)) (I.all p l bs n _ _ X (FP.on hS) (by omega) (FI.on hS) (by omega)) fun e w' hh => ?_
      obtain ⟨r_, he, hk, hb⟩ := hh
      refine ⟨_, he, r_, ⟨_, rfl, rfl⟩, ⟨(hS).trans ((hb).mono (hS).size), own_ints hk (dA_fits _ _ _ _)⟩, fun i hi => ?_⟩
      match i, hi with
      | 0, _ => rfl
      | 1, _ => rfl
      | n_ + 2, h_ => omega
    | 3, _ => exact stepV rfl rfl (execMvB rfl (hv 2 (by omega) _ rfl _ rfl)) ⟨s, ⟨_, rfl, rfl⟩, hS, fun _ _ => rfl⟩
    | 4, _ => exact stepV rfl rfl (execExtT rfl (hv 3 (by omega) _ rfl _ rfl) rfl) ⟨s, ⟨_, rfl, rfl⟩, hS, fun _ _ => rfl⟩
    | 5, _ => exact stepV rfl rfl (execExtT rfl (hv 3 (by omega) _ rfl _ rfl) rfl) ⟨s, ⟨_, rfl, rfl⟩, hS, fun _ _ => rfl⟩
    | 6, _ => exact stepV rfl rfl (execExtT rfl (hv 3 (by omega) _ rfl _ rfl) rfl) ⟨s, ⟨_, rfl, rfl⟩, hS, fun _ _ => rfl⟩
    | 7, _ => exact stepV rfl rfl (execAsgB rfl (hv 4 (by omega) _ rfl _ rfl)) ⟨s, ⟨_, rfl, rfl⟩, hS, fun _ _ => rfl⟩
    | 8, _ => exact stepV rfl rfl (execAsgB rfl (hv 5 (by omega) _ rfl _ rfl)) ⟨s, ⟨_, rfl, rfl⟩, hS, fun _ _ => rfl⟩
    | 9, _ => exact stepV rfl rfl (execAsgB rfl (hv 6 (by omega) _ rfl _ rfl)) ⟨s, ⟨_, rfl, rfl⟩, hS, fun _ _ => rfl⟩
    | k_ + 10, h_ => exact absurd h_ (by simp)
  rintro v23 a X4 h1 h2 h3 h4 hS
  replace hS : Below X3.heap.size X3 X4 ∧ (SliceI X4 v23 (allN p l bs n) (fun i => (dA p l bs i : Int))) := hS
  obtain ⟨bX, Fv23⟩ := hS
  replace t5 := (h3 5 (by decide)).trans t5
  replace t6 := (h3 6 (by decide)).trans t6
  replace t7 := (h3 7 (by decide)).trans t7
  have t8 : a.eval (.tmp 8) = v23 := h4 7 _ rfl _ rfl
  have t9 : a.eval (.tmp 9) = .int .i64 ((allK p l bs n : Nat) : Int) := h4 8 _ rfl _ rfl
  have t10 : a.eval (.tmp 10) = .int .i64 ((allE p l bs n : Nat) : Int) := h4 9 _ rfl _ rfl
  replace FP := (FP.on bX)
  replace FI := (FI.on bX)
  replace Fv16 := (Fv16.on bX)
  have ZX4 := bX.size
  replace BW := BW.trans (bX.mono BW.size)
  clear bX
  replace A := (⟨h1, h2.trans A.2⟩ : a.tmps.size = 40 ∧ a.defers = [])
  clear h1 h2 h3 h4
  clear t0 t1
  refine wp_seq ?_
  refine wp_region_sq (σ := Unit) 40 [(0, 27), (1, 28), (2, 29), (3, 30), (4, 31), (5, 32), (6, 33), (7, 34), (8, 35), (9, 36), (10, 37), (11, 38), (12, 39), (13, 4)] (fun j_ s X => match j_ with | 0 => Below X4.heap.size X4 X | 1 => Below X4.heap.size X4 X | 2 => Below X4.heap.size X4 X | 3 => Below X4.heap.size X4 X | 4 => Below X4.heap.size X4 X | 5 => Below X4.heap.size X4 X | 6 => Below X4.heap.size X4 X | 7 => Below X4.heap.size X4 X | 8 => Below X4.heap.size X4 X | 9 => Below X4.heap.size X4 X | 10 => Below X4.heap.size X4 X | 11 => Below X4.heap.size X4 X | 12 => Below X4.heap.size X4 X | 13 => Below X4.heap.size X4 X | _ => Below X4.heap.size X4 X) (fun s => fun i_ => match i_ with | 0 => v23 | 1 => v16 | 2 => .bool true | 3 => .bool true | 4 => .int .i64 ((allK p l bs n : Nat) : Int) | 5 => .int .i64 ((allK p l bs n : Nat) : Int) | 6 => .bool true | 7 => .bool true | 8 => .bool true | 9 => .int .i64 ((allE p l bs n : Nat) : Int) | 10 => .int .i64 ((allE p l bs n : Nat) : Int) | 11 => .bool true | 12 => .bool true | 13 => .bool true | _ => undef) () A.1 (by kernel_rfl) (by decide) (by decide) (Below.refl _ _) ?_ ?_
  · intro i_ hi_ s a X hf hv hn hS
    match i_, hi_ with
    | 0, _ => exact stepV rfl rfl (execMvB rfl ((hf 8 (by decide)).trans t8)) ⟨s, ⟨_, rfl, rfl⟩, hS, fun _ _ => rfl⟩
    | 1, _ => exact stepV rfl rfl (execMvB rfl ((hf 5 (by decide)).trans t5)) ⟨s, ⟨_, rfl, rfl⟩, hS, fun _ _ => rfl⟩
    | 2, _ => exact stepC rfl rfl (execCall2 Try.func18 (by kernel_rfl) (by kernel_rfl) rfl (hv 0 (by omega) _ rfl _ rfl) (hv 1 (by omega) _ rfl _ rfl)) (sameI _ _ (allN p l bs n) _ _ X (Fv23.on hS) (Fv16.on hS) (by intro i hi; rfl) (by have := allN_le p l bs n; omega)) fun e w' hh => ⟨_, hh.1, s, ⟨_, rfl, rfl⟩, (hS).trans ((hh.2).mono (hS).size), fun _ _ => rfl⟩
    | 3, _ => exact stepV rfl rfl (execMvB rfl (hv 2 (by omega) _ rfl _ rfl)) ⟨s, ⟨_, rfl, rfl⟩, hS, fun _ _ => rfl⟩
    | 4, _ => exact stepV rfl (wantedOf rfl (yieldedAt rfl rfl (show a.eval (.tmp 30) = .bool true from (hv 3 (by omega) _ rfl _ rfl)))) (execMvB rfl ((hf 9 (by decide)).trans t9)) ⟨s, ⟨_, rfl, rfl⟩, hS, fun _ _ => rfl⟩
    | 5, _ => exact stepV rfl (wantedOf rfl (yieldedAt rfl rfl (show a.eval (.tmp 30) = .bool true from (hv 3 (by omega) _ rfl _ rfl)))) (execMvB rfl ((hf 6 (by decide)).trans t6)) ⟨s, ⟨_, rfl, rfl⟩, hS, fun _ _ => rfl⟩
    | 6, _ => exact stepV rfl (wantedOf rfl (yieldedAt rfl rfl (show a.eval (.tmp 30) = .bool true from (hv 3 (by omega) _ rfl _ rfl)))) (execDec (execEqN (p := allK p l bs n) (q := allK p l bs n) rfl (hv 4 (by omega) _ rfl _ rfl) (hv 5 (by omega) _ rfl _ rfl)) (decide_eq_true (by omega))) ⟨s, ⟨_, rfl, rfl⟩, hS, fun _ _ => rfl⟩
    | 7, _ => exact stepV rfl rfl (execPickT rfl (hv 3 (by omega) _ rfl _ rfl) (hv 6 (by omega) _ rfl _ rfl)) ⟨s, ⟨_, rfl, rfl⟩, hS, fun _ _ => rfl⟩
    | 8, _ => exact stepV rfl rfl (execMvB rfl (hv 7 (by omega) _ rfl _ rfl)) ⟨s, ⟨_, rfl, rfl⟩, hS, fun _ _ => rfl⟩
    | 9, _ => exact stepV rfl (wantedOf rfl (yieldedAt rfl rfl (show a.eval (.tmp 35) = .bool true from (hv 8 (by omega) _ rfl _ rfl)))) (execMvB rfl ((hf 10 (by decide)).trans t10)) ⟨s, ⟨_, rfl, rfl⟩, hS, fun _ _ => rfl⟩
    | 10, _ => exact stepV rfl (wantedOf rfl (yieldedAt rfl rfl (show a.eval (.tmp 35) = .bool true from (hv 8 (by omega) _ rfl _ rfl)))) (execMvB rfl ((hf 7 (by decide)).trans t7)) ⟨s, ⟨_, rfl, rfl⟩, hS, fun _ _ => rfl⟩
    | 11, _ => exact stepV rfl (wantedOf rfl (yieldedAt rfl rfl (show a.eval (.tmp 35) = .bool true from (hv 8 (by omega) _ rfl _ rfl)))) (execDec (execEqN (p := allE p l bs n) (q := allE p l bs n) rfl (hv 9 (by omega) _ rfl _ rfl) (hv 10 (by omega) _ rfl _ rfl)) (decide_eq_true (by omega))) ⟨s, ⟨_, rfl, rfl⟩, hS, fun _ _ => rfl⟩
    | 12, _ => exact stepV rfl rfl (execPickT rfl (hv 8 (by omega) _ rfl _ rfl) (hv 11 (by omega) _ rfl _ rfl)) ⟨s, ⟨_, rfl, rfl⟩, hS, fun _ _ => rfl⟩
    | 13, _ => exact stepV rfl rfl (execAsgB rfl (hv 12 (by omega) _ rfl _ rfl)) ⟨s, ⟨_, rfl, rfl⟩, hS, fun _ _ => rfl⟩
    | k_ + 14, h_ => exact absurd h_ (by simp)
  rintro _ a X5 h1 h2 h3 h4 hS
  replace hS : Below X4.heap.size X4 X5 := hS
  have bX := hS
  clear hS
  have t4 : a.eval (.tmp 4) = .bool true := h4 13 _ rfl _ rfl
  replace FP := (FP.on bX)
  replace FI := (FI.on bX)
  replace Fv16 := (Fv16.on bX)
  replace Fv23 := (Fv23.on bX)
  have ZX5 := bX.size
  replace BW := BW.trans (bX.mono BW.size)
  clear bX
  replace A := (⟨h1, h2.trans A.2⟩ : a.tmps.size = 40 ∧ a.defers = [])
  clear h1 h2 h3 h4
  clear t5 t6 t7 t8 t9 t10
  refine wp_ret ?_
  refine bodyPost_ret (results_tmp rfl _ _ _) A.2 ⟨?_, BW⟩
  show Ending.returned (a.eval (.tmp 4)) = _
  rw [t4]
set_option maxRecDepth 100000 in
set_option maxHeartbeats 4000000 in
theorem turns_any (I : Impl) (p : Nat → Nat) (l : Nat) (bs : Nat → Int) (n : Nat) (pv bv : Value) (ws : Nat → Int) (m : Nat) (wv : Value) (V : World) (hp : SliceN V pv l p) (hl : l ≤ 140737488351232) (hb : SliceI V bv n bs) (hn17 : n ≤ 17592186044416) (hz : ∀ l c, pv = .slice none l c → c = 0) (hwv : SliceI V wv m ws) (hm17 : m ≤ 17592186044416) :
    Calls Try.prog 5 #[pv, bv, wv] V fun e w' => e = .returned (.bool true) ∧ Below V.heap.size V w' := by
  have FP := hp
  have FI := hb
  have FJ := hwv
  have hpb := hp.bytes
  go_enter Try.func5, Try.ntmps5
  refine wp_seq ?_
  refine wp_region_sqK 37 [(0, 6)] (fun i_ => match i_ with | 0 => .bool false | _ => undef) rfl (by kernel_rfl) (by decide) (by decide) ?_ ?_
  · intro i_ hi_ a hf hv hn
    match i_, hi_ with
    | 0, _ => exact stepV rfl rfl (execAsgB rfl rfl) ⟨⟨_, rfl, rfl⟩, rfl⟩
    | k_ + 1, h_ => exact absurd h_ (by simp)
  intro a h1 h2 h3 h4
  have t0 : a.eval (.tmp 0) = pv := (h3 0 (by decide)).trans rfl
  have t1 : a.eval (.tmp 1) = bv := (h3 1 (by decide)).trans rfl
  have t2 : a.eval (.tmp 2) = wv := (h3 2 (by decide)).trans rfl
  have A : a.tmps.size = 37 ∧ a.defers = [] := ⟨h1, h2⟩
  have BW : Below V.heap.size V V := Below.refl _ _
  clear h1 h2 h3 h4
  refine wp_seq ?_
  refine wp_seq ?_
  refine wp_region_sq (σ := Unit) 37 [(0, 11), (1, 12)] (fun j_ s X => match j_ with | 0 => Below V.heap.size V X | 1 => Below V.heap.size V X | _ => Below V.heap.size V X) (fun s => fun i_ => match i_ with | 0 => .bool true | 1 => .bool false | _ => undef) () A.1 (by kernel_rfl) (by decide) (by decide) (Below.refl _ _) ?_ ?_
  · intro i_ hi_ s a X hf hv hn hS
    match i_, hi_ with
    | 0, _ => exact stepC rfl rfl (execCall0 Try.func9 (by kernel_rfl) (by kernel_rfl) rfl ) (alive10 I X) fun e w' hh => ⟨_, hh.1, s, ⟨_, rfl, rfl⟩, (hS).trans ((hh.2).mono (hS).size), fun _ _ => rfl⟩
    | 1, _ => exact stepV rfl rfl (execNot8 rfl (hv 0 (by omega) _ rfl _ rfl)) ⟨s, ⟨_, rfl, rfl⟩, hS, fun _ _ => rfl⟩
    | k_ + 2, h_ => exact absurd h_ (by simp)
  rintro _ a X1 h1 h2 h3 h4 hS
  replace hS : Below V.heap.size V X1 := hS
  have bX := hS
  clear hS
  replace t0 := (h3 0 (by decide)).trans t0
  replace t1 := (h3 1 (by decide)).trans t1
  replace t2 := (h3 2 (by decide)).trans t2
  have t12 : a.eval (.tmp 12) = .bool false := h4 1 _ rfl _ rfl
  replace FP := (FP.on bX)
  replace FI := (FI.on bX)
  replace FJ := (FJ.on bX)
  have ZX1 := bX.size
  replace BW := BW.trans (bX.mono BW.size)
  clear bX
  replace A := (⟨h1, h2.trans A.2⟩ : a.tmps.size = 37 ∧ a.defers = [])
  clear h1 h2 h3 h4
  refine wp_cond_false t12 ?_
  refine wp_skip ?_
  clear t12
  refine wp_seq ?_
  refine wp_region_sq (σ := Value) 37 [(0, 14), (1, 15), (2, 16), (3, 17), (4, 13), (5, 18), (6, 19), (7, 7), (8, 8)] (fun j_ s X => match j_ with | 0 => Below X1.heap.size X1 X | 1 => Below X1.heap.size X1 X | 2 => Below X1.heap.size X1 X | 3 => Below X1.heap.size X1 X | 4 => Below X1.heap.size X1 X ∧ SliceN X s (trN p l bs n ws m) (trF p l bs ws n) | 5 => Below X1.heap.size X1 X ∧ SliceN X s (trN p l bs n ws m) (trF p l bs ws n) | 6 => Below X1.heap.size X1 X ∧ SliceN X s (trN p l bs n ws m) (trF p l bs ws n) | 7 => Below X1.heap.size X1 X ∧ SliceN X s (trN p l bs n ws m) (trF p l bs ws n) | 8 => Below X1.heap.size X1 X ∧ SliceN X s (trN p l bs n ws m) (trF p l bs ws n) | _ => Below X1.heap.size X1 X ∧ SliceN X s (trN p l bs n ws m) (trF p l bs ws n)) (fun s => fun i_ => match i_ with | 0 => pv | 1 => bv | 2 => wv | 3 => .tuple #[s, .int .i64 ((trE p l bs n ws m : Nat) : Int)] | 4 => .tuple #[s, .int .i64 ((trE p l bs n ws m : Nat) : Int)] | 5 => s | 6 => .int .i64 ((trE p l bs n ws m : Nat) : Int) | 7 => s | 8 => .int .i64 ((trE p l bs n ws m : Nat) : Int) | _ => undef) undef A.1 (by kernel_rfl) (by decide) (by decide) (Below.refl _ _) ?_ ?_
  · intro i_ hi_ s a X hf hv hn hS
    match i_, hi_ with
    | 0, _ => exact stepV rfl rfl (execMvB rfl ((hf 0 (by decide)).trans t0)) ⟨s, ⟨_, rfl, rfl⟩, hS, fun _ _ => rfl⟩
    | 1, _ => exact stepV rfl rfl (execMvB rfl ((hf 1 (by decide)).trans t1)) ⟨s, ⟨_, rfl, rfl⟩, hS, fun _ _ => rfl⟩
    | 2, _ => exact stepV rfl rfl (execMvB rfl ((hf 2 (by decide)).trans t2)) ⟨s, ⟨_, rfl, rfl⟩, hS, fun _ _ => rfl⟩
    | 3, _ =>
      refine stepC rfl rfl (execCall3 Try.func19 (by kernel_rfl) (by kernel_rfl) rfl (hv 0 (by omega) _ rfl _ rfl) (hv 1 (by omega) _ rfl _ rfl) (hv 2 (by omega) _ rfl _ rfl)) (rturn_any p l bs ws n m _ _ _ X (FP.on hS) (by omega) hz (FI.on hS) (by omega) (FJ.on hS) (by omega)) fun e w' hh => ?_
      obtain ⟨r_, he, hk, hb⟩ := hh
      refine ⟨_, he, r_, ⟨_, rfl, rfl⟩, ⟨(hS).trans ((hb).mono (hS).size), own_slice hk (tr_fits hpb)⟩, fun i hi => ?_⟩
      match i, hi with
      | 0, _ => rfl
      | 1, _ => rfl
      | 2, _ => rfl
      | n_ + 3, h_ => omega
    | 4, _ => exact stepV rfl rfl (execMvB rfl (hv 3 (by omega) _ rfl _ rfl)) ⟨s, ⟨_, rfl, rfl⟩, hS, fun _ _ => rfl⟩
    | 5, _ => exact stepV rfl rfl (execExtT rfl (hv 4 (by omega) _ rfl _ rfl) rfl) ⟨s, ⟨_, rfl, rfl⟩, hS, fun _ _ => rfl⟩
    | 6, _ => exact stepV rfl rfl (execExtT rfl (hv 4 (by omega) _ rfl _ rfl) rfl) ⟨s, ⟨_, rfl, rfl⟩, hS, fun _ _ => rfl⟩
    | 7, _ => exact stepV rfl rfl (execAsgB rfl (hv 5 (by omega) _ rfl _ rfl)) ⟨s, ⟨_, rfl, rfl⟩, hS, fun _ _ => rfl⟩
    | 8, _ => exact stepV rfl rfl (execAsgB rfl (hv 6 (by omega) _ rfl _ rfl)) ⟨s, ⟨_, rfl, rfl⟩, hS, fun _ _ => rfl⟩
    | k_ + 9, h_ => exact absurd h_ (by simp)
  rintro v17 a X3 h1 h2 h3 h4 hS
  replace hS : Below X1.heap.size X1 X3 ∧ SliceN X3 v17 (trN p l bs n ws m) (trF p l bs ws n) := hS
  obtain ⟨bX, Fv17⟩ := hS
  replace t0 := (h3 0 (by decide)).trans t0
  replace t1 := (h3 1 (by decide)).trans t1
  replace t2 := (h3 2 (by decide)).trans t2
  have t7 : a.eval (.tmp 7) = v17 := h4 7 _ rfl _ rfl
  have t8 : a.eval (.tmp 8) = .int .i64 ((trE p l bs n ws m : Nat) : Int) := h4 8 _ rfl _ rfl
  replace FP := (FP.on bX)
  replace FI := (FI.on bX)
  replace FJ := (FJ.on bX)
  have ZX3 := bX.size
  replace BW := BW.trans (bX.mono BW.size)
  clear bX
  replace A := (⟨h1, h2.trans A.2⟩ : a.tmps.size = 37 ∧ a.defers = [])
  clear h1 h2 h3 h4
  refine wp_seq ?_
  refine wp_region_sq (σ := Value) 37 [(0, 21), (1, 22), (2, 23), (3, 24), (4, 20), (5, 25), (6, 26), (7, 9), (8, 10)] (fun j_ s X => match j_ with | 0 => Below X3.heap.size X3 X | 1 => Below X3.heap.size X3 X | 2 => Below X3.heap.size X3 X | 3 => Below X3.heap.size X3 X | 4 => Below X3.heap.size X3 X ∧ SliceN X s (trN p l bs n ws m) (trF p l bs ws n) | 5 => Below X3.heap.size X3 X ∧ SliceN X s (trN p l bs n ws m) (trF p l bs ws n) | 6 => Below X3.heap.size X3 X ∧ SliceN X s (trN p l bs n ws m) (trF p l bs ws n) | 7 => Below X3.heap.size X3 X ∧ SliceN X s (trN p l bs n ws m) (trF p l bs ws n) | 8 => Below X3.heap.size X3 X ∧ SliceN X s (trN p l bs n ws m) (trF p l bs ws n) | _ => Below X3.heap.size X3 X ∧ SliceN X s (trN p l bs n ws m) (trF p l bs ws n)) (fun s => fun i_ => match i_ with | 0 => pv | 1 => bv | 2 => wv | 3 => .tuple #[s, .int .i64 ((trE p l bs n ws m : Nat) : Int)] | 4 => .tuple #[s, .int .i64 ((trE p l bs n ws m : Nat) : Int)] | 5 => s | 6 => .int .i64 ((trE p l bs n ws m : Nat) : Int) | 7 => s | 8 => .int .i64 ((trE p l bs n ws m : Nat) : Int) | _ => undef) undef A.1 (by kernel_rfl) (by decide) (by decide) (Below.refl _ _) ?_ ?_
  · intro i_ hi_ s a X hf hv hn hS
    match i_, hi_ with
    | 0, _ => exact stepV rfl rfl (execMvB rfl ((hf 0 (by decide)).trans t0)) ⟨s, ⟨_, rfl, rfl⟩, hS, fun _ _ => rfl⟩
    | 1, _ => exact stepV rfl rfl (execMvB rfl ((hf 1 (by decide)).trans t1)) ⟨s, ⟨_, rfl, rfl⟩, hS, fun _ _ => rfl⟩
    | 2, _ => exact stepV rfl rfl (execMvB rfl ((hf 2 (by decide)).trans t2)) ⟨s, ⟨_, rfl, rfl⟩, hS, fun _ _ => rfl⟩
    | 3, _ =>
      refine stepC rfl rfl (execCall3 Try.func20 (by kernel_rfl) (by kernel_rfl) rfl (hv 0 (by omega) _ rfl _ rfl) (hv 1 (by omega) _ rfl _ rfl) (hv 2 (by omega) _ rfl _ rfl)) (I.turn p l bs ws n m _ _ _ X (FP.on hS) (by omega) hz (FI.on hS) (by omega) (FJ.on hS) (by omega)) fun e w' hh => ?_
      obtain ⟨r_, he, hk, hb⟩ := hh
      refine ⟨_, he, r_, ⟨_, rfl, rfl⟩, ⟨(hS).trans ((hb).mono (hS).size), hk.slice⟩, fun i hi => ?_⟩
      match i, hi with
      | 0, _ => rfl
      | 1, _ => rfl
      | 2, _ => rfl
      | n_ + 3, h_ => omega
    | 4, _ => exact stepV rfl rfl (execMvB rfl (hv 3 (by omega) _ rfl _ rfl)) ⟨s, ⟨_, rfl, rfl⟩, hS, fun _ _ => rfl⟩
    | 5, _ => exact stepV rfl rfl (execExtT rfl (hv 4 (by omega) _ rfl _ rfl) rfl) ⟨s, ⟨_, rfl, rfl⟩, hS, fun _ _ => rfl⟩
    | 6, _ => exact stepV rfl rfl (execExtT rfl (hv 4 (by omega) _ rfl _ rfl) rfl) ⟨s, ⟨_, rfl, rfl⟩, hS, fun _ _ => rfl⟩
    | 7, _ => exact stepV rfl rfl (execAsgB rfl (hv 5 (by omega) _ rfl _ rfl)) ⟨s, ⟨_, rfl, rfl⟩, hS, fun _ _ => rfl⟩
    | 8, _ => exact stepV rfl rfl (execAsgB rfl (hv 6 (by omega) _ rfl _ rfl)) ⟨s, ⟨_, rfl, rfl⟩, hS, fun _ _ => rfl⟩
    | k_ + 9, h_ => exact absurd h_ (by simp)
  rintro v24 a X4 h1 h2 h3 h4 hS
  replace hS : Below X3.heap.size X3 X4 ∧ SliceN X4 v24 (trN p l bs n ws m) (trF p l bs ws n) := hS
  obtain ⟨bX, Fv24⟩ := hS
  replace t7 := (h3 7 (by decide)).trans t7
  replace t8 := (h3 8 (by decide)).trans t8
  have t9 : a.eval (.tmp 9) = v24 := h4 7 _ rfl _ rfl
  have t10 : a.eval (.tmp 10) = .int .i64 ((trE p l bs n ws m : Nat) : Int) := h4 8 _ rfl _ rfl
  replace FP := (FP.on bX)
  replace FI := (FI.on bX)
  replace FJ := (FJ.on bX)
  replace Fv17 := (Fv17.on bX)
  have ZX4 := bX.size
  replace BW := BW.trans (bX.mono BW.size)
  clear bX
  replace A := (⟨h1, h2.trans A.2⟩ : a.tmps.size = 37 ∧ a.defers = [])
  clear h1 h2 h3 h4
  clear t0 t1 t2
  refine wp_seq ?_
  refine wp_region_sq (σ := Unit) 37 [(0, 27), (1, 28), (2, 29), (3, 30), (4, 31), (5, 32), (6, 33), (7, 34), (8, 35), (9, 36), (10, 6)] (fun j_ s X => match j_ with | 0 => Below X4.heap.size X4 X | 1 => Below X4.heap.size X4 X | 2 => Below X4.heap.size X4 X | 3 => Below X4.heap.size X4 X | 4 => Below X4.heap.size X4 X | 5 => Below X4.heap.size X4 X | 6 => Below X4.heap.size X4 X | 7 => Below X4.heap.size X4 X | 8 => Below X4.heap.size X4 X | 9 => Below X4.heap.size X4 X | 10 => Below X4.heap.size X4 X | _ => Below X4.heap.size X4 X) (fun s => fun i_ => match i_ with | 0 => v24 | 1 => .string (strN (trF p l bs ws n) (trN p l bs n ws m)) | 2 => v17 | 3 => .string (strN (trF p l bs ws n) (trN p l bs n ws m)) | 4 => .bool true | 5 => .bool true | 6 => .int .i64 ((trE p l bs n ws m : Nat) : Int) | 7 => .int .i64 ((trE p l bs n ws m : Nat) : Int) | 8 => .bool true | 9 => .bool true | 10 => .bool true | _ => undef) () A.1 (by kernel_rfl) (by decide) (by decide) (Below.refl _ _) ?_ ?_
  · intro i_ hi_ s a X hf hv hn hS
    match i_, hi_ with
    | 0, _ => exact stepV rfl rfl (execMvB rfl ((hf 9 (by decide)).trans t9)) ⟨s, ⟨_, rfl, rfl⟩, hS, fun _ _ => rfl⟩
    | 1, _ => exact stepV rfl rfl (By8.execStr rfl (hv 0 (by omega) _ rfl _ rfl) (Fv24.on hS)) ⟨s, ⟨_, rfl, rfl⟩, hS, fun _ _ => rfl⟩
    | 2, _ => exact stepV rfl rfl (execMvB rfl ((hf 7 (by decide)).trans t7)) ⟨s, ⟨_, rfl, rfl⟩, hS, fun _ _ => rfl⟩
    | 3, _ => exact stepV rfl rfl (By8.execStr rfl (hv 2 (by omega) _ rfl _ rfl) (Fv17.on hS)) ⟨s, ⟨_, rfl, rfl⟩, hS, fun _ _ => rfl⟩
    | 4, _ => exact stepV rfl rfl (By8.execEqlS rfl (hv 1 (by omega) _ rfl _ rfl) (hv 3 (by omega) _ rfl _ rfl)) ⟨s, ⟨_, rfl, rfl⟩, hS, fun _ _ => rfl⟩
    | 5, _ => exact stepV rfl rfl (execMvB rfl (hv 4 (by omega) _ rfl _ rfl)) ⟨s, ⟨_, rfl, rfl⟩, hS, fun _ _ => rfl⟩
    | 6, _ => exact stepV rfl (wantedOf rfl (yieldedAt rfl rfl (show a.eval (.tmp 32) = .bool true from (hv 5 (by omega) _ rfl _ rfl)))) (execMvB rfl ((hf 10 (by decide)).trans t10)) ⟨s, ⟨_, rfl, rfl⟩, hS, fun _ _ => rfl⟩
    | 7, _ => exact stepV rfl (wantedOf rfl (yieldedAt rfl rfl (show a.eval (.tmp 32) = .bool true from (hv 5 (by omega) _ rfl _ rfl)))) (execMvB rfl ((hf 8 (by decide)).trans t8)) ⟨s, ⟨_, rfl, rfl⟩, hS, fun _ _ => rfl⟩
    | 8, _ => exact stepV rfl (wantedOf rfl (yieldedAt rfl rfl (show a.eval (.tmp 32) = .bool true from (hv 5 (by omega) _ rfl _ rfl)))) (execDec (execEqN (p := trE p l bs n ws m) (q := trE p l bs n ws m) rfl (hv 6 (by omega) _ rfl _ rfl) (hv 7 (by omega) _ rfl _ rfl)) (decide_eq_true (by omega))) ⟨s, ⟨_, rfl, rfl⟩, hS, fun _ _ => rfl⟩
    | 9, _ => exact stepV rfl rfl (execPickT rfl (hv 5 (by omega) _ rfl _ rfl) (hv 8 (by omega) _ rfl _ rfl)) ⟨s, ⟨_, rfl, rfl⟩, hS, fun _ _ => rfl⟩
    | 10, _ => exact stepV rfl rfl (execAsgB rfl (hv 9 (by omega) _ rfl _ rfl)) ⟨s, ⟨_, rfl, rfl⟩, hS, fun _ _ => rfl⟩
    | k_ + 11, h_ => exact absurd h_ (by simp)
  rintro _ a X5 h1 h2 h3 h4 hS
  replace hS : Below X4.heap.size X4 X5 := hS
  have bX := hS
  clear hS
  have t6 : a.eval (.tmp 6) = .bool true := h4 10 _ rfl _ rfl
  replace FP := (FP.on bX)
  replace FI := (FI.on bX)
  replace FJ := (FJ.on bX)
  replace Fv17 := (Fv17.on bX)
  replace Fv24 := (Fv24.on bX)
  have ZX5 := bX.size
  replace BW := BW.trans (bX.mono BW.size)
  clear bX
  replace A := (⟨h1, h2.trans A.2⟩ : a.tmps.size = 37 ∧ a.defers = [])
  clear h1 h2 h3 h4
  clear t7 t8 t9 t10
  refine wp_ret ?_
  refine bodyPost_ret (results_tmp rfl _ _ _) A.2 ⟨?_, BW⟩
  show Ending.returned (a.eval (.tmp 6)) = _
  rw [t6]
end Go.Proofs.Ytpclecbhfjalnaa.Drw
