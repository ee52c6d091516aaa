import Derived.Test.YtigkmgoidbamnaaV9n
namespace Go.Proofs.Ytigkmgoidbamnaa.Tap
open Go.RowKit Gf8 Aes By8 Cel Cf
/- The law's awake, TapeJoins. Written by tools/mkV9o.py. -/

theorem ne9 {X : World} {g : Nat} {c : Obj} (h : X.heap[g]? = some c) : g ≠ X.heap.size := by have := (Array.getElem?_eq_some_iff.1 h).1; omega
theorem cat2_is (p : Nat → Nat) (i j : Nat) : cat2 i (fun j => p (0 + j)) (fun j => p (0 + i + j)) j = p (0 + j) := by
  unfold cat2
  by_cases hq : j < i
  · rw [if_pos hq]
  · rw [if_neg hq]
    show p _ = p _
    congr 1
    omega
theorem execDec {o : Oper} {a : Act} {P : Program} {w w' : World} {b c : Bool} (h : (execOp a.eval o).run P w = .ok (.value (.bool b)) w') (e : b = c) : (execOp a.eval o).run P w = .ok (.value (.bool c)) w' := by rw [h, e]
theorem execLit3 {o : Oper} {a : Act} {w : World} (ho : o.op = .buildSlice 27 3 #[(0, .const (.int .u8 1)), (1, .const (.int .u8 2)), (2, .const (.int .u8 3))]) : (execOp a.eval o).run Try.prog w = .ok (.value (.slice (some ⟨w.heap.size, 0, none⟩) 3 3)) (w.alloc (.cells #[.int .u8 1, .int .u8 2, .int .u8 3] 5)) := by
  unfold execOp
  simp only [ho]
  simp [go_sem]
set_option maxRecDepth 100000 in
set_option maxHeartbeats 4000000 in
theorem awake9 (V : World) : Calls Try.prog 7 #[] V fun e w' => e = .returned (.bool true) ∧ Below V.heap.size V w' := by
  have hp : ∀ j, j < 3 → l123 j < 256 := fun j hj => by unfold l123; omega
  go_enter Try.func7, Try.ntmps7
  refine wp_seq ?_
  refine wp_region_sqK 28 [(0, 0)] (fun i_ => match i_ with | 0 => .bool false | _ => undef) rfl (by kernel_rfl) (by decide) (by decide) ?_ ?_
  · intro i_ hi_ a hf hv hn
    match i_, hi_ with
    | 0, _ => exact stepV rfl rfl (execAsgB rfl rfl) ⟨⟨_, rfl, rfl⟩, rfl⟩
    | k_ + 1, h_ => exact absurd h_ (by simp)
  intro a h1 h2 h3 h4
  have A : a.tmps.size = 28 ∧ a.defers = [] := ⟨h1, h2⟩
  have BW : Below V.heap.size V V := Below.refl _ _
  clear h1 h2 h3 h4
  refine wp_seq ?_
  refine wp_region_sq (σ := Nat × Value × Nat) 28 [(0, 5), (1, 6), (2, 7), (3, 4), (4, 8), (5, 9), (6, 10), (7, 2), (8, 1), (10, 3)] (fun j_ s X => match j_ with | 0 => Below V.heap.size V X | 1 => Below V.heap.size V X ∧ SliceN X (.slice (some ⟨s.1, 0, none⟩) 3 3) (3) (l123) | 2 => Below V.heap.size V X ∧ SliceN X (.slice (some ⟨s.1, 0, none⟩) 3 3) (3) (l123) | 3 => Below V.heap.size V X ∧ SliceN X (.slice (some ⟨s.1, 0, none⟩) 3 3) (3) (l123) ∧ OwnM X (V.heap.size) s.2.1 (2) (fun j => l123 (0 + j)) | 4 => Below V.heap.size V X ∧ SliceN X (.slice (some ⟨s.1, 0, none⟩) 3 3) (3) (l123) ∧ OwnM X (V.heap.size) s.2.1 (2) (fun j => l123 (0 + j)) | 5 => Below V.heap.size V X ∧ SliceN X (.slice (some ⟨s.1, 0, none⟩) 3 3) (3) (l123) ∧ OwnM X (V.heap.size) s.2.1 (2) (fun j => l123 (0 + j)) | 6 => Below V.heap.size V X ∧ SliceN X (.slice (some ⟨s.1, 0, none⟩) 3 3) (3) (l123) ∧ OwnM X (V.heap.size) s.2.1 (2) (fun j => l123 (0 + j)) | 7 => Below V.heap.size V X ∧ SliceN X (.slice (some ⟨s.1, 0, none⟩) 3 3) (3) (l123) ∧ OwnM X (V.heap.size) s.2.1 (2) (fun j => l123 (0 + j)) | 8 => Below V.heap.size V X ∧ SliceN X (.slice (some ⟨s.1, 0, none⟩) 3 3) (3) (l123) ∧ OwnM X (V.heap.size) s.2.1 (2) (fun j => l123 (0 + j)) ∧ X.heap[s.2.2]? = some (.cells (tpC (fun _ => 0) 0 0) 25) ∧ V.heap.size ≤ s.2.2 | 9 => Below V.heap.size V X ∧ SliceN X (.slice (some ⟨s.1, 0, none⟩) 3 3) (3) (l123) ∧ OwnM X (V.heap.size) s.2.1 (2) (fun j => l123 (0 + j)) ∧ X.heap[s.2.2]? = some (.cells (tpC (fun _ => 0) 0 0) 25) ∧ V.heap.size ≤ s.2.2 | 10 => Below V.heap.size V X ∧ OwnM X (V.heap.size) s.2.1 (2) (fun j => l123 (0 + j)) ∧ V.heap.size ≤ s.2.2 ∧ X.heap[s.2.2]? = some (.cells (tpC l123 3 (0 + 2)) 25) | _ => Below V.heap.size V X ∧ OwnM X (V.heap.size) s.2.1 (2) (fun j => l123 (0 + j)) ∧ V.heap.size ≤ s.2.2 ∧ X.heap[s.2.2]? = some (.cells (tpC l123 3 (0 + 2)) 25)) (fun s => fun i_ => match i_ with | 0 => .slice (some ⟨s.1, 0, none⟩) 3 3 | 1 => .agg (tpC l123 3 0) | 2 => .tuple #[s.2.1, .agg (tpC l123 3 (0 + 2)), .int .i64 ((0 : Nat) : Int)] | 3 => .tuple #[s.2.1, .agg (tpC l123 3 (0 + 2)), .int .i64 ((0 : Nat) : Int)] | 4 => s.2.1 | 5 => .agg (tpC l123 3 (0 + 2)) | 6 => .int .i64 ((0 : Nat) : Int) | 7 => .pointer (some ⟨s.2.2, 0, none⟩) | 8 => s.2.1 | 9 => undef | 10 => .int .i64 ((0 : Nat) : Int) | _ => undef) (0, undef, 0) A.1 (by kernel_rfl) (by decide) (by decide) (Below.refl _ _) ?_ ?_
  · intro i_ hi_ s a X hf hv hn hS
    match i_, hi_ with
    | 0, _ =>
      refine stepV rfl rfl (execLit3 rfl) ⟨(X.heap.size, s.2.1, s.2.2), ⟨_, rfl, rfl⟩, ⟨(hS).trans (((belNew X _)).mono (hS).size), slice123 X⟩, fun i hi => ?_⟩
      omega
    | 1, _ => exact stepC rfl rfl (execCall1 Try.func9 (by kernel_rfl) (by kernel_rfl) rfl (hv 0 (by omega) _ rfl _ rfl)) (new_any l123 3 _ X hS.2) fun e w' hh => ⟨_, hh.1, s, ⟨_, rfl, rfl⟩, ⟨(hS.1).trans ((hh.2).mono (hS.1).size), (hS.2.on hh.2)⟩, fun _ _ => rfl⟩
    | 2, _ =>
      refine stepC rfl rfl (execCall2 Try.func13 (by kernel_rfl) (by kernel_rfl) rfl (hv 1 (by omega) _ rfl _ rfl) rfl) (take_ok l123 3 0 2 X (by decide) (by decide) hp) fun e w' hh => ?_
      obtain ⟨r_, he, hk, hb⟩ := hh
      refine ⟨_, he, (s.1, r_, s.2.2), ⟨_, rfl, rfl⟩, ⟨(hS.1).trans ((hb).mono (hS.1).size), (hS.2.on hb), hk.base (hS.1).size⟩, fun i hi => ?_⟩
      match i, hi with
      | 0, _ => rfl
      | 1, _ => rfl
      | n_ + 2, h_ => omega
    | 3, _ => exact stepV rfl rfl (execMvB rfl (hv 2 (by omega) _ rfl _ rfl)) ⟨s, ⟨_, rfl, rfl⟩, hS, fun _ _ => rfl⟩
    | 4, _ => exact stepV rfl rfl (execExtT rfl (hv 3 (by omega) _ rfl _ rfl) rfl) ⟨s, ⟨_, rfl, rfl⟩, hS, fun _ _ => rfl⟩
    | 5, _ => exact stepV rfl rfl (execExtT rfl (hv 3 (by omega) _ rfl _ rfl) rfl) ⟨s, ⟨_, rfl, rfl⟩, hS, fun _ _ => rfl⟩
    | 6, _ => exact stepV rfl rfl (execExtT rfl (hv 3 (by omega) _ rfl _ rfl) rfl) ⟨s, ⟨_, rfl, rfl⟩, hS, fun _ _ => rfl⟩
    | 7, _ =>
      refine stepV rfl rfl (execAllTp rfl (fun _ => 0)) ⟨(s.1, s.2.1, X.heap.size), ⟨_, rfl, rfl⟩, ⟨(hS.1).trans (((belNew X _)).mono (hS.1).size), (hS.2.1.on (belNew X _)), (hS.2.2.on (belNew X _)), heapNew X _, (hS.1).size⟩, fun i hi => ?_⟩
      match i, hi with
      | 0, _ => rfl
      | 1, _ => rfl
      | 2, _ => rfl
      | 3, _ => rfl
      | 4, _ => rfl
      | 5, _ => rfl
      | 6, _ => rfl
      | n_ + 7, h_ => omega
    | 8, _ => exact stepV rfl rfl (execAsgB rfl (hv 4 (by omega) _ rfl _ rfl)) ⟨s, ⟨_, rfl, rfl⟩, hS, fun _ _ => rfl⟩
    | 9, _ => exact stepS rfl rfl (execStTp rfl (hv 7 (by omega) _ rfl _ rfl) (hv 5 (by omega) _ rfl _ rfl) hS.2.2.2.1 rfl) ⟨s, ⟨_, rfl, rfl⟩, ⟨below4 hS.1 hS.2.2.2.2 _, (hS.2.2.1.set hS.2.2.2.1 (by decide)), hS.2.2.2.2, setRow_heap _ _ _ _ _ _ hS.2.2.2.1⟩, fun _ _ => rfl⟩
    | 10, _ => exact stepV rfl rfl (execAsgB rfl (hv 6 (by omega) _ rfl _ rfl)) ⟨s, ⟨_, rfl, rfl⟩, hS, fun _ _ => rfl⟩
    | k_ + 11, h_ => exact absurd h_ (by simp)
  rintro ⟨g5, v7, g2⟩ a X1 h1 h2 h3 h4 hS
  replace hS : Below V.heap.size V X1 ∧ OwnM X1 (V.heap.size) v7 (2) (fun j => l123 (0 + j)) ∧ V.heap.size ≤ g2 ∧ X1.heap[g2]? = some (.cells (tpC l123 3 (0 + 2)) 25) := hS
  obtain ⟨bX, Fv7, Fge2, F2⟩ := hS
  have t1 : a.eval (.tmp 1) = v7 := h4 8 _ rfl _ rfl
  have t2 : a.eval (.tmp 2) = .pointer (some ⟨g2, 0, none⟩) := h4 7 _ rfl _ rfl
  have t3 : a.eval (.tmp 3) = .int .i64 ((0 : Nat) : Int) := h4 10 _ rfl _ rfl
  have ZX1 := bX.size
  replace BW := BW.trans (bX.mono BW.size)
  clear bX
  replace A := (⟨h1, h2.trans A.2⟩ : a.tmps.size = 28 ∧ a.defers = [])
  clear h1 h2 h3 h4
  refine wp_seq ?_
  refine wp_region_sq (σ := Nat) 28 [(0, 11), (1, 12), (2, 13), (3, 14), (4, 15), (5, 16), (6, 17), (7, 18), (8, 19), (9, 20), (10, 21), (11, 22), (12, 23), (13, 24), (14, 25), (15, 26), (16, 27), (17, 0)] (fun j_ s X => match j_ with | 0 => Below X1.heap.size X1 X | 1 => Below X1.heap.size X1 X | 2 => Below X1.heap.size X1 X | 3 => Below X1.heap.size X1 X | 4 => Below X1.heap.size X1 X | 5 => Below X1.heap.size X1 X ∧ SliceN X (.slice (some ⟨s, 0, none⟩) 2 2) (2) (l123) | 6 => Below X1.heap.size X1 X ∧ SliceN X (.slice (some ⟨s, 0, none⟩) 2 2) (2) (l123) | 7 => Below X1.heap.size X1 X ∧ SliceN X (.slice (some ⟨s, 0, none⟩) 2 2) (2) (l123) | 8 => Below X1.heap.size X1 X ∧ SliceN X (.slice (some ⟨s, 0, none⟩) 2 2) (2) (l123) | 9 => Below X1.heap.size X1 X ∧ SliceN X (.slice (some ⟨s, 0, none⟩) 2 2) (2) (l123) | 10 => Below X1.heap.size X1 X ∧ SliceN X (.slice (some ⟨s, 0, none⟩) 2 2) (2) (l123) | 11 => Below X1.heap.size X1 X ∧ SliceN X (.slice (some ⟨s, 0, none⟩) 2 2) (2) (l123) | 12 => Below X1.heap.size X1 X ∧ SliceN X (.slice (some ⟨s, 0, none⟩) 2 2) (2) (l123) | 13 => Below X1.heap.size X1 X ∧ SliceN X (.slice (some ⟨s, 0, none⟩) 2 2) (2) (l123) | 14 => Below X1.heap.size X1 X ∧ SliceN X (.slice (some ⟨s, 0, none⟩) 2 2) (2) (l123) | 15 => Below X1.heap.size X1 X ∧ SliceN X (.slice (some ⟨s, 0, none⟩) 2 2) (2) (l123) | 16 => Below X1.heap.size X1 X ∧ SliceN X (.slice (some ⟨s, 0, none⟩) 2 2) (2) (l123) | 17 => Below X1.heap.size X1 X ∧ SliceN X (.slice (some ⟨s, 0, none⟩) 2 2) (2) (l123) | _ => Below X1.heap.size X1 X ∧ SliceN X (.slice (some ⟨s, 0, none⟩) 2 2) (2) (l123)) (fun s => fun i_ => match i_ with | 0 => .int .i64 ((0 : Nat) : Int) | 1 => .bool true | 2 => .bool true | 3 => v7 | 4 => .slice (some ⟨s, 0, none⟩) 2 2 | 5 => .bool true | 6 => .bool true | 7 => .bool true | 8 => .agg (tpC l123 3 (0 + 2)) | 9 => .int .i64 ((3 - (0 + 2) : Nat) : Int) | 10 => .bool true | 11 => .bool true | 12 => .bool true | 13 => .agg (tpC l123 3 (0 + 2)) | 14 => .int .i64 (((0 + 2) : Nat) : Int) | 15 => .bool true | 16 => .bool true | 17 => .bool true | _ => undef) 0 A.1 (by kernel_rfl) (by decide) (by decide) (Below.refl _ _) ?_ ?_
  · intro i_ hi_ s a X hf hv hn hS
    match i_, hi_ with
    | 0, _ => exact stepV rfl rfl (execMvB rfl ((hf 3 (by decide)).trans t3)) ⟨s, ⟨_, rfl, rfl⟩, hS, fun _ _ => rfl⟩
    | 1, _ => exact stepV rfl rfl (execDec (execEqE (p := 0) (q := 0) rfl (hv 0 (by omega) _ rfl _ rfl) rfl) (decide_eq_true (by omega))) ⟨s, ⟨_, rfl, rfl⟩, hS, fun _ _ => rfl⟩
    | 2, _ => exact stepV rfl rfl (execMvB rfl (hv 1 (by omega) _ rfl _ rfl)) ⟨s, ⟨_, rfl, rfl⟩, hS, fun _ _ => rfl⟩
    | 3, _ => exact stepV rfl (wantedOf rfl (yieldedAt rfl rfl (show a.eval (.tmp 13) = .bool true from (hv 2 (by omega) _ rfl _ rfl)))) (execMvB rfl ((hf 1 (by decide)).trans t1)) ⟨s, ⟨_, rfl, rfl⟩, hS, fun _ _ => rfl⟩
    | 4, _ =>
      refine stepV rfl (wantedOf rfl (yieldedAt rfl rfl (show a.eval (.tmp 13) = .bool true from (hv 2 (by omega) _ rfl _ rfl)))) (execBsU2 rfl) ⟨X.heap.size, ⟨_, rfl, rfl⟩, ⟨(hS).trans (((belNew X _)).mono (hS).size), slice12 X⟩, fun i hi => ?_⟩
      match i, hi with
      | 0, _ => rfl
      | 1, _ => rfl
      | 2, _ => rfl
      | 3, _ => rfl
      | n_ + 4, h_ => omega
    | 5, _ => exact stepC rfl (wantedOf rfl (yieldedAt rfl rfl (show a.eval (.tmp 13) = .bool true from (hv 2 (by omega) _ rfl _ rfl)))) (execCall2 Try.func10 (by kernel_rfl) (by kernel_rfl) rfl (hv 3 (by omega) _ rfl _ rfl) (hv 4 (by omega) _ rfl _ rfl)) (same_true _ _ (2) _ _ X (Fv7.on hS.1).slice hS.2 (by intro j hj; show l123 (0 + j) = l123 j; rw [Nat.zero_add])) fun e w' hh => ⟨_, hh.1, s, ⟨_, rfl, rfl⟩, by rw [hh.2]; exact hS, fun _ _ => rfl⟩
    | 6, _ => exact stepV rfl rfl (execPickT rfl (hv 2 (by omega) _ rfl _ rfl) (hv 5 (by omega) _ rfl _ rfl)) ⟨s, ⟨_, rfl, rfl⟩, hS, fun _ _ => rfl⟩
    | 7, _ => exact stepV rfl rfl (execMvB rfl (hv 6 (by omega) _ rfl _ rfl)) ⟨s, ⟨_, rfl, rfl⟩, hS, fun _ _ => rfl⟩
    | 8, _ => exact stepV rfl (wantedOf rfl (yieldedAt rfl rfl (show a.eval (.tmp 18) = .bool true from (hv 7 (by omega) _ rfl _ rfl)))) (execLdTp rfl ((hf 2 (by decide)).trans t2) (on9 F2 hS.1)) ⟨s, ⟨_, rfl, rfl⟩, hS, fun _ _ => rfl⟩
    | 9, _ => exact stepC rfl (wantedOf rfl (yieldedAt rfl rfl (show a.eval (.tmp 18) = .bool true from (hv 7 (by omega) _ rfl _ rfl)))) (execCall1 Try.func15 (by kernel_rfl) (by kernel_rfl) rfl (hv 8 (by omega) _ rfl _ rfl)) (left_any l123 3 (0 + 2) X (by omega) (by omega)) fun e w' hh => ⟨_, hh.1, s, ⟨_, rfl, rfl⟩, ⟨(hS.1).trans ((hh.2).mono (hS.1).size), (hS.2.on hh.2)⟩, fun _ _ => rfl⟩
    | 10, _ => exact stepV rfl (wantedOf rfl (yieldedAt rfl rfl (show a.eval (.tmp 18) = .bool true from (hv 7 (by omega) _ rfl _ rfl)))) (execDec (execEqN (p := 3 - (0 + 2)) (q := 1) rfl (hv 9 (by omega) _ rfl _ rfl) rfl) (decide_eq_true (by omega))) ⟨s, ⟨_, rfl, rfl⟩, hS, fun _ _ => rfl⟩
    | 11, _ => exact stepV rfl rfl (execPickT rfl (hv 7 (by omega) _ rfl _ rfl) (hv 10 (by omega) _ rfl _ rfl)) ⟨s, ⟨_, rfl, rfl⟩, hS, fun _ _ => rfl⟩
    | 12, _ => exact stepV rfl rfl (execMvB rfl (hv 11 (by omega) _ rfl _ rfl)) ⟨s, ⟨_, rfl, rfl⟩, hS, fun _ _ => rfl⟩
    | 13, _ => exact stepV rfl (wantedOf rfl (yieldedAt rfl rfl (show a.eval (.tmp 23) = .bool true from (hv 12 (by omega) _ rfl _ rfl)))) (execLdTp rfl ((hf 2 (by decide)).trans t2) (on9 F2 hS.1)) ⟨s, ⟨_, rfl, rfl⟩, hS, fun _ _ => rfl⟩
    | 14, _ => exact stepC rfl (wantedOf rfl (yieldedAt rfl rfl (show a.eval (.tmp 23) = .bool true from (hv 12 (by omega) _ rfl _ rfl)))) (execCall1 Try.func16 (by kernel_rfl) (by kernel_rfl) rfl (hv 13 (by omega) _ rfl _ rfl)) (used_any l123 3 (0 + 2) X) fun e w' hh => ⟨_, hh.1, s, ⟨_, rfl, rfl⟩, ⟨(hS.1).trans ((hh.2).mono (hS.1).size), (hS.2.on hh.2)⟩, fun _ _ => rfl⟩
    | 15, _ => exact stepV rfl (wantedOf rfl (yieldedAt rfl rfl (show a.eval (.tmp 23) = .bool true from (hv 12 (by omega) _ rfl _ rfl)))) (execDec (execEqN (p := (0 + 2)) (q := 2) rfl (hv 14 (by omega) _ rfl _ rfl) rfl) (decide_eq_true (by omega))) ⟨s, ⟨_, rfl, rfl⟩, hS, fun _ _ => rfl⟩
    | 16, _ => exact stepV rfl rfl (execPickT rfl (hv 12 (by omega) _ rfl _ rfl) (hv 15 (by omega) _ rfl _ rfl)) ⟨s, ⟨_, rfl, rfl⟩, hS, fun _ _ => rfl⟩
    | 17, _ => exact stepV rfl rfl (execAsgB rfl (hv 16 (by omega) _ rfl _ rfl)) ⟨s, ⟨_, rfl, rfl⟩, hS, fun _ _ => rfl⟩
    | k_ + 18, h_ => exact absurd h_ (by simp)
  rintro g15 a X2 h1 h2 h3 h4 hS
  replace hS : Below X1.heap.size X1 X2 ∧ SliceN X2 (.slice (some ⟨g15, 0, none⟩) 2 2) (2) (l123) := hS
  obtain ⟨bX, Fg15⟩ := hS
  have t0 : a.eval (.tmp 0) = .bool true := h4 17 _ rfl _ rfl
  replace Fv7 := (Fv7.on bX)
  replace Fge2 := Fge2
  replace F2 := (on9 F2 bX)
  have ZX2 := bX.size
  replace BW := BW.trans (bX.mono BW.size)
  clear bX
  replace A := (⟨h1, h2.trans A.2⟩ : a.tmps.size = 28 ∧ a.defers = [])
  clear h1 h2 h3 h4
  clear t1 t2 t3
  refine wp_ret ?_
  refine bodyPost_ret (results_tmp rfl _ _ _) A.2 ⟨?_, BW⟩
  show Ending.returned (a.eval (.tmp 0)) = _
  rw [t0]
set_option maxRecDepth 100000 in
set_option maxHeartbeats 4000000 in
theorem joins_any (p : Nat → Nat) (len : Nat) (v : Value) (n m : Int) (V : World) (hv : SliceN V v len p) (hl : len ≤ 140737488351232) (n1 : -9223372036854775808 ≤ n) (n2 : n < 9223372036854775808) (m1 : -9223372036854775808 ≤ m) (m2 : m < 9223372036854775808) :
    Calls Try.prog 6 #[v, .int .i64 n, .int .i64 m] V fun e w' => e = .returned (.bool true) ∧ Below V.heap.size V w' := by
  obtain ⟨ao, cap, rfl, _⟩ := id hv.shape
  have FP := hv
  have hp := hv.bytes
  clear hv
  obtain ⟨N1, eN⟩ : ∃ N1, plcN n (len + 1) = N1 := ⟨_, rfl⟩
  obtain ⟨M1, eM⟩ : ∃ M1, plcN m (len + 1) = M1 := ⟨_, rfl⟩
  have hN : N1 ≤ len := by rw [← eN]; unfold plcN; have := Nat.mod_lt (if n < 0 then -(n + 1) else n).toNat (show 0 < len + 1 by omega); omega
  have hM : M1 ≤ len := by rw [← eM]; unfold plcN; have := Nat.mod_lt (if m < 0 then -(m + 1) else m).toNat (show 0 < len + 1 by omega); omega
  go_enter Try.func6, Try.ntmps6
  refine wp_seq ?_
  refine wp_region_sqK 192 [(0, 6)] (fun i_ => match i_ with | 0 => .bool false | _ => undef) rfl (by kernel_rfl) (by decide) (by decide) ?_ ?_
  · intro i_ hi_ a hf hv hn
    match i_, hi_ with
    | 0, _ => exact stepV rfl rfl (execAsgB rfl rfl) ⟨⟨_, rfl, rfl⟩, rfl⟩
    | k_ + 1, h_ => exact absurd h_ (by simp)
  intro a h1 h2 h3 h4
  have t0 : a.eval (.tmp 0) = .slice ao len cap := (h3 0 (by decide)).trans rfl
  have t1 : a.eval (.tmp 1) = .int .i64 n := (h3 1 (by decide)).trans rfl
  have t2 : a.eval (.tmp 2) = .int .i64 m := (h3 2 (by decide)).trans rfl
  have A : a.tmps.size = 192 ∧ a.defers = [] := ⟨h1, h2⟩
  have BW : Below V.heap.size V V := Below.refl _ _
  clear h1 h2 h3 h4
  refine wp_seq ?_
  refine wp_seq ?_
  refine wp_region_sq (σ := Unit) 192 [(0, 25), (1, 26)] (fun j_ s X => match j_ with | 0 => Below V.heap.size V X | 1 => Below V.heap.size V X | _ => Below V.heap.size V X) (fun s => fun i_ => match i_ with | 0 => .bool true | 1 => .bool false | _ => undef) () A.1 (by kernel_rfl) (by decide) (by decide) (Below.refl _ _) ?_ ?_
  · intro i_ hi_ s a X hf hv hn hS
    match i_, hi_ with
    | 0, _ => exact stepC rfl rfl (execCall0 Try.func7 (by kernel_rfl) (by kernel_rfl) rfl ) (awake9 X) fun e w' hh => ⟨_, hh.1, s, ⟨_, rfl, rfl⟩, (hS).trans ((hh.2).mono (hS).size), fun _ _ => rfl⟩
    | 1, _ => exact stepV rfl rfl (execNot8 rfl (hv 0 (by omega) _ rfl _ rfl)) ⟨s, ⟨_, rfl, rfl⟩, hS, fun _ _ => rfl⟩
    | k_ + 2, h_ => exact absurd h_ (by simp)
  rintro _ a X1 h1 h2 h3 h4 hS
  replace hS : Below V.heap.size V X1 := hS
  have bX := hS
  clear hS
  replace t0 := (h3 0 (by decide)).trans t0
  replace t1 := (h3 1 (by decide)).trans t1
  replace t2 := (h3 2 (by decide)).trans t2
  have t26 : a.eval (.tmp 26) = .bool false := h4 1 _ rfl _ rfl
  replace FP := (FP.on bX)
  have ZX1 := bX.size
  replace BW := BW.trans (bX.mono BW.size)
  clear bX
  replace A := (⟨h1, h2.trans A.2⟩ : a.tmps.size = 192 ∧ a.defers = [])
  clear h1 h2 h3 h4
  refine wp_cond_false t26 ?_
  refine wp_skip ?_
  clear t26
  refine wp_seq ?_
  refine wp_region_sq (σ := Nat) 192 [(0, 27), (1, 28), (2, 7)] (fun j_ s X => match j_ with | 0 => Below X1.heap.size X1 X | 1 => Below X1.heap.size X1 X | 2 => Below X1.heap.size X1 X | 3 => Below X1.heap.size X1 X ∧ X.heap[s]? = some (.cells (tpC (fun _ => 0) 0 0) 25) ∧ X1.heap.size ≤ s | _ => Below X1.heap.size X1 X ∧ X1.heap.size ≤ s ∧ X.heap[s]? = some (.cells (tpC p len 0) 25)) (fun s => fun i_ => match i_ with | 0 => .slice ao len cap | 1 => .agg (tpC p len 0) | 2 => .pointer (some ⟨s, 0, none⟩) | 3 => undef | _ => undef) 0 A.1 (by kernel_rfl) (by decide) (by decide) (Below.refl _ _) ?_ ?_
  · intro i_ hi_ s a X hf hv hn hS
    match i_, hi_ with
    | 0, _ => exact stepV rfl rfl (execMvB rfl ((hf 0 (by decide)).trans t0)) ⟨s, ⟨_, rfl, rfl⟩, hS, fun _ _ => rfl⟩
    | 1, _ => exact stepC rfl rfl (execCall1 Try.func9 (by kernel_rfl) (by kernel_rfl) rfl (hv 0 (by omega) _ rfl _ rfl)) (new_any p len _ X (FP.on hS)) fun e w' hh => ⟨_, hh.1, s, ⟨_, rfl, rfl⟩, (hS).trans ((hh.2).mono (hS).size), fun _ _ => rfl⟩
    | 2, _ =>
      refine stepV rfl rfl (execAllTp rfl (fun _ => 0)) ⟨X.heap.size, ⟨_, rfl, rfl⟩, ⟨(hS).trans (((belNew X _)).mono (hS).size), heapNew X _, (hS).size⟩, fun i hi => ?_⟩
      match i, hi with
      | 0, _ => rfl
      | 1, _ => rfl
      | n_ + 2, h_ => omega
    | 3, _ => exact stepS rfl rfl (execStTp rfl (hv 2 (by omega) _ rfl _ rfl) (hv 1 (by omega) _ rfl _ rfl) hS.2.1 rfl) ⟨s, ⟨_, rfl, rfl⟩, ⟨below4 hS.1 hS.2.2 _, hS.2.2, setRow_heap _ _ _ _ _ _ hS.2.1⟩, fun _ _ => rfl⟩
    | k_ + 4, h_ => exact absurd h_ (by simp)
  rintro g7 a X3 h1 h2 h3 h4 hS
  replace hS : Below X1.heap.size X1 X3 ∧ X1.heap.size ≤ g7 ∧ X3.heap[g7]? = some (.cells (tpC p len 0) 25) := hS
  obtain ⟨bX, Fge7, F7⟩ := hS
  replace t0 := (h3 0 (by decide)).trans t0
  replace t1 := (h3 1 (by decide)).trans t1
  replace t2 := (h3 2 (by decide)).trans t2
  have t7 : a.eval (.tmp 7) = .pointer (some ⟨g7, 0, none⟩) := h4 2 _ rfl _ rfl
  replace FP := (FP.on bX)
  have ZX3 := bX.size
  replace BW := BW.trans (bX.mono BW.size)
  clear bX
  replace A := (⟨h1, h2.trans A.2⟩ : a.tmps.size = 192 ∧ a.defers = [])
  clear h1 h2 h3 h4
  refine wp_seq ?_
  refine wp_region_sq (σ := Unit) 192 [(0, 29), (1, 30), (2, 31), (3, 32), (4, 33), (5, 34), (6, 35), (7, 36), (8, 37), (9, 38), (10, 1), (11, 2)] (fun j_ s X => match j_ with | 0 => Below X3.heap.size X3 X | 1 => Below X3.heap.size X3 X | 2 => Below X3.heap.size X3 X | 3 => Below X3.heap.size X3 X | 4 => Below X3.heap.size X3 X | 5 => Below X3.heap.size X3 X | 6 => Below X3.heap.size X3 X | 7 => Below X3.heap.size X3 X | 8 => Below X3.heap.size X3 X | 9 => Below X3.heap.size X3 X | 10 => Below X3.heap.size X3 X | 11 => Below X3.heap.size X3 X | _ => Below X3.heap.size X3 X) (fun s => fun i_ => match i_ with | 0 => .int .i64 n | 1 => .slice ao len cap | 2 => .int .i64 ((len : Nat) : Int) | 3 => .int .i64 ((len + 1 : Nat) : Int) | 4 => .int .i64 ((N1 : Nat) : Int) | 5 => .int .i64 m | 6 => .slice ao len cap | 7 => .int .i64 ((len : Nat) : Int) | 8 => .int .i64 ((len + 1 : Nat) : Int) | 9 => .int .i64 ((M1 : Nat) : Int) | 10 => .int .i64 ((N1 : Nat) : Int) | 11 => .int .i64 ((M1 : Nat) : Int) | _ => undef) () A.1 (by kernel_rfl) (by decide) (by decide) (Below.refl _ _) ?_ ?_
  · intro i_ hi_ s a X hf hv hn hS
    match i_, hi_ with
    | 0, _ => exact stepV rfl rfl (execMvB rfl ((hn 10 (by omega) _ rfl _ rfl).trans t1)) ⟨s, ⟨_, rfl, rfl⟩, hS, fun _ _ => rfl⟩
    | 1, _ => exact stepV rfl rfl (execMvB rfl ((hf 0 (by decide)).trans t0)) ⟨s, ⟨_, rfl, rfl⟩, hS, fun _ _ => rfl⟩
    | 2, _ => exact stepV rfl rfl (execLenV (len := len) rfl (hv 1 (by omega) _ rfl _ rfl) (shp9 (FP.on hS))) ⟨s, ⟨_, rfl, rfl⟩, hS, fun _ _ => rfl⟩
    | 3, _ => exact stepV rfl rfl (execAd8 (p := len) (q := 1) rfl (hv 2 (by omega) _ rfl _ rfl) rfl (by omega)) ⟨s, ⟨_, rfl, rfl⟩, hS, fun _ _ => rfl⟩
    | 4, _ => exact stepC rfl rfl (execCall2 Try.func8 (by kernel_rfl) (by kernel_rfl) rfl (hv 0 (by omega) _ rfl _ rfl) (hv 3 (by omega) _ rfl _ rfl)) (eN ▸ place_any n (len + 1) X n1 n2 (by omega) (by omega)) fun e w' hh => ⟨_, hh.1, s, ⟨_, rfl, rfl⟩, by rw [hh.2]; exact hS, fun _ _ => rfl⟩
    | 5, _ => exact stepV rfl rfl (execMvB rfl ((hn 11 (by omega) _ rfl _ rfl).trans t2)) ⟨s, ⟨_, rfl, rfl⟩, hS, fun _ _ => rfl⟩
    | 6, _ => exact stepV rfl rfl (execMvB rfl ((hf 0 (by decide)).trans t0)) ⟨s, ⟨_, rfl, rfl⟩, hS, fun _ _ => rfl⟩
    | 7, _ => exact stepV rfl rfl (execLenV (len := len) rfl (hv 6 (by omega) _ rfl _ rfl) (shp9 (FP.on hS))) ⟨s, ⟨_, rfl, rfl⟩, hS, fun _ _ => rfl⟩
    | 8, _ => exact stepV rfl rfl (execAd8 (p := len) (q := 1) rfl (hv 7 (by omega) _ rfl _ rfl) rfl (by omega)) ⟨s, ⟨_, rfl, rfl⟩, hS, fun _ _ => rfl⟩
    | 9, _ => exact stepC rfl rfl (execCall2 Try.func8 (by kernel_rfl) (by kernel_rfl) rfl (hv 5 (by omega) _ rfl _ rfl) (hv 8 (by omega) _ rfl _ rfl)) (eM ▸ place_any m (len + 1) X m1 m2 (by omega) (by omega)) fun e w' hh => ⟨_, hh.1, s, ⟨_, rfl, rfl⟩, by rw [hh.2]; exact hS, fun _ _ => rfl⟩
    | 10, _ => exact stepV rfl rfl (execAsgB rfl (hv 4 (by omega) _ rfl _ rfl)) ⟨s, ⟨_, rfl, rfl⟩, hS, fun _ _ => rfl⟩
    | 11, _ => exact stepV rfl rfl (execAsgB rfl (hv 9 (by omega) _ rfl _ rfl)) ⟨s, ⟨_, rfl, rfl⟩, hS, fun _ _ => rfl⟩
    | k_ + 12, h_ => exact absurd h_ (by simp)
  rintro _ a X4 h1 h2 h3 h4 hS
  replace hS : Below X3.heap.size X3 X4 := hS
  have bX := hS
  clear hS
  replace t0 := (h3 0 (by decide)).trans t0
  replace t1 : a.eval (.tmp 1) = .int .i64 ((N1 : Nat) : Int) := h4 10 _ rfl _ rfl
  replace t2 : a.eval (.tmp 2) = .int .i64 ((M1 : Nat) : Int) := h4 11 _ rfl _ rfl
  replace t7 := (h3 7 (by decide)).trans t7
  replace FP := (FP.on bX)
  replace Fge7 := Fge7
  replace F7 := (on9 F7 bX)
  have ZX4 := bX.size
  replace BW := BW.trans (bX.mono BW.size)
  clear bX
  replace A := (⟨h1, h2.trans A.2⟩ : a.tmps.size = 192 ∧ a.defers = [])
  clear h1 h2 h3 h4
  have ZV := BW.size
  refine wp_seq ?_
  refine wp_region_sq (σ := Value × Nat) 192 [(0, 40), (1, 41), (2, 42), (3, 39), (4, 43), (5, 44), (6, 45), (7, 9), (8, 8), (10, 10)] (fun j_ s X => match j_ with | 0 => Below X4.heap.size X4 X | 1 => Below X4.heap.size X4 X | 2 => Below X4.heap.size X4 X | 3 => Below X4.heap.size X4 X ∧ OwnM X (X4.heap.size) s.1 (N1) (fun j => p (0 + j)) | 4 => Below X4.heap.size X4 X ∧ OwnM X (X4.heap.size) s.1 (N1) (fun j => p (0 + j)) | 5 => Below X4.heap.size X4 X ∧ OwnM X (X4.heap.size) s.1 (N1) (fun j => p (0 + j)) | 6 => Below X4.heap.size X4 X ∧ OwnM X (X4.heap.size) s.1 (N1) (fun j => p (0 + j)) | 7 => Below X4.heap.size X4 X ∧ OwnM X (X4.heap.size) s.1 (N1) (fun j => p (0 + j)) | 8 => Below X4.heap.size X4 X ∧ OwnM X (X4.heap.size) s.1 (N1) (fun j => p (0 + j)) ∧ X.heap[s.2]? = some (.cells (tpC (fun _ => 0) 0 0) 25) ∧ X4.heap.size ≤ s.2 | 9 => Below X4.heap.size X4 X ∧ OwnM X (X4.heap.size) s.1 (N1) (fun j => p (0 + j)) ∧ X.heap[s.2]? = some (.cells (tpC (fun _ => 0) 0 0) 25) ∧ X4.heap.size ≤ s.2 | 10 => Below X4.heap.size X4 X ∧ OwnM X (X4.heap.size) s.1 (N1) (fun j => p (0 + j)) ∧ X4.heap.size ≤ s.2 ∧ X.heap[s.2]? = some (.cells (tpC p len (0 + N1)) 25) | _ => Below X4.heap.size X4 X ∧ OwnM X (X4.heap.size) s.1 (N1) (fun j => p (0 + j)) ∧ X4.heap.size ≤ s.2 ∧ X.heap[s.2]? = some (.cells (tpC p len (0 + N1)) 25)) (fun s => fun i_ => match i_ with | 0 => .agg (tpC p len 0) | 1 => .int .i64 ((N1 : Nat) : Int) | 2 => .tuple #[s.1, .agg (tpC p len (0 + N1)), .int .i64 ((0 : Nat) : Int)] | 3 => .tuple #[s.1, .agg (tpC p len (0 + N1)), .int .i64 ((0 : Nat) : Int)] | 4 => s.1 | 5 => .agg (tpC p len (0 + N1)) | 6 => .int .i64 ((0 : Nat) : Int) | 7 => .pointer (some ⟨s.2, 0, none⟩) | 8 => s.1 | 9 => undef | 10 => .int .i64 ((0 : Nat) : Int) | _ => undef) (undef, 0) A.1 (by kernel_rfl) (by decide) (by decide) (Below.refl _ _) ?_ ?_
  · intro i_ hi_ s a X hf hv hn hS
    match i_, hi_ with
    | 0, _ => exact stepV rfl rfl (execLdTp rfl ((hf 7 (by decide)).trans t7) (on9 F7 hS)) ⟨s, ⟨_, rfl, rfl⟩, hS, fun _ _ => rfl⟩
    | 1, _ => exact stepV rfl rfl (execMvB rfl ((hf 1 (by decide)).trans t1)) ⟨s, ⟨_, rfl, rfl⟩, hS, fun _ _ => rfl⟩
    | 2, _ =>
      refine stepC rfl rfl (execCall2 Try.func13 (by kernel_rfl) (by kernel_rfl) rfl (hv 0 (by omega) _ rfl _ rfl) (hv 1 (by omega) _ rfl _ rfl)) (take_ok p len 0 N1 X (by omega) (by omega) hp) fun e w' hh => ?_
      obtain ⟨r_, he, hk, hb⟩ := hh
      refine ⟨_, he, (r_, s.2), ⟨_, rfl, rfl⟩, ⟨(hS).trans ((hb).mono (hS).size), hk.base (hS).size⟩, fun i hi => ?_⟩
      match i, hi with
      | 0, _ => rfl
      | 1, _ => rfl
      | n_ + 2, h_ => omega
    | 3, _ => exact stepV rfl rfl (execMvB rfl (hv 2 (by omega) _ rfl _ rfl)) ⟨s, ⟨_, rfl, rfl⟩, hS, fun _ _ => rfl⟩
    | 4, _ => exact stepV rfl rfl (execExtT rfl (hv 3 (by omega) _ rfl _ rfl) rfl) ⟨s, ⟨_, rfl, rfl⟩, hS, fun _ _ => rfl⟩
    | 5, _ => exact stepV rfl rfl (execExtT rfl (hv 3 (by omega) _ rfl _ rfl) rfl) ⟨s, ⟨_, rfl, rfl⟩, hS, fun _ _ => rfl⟩
    | 6, _ => exact stepV rfl rfl (execExtT rfl (hv 3 (by omega) _ rfl _ rfl) rfl) ⟨s, ⟨_, rfl, rfl⟩, hS, fun _ _ => rfl⟩
    | 7, _ =>
      refine stepV rfl rfl (execAllTp rfl (fun _ => 0)) ⟨(s.1, X.heap.size), ⟨_, rfl, rfl⟩, ⟨(hS.1).trans (((belNew X _)).mono (hS.1).size), (hS.2.on (belNew X _)), heapNew X _, (hS.1).size⟩, fun i hi => ?_⟩
      match i, hi with
      | 0, _ => rfl
      | 1, _ => rfl
      | 2, _ => rfl
      | 3, _ => rfl
      | 4, _ => rfl
      | 5, _ => rfl
      | 6, _ => rfl
      | n_ + 7, h_ => omega
    | 8, _ => exact stepV rfl rfl (execAsgB rfl (hv 4 (by omega) _ rfl _ rfl)) ⟨s, ⟨_, rfl, rfl⟩, hS, fun _ _ => rfl⟩
    | 9, _ => exact stepS rfl rfl (execStTp rfl (hv 7 (by omega) _ rfl _ rfl) (hv 5 (by omega) _ rfl _ rfl) hS.2.2.1 rfl) ⟨s, ⟨_, rfl, rfl⟩, ⟨below4 hS.1 hS.2.2.2 _, (hS.2.1.set hS.2.2.1 (by decide)), hS.2.2.2, setRow_heap _ _ _ _ _ _ hS.2.2.1⟩, fun _ _ => rfl⟩
    | 10, _ => exact stepV rfl rfl (execAsgB rfl (hv 6 (by omega) _ rfl _ rfl)) ⟨s, ⟨_, rfl, rfl⟩, hS, fun _ _ => rfl⟩
    | k_ + 11, h_ => exact absurd h_ (by simp)
  rintro ⟨v42, g9⟩ a X5 h1 h2 h3 h4 hS
  replace hS : Below X4.heap.size X4 X5 ∧ OwnM X5 (X4.heap.size) v42 (N1) (fun j => p (0 + j)) ∧ X4.heap.size ≤ g9 ∧ X5.heap[g9]? = some (.cells (tpC p len (0 + N1)) 25) := hS
  obtain ⟨bX, Fv42, Fge9, F9⟩ := hS
  replace t0 := (h3 0 (by decide)).trans t0
  replace t1 := (h3 1 (by decide)).trans t1
  replace t2 := (h3 2 (by decide)).trans t2
  replace t7 := (h3 7 (by decide)).trans t7
  have t8 : a.eval (.tmp 8) = v42 := h4 8 _ rfl _ rfl
  have t9 : a.eval (.tmp 9) = .pointer (some ⟨g9, 0, none⟩) := h4 7 _ rfl _ rfl
  have t10 : a.eval (.tmp 10) = .int .i64 ((0 : Nat) : Int) := h4 10 _ rfl _ rfl
  replace FP := (FP.on bX)
  replace Fge7 := Fge7
  replace F7 := (on9 F7 bX)
  have ZX5 := bX.size
  replace BW := BW.trans (bX.mono BW.size)
  clear bX
  replace A := (⟨h1, h2.trans A.2⟩ : a.tmps.size = 192 ∧ a.defers = [])
  clear h1 h2 h3 h4
  replace Fv42 := Fv42.base ZV
  refine wp_seq ?_
  refine wp_seq ?_
  refine wp_region_sq (σ := Unit) 192 [(0, 46), (1, 47), (2, 48), (3, 49), (4, 50), (5, 51), (6, 52), (7, 53), (8, 54), (9, 55), (10, 56), (11, 57), (12, 58), (13, 59), (14, 60), (15, 61), (16, 62), (17, 63), (18, 64), (19, 65)] (fun j_ s X => match j_ with | 0 => Below X5.heap.size X5 X | 1 => Below X5.heap.size X5 X | 2 => Below X5.heap.size X5 X | 3 => Below X5.heap.size X5 X | 4 => Below X5.heap.size X5 X | 5 => Below X5.heap.size X5 X | 6 => Below X5.heap.size X5 X | 7 => Below X5.heap.size X5 X | 8 => Below X5.heap.size X5 X | 9 => Below X5.heap.size X5 X | 10 => Below X5.heap.size X5 X | 11 => Below X5.heap.size X5 X | 12 => Below X5.heap.size X5 X | 13 => Below X5.heap.size X5 X | 14 => Below X5.heap.size X5 X | 15 => Below X5.heap.size X5 X | 16 => Below X5.heap.size X5 X | 17 => Below X5.heap.size X5 X | 18 => Below X5.heap.size X5 X | 19 => Below X5.heap.size X5 X | _ => Below X5.heap.size X5 X) (fun s => fun i_ => match i_ with | 0 => .int .i64 ((0 : Nat) : Int) | 1 => .bool false | 2 => .bool false | 3 => v42 | 4 => .int .i64 ((N1 : Nat) : Int) | 5 => .int .i64 ((N1 : Nat) : Int) | 6 => .bool false | 7 => .bool false | 8 => .bool false | 9 => .agg (tpC p len 0) | 10 => .int .i64 ((len - 0 : Nat) : Int) | 11 => .slice ao len cap | 12 => .int .i64 ((len : Nat) : Int) | 13 => .bool false | 14 => .bool false | 15 => .bool false | 16 => .agg (tpC p len 0) | 17 => .int .i64 ((0 : Nat) : Int) | 18 => .bool false | 19 => .bool false | _ => undef) () A.1 (by kernel_rfl) (by decide) (by decide) (Below.refl _ _) ?_ ?_
  · intro i_ hi_ s a X hf hv hn hS
    match i_, hi_ with
    | 0, _ => exact stepV rfl rfl (execMvB rfl ((hf 10 (by decide)).trans t10)) ⟨s, ⟨_, rfl, rfl⟩, hS, fun _ _ => rfl⟩
    | 1, _ => exact stepV rfl rfl (execDec (execNeE (p := 0) (q := 0) rfl (hv 0 (by omega) _ rfl _ rfl) rfl) (decide_eq_false (by omega))) ⟨s, ⟨_, rfl, rfl⟩, hS, fun _ _ => rfl⟩
    | 2, _ => exact stepV rfl rfl (execMvB rfl (hv 1 (by omega) _ rfl _ rfl)) ⟨s, ⟨_, rfl, rfl⟩, hS, fun _ _ => rfl⟩
    | 3, _ => exact stepV rfl (wantedOf rfl (yieldedAt rfl rfl (show a.eval (.tmp 48) = .bool false from (hv 2 (by omega) _ rfl _ rfl)))) (execMvB rfl ((hf 8 (by decide)).trans t8)) ⟨s, ⟨_, rfl, rfl⟩, hS, fun _ _ => rfl⟩
    | 4, _ => exact stepV rfl (wantedOf rfl (yieldedAt rfl rfl (show a.eval (.tmp 48) = .bool false from (hv 2 (by omega) _ rfl _ rfl)))) (execLenV (len := N1) rfl (hv 3 (by omega) _ rfl _ rfl) (shp9 (Fv42.on hS).slice)) ⟨s, ⟨_, rfl, rfl⟩, hS, fun _ _ => rfl⟩
    | 5, _ => exact stepV rfl (wantedOf rfl (yieldedAt rfl rfl (show a.eval (.tmp 48) = .bool false from (hv 2 (by omega) _ rfl _ rfl)))) (execMvB rfl ((hf 1 (by decide)).trans t1)) ⟨s, ⟨_, rfl, rfl⟩, hS, fun _ _ => rfl⟩
    | 6, _ => exact stepV rfl (wantedOf rfl (yieldedAt rfl rfl (show a.eval (.tmp 48) = .bool false from (hv 2 (by omega) _ rfl _ rfl)))) (execDec (execNeN (p := N1) (q := N1) rfl (hv 4 (by omega) _ rfl _ rfl) (hv 5 (by omega) _ rfl _ rfl)) (decide_eq_false (by omega))) ⟨s, ⟨_, rfl, rfl⟩, hS, fun _ _ => rfl⟩
    | 7, _ => exact stepV rfl rfl (execPickF rfl (hv 2 (by omega) _ rfl _ rfl) (hv 6 (by omega) _ rfl _ rfl)) ⟨s, ⟨_, rfl, rfl⟩, hS, fun _ _ => rfl⟩
    | 8, _ => exact stepV rfl rfl (execMvB rfl (hv 7 (by omega) _ rfl _ rfl)) ⟨s, ⟨_, rfl, rfl⟩, hS, fun _ _ => rfl⟩
    | 9, _ => exact stepV rfl (wantedOf rfl (yieldedAt rfl rfl (show a.eval (.tmp 54) = .bool false from (hv 8 (by omega) _ rfl _ rfl)))) (execLdTp rfl ((hf 7 (by decide)).trans t7) (on9 F7 hS)) ⟨s, ⟨_, rfl, rfl⟩, hS, fun _ _ => rfl⟩
    | 10, _ => exact stepC rfl (wantedOf rfl (yieldedAt rfl rfl (show a.eval (.tmp 54) = .bool false from (hv 8 (by omega) _ rfl _ rfl)))) (execCall1 Try.func15 (by kernel_rfl) (by kernel_rfl) rfl (hv 9 (by omega) _ rfl _ rfl)) (left_any p len 0 X (by omega) (by omega)) fun e w' hh => ⟨_, hh.1, s, ⟨_, rfl, rfl⟩, (hS).trans ((hh.2).mono (hS).size), fun _ _ => rfl⟩
    | 11, _ => exact stepV rfl (wantedOf rfl (yieldedAt rfl rfl (show a.eval (.tmp 54) = .bool false from (hv 8 (by omega) _ rfl _ rfl)))) (execMvB rfl ((hf 0 (by decide)).trans t0)) ⟨s, ⟨_, rfl, rfl⟩, hS, fun _ _ => rfl⟩
    | 12, _ => exact stepV rfl (wantedOf rfl (yieldedAt rfl rfl (show a.eval (.tmp 54) = .bool false from (hv 8 (by omega) _ rfl _ rfl)))) (execLenV (len := len) rfl (hv 11 (by omega) _ rfl _ rfl) (shp9 (FP.on hS))) ⟨s, ⟨_, rfl, rfl⟩, hS, fun _ _ => rfl⟩
    | 13, _ => exact stepV rfl (wantedOf rfl (yieldedAt rfl rfl (show a.eval (.tmp 54) = .bool false from (hv 8 (by omega) _ rfl _ rfl)))) (execDec (execNeN (p := len - 0) (q := len) rfl (hv 10 (by omega) _ rfl _ rfl) (hv 12 (by omega) _ rfl _ rfl)) (decide_eq_false (by omega))) ⟨s, ⟨_, rfl, rfl⟩, hS, fun _ _ => rfl⟩
    | 14, _ => exact stepV rfl rfl (execPickF rfl (hv 8 (by omega) _ rfl _ rfl) (hv 13 (by omega) _ rfl _ rfl)) ⟨s, ⟨_, rfl, rfl⟩, hS, fun _ _ => rfl⟩
    | 15, _ => exact stepV rfl rfl (execMvB rfl (hv 14 (by omega) _ rfl _ rfl)) ⟨s, ⟨_, rfl, rfl⟩, hS, fun _ _ => rfl⟩
    | 16, _ => exact stepV rfl (wantedOf rfl (yieldedAt rfl rfl (show a.eval (.tmp 61) = .bool false from (hv 15 (by omega) _ rfl _ rfl)))) (execLdTp rfl ((hf 7 (by decide)).trans t7) (on9 F7 hS)) ⟨s, ⟨_, rfl, rfl⟩, hS, fun _ _ => rfl⟩
    | 17, _ => exact stepC rfl (wantedOf rfl (yieldedAt rfl rfl (show a.eval (.tmp 61) = .bool false from (hv 15 (by omega) _ rfl _ rfl)))) (execCall1 Try.func16 (by kernel_rfl) (by kernel_rfl) rfl (hv 16 (by omega) _ rfl _ rfl)) (used_any p len 0 X) fun e w' hh => ⟨_, hh.1, s, ⟨_, rfl, rfl⟩, (hS).trans ((hh.2).mono (hS).size), fun _ _ => rfl⟩
    | 18, _ => exact stepV rfl (wantedOf rfl (yieldedAt rfl rfl (show a.eval (.tmp 61) = .bool false from (hv 15 (by omega) _ rfl _ rfl)))) (execDec (execNeN (p := 0) (q := 0) rfl (hv 17 (by omega) _ rfl _ rfl) rfl) (decide_eq_false (by omega))) ⟨s, ⟨_, rfl, rfl⟩, hS, fun _ _ => rfl⟩
    | 19, _ => exact stepV rfl rfl (execPickF rfl (hv 15 (by omega) _ rfl _ rfl) (hv 18 (by omega) _ rfl _ rfl)) ⟨s, ⟨_, rfl, rfl⟩, hS, fun _ _ => rfl⟩
    | k_ + 20, h_ => exact absurd h_ (by simp)
  rintro _ a X6 h1 h2 h3 h4 hS
  replace hS : Below X5.heap.size X5 X6 := hS
  have bX := hS
  clear hS
  replace t0 := (h3 0 (by decide)).trans t0
  replace t1 := (h3 1 (by decide)).trans t1
  replace t2 := (h3 2 (by decide)).trans t2
  replace t7 := (h3 7 (by decide)).trans t7
  replace t8 := (h3 8 (by decide)).trans t8
  replace t9 := (h3 9 (by decide)).trans t9
  have t65 : a.eval (.tmp 65) = .bool false := h4 19 _ rfl _ rfl
  replace FP := (FP.on bX)
  replace Fge7 := Fge7
  replace F7 := (on9 F7 bX)
  replace Fv42 := (Fv42.on bX)
  replace Fge9 := Fge9
  replace F9 := (on9 F9 bX)
  have ZX6 := bX.size
  replace BW := BW.trans (bX.mono BW.size)
  clear bX
  replace A := (⟨h1, h2.trans A.2⟩ : a.tmps.size = 192 ∧ a.defers = [])
  clear h1 h2 h3 h4
  clear t10
  refine wp_cond_false t65 ?_
  refine wp_skip ?_
  clear t65
  have R8 : ∀ k, v42.ownBlock = some k → k < X6.heap.size := fun k hk => (Fv42.row k hk).2
  by_cases hc : N1 + M1 ≤ len
  · refine wp_seq ?_
    refine wp_region_sq (σ := Value × Nat) 192 [(0, 67), (1, 68), (2, 69), (3, 66), (4, 70), (5, 71), (6, 72), (7, 12), (8, 11), (10, 13)] (fun j_ s X => match j_ with | 0 => Below X6.heap.size X6 X | 1 => Below X6.heap.size X6 X | 2 => Below X6.heap.size X6 X | 3 => Below X6.heap.size X6 X ∧ OwnM X (X6.heap.size) s.1 (M1) (fun j => p ((0 + N1) + j)) | 4 => Below X6.heap.size X6 X ∧ OwnM X (X6.heap.size) s.1 (M1) (fun j => p ((0 + N1) + j)) | 5 => Below X6.heap.size X6 X ∧ OwnM X (X6.heap.size) s.1 (M1) (fun j => p ((0 + N1) + j)) | 6 => Below X6.heap.size X6 X ∧ OwnM X (X6.heap.size) s.1 (M1) (fun j => p ((0 + N1) + j)) | 7 => Below X6.heap.size X6 X ∧ OwnM X (X6.heap.size) s.1 (M1) (fun j => p ((0 + N1) + j)) | 8 => Below X6.heap.size X6 X ∧ OwnM X (X6.heap.size) s.1 (M1) (fun j => p ((0 + N1) + j)) ∧ X.heap[s.2]? = some (.cells (tpC (fun _ => 0) 0 0) 25) ∧ X6.heap.size ≤ s.2 | 9 => Below X6.heap.size X6 X ∧ OwnM X (X6.heap.size) s.1 (M1) (fun j => p ((0 + N1) + j)) ∧ X.heap[s.2]? = some (.cells (tpC (fun _ => 0) 0 0) 25) ∧ X6.heap.size ≤ s.2 | 10 => Below X6.heap.size X6 X ∧ OwnM X (X6.heap.size) s.1 (M1) (fun j => p ((0 + N1) + j)) ∧ X6.heap.size ≤ s.2 ∧ X.heap[s.2]? = some (.cells (tpC p len ((0 + N1) + M1)) 25) | _ => Below X6.heap.size X6 X ∧ OwnM X (X6.heap.size) s.1 (M1) (fun j => p ((0 + N1) + j)) ∧ X6.heap.size ≤ s.2 ∧ X.heap[s.2]? = some (.cells (tpC p len ((0 + N1) + M1)) 25)) (fun s => fun i_ => match i_ with | 0 => .agg (tpC p len (0 + N1)) | 1 => .int .i64 ((M1 : Nat) : Int) | 2 => .tuple #[s.1, .agg (tpC p len ((0 + N1) + M1)), .int .i64 ((0 : Nat) : Int)] | 3 => .tuple #[s.1, .agg (tpC p len ((0 + N1) + M1)), .int .i64 ((0 : Nat) : Int)] | 4 => s.1 | 5 => .agg (tpC p len ((0 + N1) + M1)) | 6 => .int .i64 ((0 : Nat) : Int) | 7 => .pointer (some ⟨s.2, 0, none⟩) | 8 => s.1 | 9 => undef | 10 => .int .i64 ((0 : Nat) : Int) | _ => undef) (undef, 0) A.1 (by kernel_rfl) (by decide) (by decide) (Below.refl _ _) ?_ ?_
    · intro i_ hi_ s a X hf hv hn hS
      match i_, hi_ with
      | 0, _ => exact stepV rfl rfl (execLdTp rfl ((hf 9 (by decide)).trans t9) (on9 F9 hS)) ⟨s, ⟨_, rfl, rfl⟩, hS, fun _ _ => rfl⟩
      | 1, _ => exact stepV rfl rfl (execMvB rfl ((hf 2 (by decide)).trans t2)) ⟨s, ⟨_, rfl, rfl⟩, hS, fun _ _ => rfl⟩
      | 2, _ =>
        refine stepC rfl rfl (execCall2 Try.func13 (by kernel_rfl) (by kernel_rfl) rfl (hv 0 (by omega) _ rfl _ rfl) (hv 1 (by omega) _ rfl _ rfl)) (take_ok p len (0 + N1) M1 X (by omega) (by omega) hp) fun e w' hh => ?_
        obtain ⟨r_, he, hk, hb⟩ := hh
        refine ⟨_, he, (r_, s.2), ⟨_, rfl, rfl⟩, ⟨(hS).trans ((hb).mono (hS).size), hk.base (hS).size⟩, fun i hi => ?_⟩
        match i, hi with
        | 0, _ => rfl
        | 1, _ => rfl
        | n_ + 2, h_ => omega
      | 3, _ => exact stepV rfl rfl (execMvB rfl (hv 2 (by omega) _ rfl _ rfl)) ⟨s, ⟨_, rfl, rfl⟩, hS, fun _ _ => rfl⟩
      | 4, _ => exact stepV rfl rfl (execExtT rfl (hv 3 (by omega) _ rfl _ rfl) rfl) ⟨s, ⟨_, rfl, rfl⟩, hS, fun _ _ => rfl⟩
      | 5, _ => exact stepV rfl rfl (execExtT rfl (hv 3 (by omega) _ rfl _ rfl) rfl) ⟨s, ⟨_, rfl, rfl⟩, hS, fun _ _ => rfl⟩
      | 6, _ => exact stepV rfl rfl (execExtT rfl (hv 3 (by omega) _ rfl _ rfl) rfl) ⟨s, ⟨_, rfl, rfl⟩, hS, fun _ _ => rfl⟩
      | 7, _ =>
        refine stepV rfl rfl (execAllTp rfl (fun _ => 0)) ⟨(s.1, X.heap.size), ⟨_, rfl, rfl⟩, ⟨(hS.1).trans (((belNew X _)).mono (hS.1).size), (hS.2.on (belNew X _)), heapNew X _, (hS.1).size⟩, fun i hi => ?_⟩
        match i, hi with
        | 0, _ => rfl
        | 1, _ => rfl
        | 2, _ => rfl
        | 3, _ => rfl
        | 4, _ => rfl
        | 5, _ => rfl
        | 6, _ => rfl
        | n_ + 7, h_ => omega
      | 8, _ => exact stepV rfl rfl (execAsgB rfl (hv 4 (by omega) _ rfl _ rfl)) ⟨s, ⟨_, rfl, rfl⟩, hS, fun _ _ => rfl⟩
      | 9, _ => exact stepS rfl rfl (execStTp rfl (hv 7 (by omega) _ rfl _ rfl) (hv 5 (by omega) _ rfl _ rfl) hS.2.2.1 rfl) ⟨s, ⟨_, rfl, rfl⟩, ⟨below4 hS.1 hS.2.2.2 _, (hS.2.1.set hS.2.2.1 (by decide)), hS.2.2.2, setRow_heap _ _ _ _ _ _ hS.2.2.1⟩, fun _ _ => rfl⟩
      | 10, _ => exact stepV rfl rfl (execAsgB rfl (hv 6 (by omega) _ rfl _ rfl)) ⟨s, ⟨_, rfl, rfl⟩, hS, fun _ _ => rfl⟩
      | k_ + 11, h_ => exact absurd h_ (by simp)
    rintro ⟨v69, g12⟩ a X8 h1 h2 h3 h4 hS
    replace hS : Below X6.heap.size X6 X8 ∧ OwnM X8 (X6.heap.size) v69 (M1) (fun j => p ((0 + N1) + j)) ∧ X6.heap.size ≤ g12 ∧ X8.heap[g12]? = some (.cells (tpC p len ((0 + N1) + M1)) 25) := hS
    obtain ⟨bX, Fv69, Fge12, F12⟩ := hS
    replace t0 := (h3 0 (by decide)).trans t0
    replace t1 := (h3 1 (by decide)).trans t1
    replace t2 := (h3 2 (by decide)).trans t2
    replace t7 := (h3 7 (by decide)).trans t7
    replace t8 := (h3 8 (by decide)).trans t8
    replace t9 := (h3 9 (by decide)).trans t9
    have t11 : a.eval (.tmp 11) = v69 := h4 8 _ rfl _ rfl
    have t12 : a.eval (.tmp 12) = .pointer (some ⟨g12, 0, none⟩) := h4 7 _ rfl _ rfl
    have t13 : a.eval (.tmp 13) = .int .i64 ((0 : Nat) : Int) := h4 10 _ rfl _ rfl
    replace FP := (FP.on bX)
    replace Fge7 := Fge7
    replace F7 := (on9 F7 bX)
    replace Fv42 := (Fv42.on bX)
    replace Fge9 := Fge9
    replace F9 := (on9 F9 bX)
    have ZX8 := bX.size
    replace BW := BW.trans (bX.mono BW.size)
    clear bX
    replace A := (⟨h1, h2.trans A.2⟩ : a.tmps.size = 192 ∧ a.defers = [])
    clear h1 h2 h3 h4
    refine wp_seq ?_
    refine wp_region_sq (σ := Value × Nat) 192 [(0, 74), (1, 75), (2, 76), (3, 77), (4, 78), (5, 73), (6, 79), (7, 80), (8, 81), (9, 15), (10, 14), (12, 16)] (fun j_ s X => match j_ with | 0 => Below X8.heap.size X8 X | 1 => Below X8.heap.size X8 X | 2 => Below X8.heap.size X8 X | 3 => Below X8.heap.size X8 X | 4 => Below X8.heap.size X8 X | 5 => Below X8.heap.size X8 X ∧ OwnM X (X8.heap.size) s.1 ((N1 + M1)) (fun j => p (0 + j)) | 6 => Below X8.heap.size X8 X ∧ OwnM X (X8.heap.size) s.1 ((N1 + M1)) (fun j => p (0 + j)) | 7 => Below X8.heap.size X8 X ∧ OwnM X (X8.heap.size) s.1 ((N1 + M1)) (fun j => p (0 + j)) | 8 => Below X8.heap.size X8 X ∧ OwnM X (X8.heap.size) s.1 ((N1 + M1)) (fun j => p (0 + j)) | 9 => Below X8.heap.size X8 X ∧ OwnM X (X8.heap.size) s.1 ((N1 + M1)) (fun j => p (0 + j)) | 10 => Below X8.heap.size X8 X ∧ OwnM X (X8.heap.size) s.1 ((N1 + M1)) (fun j => p (0 + j)) ∧ X.heap[s.2]? = some (.cells (tpC (fun _ => 0) 0 0) 25) ∧ X8.heap.size ≤ s.2 | 11 => Below X8.heap.size X8 X ∧ OwnM X (X8.heap.size) s.1 ((N1 + M1)) (fun j => p (0 + j)) ∧ X.heap[s.2]? = some (.cells (tpC (fun _ => 0) 0 0) 25) ∧ X8.heap.size ≤ s.2 | 12 => Below X8.heap.size X8 X ∧ OwnM X (X8.heap.size) s.1 ((N1 + M1)) (fun j => p (0 + j)) ∧ X8.heap.size ≤ s.2 ∧ X.heap[s.2]? = some (.cells (tpC p len (0 + (N1 + M1))) 25) | _ => Below X8.heap.size X8 X ∧ OwnM X (X8.heap.size) s.1 ((N1 + M1)) (fun j => p (0 + j)) ∧ X8.heap.size ≤ s.2 ∧ X.heap[s.2]? = some (.cells (tpC p len (0 + (N1 + M1))) 25)) (fun s => fun i_ => match i_ with | 0 => .agg (tpC p len 0) | 1 => .int .i64 ((N1 : Nat) : Int) | 2 => .int .i64 ((M1 : Nat) : Int) | 3 => .int .i64 ((N1 + M1 : Nat) : Int) | 4 => .tuple #[s.1, .agg (tpC p len (0 + (N1 + M1))), .int .i64 ((0 : Nat) : Int)] | 5 => .tuple #[s.1, .agg (tpC p len (0 + (N1 + M1))), .int .i64 ((0 : Nat) : Int)] | 6 => s.1 | 7 => .agg (tpC p len (0 + (N1 + M1))) | 8 => .int .i64 ((0 : Nat) : Int) | 9 => .pointer (some ⟨s.2, 0, none⟩) | 10 => s.1 | 11 => undef | 12 => .int .i64 ((0 : Nat) : Int) | _ => undef) (undef, 0) A.1 (by kernel_rfl) (by decide) (by decide) (Below.refl _ _) ?_ ?_
    · intro i_ hi_ s a X hf hv hn hS
      match i_, hi_ with
      | 0, _ => exact stepV rfl rfl (execLdTp rfl ((hf 7 (by decide)).trans t7) (on9 F7 hS)) ⟨s, ⟨_, rfl, rfl⟩, hS, fun _ _ => rfl⟩
      | 1, _ => exact stepV rfl rfl (execMvB rfl ((hf 1 (by decide)).trans t1)) ⟨s, ⟨_, rfl, rfl⟩, hS, fun _ _ => rfl⟩
      | 2, _ => exact stepV rfl rfl (execMvB rfl ((hf 2 (by decide)).trans t2)) ⟨s, ⟨_, rfl, rfl⟩, hS, fun _ _ => rfl⟩
      | 3, _ => exact stepV rfl rfl (execAd8 (p := N1) (q := M1) rfl (hv 1 (by omega) _ rfl _ rfl) (hv 2 (by omega) _ rfl _ rfl) (by omega)) ⟨s, ⟨_, rfl, rfl⟩, hS, fun _ _ => rfl⟩
      | 4, _ =>
        refine stepC rfl rfl (execCall2 Try.func13 (by kernel_rfl) (by kernel_rfl) rfl (hv 0 (by omega) _ rfl _ rfl) (hv 3 (by omega) _ rfl _ rfl)) (take_ok p len 0 (N1 + M1) X (by omega) (by omega) hp) fun e w' hh => ?_
        obtain ⟨r_, he, hk, hb⟩ := hh
        refine ⟨_, he, (r_, s.2), ⟨_, rfl, rfl⟩, ⟨(hS).trans ((hb).mono (hS).size), hk.base (hS).size⟩, fun i hi => ?_⟩
        match i, hi with
        | 0, _ => rfl
        | 1, _ => rfl
        | 2, _ => rfl
        | 3, _ => rfl
        | n_ + 4, h_ => omega
      | 5, _ => exact stepV rfl rfl (execMvB rfl (hv 4 (by omega) _ rfl _ rfl)) ⟨s, ⟨_, rfl, rfl⟩, hS, fun _ _ => rfl⟩
      | 6, _ => exact stepV rfl rfl (execExtT rfl (hv 5 (by omega) _ rfl _ rfl) rfl) ⟨s, ⟨_, rfl, rfl⟩, hS, fun _ _ => rfl⟩
      | 7, _ => exact stepV rfl rfl (execExtT rfl (hv 5 (by omega) _ rfl _ rfl) rfl) ⟨s, ⟨_, rfl, rfl⟩, hS, fun _ _ => rfl⟩
      | 8, _ => exact stepV rfl rfl (execExtT rfl (hv 5 (by omega) _ rfl _ rfl) rfl) ⟨s, ⟨_, rfl, rfl⟩, hS, fun _ _ => rfl⟩
      | 9, _ =>
        refine stepV rfl rfl (execAllTp rfl (fun _ => 0)) ⟨(s.1, X.heap.size), ⟨_, rfl, rfl⟩, ⟨(hS.1).trans (((belNew X _)).mono (hS.1).size), (hS.2.on (belNew X _)), heapNew X _, (hS.1).size⟩, fun i hi => ?_⟩
        match i, hi with
        | 0, _ => rfl
        | 1, _ => rfl
        | 2, _ => rfl
        | 3, _ => rfl
        | 4, _ => rfl
        | 5, _ => rfl
        | 6, _ => rfl
        | 7, _ => rfl
        | 8, _ => rfl
        | n_ + 9, h_ => omega
      | 10, _ => exact stepV rfl rfl (execAsgB rfl (hv 6 (by omega) _ rfl _ rfl)) ⟨s, ⟨_, rfl, rfl⟩, hS, fun _ _ => rfl⟩
      | 11, _ => exact stepS rfl rfl (execStTp rfl (hv 9 (by omega) _ rfl _ rfl) (hv 7 (by omega) _ rfl _ rfl) hS.2.2.1 rfl) ⟨s, ⟨_, rfl, rfl⟩, ⟨below4 hS.1 hS.2.2.2 _, (hS.2.1.set hS.2.2.1 (by decide)), hS.2.2.2, setRow_heap _ _ _ _ _ _ hS.2.2.1⟩, fun _ _ => rfl⟩
      | 12, _ => exact stepV rfl rfl (execAsgB rfl (hv 8 (by omega) _ rfl _ rfl)) ⟨s, ⟨_, rfl, rfl⟩, hS, fun _ _ => rfl⟩
      | k_ + 13, h_ => exact absurd h_ (by simp)
    rintro ⟨v78, g15⟩ a X9 h1 h2 h3 h4 hS
    replace hS : Below X8.heap.size X8 X9 ∧ OwnM X9 (X8.heap.size) v78 ((N1 + M1)) (fun j => p (0 + j)) ∧ X8.heap.size ≤ g15 ∧ X9.heap[g15]? = some (.cells (tpC p len (0 + (N1 + M1))) 25) := hS
    obtain ⟨bX, Fv78, Fge15, F15⟩ := hS
    replace t0 := (h3 0 (by decide)).trans t0
    replace t1 := (h3 1 (by decide)).trans t1
    replace t2 := (h3 2 (by decide)).trans t2
    replace t7 := (h3 7 (by decide)).trans t7
    replace t8 := (h3 8 (by decide)).trans t8
    replace t9 := (h3 9 (by decide)).trans t9
    replace t11 := (h3 11 (by decide)).trans t11
    replace t12 := (h3 12 (by decide)).trans t12
    replace t13 := (h3 13 (by decide)).trans t13
    have t14 : a.eval (.tmp 14) = v78 := h4 10 _ rfl _ rfl
    have t15 : a.eval (.tmp 15) = .pointer (some ⟨g15, 0, none⟩) := h4 9 _ rfl _ rfl
    have t16 : a.eval (.tmp 16) = .int .i64 ((0 : Nat) : Int) := h4 12 _ rfl _ rfl
    replace FP := (FP.on bX)
    replace Fge7 := Fge7
    replace F7 := (on9 F7 bX)
    replace Fv42 := (Fv42.on bX)
    replace Fge9 := Fge9
    replace F9 := (on9 F9 bX)
    replace Fv69 := (Fv69.on bX)
    replace Fge12 := Fge12
    replace F12 := (on9 F12 bX)
    have ZX9 := bX.size
    replace BW := BW.trans (bX.mono BW.size)
    clear bX
    replace A := (⟨h1, h2.trans A.2⟩ : a.tmps.size = 192 ∧ a.defers = [])
    clear h1 h2 h3 h4
    refine wp_seq ?_
    refine wp_seq ?_
    refine wp_region_detA 192 [(0, 82), (1, 83), (2, 84), (3, 85), (4, 86), (5, 87), (6, 88), (7, 89), (8, 90), (9, 91), (10, 92), (11, 93), (12, 94), (13, 95), (14, 96), (15, 97), (16, 98), (17, 99), (18, 100), (19, 101), (20, 102), (21, 103), (22, 104), (23, 105), (24, 106), (25, 107), (26, 108), (27, 109)] (fun i_ => match i_ with | 0 => .int .i64 ((0 : Nat) : Int) | 1 => .bool true | 2 => .int .i64 ((N1 : Nat) : Int) | 3 => .int .i64 ((M1 : Nat) : Int) | 4 => .int .i64 ((N1 + M1 : Nat) : Int) | 5 => .slice ao len cap | 6 => .int .i64 ((len : Nat) : Int) | 7 => .bool true | 8 => .bool false | 9 => .bool false | 10 => .int .i64 ((0 : Nat) : Int) | 11 => .int .i64 ((0 : Nat) : Int) | 12 => .bool false | 13 => .bool false | 14 => .bool false | 15 => .agg (tpC p len ((0 + N1) + M1)) | 16 => .int .i64 ((len - ((0 + N1) + M1) : Nat) : Int) | 17 => .agg (tpC p len (0 + (N1 + M1))) | 18 => .int .i64 ((len - (0 + (N1 + M1)) : Nat) : Int) | 19 => .bool false | 20 => .bool false | 21 => .bool false | 22 => .agg (tpC p len ((0 + N1) + M1)) | 23 => .int .i64 ((((0 + N1) + M1) : Nat) : Int) | 24 => .agg (tpC p len (0 + (N1 + M1))) | 25 => .int .i64 (((0 + (N1 + M1)) : Nat) : Int) | 26 => .bool false | 27 => .bool false | _ => undef) (fun _ X => Below X9.heap.size X9 X) (by kernel_rfl) (by kernel_rfl) A.1 (by kernel_rfl) (by decide) (by decide) (Below.refl _ _).drew ?_ ?_
    · intro i_ hi_ l_ a X hl_ hf hdep hl2 hcl hno hT
      match i_, hi_ with
      | 0, _ => exact stepV rfl rfl (execMvB rfl ((hf 13 (by decide)).trans t13)) ⟨⟨_, rfl, rfl⟩, hT⟩
      | 1, _ => exact stepV rfl rfl (execDec (execEqE (p := 0) (q := 0) rfl (hdep _ rfl 0 rfl _ rfl _ rfl) rfl) (decide_eq_true (by omega))) ⟨⟨_, rfl, rfl⟩, hT⟩
      | 2, _ => exact stepV rfl rfl (execMvB rfl ((hf 1 (by decide)).trans t1)) ⟨⟨_, rfl, rfl⟩, hT⟩
      | 3, _ => exact stepV rfl rfl (execMvB rfl ((hf 2 (by decide)).trans t2)) ⟨⟨_, rfl, rfl⟩, hT⟩
      | 4, _ => exact stepV rfl rfl (execAd8 (p := N1) (q := M1) rfl (hdep _ rfl 2 rfl _ rfl _ rfl) (hdep _ rfl 3 rfl _ rfl _ rfl) (by omega)) ⟨⟨_, rfl, rfl⟩, hT⟩
      | 5, _ => exact stepV rfl rfl (execMvB rfl ((hf 0 (by decide)).trans t0)) ⟨⟨_, rfl, rfl⟩, hT⟩
      | 6, _ => exact stepV rfl rfl (execLenV (len := len) rfl (hdep _ rfl 5 rfl _ rfl _ rfl) (shp9 (FP.on hT))) ⟨⟨_, rfl, rfl⟩, hT⟩
      | 7, _ => exact stepV rfl rfl (execDec (execLeN (p := N1 + M1) (q := len) rfl (hdep _ rfl 4 rfl _ rfl _ rfl) (hdep _ rfl 6 rfl _ rfl _ rfl)) (decide_eq_true (by omega))) ⟨⟨_, rfl, rfl⟩, hT⟩
      | 8, _ => exact stepV rfl rfl (execNeB rfl (hdep _ rfl 1 rfl _ rfl _ rfl) (hdep _ rfl 7 rfl _ rfl _ rfl)) ⟨⟨_, rfl, rfl⟩, hT⟩
      | 9, _ => exact stepV rfl rfl (execMvB rfl (hdep _ rfl 8 rfl _ rfl _ rfl)) ⟨⟨_, rfl, rfl⟩, hT⟩
      | 10, _ => exact stepV rfl (wantedOf rfl (yieldedAt rfl rfl (show a.eval (.tmp 91) = .bool false from (hdep _ rfl 9 rfl _ rfl _ rfl)))) (execMvB rfl ((hf 13 (by decide)).trans t13)) ⟨⟨_, rfl, rfl⟩, hT⟩
      | 11, _ => exact stepV rfl (wantedOf rfl (yieldedAt rfl rfl (show a.eval (.tmp 91) = .bool false from (hdep _ rfl 9 rfl _ rfl _ rfl)))) (execMvB rfl ((hf 16 (by decide)).trans t16)) ⟨⟨_, rfl, rfl⟩, hT⟩
      | 12, _ => exact stepV rfl (wantedOf rfl (yieldedAt rfl rfl (show a.eval (.tmp 91) = .bool false from (hdep _ rfl 9 rfl _ rfl _ rfl)))) (execDec (execNeE (p := 0) (q := 0) rfl (hdep _ rfl 10 rfl _ rfl _ rfl) (hdep _ rfl 11 rfl _ rfl _ rfl)) (decide_eq_false (by omega))) ⟨⟨_, rfl, rfl⟩, hT⟩
      | 13, _ => exact stepV rfl rfl (execPickF rfl (hdep _ rfl 9 rfl _ rfl _ rfl) (hdep _ rfl 12 rfl _ rfl _ rfl)) ⟨⟨_, rfl, rfl⟩, hT⟩
      | 14, _ => exact stepV rfl rfl (execMvB rfl (hdep _ rfl 13 rfl _ rfl _ rfl)) ⟨⟨_, rfl, rfl⟩, hT⟩
      | 15, _ => exact stepV rfl (wantedOf rfl (yieldedAt rfl rfl (show a.eval (.tmp 96) = .bool false from (hdep _ rfl 14 rfl _ rfl _ rfl)))) (execLdTp rfl ((hf 12 (by decide)).trans t12) (on9 F12 hT)) ⟨⟨_, rfl, rfl⟩, hT⟩
      | 16, _ => exact stepC rfl (wantedOf rfl (yieldedAt rfl rfl (show a.eval (.tmp 96) = .bool false from (hdep _ rfl 14 rfl _ rfl _ rfl)))) (execCall1 Try.func15 (by kernel_rfl) (by kernel_rfl) rfl (hdep _ rfl 15 rfl _ rfl _ rfl)) (left_any p len ((0 + N1) + M1) X (by omega) (by omega)) fun e w' hh => ⟨_, hh.1, ⟨_, rfl, rfl⟩, hT.trans (hh.2.mono hT.size)⟩
      | 17, _ => exact stepV rfl (wantedOf rfl (yieldedAt rfl rfl (show a.eval (.tmp 96) = .bool false from (hdep _ rfl 14 rfl _ rfl _ rfl)))) (execLdTp rfl ((hf 15 (by decide)).trans t15) (on9 F15 hT)) ⟨⟨_, rfl, rfl⟩, hT⟩
      | 18, _ => exact stepC rfl (wantedOf rfl (yieldedAt rfl rfl (show a.eval (.tmp 96) = .bool false from (hdep _ rfl 14 rfl _ rfl _ rfl)))) (execCall1 Try.func15 (by kernel_rfl) (by kernel_rfl) rfl (hdep _ rfl 17 rfl _ rfl _ rfl)) (left_any p len (0 + (N1 + M1)) X (by omega) (by omega)) fun e w' hh => ⟨_, hh.1, ⟨_, rfl, rfl⟩, hT.trans (hh.2.mono hT.size)⟩
      | 19, _ => exact stepV rfl (wantedOf rfl (yieldedAt rfl rfl (show a.eval (.tmp 96) = .bool false from (hdep _ rfl 14 rfl _ rfl _ rfl)))) (execDec (execNeN (p := len - ((0 + N1) + M1)) (q := len - (0 + (N1 + M1))) rfl (hdep _ rfl 16 rfl _ rfl _ rfl) (hdep _ rfl 18 rfl _ rfl _ rfl)) (decide_eq_false (by omega))) ⟨⟨_, rfl, rfl⟩, hT⟩
      | 20, _ => exact stepV rfl rfl (execPickF rfl (hdep _ rfl 14 rfl _ rfl _ rfl) (hdep _ rfl 19 rfl _ rfl _ rfl)) ⟨⟨_, rfl, rfl⟩, hT⟩
      | 21, _ => exact stepV rfl rfl (execMvB rfl (hdep _ rfl 20 rfl _ rfl _ rfl)) ⟨⟨_, rfl, rfl⟩, hT⟩
      | 22, _ => exact stepV rfl (wantedOf rfl (yieldedAt rfl rfl (show a.eval (.tmp 103) = .bool false from (hdep _ rfl 21 rfl _ rfl _ rfl)))) (execLdTp rfl ((hf 12 (by decide)).trans t12) (on9 F12 hT)) ⟨⟨_, rfl, rfl⟩, hT⟩
      | 23, _ => exact stepC rfl (wantedOf rfl (yieldedAt rfl rfl (show a.eval (.tmp 103) = .bool false from (hdep _ rfl 21 rfl _ rfl _ rfl)))) (execCall1 Try.func16 (by kernel_rfl) (by kernel_rfl) rfl (hdep _ rfl 22 rfl _ rfl _ rfl)) (used_any p len ((0 + N1) + M1) X) fun e w' hh => ⟨_, hh.1, ⟨_, rfl, rfl⟩, hT.trans (hh.2.mono hT.size)⟩
      | 24, _ => exact stepV rfl (wantedOf rfl (yieldedAt rfl rfl (show a.eval (.tmp 103) = .bool false from (hdep _ rfl 21 rfl _ rfl _ rfl)))) (execLdTp rfl ((hf 15 (by decide)).trans t15) (on9 F15 hT)) ⟨⟨_, rfl, rfl⟩, hT⟩
      | 25, _ => exact stepC rfl (wantedOf rfl (yieldedAt rfl rfl (show a.eval (.tmp 103) = .bool false from (hdep _ rfl 21 rfl _ rfl _ rfl)))) (execCall1 Try.func16 (by kernel_rfl) (by kernel_rfl) rfl (hdep _ rfl 24 rfl _ rfl _ rfl)) (used_any p len (0 + (N1 + M1)) X) fun e w' hh => ⟨_, hh.1, ⟨_, rfl, rfl⟩, hT.trans (hh.2.mono hT.size)⟩
      | 26, _ => exact stepV rfl (wantedOf rfl (yieldedAt rfl rfl (show a.eval (.tmp 103) = .bool false from (hdep _ rfl 21 rfl _ rfl _ rfl)))) (execDec (execNeN (p := ((0 + N1) + M1)) (q := (0 + (N1 + M1))) rfl (hdep _ rfl 23 rfl _ rfl _ rfl) (hdep _ rfl 25 rfl _ rfl _ rfl)) (decide_eq_false (by omega))) ⟨⟨_, rfl, rfl⟩, hT⟩
      | 27, _ => exact stepV rfl rfl (execPickF rfl (hdep _ rfl 21 rfl _ rfl _ rfl) (hdep _ rfl 26 rfl _ rfl _ rfl)) ⟨⟨_, rfl, rfl⟩, hT⟩
      | k_ + 28, h_ => exact absurd h_ (by simp)
    intro l_ a X10 h1 h2 h3 h4 hall hT
    clear hall
    have bX := hT
    clear hT
    replace t0 := (h3 0 (by decide)).trans t0
    replace t1 := (h3 1 (by decide)).trans t1
    replace t2 := (h3 2 (by decide)).trans t2
    replace t7 := (h3 7 (by decide)).trans t7
    replace t8 := (h3 8 (by decide)).trans t8
    replace t9 := (h3 9 (by decide)).trans t9
    replace t11 := (h3 11 (by decide)).trans t11
    replace t12 := (h3 12 (by decide)).trans t12
    replace t13 := (h3 13 (by decide)).trans t13
    replace t14 := (h3 14 (by decide)).trans t14
    replace t15 := (h3 15 (by decide)).trans t15
    replace t16 := (h3 16 (by decide)).trans t16
    have t109 : a.eval (.tmp 109) = .bool false := h4 (27, 109) (by decide)
    replace FP := (FP.on bX)
    replace Fge7 := Fge7
    replace F7 := (on9 F7 bX)
    replace Fv42 := (Fv42.on bX)
    replace Fge9 := Fge9
    replace F9 := (on9 F9 bX)
    replace Fv69 := (Fv69.on bX)
    replace Fge12 := Fge12
    replace F12 := (on9 F12 bX)
    replace Fv78 := (Fv78.on bX)
    replace Fge15 := Fge15
    replace F15 := (on9 F15 bX)
    have ZX10 := bX.size
    replace BW := BW.trans (bX.mono BW.size)
    clear bX
    replace A := (⟨h1, h2.trans A.2⟩ : a.tmps.size = 192 ∧ a.defers = [])
    clear h1 h2 h3 h4
    refine wp_cond_false t109 ?_
    refine wp_skip ?_
    clear t109
    refine wp_seq ?_
    refine wp_seq ?_
    refine wp_region_sq (σ := Unit) 192 [(0, 110), (1, 111)] (fun j_ s X => match j_ with | 0 => Below X10.heap.size X10 X | 1 => Below X10.heap.size X10 X | _ => Below X10.heap.size X10 X) (fun s => fun i_ => match i_ with | 0 => .int .i64 ((0 : Nat) : Int) | 1 => .bool false | _ => undef) () A.1 (by kernel_rfl) (by decide) (by decide) (Below.refl _ _) ?_ ?_
    · intro i_ hi_ s a X hf hv hn hS
      match i_, hi_ with
      | 0, _ => exact stepV rfl rfl (execMvB rfl ((hf 13 (by decide)).trans t13)) ⟨s, ⟨_, rfl, rfl⟩, hS, fun _ _ => rfl⟩
      | 1, _ => exact stepV rfl rfl (execDec (execNeE (p := 0) (q := 0) rfl (hv 0 (by omega) _ rfl _ rfl) rfl) (decide_eq_false (by omega))) ⟨s, ⟨_, rfl, rfl⟩, hS, fun _ _ => rfl⟩
      | k_ + 2, h_ => exact absurd h_ (by simp)
    rintro _ a X12 h1 h2 h3 h4 hS
    replace hS : Below X10.heap.size X10 X12 := hS
    have bX := hS
    clear hS
    replace t0 := (h3 0 (by decide)).trans t0
    replace t1 := (h3 1 (by decide)).trans t1
    replace t2 := (h3 2 (by decide)).trans t2
    replace t7 := (h3 7 (by decide)).trans t7
    replace t8 := (h3 8 (by decide)).trans t8
    replace t9 := (h3 9 (by decide)).trans t9
    replace t11 := (h3 11 (by decide)).trans t11
    replace t12 := (h3 12 (by decide)).trans t12
    replace t13 := (h3 13 (by decide)).trans t13
    replace t14 := (h3 14 (by decide)).trans t14
    replace t15 := (h3 15 (by decide)).trans t15
    replace t16 := (h3 16 (by decide)).trans t16
    have t111 : a.eval (.tmp 111) = .bool false := h4 1 _ rfl _ rfl
    replace FP := (FP.on bX)
    replace Fge7 := Fge7
    replace F7 := (on9 F7 bX)
    replace Fv42 := (Fv42.on bX)
    replace Fge9 := Fge9
    replace F9 := (on9 F9 bX)
    replace Fv69 := (Fv69.on bX)
    replace Fge12 := Fge12
    replace F12 := (on9 F12 bX)
    replace Fv78 := (Fv78.on bX)
    replace Fge15 := Fge15
    replace F15 := (on9 F15 bX)
    have ZX12 := bX.size
    replace BW := BW.trans (bX.mono BW.size)
    clear bX
    replace A := (⟨h1, h2.trans A.2⟩ : a.tmps.size = 192 ∧ a.defers = [])
    clear h1 h2 h3 h4
    refine wp_cond_false t111 ?_
    refine wp_skip ?_
    clear t111
    have BB : Below X12.heap.size X12 X12 := Below.refl _ _
    refine wp_seq ?_
    refine wp_region_sq (σ := Nat) 192 [(0, 134), (1, 17)] (fun j_ s X => match j_ with | 0 => Below X12.heap.size X12 X | 1 => Below X12.heap.size X12 X | 2 => Below X12.heap.size X12 X ∧ X.heap[s]? = some (.cells (tpC (fun _ => 0) 0 0) 25) ∧ X12.heap.size ≤ s | _ => Below X12.heap.size X12 X ∧ X12.heap.size ≤ s ∧ X.heap[s]? = some (.cells (tpC p len 0) 25)) (fun s => fun i_ => match i_ with | 0 => .agg (tpC p len 0) | 1 => .pointer (some ⟨s, 0, none⟩) | 2 => undef | _ => undef) 0 A.1 (by kernel_rfl) (by decide) (by decide) (BB) ?_ ?_
    · intro i_ hi_ s a X hf hv hn hS
      match i_, hi_ with
      | 0, _ => exact stepV rfl rfl (execLdTp rfl ((hf 7 (by decide)).trans t7) (on9 F7 hS)) ⟨s, ⟨_, rfl, rfl⟩, hS, fun _ _ => rfl⟩
      | 1, _ =>
        refine stepV rfl rfl (execAllTp rfl (fun _ => 0)) ⟨X.heap.size, ⟨_, rfl, rfl⟩, ⟨(hS).trans (((belNew X _)).mono (hS).size), heapNew X _, (hS).size⟩, fun i hi => ?_⟩
        match i, hi with
        | 0, _ => rfl
        | n_ + 1, h_ => omega
      | 2, _ => exact stepS rfl rfl (execStTp rfl (hv 1 (by omega) _ rfl _ rfl) (hv 0 (by omega) _ rfl _ rfl) hS.2.1 rfl) ⟨s, ⟨_, rfl, rfl⟩, ⟨below4 hS.1 hS.2.2 _, hS.2.2, setRow_heap _ _ _ _ _ _ hS.2.1⟩, fun _ _ => rfl⟩
      | k_ + 3, h_ => exact absurd h_ (by simp)
    rintro g17 a X14 h1 h2 h3 h4 hS
    clear BB
    replace hS : Below X12.heap.size X12 X14 ∧ X12.heap.size ≤ g17 ∧ X14.heap[g17]? = some (.cells (tpC p len 0) 25) := hS
    obtain ⟨BB, Fge17, F17⟩ := hS
    replace t1 := (h3 1 (by decide)).trans t1
    replace t2 := (h3 2 (by decide)).trans t2
    replace t7 := (h3 7 (by decide)).trans t7
    replace t8 := (h3 8 (by decide)).trans t8
    replace t11 := (h3 11 (by decide)).trans t11
    replace t12 := (h3 12 (by decide)).trans t12
    replace t14 := (h3 14 (by decide)).trans t14
    have t17 : a.eval (.tmp 17) = .pointer (some ⟨g17, 0, none⟩) := h4 1 _ rfl _ rfl
    replace A := (⟨h1, h2.trans A.2⟩ : a.tmps.size = 192 ∧ a.defers = [])
    clear h1 h2 h3 h4
    clear t0 t9 t13 t15 t16
    refine wp_seq ?_
    refine wp_seq ?_
    refine wp_region_sq (σ := Unit) 192 [(0, 135), (1, 136)] (fun j_ s X => match j_ with | 0 => Below X12.heap.size X12 X ∧ X12.heap.size ≤ g17 ∧ X.heap[g17]? = some (.cells (tpC p len 0) 25) | 1 => Below X12.heap.size X12 X ∧ X12.heap.size ≤ g17 ∧ X.heap[g17]? = some (.cells (tpC p len 0) 25) | _ => Below X12.heap.size X12 X ∧ X12.heap.size ≤ g17 ∧ X.heap[g17]? = some (.cells (tpC p len 0) 25)) (fun s => fun i_ => match i_ with | 0 => .int .i64 ((N1 : Nat) : Int) | 1 => .int .i64 ((0 : Nat) : Int) | _ => undef) () A.1 (by kernel_rfl) (by decide) (by decide) ⟨BB, Fge17, F17⟩ ?_ ?_
    · intro i_ hi_ s a X hf hv hn hS
      match i_, hi_ with
      | 0, _ => exact stepV rfl rfl (execMvB rfl ((hf 1 (by decide)).trans t1)) ⟨s, ⟨_, rfl, rfl⟩, hS, fun _ _ => rfl⟩
      | 1, _ => exact stepV rfl rfl (execMvB rfl rfl) ⟨s, ⟨_, rfl, rfl⟩, hS, fun _ _ => rfl⟩
      | k_ + 2, h_ => exact absurd h_ (by simp)
    rintro _ a X15 h1 h2 h3 h4 hS
    clear BB
    clear Fge17
    clear F17
    replace hS : Below X12.heap.size X12 X15 ∧ X12.heap.size ≤ g17 ∧ X15.heap[g17]? = some (.cells (tpC p len 0) 25) := hS
    obtain ⟨BB, Fge17, F17⟩ := hS
    replace t1 := (h3 1 (by decide)).trans t1
    replace t2 := (h3 2 (by decide)).trans t2
    replace t7 := (h3 7 (by decide)).trans t7
    replace t8 := (h3 8 (by decide)).trans t8
    replace t11 := (h3 11 (by decide)).trans t11
    replace t12 := (h3 12 (by decide)).trans t12
    replace t14 := (h3 14 (by decide)).trans t14
    replace t17 := (h3 17 (by decide)).trans t17
    have t135 : a.eval (.tmp 135) = .int .i64 ((N1 : Nat) : Int) := h4 0 _ rfl _ rfl
    have t136 : a.eval (.tmp 136) = .int .i64 ((0 : Nat) : Int) := h4 1 _ rfl _ rfl
    replace A := (⟨h1, h2.trans A.2⟩ : a.tmps.size = 192 ∧ a.defers = [])
    clear h1 h2 h3 h4
    refine wp_block ?_
    refine wp_loop (fun a W => ∃ i : Nat, i ≤ N1 ∧ ((a.tmps.size = 192 ∧ a.defers = []) ∧ a.eval (.tmp 1) = .int .i64 ((N1 : Nat) : Int) ∧ a.eval (.tmp 2) = .int .i64 ((M1 : Nat) : Int) ∧ a.eval (.tmp 7) = .pointer (some ⟨g7, 0, none⟩) ∧ a.eval (.tmp 8) = v42 ∧ a.eval (.tmp 11) = v69 ∧ a.eval (.tmp 12) = .pointer (some ⟨g12, 0, none⟩) ∧ a.eval (.tmp 14) = v78 ∧ a.eval (.tmp 17) = .pointer (some ⟨g17, 0, none⟩) ∧ a.eval (.tmp 135) = .int .i64 ((N1 : Nat) : Int) ∧ a.eval (.tmp 136) = .int .i64 ((i : Nat) : Int) ∧ Below X12.heap.size X12 W ∧ W.heap[g17]? = some (.cells (tpC p len i) 25))) (fun a _ => N1 - (intOf (a.eval (.tmp 136))).toNat) ⟨0, by omega, A, t1, t2, t7, t8, t11, t12, t14, t17, t135, t136, BB, F17⟩ ?_
    clear A t1 t2 t7 t8 t11 t12 t14 t17 t135 t136 BB F17 a
    rintro a XL ⟨i, hi, A, t1, t2, t7, t8, t11, t12, t14, t17, t135, t136, BB, F17⟩
    have e136 := t136
    refine wp_seq ?_
    refine wp_region_sq (σ := Unit) 192 [(0, 137)] (fun j_ s X => match j_ with | 0 => Below X12.heap.size X12 X ∧ X.heap[g17]? = some (.cells (tpC p len i) 25) ∧ X12.heap.size ≤ g17 | _ => Below X12.heap.size X12 X ∧ X.heap[g17]? = some (.cells (tpC p len i) 25) ∧ X12.heap.size ≤ g17) (fun s => fun i_ => match i_ with | 0 => .bool (decide (i < N1)) | _ => undef) () A.1 (by kernel_rfl) (by decide) (by decide) ⟨BB, F17, Fge17⟩ ?_ ?_
    · intro i_ hi_ s a X hf hv hn hS
      match i_, hi_ with
      | 0, _ => exact stepV rfl rfl (execLtW (p := i) (q := N1) rfl ((hf 136 (by decide)).trans t136) ((hf 135 (by decide)).trans t135)) ⟨s, ⟨_, rfl, rfl⟩, hS, fun _ _ => rfl⟩
      | k_ + 1, h_ => exact absurd h_ (by simp)
    rintro _ a X16 h1 h2 h3 h4 hS
    clear BB
    clear F17
    clear Fge17
    replace hS : Below X12.heap.size X12 X16 ∧ X16.heap[g17]? = some (.cells (tpC p len i) 25) ∧ X12.heap.size ≤ g17 := hS
    obtain ⟨BB, F17, Fge17⟩ := hS
    replace t1 := (h3 1 (by decide)).trans t1
    replace t2 := (h3 2 (by decide)).trans t2
    replace t7 := (h3 7 (by decide)).trans t7
    replace t8 := (h3 8 (by decide)).trans t8
    replace t11 := (h3 11 (by decide)).trans t11
    replace t12 := (h3 12 (by decide)).trans t12
    replace t14 := (h3 14 (by decide)).trans t14
    replace t17 := (h3 17 (by decide)).trans t17
    replace t135 := (h3 135 (by decide)).trans t135
    replace t136 := (h3 136 (by decide)).trans t136
    have t137 : a.eval (.tmp 137) = .bool (decide (i < N1)) := h4 0 _ rfl _ rfl
    replace A := (⟨h1, h2.trans A.2⟩ : a.tmps.size = 192 ∧ a.defers = [])
    clear h1 h2 h3 h4
    refine wp_seq ?_
    by_cases hlt : i < N1
    · rw [decide_eq_true hlt] at t137
      refine wp_cond_true t137 ?_
      refine wp_skip ?_
      clear t137
      refine wp_seq ?_
      refine wp_block ?_
      refine wp_seq ?_
      refine wp_region_sq (σ := Unit) 192 [(0, 138), (1, 18)] (fun j_ s X => match j_ with | 0 => Below X12.heap.size X12 X ∧ X.heap[g17]? = some (.cells (tpC p len i) 25) ∧ X12.heap.size ≤ g17 | 1 => Below X12.heap.size X12 X ∧ X.heap[g17]? = some (.cells (tpC p len i) 25) ∧ X12.heap.size ≤ g17 | _ => Below X12.heap.size X12 X ∧ X.heap[g17]? = some (.cells (tpC p len i) 25) ∧ X12.heap.size ≤ g17) (fun s => fun i_ => match i_ with | 0 => .int .i64 ((i : Nat) : Int) | 1 => .int .i64 ((i : Nat) : Int) | _ => undef) () A.1 (by kernel_rfl) (by decide) (by decide) ⟨BB, F17, Fge17⟩ ?_ ?_
      · intro i_ hi_ s a X hf hv hn hS
        match i_, hi_ with
        | 0, _ => exact stepV rfl rfl (execMvB rfl ((hf 136 (by decide)).trans t136)) ⟨s, ⟨_, rfl, rfl⟩, hS, fun _ _ => rfl⟩
        | 1, _ => exact stepV rfl rfl (execAsgB rfl (hv 0 (by omega) _ rfl _ rfl)) ⟨s, ⟨_, rfl, rfl⟩, hS, fun _ _ => rfl⟩
        | k_ + 2, h_ => exact absurd h_ (by simp)
      rintro _ a X17 h1 h2 h3 h4 hS
      clear BB
      clear F17
      clear Fge17
      replace hS : Below X12.heap.size X12 X17 ∧ X17.heap[g17]? = some (.cells (tpC p len i) 25) ∧ X12.heap.size ≤ g17 := hS
      obtain ⟨BB, F17, Fge17⟩ := hS
      replace t1 := (h3 1 (by decide)).trans t1
      replace t2 := (h3 2 (by decide)).trans t2
      replace t7 := (h3 7 (by decide)).trans t7
      replace t8 := (h3 8 (by decide)).trans t8
      replace t11 := (h3 11 (by decide)).trans t11
      replace t12 := (h3 12 (by decide)).trans t12
      replace t14 := (h3 14 (by decide)).trans t14
      replace t17 := (h3 17 (by decide)).trans t17
      replace t135 := (h3 135 (by decide)).trans t135
      replace t136 := (h3 136 (by decide)).trans t136
      have t18 : a.eval (.tmp 18) = .int .i64 ((i : Nat) : Int) := h4 1 _ rfl _ rfl
      replace A := (⟨h1, h2.trans A.2⟩ : a.tmps.size = 192 ∧ a.defers = [])
      clear h1 h2 h3 h4
      refine wp_seq ?_
      refine wp_region_sq (σ := Nat) 192 [(0, 140), (1, 141), (2, 139), (3, 142), (4, 143), (5, 144), (6, 20), (7, 19), (9, 21)] (fun j_ s X => match j_ with | 0 => Below X12.heap.size X12 X ∧ X.heap[g17]? = some (.cells (tpC p len i) 25) ∧ X12.heap.size ≤ g17 | 1 => Below X12.heap.size X12 X ∧ X.heap[g17]? = some (.cells (tpC p len i) 25) ∧ X12.heap.size ≤ g17 | 2 => Below X12.heap.size X12 X ∧ X.heap[g17]? = some (.cells (tpC p len i) 25) ∧ X12.heap.size ≤ g17 | 3 => Below X12.heap.size X12 X ∧ X.heap[g17]? = some (.cells (tpC p len i) 25) ∧ X12.heap.size ≤ g17 | 4 => Below X12.heap.size X12 X ∧ X.heap[g17]? = some (.cells (tpC p len i) 25) ∧ X12.heap.size ≤ g17 | 5 => Below X12.heap.size X12 X ∧ X.heap[g17]? = some (.cells (tpC p len i) 25) ∧ X12.heap.size ≤ g17 | 6 => Below X12.heap.size X12 X ∧ X.heap[g17]? = some (.cells (tpC p len i) 25) ∧ X12.heap.size ≤ g17 | 7 => Below X12.heap.size X12 X ∧ X.heap[g17]? = some (.cells (tpC p len i) 25) ∧ X12.heap.size ≤ g17 ∧ X.heap[s]? = some (.cells (tpC (fun _ => 0) 0 0) 25) ∧ X12.heap.size ≤ s ∧ g17 ≠ s | 8 => Below X12.heap.size X12 X ∧ X.heap[g17]? = some (.cells (tpC p len i) 25) ∧ X12.heap.size ≤ g17 ∧ X.heap[s]? = some (.cells (tpC (fun _ => 0) 0 0) 25) ∧ X12.heap.size ≤ s ∧ g17 ≠ s | 9 => Below X12.heap.size X12 X ∧ X.heap[g17]? = some (.cells (tpC p len i) 25) ∧ X12.heap.size ≤ g17 ∧ X12.heap.size ≤ s ∧ g17 ≠ s ∧ X.heap[s]? = some (.cells (tpC p len (i + 1)) 25) | _ => Below X12.heap.size X12 X ∧ X.heap[g17]? = some (.cells (tpC p len i) 25) ∧ X12.heap.size ≤ g17 ∧ X12.heap.size ≤ s ∧ g17 ≠ s ∧ X.heap[s]? = some (.cells (tpC p len (i + 1)) 25)) (fun s => fun i_ => match i_ with | 0 => .agg (tpC p len i) | 1 => .tuple #[.int .u8 ((p i : Nat) : Int), .agg (tpC p len (i + 1)), .int .i64 ((0 : Nat) : Int)] | 2 => .tuple #[.int .u8 ((p i : Nat) : Int), .agg (tpC p len (i + 1)), .int .i64 ((0 : Nat) : Int)] | 3 => .int .u8 ((p i : Nat) : Int) | 4 => .agg (tpC p len (i + 1)) | 5 => .int .i64 ((0 : Nat) : Int) | 6 => .pointer (some ⟨s, 0, none⟩) | 7 => .int .u8 ((p i : Nat) : Int) | 8 => undef | 9 => .int .i64 ((0 : Nat) : Int) | _ => undef) 0 A.1 (by kernel_rfl) (by decide) (by decide) ⟨BB, F17, Fge17⟩ ?_ ?_
      · intro i_ hi_ s a X hf hv hn hS
        match i_, hi_ with
        | 0, _ => exact stepV rfl rfl (execLdTp rfl ((hf 17 (by decide)).trans t17) hS.2.1) ⟨s, ⟨_, rfl, rfl⟩, hS, fun _ _ => rfl⟩
        | 1, _ => exact stepC rfl rfl (execCall1 Try.func11 (by kernel_rfl) (by kernel_rfl) rfl (hv 0 (by omega) _ rfl _ rfl)) (byte_ok p len i X (by omega) (by omega) hp) fun e w' hh => ⟨_, hh.1, s, ⟨_, rfl, rfl⟩, ⟨(hS.1).trans ((hh.2).mono (hS.1).size), (on9 hS.2.1 hh.2), hS.2.2⟩, fun _ _ => rfl⟩
        | 2, _ => exact stepV rfl rfl (execMvB rfl (hv 1 (by omega) _ rfl _ rfl)) ⟨s, ⟨_, rfl, rfl⟩, hS, fun _ _ => rfl⟩
        | 3, _ => exact stepV rfl rfl (execExtT rfl (hv 2 (by omega) _ rfl _ rfl) rfl) ⟨s, ⟨_, rfl, rfl⟩, hS, fun _ _ => rfl⟩
        | 4, _ => exact stepV rfl rfl (execExtT rfl (hv 2 (by omega) _ rfl _ rfl) rfl) ⟨s, ⟨_, rfl, rfl⟩, hS, fun _ _ => rfl⟩
        | 5, _ => exact stepV rfl rfl (execExtT rfl (hv 2 (by omega) _ rfl _ rfl) rfl) ⟨s, ⟨_, rfl, rfl⟩, hS, fun _ _ => rfl⟩
        | 6, _ =>
          refine stepV rfl rfl (execAllTp rfl (fun _ => 0)) ⟨X.heap.size, ⟨_, rfl, rfl⟩, ⟨(hS.1).trans (((belNew X _)).mono (hS.1).size), (on9 hS.2.1 (belNew X _)), hS.2.2, heapNew X _, (hS.1).size, ne9 hS.2.1⟩, fun i hi => ?_⟩
          match i, hi with
          | 0, _ => rfl
          | 1, _ => rfl
          | 2, _ => rfl
          | 3, _ => rfl
          | 4, _ => rfl
          | 5, _ => rfl
          | n_ + 6, h_ => omega
        | 7, _ => exact stepV rfl rfl (execAsgB rfl (hv 3 (by omega) _ rfl _ rfl)) ⟨s, ⟨_, rfl, rfl⟩, hS, fun _ _ => rfl⟩
        | 8, _ => exact stepS rfl rfl (execStTp rfl (hv 6 (by omega) _ rfl _ rfl) (hv 4 (by omega) _ rfl _ rfl) hS.2.2.2.1 rfl) ⟨s, ⟨_, rfl, rfl⟩, ⟨below4 hS.1 hS.2.2.2.2.1 _, (by rw [setRow_other _ _ _ _ (hS.2.2.2.2.2)]; exact hS.2.1), hS.2.2.1, hS.2.2.2.2.1, hS.2.2.2.2.2, setRow_heap _ _ _ _ _ _ hS.2.2.2.1⟩, fun _ _ => rfl⟩
        | 9, _ => exact stepV rfl rfl (execAsgB rfl (hv 5 (by omega) _ rfl _ rfl)) ⟨s, ⟨_, rfl, rfl⟩, hS, fun _ _ => rfl⟩
        | k_ + 10, h_ => exact absurd h_ (by simp)
      rintro g20 a X18 h1 h2 h3 h4 hS
      clear BB
      clear F17
      clear Fge17
      replace hS : Below X12.heap.size X12 X18 ∧ X18.heap[g17]? = some (.cells (tpC p len i) 25) ∧ X12.heap.size ≤ g17 ∧ X12.heap.size ≤ g20 ∧ g17 ≠ g20 ∧ X18.heap[g20]? = some (.cells (tpC p len (i + 1)) 25) := hS
      obtain ⟨BB, F17, Fge17, Fge20, Fn20F17, F20⟩ := hS
      replace t1 := (h3 1 (by decide)).trans t1
      replace t2 := (h3 2 (by decide)).trans t2
      replace t7 := (h3 7 (by decide)).trans t7
      replace t8 := (h3 8 (by decide)).trans t8
      replace t11 := (h3 11 (by decide)).trans t11
      replace t12 := (h3 12 (by decide)).trans t12
      replace t14 := (h3 14 (by decide)).trans t14
      replace t17 := (h3 17 (by decide)).trans t17
      replace t135 := (h3 135 (by decide)).trans t135
      replace t136 := (h3 136 (by decide)).trans t136
      replace t18 := (h3 18 (by decide)).trans t18
      have t19 : a.eval (.tmp 19) = .int .u8 ((p i : Nat) : Int) := h4 7 _ rfl _ rfl
      have t20 : a.eval (.tmp 20) = .pointer (some ⟨g20, 0, none⟩) := h4 6 _ rfl _ rfl
      have t21 : a.eval (.tmp 21) = .int .i64 ((0 : Nat) : Int) := h4 9 _ rfl _ rfl
      replace A := (⟨h1, h2.trans A.2⟩ : a.tmps.size = 192 ∧ a.defers = [])
      clear h1 h2 h3 h4
      obtain ⟨ga, capa, cura, fza, ea, _, hga, _, _, _, h4a, _⟩ := id Fv42
      have ca : ∀ X, Below X12.heap.size X12 X → X.cell? ⟨ga, i, none⟩ = some (.int .u8 ((p i : Nat) : Int)) := fun X hX => by rw [cell_of_row _ _ _ _ _ _ (on9 hga hX)]; have := h4a i hlt; simp only [Nat.zero_add] at this; exact this
      refine wp_seq ?_
      refine wp_seq ?_
      refine wp_region_sq (σ := Unit) 192 [(0, 145), (1, 146), (2, 147), (3, 148), (4, 149), (5, 150), (6, 151), (7, 152), (8, 153), (9, 154)] (fun j_ s X => match j_ with | 0 => Below X12.heap.size X12 X ∧ X.heap[g17]? = some (.cells (tpC p len i) 25) ∧ X12.heap.size ≤ g17 ∧ X12.heap.size ≤ g20 ∧ g17 ≠ g20 ∧ X.heap[g20]? = some (.cells (tpC p len (i + 1)) 25) | 1 => Below X12.heap.size X12 X ∧ X.heap[g17]? = some (.cells (tpC p len i) 25) ∧ X12.heap.size ≤ g17 ∧ X12.heap.size ≤ g20 ∧ g17 ≠ g20 ∧ X.heap[g20]? = some (.cells (tpC p len (i + 1)) 25) | 2 => Below X12.heap.size X12 X ∧ X.heap[g17]? = some (.cells (tpC p len i) 25) ∧ X12.heap.size ≤ g17 ∧ X12.heap.size ≤ g20 ∧ g17 ≠ g20 ∧ X.heap[g20]? = some (.cells (tpC p len (i + 1)) 25) | 3 => Below X12.heap.size X12 X ∧ X.heap[g17]? = some (.cells (tpC p len i) 25) ∧ X12.heap.size ≤ g17 ∧ X12.heap.size ≤ g20 ∧ g17 ≠ g20 ∧ X.heap[g20]? = some (.cells (tpC p len (i + 1)) 25) | 4 => Below X12.heap.size X12 X ∧ X.heap[g17]? = some (.cells (tpC p len i) 25) ∧ X12.heap.size ≤ g17 ∧ X12.heap.size ≤ g20 ∧ g17 ≠ g20 ∧ X.heap[g20]? = some (.cells (tpC p len (i + 1)) 25) | 5 => Below X12.heap.size X12 X ∧ X.heap[g17]? = some (.cells (tpC p len i) 25) ∧ X12.heap.size ≤ g17 ∧ X12.heap.size ≤ g20 ∧ g17 ≠ g20 ∧ X.heap[g20]? = some (.cells (tpC p len (i + 1)) 25) | 6 => Below X12.heap.size X12 X ∧ X.heap[g17]? = some (.cells (tpC p len i) 25) ∧ X12.heap.size ≤ g17 ∧ X12.heap.size ≤ g20 ∧ g17 ≠ g20 ∧ X.heap[g20]? = some (.cells (tpC p len (i + 1)) 25) | 7 => Below X12.heap.size X12 X ∧ X.heap[g17]? = some (.cells (tpC p len i) 25) ∧ X12.heap.size ≤ g17 ∧ X12.heap.size ≤ g20 ∧ g17 ≠ g20 ∧ X.heap[g20]? = some (.cells (tpC p len (i + 1)) 25) | 8 => Below X12.heap.size X12 X ∧ X.heap[g17]? = some (.cells (tpC p len i) 25) ∧ X12.heap.size ≤ g17 ∧ X12.heap.size ≤ g20 ∧ g17 ≠ g20 ∧ X.heap[g20]? = some (.cells (tpC p len (i + 1)) 25) | 9 => Below X12.heap.size X12 X ∧ X.heap[g17]? = some (.cells (tpC p len i) 25) ∧ X12.heap.size ≤ g17 ∧ X12.heap.size ≤ g20 ∧ g17 ≠ g20 ∧ X.heap[g20]? = some (.cells (tpC p len (i + 1)) 25) | _ => Below X12.heap.size X12 X ∧ X.heap[g17]? = some (.cells (tpC p len i) 25) ∧ X12.heap.size ≤ g17 ∧ X12.heap.size ≤ g20 ∧ g17 ≠ g20 ∧ X.heap[g20]? = some (.cells (tpC p len (i + 1)) 25)) (fun s => fun i_ => match i_ with | 0 => .int .i64 ((0 : Nat) : Int) | 1 => .bool false | 2 => .bool false | 3 => .int .u8 ((p i : Nat) : Int) | 4 => v42 | 5 => .int .i64 ((i : Nat) : Int) | 6 => .pointer (some ⟨ga, i, none⟩) | 7 => .int .u8 ((p i : Nat) : Int) | 8 => .bool false | 9 => .bool false | _ => undef) () A.1 (by kernel_rfl) (by decide) (by decide) ⟨BB, F17, Fge17, Fge20, Fn20F17, F20⟩ ?_ ?_
      · intro i_ hi_ s a X hf hv hn hS
        match i_, hi_ with
        | 0, _ => exact stepV rfl rfl (execMvB rfl ((hf 21 (by decide)).trans t21)) ⟨s, ⟨_, rfl, rfl⟩, hS, fun _ _ => rfl⟩
        | 1, _ => exact stepV rfl rfl (execDec (execNeE (p := 0) (q := 0) rfl (hv 0 (by omega) _ rfl _ rfl) rfl) (decide_eq_false (by omega))) ⟨s, ⟨_, rfl, rfl⟩, hS, fun _ _ => rfl⟩
        | 2, _ => exact stepV rfl rfl (execMvB rfl (hv 1 (by omega) _ rfl _ rfl)) ⟨s, ⟨_, rfl, rfl⟩, hS, fun _ _ => rfl⟩
        | 3, _ => exact stepV rfl (wantedOf rfl (yieldedAt rfl rfl (show a.eval (.tmp 147) = .bool false from (hv 2 (by omega) _ rfl _ rfl)))) (execMvB rfl ((hf 19 (by decide)).trans t19)) ⟨s, ⟨_, rfl, rfl⟩, hS, fun _ _ => rfl⟩
        | 4, _ => exact stepV rfl (wantedOf rfl (yieldedAt rfl rfl (show a.eval (.tmp 147) = .bool false from (hv 2 (by omega) _ rfl _ rfl)))) (execMvB rfl ((hf 8 (by decide)).trans t8)) ⟨s, ⟨_, rfl, rfl⟩, hS, fun _ _ => rfl⟩
        | 5, _ => exact stepV rfl (wantedOf rfl (yieldedAt rfl rfl (show a.eval (.tmp 147) = .bool false from (hv 2 (by omega) _ rfl _ rfl)))) (execMvB rfl ((hf 18 (by decide)).trans t18)) ⟨s, ⟨_, rfl, rfl⟩, hS, fun _ _ => rfl⟩
        | 6, _ => exact stepV rfl (wantedOf rfl (yieldedAt rfl rfl (show a.eval (.tmp 147) = .bool false from (hv 2 (by omega) _ rfl _ rfl)))) (execIdxS0 (k := i) rfl ((hv 4 (by omega) _ rfl _ rfl).trans ea) (hv 5 (by omega) _ rfl _ rfl) hlt) ⟨s, ⟨_, rfl, rfl⟩, hS, fun _ _ => rfl⟩
        | 7, _ => exact stepV rfl (wantedOf rfl (yieldedAt rfl rfl (show a.eval (.tmp 147) = .bool false from (hv 2 (by omega) _ rfl _ rfl)))) (execLdB rfl (hv 6 (by omega) _ rfl _ rfl) (ca X hS.1)) ⟨s, ⟨_, rfl, rfl⟩, hS, fun _ _ => rfl⟩
        | 8, _ => exact stepV rfl (wantedOf rfl (yieldedAt rfl rfl (show a.eval (.tmp 147) = .bool false from (hv 2 (by omega) _ rfl _ rfl)))) (execNeqU8 rfl (hv 3 (by omega) _ rfl _ rfl) (hv 7 (by omega) _ rfl _ rfl)) ⟨s, ⟨_, rfl, rfl⟩, hS, fun _ _ => rfl⟩
        | 9, _ => exact stepV rfl rfl (execPickF rfl (hv 2 (by omega) _ rfl _ rfl) (hv 8 (by omega) _ rfl _ rfl)) ⟨s, ⟨_, rfl, rfl⟩, hS, fun _ _ => rfl⟩
        | k_ + 10, h_ => exact absurd h_ (by simp)
      rintro _ a X19 h1 h2 h3 h4 hS
      clear BB
      clear F17
      clear Fge17
      clear Fge20
      clear Fn20F17
      clear F20
      replace hS : Below X12.heap.size X12 X19 ∧ X19.heap[g17]? = some (.cells (tpC p len i) 25) ∧ X12.heap.size ≤ g17 ∧ X12.heap.size ≤ g20 ∧ g17 ≠ g20 ∧ X19.heap[g20]? = some (.cells (tpC p len (i + 1)) 25) := hS
      obtain ⟨BB, F17, Fge17, Fge20, Fn20F17, F20⟩ := hS
      replace t1 := (h3 1 (by decide)).trans t1
      replace t2 := (h3 2 (by decide)).trans t2
      replace t7 := (h3 7 (by decide)).trans t7
      replace t8 := (h3 8 (by decide)).trans t8
      replace t11 := (h3 11 (by decide)).trans t11
      replace t12 := (h3 12 (by decide)).trans t12
      replace t14 := (h3 14 (by decide)).trans t14
      replace t17 := (h3 17 (by decide)).trans t17
      replace t135 := (h3 135 (by decide)).trans t135
      replace t136 := (h3 136 (by decide)).trans t136
      replace t20 := (h3 20 (by decide)).trans t20
      have t154 : a.eval (.tmp 154) = .bool false := h4 9 _ rfl _ rfl
      replace A := (⟨h1, h2.trans A.2⟩ : a.tmps.size = 192 ∧ a.defers = [])
      clear h1 h2 h3 h4
      clear t18 t19 t21
      refine wp_cond_false t154 ?_
      refine wp_skip ?_
      clear t154
      refine wp_region_sq (σ := Unit) 192 [(0, 155)] (fun j_ s X => match j_ with | 0 => Below X12.heap.size X12 X ∧ X.heap[g17]? = some (.cells (tpC p len i) 25) ∧ X12.heap.size ≤ g17 ∧ X12.heap.size ≤ g20 ∧ g17 ≠ g20 ∧ X.heap[g20]? = some (.cells (tpC p len (i + 1)) 25) | 1 => Below X12.heap.size X12 X ∧ X.heap[g17]? = some (.cells (tpC p len i) 25) ∧ X12.heap.size ≤ g17 ∧ X12.heap.size ≤ g20 ∧ g17 ≠ g20 ∧ X.heap[g20]? = some (.cells (tpC p len (i + 1)) 25) | _ => Below X12.heap.size X12 X ∧ X12.heap.size ≤ g17 ∧ X12.heap.size ≤ g20 ∧ g17 ≠ g20 ∧ X.heap[g17]? = some (.cells (tpC p len (i + 1)) 25)) (fun s => fun i_ => match i_ with | 0 => .agg (tpC p len (i + 1)) | 1 => undef | _ => undef) () A.1 (by kernel_rfl) (by decide) (by decide) ⟨BB, F17, Fge17, Fge20, Fn20F17, F20⟩ ?_ ?_
      · intro i_ hi_ s a X hf hv hn hS
        match i_, hi_ with
        | 0, _ => exact stepV rfl rfl (execLdTp rfl ((hf 20 (by decide)).trans t20) hS.2.2.2.2.2) ⟨s, ⟨_, rfl, rfl⟩, hS, fun _ _ => rfl⟩
        | 1, _ => exact stepS rfl rfl (execStTp rfl ((hf 17 (by decide)).trans t17) (hv 0 (by omega) _ rfl _ rfl) hS.2.1 rfl) ⟨s, ⟨_, rfl, rfl⟩, ⟨below4 hS.1 hS.2.2.1 _, hS.2.2.1, hS.2.2.2.1, hS.2.2.2.2.1, setRow_heap _ _ _ _ _ _ hS.2.1⟩, fun _ _ => rfl⟩
        | k_ + 2, h_ => exact absurd h_ (by simp)
      rintro _ a X21 h1 h2 h3 h4 hS
      clear BB
      clear F17
      clear Fge17
      clear Fge20
      clear Fn20F17
      clear F20
      replace hS : Below X12.heap.size X12 X21 ∧ X12.heap.size ≤ g17 ∧ X12.heap.size ≤ g20 ∧ g17 ≠ g20 ∧ X21.heap[g17]? = some (.cells (tpC p len (i + 1)) 25) := hS
      obtain ⟨BB, Fge17, Fge20, Fn20F17, F17⟩ := hS
      replace t1 := (h3 1 (by decide)).trans t1
      replace t2 := (h3 2 (by decide)).trans t2
      replace t7 := (h3 7 (by decide)).trans t7
      replace t8 := (h3 8 (by decide)).trans t8
      replace t11 := (h3 11 (by decide)).trans t11
      replace t12 := (h3 12 (by decide)).trans t12
      replace t14 := (h3 14 (by decide)).trans t14
      replace t17 := (h3 17 (by decide)).trans t17
      replace t135 := (h3 135 (by decide)).trans t135
      replace t136 := (h3 136 (by decide)).trans t136
      replace A := (⟨h1, h2.trans A.2⟩ : a.tmps.size = 192 ∧ a.defers = [])
      clear h1 h2 h3 h4
      clear t20
      refine wp_region_sq (σ := Unit) 192 [(0, 156), (1, 136)] (fun j_ s X => match j_ with | 0 => Below X12.heap.size X12 X ∧ X12.heap.size ≤ g17 ∧ X12.heap.size ≤ g20 ∧ g17 ≠ g20 ∧ X.heap[g17]? = some (.cells (tpC p len (i + 1)) 25) | 1 => Below X12.heap.size X12 X ∧ X12.heap.size ≤ g17 ∧ X12.heap.size ≤ g20 ∧ g17 ≠ g20 ∧ X.heap[g17]? = some (.cells (tpC p len (i + 1)) 25) | _ => Below X12.heap.size X12 X ∧ X12.heap.size ≤ g17 ∧ X12.heap.size ≤ g20 ∧ g17 ≠ g20 ∧ X.heap[g17]? = some (.cells (tpC p len (i + 1)) 25)) (fun s => fun i_ => match i_ with | 0 => .int .i64 ((i + 1 : Nat) : Int) | 1 => .int .i64 ((i + 1 : Nat) : Int) | _ => undef) () A.1 (by kernel_rfl) (by decide) (by decide) ⟨BB, Fge17, Fge20, Fn20F17, F17⟩ ?_ ?_
      · intro i_ hi_ s a X hf hv hn hS
        match i_, hi_ with
        | 0, _ => exact stepV rfl rfl (execAd8 (p := i) (q := 1) rfl ((hn 1 (by omega) _ rfl _ rfl).trans t136) rfl (by omega)) ⟨s, ⟨_, rfl, rfl⟩, hS, fun _ _ => rfl⟩
        | 1, _ => exact stepV rfl rfl (execMvB rfl (hv 0 (by omega) _ rfl _ rfl)) ⟨s, ⟨_, rfl, rfl⟩, hS, fun _ _ => rfl⟩
        | k_ + 2, h_ => exact absurd h_ (by simp)
      rintro _ a X22 h1 h2 h3 h4 hS
      clear BB
      clear Fge17
      clear Fge20
      clear Fn20F17
      clear F17
      replace hS : Below X12.heap.size X12 X22 ∧ X12.heap.size ≤ g17 ∧ X12.heap.size ≤ g20 ∧ g17 ≠ g20 ∧ X22.heap[g17]? = some (.cells (tpC p len (i + 1)) 25) := hS
      obtain ⟨BB, Fge17, Fge20, Fn20F17, F17⟩ := hS
      replace t1 := (h3 1 (by decide)).trans t1
      replace t2 := (h3 2 (by decide)).trans t2
      replace t7 := (h3 7 (by decide)).trans t7
      replace t8 := (h3 8 (by decide)).trans t8
      replace t11 := (h3 11 (by decide)).trans t11
      replace t12 := (h3 12 (by decide)).trans t12
      replace t14 := (h3 14 (by decide)).trans t14
      replace t17 := (h3 17 (by decide)).trans t17
      replace t135 := (h3 135 (by decide)).trans t135
      replace t136 : a.eval (.tmp 136) = .int .i64 ((i + 1 : Nat) : Int) := h4 1 _ rfl _ rfl
      replace A := (⟨h1, h2.trans A.2⟩ : a.tmps.size = 192 ∧ a.defers = [])
      clear h1 h2 h3 h4
      have e0 : i + 1 ≤ N1 := hlt
      exact ⟨⟨i + 1, e0, A, t1, t2, t7, t8, t11, t12, t14, t17, t135, t136, BB, F17⟩, by show N1 - (intOf (a.eval (.tmp 136))).toNat < N1 - (intOf (Act.eval _ (.tmp 136))).toNat; rw [t136, e136]; show N1 - (i + 1) < N1 - i; omega⟩
    · rw [decide_eq_false hlt] at t137
      refine wp_cond_false t137 ?_
      refine wp_exit ?_
      first | refine exit_in ?_ | refine exit_then (exit_in ?_) | refine exit_then (exit_then (exit_in ?_))
      clear t137
      have hiN : i = N1 := by omega
      subst hiN
      clear t135 t136 e136
      refine wp_seq ?_
      refine wp_region_sq (σ := Value × Nat) 192 [(0, 158), (1, 159), (2, 160), (3, 157), (4, 161), (5, 162), (6, 163), (7, 23), (8, 22), (10, 24)] (fun j_ s X => match j_ with | 0 => Below X12.heap.size X12 X ∧ X.heap[g17]? = some (.cells (tpC p len i) 25) ∧ X12.heap.size ≤ g17 | 1 => Below X12.heap.size X12 X ∧ X.heap[g17]? = some (.cells (tpC p len i) 25) ∧ X12.heap.size ≤ g17 | 2 => Below X12.heap.size X12 X ∧ X.heap[g17]? = some (.cells (tpC p len i) 25) ∧ X12.heap.size ≤ g17 | 3 => Below X12.heap.size X12 X ∧ X.heap[g17]? = some (.cells (tpC p len i) 25) ∧ X12.heap.size ≤ g17 ∧ OwnM X (X12.heap.size) s.1 (M1) (fun j => p (i + j)) | 4 => Below X12.heap.size X12 X ∧ X.heap[g17]? = some (.cells (tpC p len i) 25) ∧ X12.heap.size ≤ g17 ∧ OwnM X (X12.heap.size) s.1 (M1) (fun j => p (i + j)) | 5 => Below X12.heap.size X12 X ∧ X.heap[g17]? = some (.cells (tpC p len i) 25) ∧ X12.heap.size ≤ g17 ∧ OwnM X (X12.heap.size) s.1 (M1) (fun j => p (i + j)) | 6 => Below X12.heap.size X12 X ∧ X.heap[g17]? = some (.cells (tpC p len i) 25) ∧ X12.heap.size ≤ g17 ∧ OwnM X (X12.heap.size) s.1 (M1) (fun j => p (i + j)) | 7 => Below X12.heap.size X12 X ∧ X.heap[g17]? = some (.cells (tpC p len i) 25) ∧ X12.heap.size ≤ g17 ∧ OwnM X (X12.heap.size) s.1 (M1) (fun j => p (i + j)) | 8 => Below X12.heap.size X12 X ∧ X.heap[g17]? = some (.cells (tpC p len i) 25) ∧ X12.heap.size ≤ g17 ∧ OwnM X (X12.heap.size) s.1 (M1) (fun j => p (i + j)) ∧ X.heap[s.2]? = some (.cells (tpC (fun _ => 0) 0 0) 25) ∧ X12.heap.size ≤ s.2 ∧ g17 ≠ s.2 | 9 => Below X12.heap.size X12 X ∧ X.heap[g17]? = some (.cells (tpC p len i) 25) ∧ X12.heap.size ≤ g17 ∧ OwnM X (X12.heap.size) s.1 (M1) (fun j => p (i + j)) ∧ X.heap[s.2]? = some (.cells (tpC (fun _ => 0) 0 0) 25) ∧ X12.heap.size ≤ s.2 ∧ g17 ≠ s.2 | 10 => Below X12.heap.size X12 X ∧ X.heap[g17]? = some (.cells (tpC p len i) 25) ∧ X12.heap.size ≤ g17 ∧ OwnM X (X12.heap.size) s.1 (M1) (fun j => p (i + j)) ∧ X12.heap.size ≤ s.2 ∧ g17 ≠ s.2 ∧ X.heap[s.2]? = some (.cells (tpC p len (i + M1)) 25) | _ => Below X12.heap.size X12 X ∧ X.heap[g17]? = some (.cells (tpC p len i) 25) ∧ X12.heap.size ≤ g17 ∧ OwnM X (X12.heap.size) s.1 (M1) (fun j => p (i + j)) ∧ X12.heap.size ≤ s.2 ∧ g17 ≠ s.2 ∧ X.heap[s.2]? = some (.cells (tpC p len (i + M1)) 25)) (fun s => fun i_ => match i_ with | 0 => .agg (tpC p len i) | 1 => .int .i64 ((M1 : Nat) : Int) | 2 => .tuple #[s.1, .agg (tpC p len (i + M1)), .int .i64 ((0 : Nat) : Int)] | 3 => .tuple #[s.1, .agg (tpC p len (i + M1)), .int .i64 ((0 : Nat) : Int)] | 4 => s.1 | 5 => .agg (tpC p len (i + M1)) | 6 => .int .i64 ((0 : Nat) : Int) | 7 => .pointer (some ⟨s.2, 0, none⟩) | 8 => s.1 | 9 => undef | 10 => .int .i64 ((0 : Nat) : Int) | _ => undef) (undef, 0) A.1 (by kernel_rfl) (by decide) (by decide) ⟨BB, F17, Fge17⟩ ?_ ?_
      · intro i_ hi_ s a X hf hv hn hS
        match i_, hi_ with
        | 0, _ => exact stepV rfl rfl (execLdTp rfl ((hf 17 (by decide)).trans t17) hS.2.1) ⟨s, ⟨_, rfl, rfl⟩, hS, fun _ _ => rfl⟩
        | 1, _ => exact stepV rfl rfl (execMvB rfl ((hf 2 (by decide)).trans t2)) ⟨s, ⟨_, rfl, rfl⟩, hS, fun _ _ => rfl⟩
        | 2, _ =>
          refine stepC rfl rfl (execCall2 Try.func13 (by kernel_rfl) (by kernel_rfl) rfl (hv 0 (by omega) _ rfl _ rfl) (hv 1 (by omega) _ rfl _ rfl)) (take_ok p len i M1 X (by omega) (by omega) hp) fun e w' hh => ?_
          obtain ⟨r_, he, hk, hb⟩ := hh
          refine ⟨_, he, (r_, s.2), ⟨_, rfl, rfl⟩, ⟨(hS.1).trans ((hb).mono (hS.1).size), (on9 hS.2.1 hb), hS.2.2, hk.base (hS.1).size⟩, fun i hi => ?_⟩
          match i, hi with
          | 0, _ => rfl
          | 1, _ => rfl
          | n_ + 2, h_ => omega
        | 3, _ => exact stepV rfl rfl (execMvB rfl (hv 2 (by omega) _ rfl _ rfl)) ⟨s, ⟨_, rfl, rfl⟩, hS, fun _ _ => rfl⟩
        | 4, _ => exact stepV rfl rfl (execExtT rfl (hv 3 (by omega) _ rfl _ rfl) rfl) ⟨s, ⟨_, rfl, rfl⟩, hS, fun _ _ => rfl⟩
        | 5, _ => exact stepV rfl rfl (execExtT rfl (hv 3 (by omega) _ rfl _ rfl) rfl) ⟨s, ⟨_, rfl, rfl⟩, hS, fun _ _ => rfl⟩
        | 6, _ => exact stepV rfl rfl (execExtT rfl (hv 3 (by omega) _ rfl _ rfl) rfl) ⟨s, ⟨_, rfl, rfl⟩, hS, fun _ _ => rfl⟩
        | 7, _ =>
          refine stepV rfl rfl (execAllTp rfl (fun _ => 0)) ⟨(s.1, X.heap.size), ⟨_, rfl, rfl⟩, ⟨(hS.1).trans (((belNew X _)).mono (hS.1).size), (on9 hS.2.1 (belNew X _)), hS.2.2.1, (hS.2.2.2.on (belNew X _)), heapNew X _, (hS.1).size, ne9 hS.2.1⟩, fun i hi => ?_⟩
          match i, hi with
          | 0, _ => rfl
          | 1, _ => rfl
          | 2, _ => rfl
          | 3, _ => rfl
          | 4, _ => rfl
          | 5, _ => rfl
          | 6, _ => rfl
          | n_ + 7, h_ => omega
        | 8, _ => exact stepV rfl rfl (execAsgB rfl (hv 4 (by omega) _ rfl _ rfl)) ⟨s, ⟨_, rfl, rfl⟩, hS, fun _ _ => rfl⟩
        | 9, _ => exact stepS rfl rfl (execStTp rfl (hv 7 (by omega) _ rfl _ rfl) (hv 5 (by omega) _ rfl _ rfl) hS.2.2.2.2.1 rfl) ⟨s, ⟨_, rfl, rfl⟩, ⟨below4 hS.1 hS.2.2.2.2.2.1 _, (by rw [setRow_other _ _ _ _ (hS.2.2.2.2.2.2)]; exact hS.2.1), hS.2.2.1, (hS.2.2.2.1.set hS.2.2.2.2.1 (by decide)), hS.2.2.2.2.2.1, hS.2.2.2.2.2.2, setRow_heap _ _ _ _ _ _ hS.2.2.2.2.1⟩, fun _ _ => rfl⟩
        | 10, _ => exact stepV rfl rfl (execAsgB rfl (hv 6 (by omega) _ rfl _ rfl)) ⟨s, ⟨_, rfl, rfl⟩, hS, fun _ _ => rfl⟩
        | k_ + 11, h_ => exact absurd h_ (by simp)
      rintro ⟨v160, g23⟩ a X23 h1 h2 h3 h4 hS
      clear BB
      clear F17
      clear Fge17
      replace hS : Below X12.heap.size X12 X23 ∧ X23.heap[g17]? = some (.cells (tpC p len i) 25) ∧ X12.heap.size ≤ g17 ∧ OwnM X23 (X12.heap.size) v160 (M1) (fun j => p (i + j)) ∧ X12.heap.size ≤ g23 ∧ g17 ≠ g23 ∧ X23.heap[g23]? = some (.cells (tpC p len (i + M1)) 25) := hS
      obtain ⟨BB, F17, Fge17, Fv160, Fge23, Fn23F17, F23⟩ := hS
      replace t1 := (h3 1 (by decide)).trans t1
      replace t2 := (h3 2 (by decide)).trans t2
      replace t8 := (h3 8 (by decide)).trans t8
      replace t11 := (h3 11 (by decide)).trans t11
      replace t12 := (h3 12 (by decide)).trans t12
      replace t14 := (h3 14 (by decide)).trans t14
      replace t17 := (h3 17 (by decide)).trans t17
      have t22 : a.eval (.tmp 22) = v160 := h4 8 _ rfl _ rfl
      have t24 : a.eval (.tmp 24) = .int .i64 ((0 : Nat) : Int) := h4 10 _ rfl _ rfl
      replace A := (⟨h1, h2.trans A.2⟩ : a.tmps.size = 192 ∧ a.defers = [])
      clear h1 h2 h3 h4
      clear t7
      replace FP := (FP.on BB)
      replace Fge7 := Fge7
      replace F7 := (on9 F7 BB)
      replace Fv42 := (Fv42.on BB)
      replace Fge9 := Fge9
      replace F9 := (on9 F9 BB)
      replace Fv69 := (Fv69.on BB)
      replace Fge12 := Fge12
      replace F12 := (on9 F12 BB)
      replace Fv78 := (Fv78.on BB)
      replace Fge15 := Fge15
      replace F15 := (on9 F15 BB)
      replace BW := BW.trans (BB.mono BW.size)
      clear BB
      have BB := BW
      refine wp_seq ?_
      refine wp_region_sq (σ := Value) 192 [(0, 164), (1, 165), (2, 166), (3, 167), (4, 168), (5, 169), (6, 170), (7, 171), (8, 172), (9, 173), (10, 174), (11, 175), (12, 176), (13, 177), (14, 178), (15, 179), (16, 180), (17, 181), (18, 182), (19, 183), (20, 184), (21, 185), (22, 186), (23, 187), (24, 188), (25, 189), (26, 190), (27, 191), (28, 6)] (fun j_ s X => match j_ with | 0 => Below V.heap.size V X ∧ OwnM X (V.heap.size) v42 (i) (fun j => p (0 + j)) ∧ OwnM X (X6.heap.size) v69 (M1) (fun j => p ((0 + i) + j)) ∧ OwnM X (X8.heap.size) v78 ((i + M1)) (fun j => p (0 + j)) ∧ OwnM X (X12.heap.size) v160 (M1) (fun j => p (i + j)) ∧ X.heap[g12]? = some (.cells (tpC p len ((0 + i) + M1)) 25) ∧ X.heap[g17]? = some (.cells (tpC p len i) 25) | 1 => Below V.heap.size V X ∧ OwnM X (V.heap.size) v42 (i) (fun j => p (0 + j)) ∧ OwnM X (X6.heap.size) v69 (M1) (fun j => p ((0 + i) + j)) ∧ OwnM X (X8.heap.size) v78 ((i + M1)) (fun j => p (0 + j)) ∧ OwnM X (X12.heap.size) v160 (M1) (fun j => p (i + j)) ∧ X.heap[g12]? = some (.cells (tpC p len ((0 + i) + M1)) 25) ∧ X.heap[g17]? = some (.cells (tpC p len i) 25) | 2 => Below V.heap.size V X ∧ OwnM X (V.heap.size) v42 (i) (fun j => p (0 + j)) ∧ OwnM X (X6.heap.size) v69 (M1) (fun j => p ((0 + i) + j)) ∧ OwnM X (X8.heap.size) v78 ((i + M1)) (fun j => p (0 + j)) ∧ OwnM X (X12.heap.size) v160 (M1) (fun j => p (i + j)) ∧ X.heap[g12]? = some (.cells (tpC p len ((0 + i) + M1)) 25) ∧ X.heap[g17]? = some (.cells (tpC p len i) 25) | 3 => Below V.heap.size V X ∧ OwnM X (V.heap.size) v42 (i) (fun j => p (0 + j)) ∧ OwnM X (X6.heap.size) v69 (M1) (fun j => p ((0 + i) + j)) ∧ OwnM X (X8.heap.size) v78 ((i + M1)) (fun j => p (0 + j)) ∧ OwnM X (X12.heap.size) v160 (M1) (fun j => p (i + j)) ∧ X.heap[g12]? = some (.cells (tpC p len ((0 + i) + M1)) 25) ∧ X.heap[g17]? = some (.cells (tpC p len i) 25) | 4 => Below V.heap.size V X ∧ OwnM X (V.heap.size) v42 (i) (fun j => p (0 + j)) ∧ OwnM X (X6.heap.size) v69 (M1) (fun j => p ((0 + i) + j)) ∧ OwnM X (X8.heap.size) v78 ((i + M1)) (fun j => p (0 + j)) ∧ OwnM X (X12.heap.size) v160 (M1) (fun j => p (i + j)) ∧ X.heap[g12]? = some (.cells (tpC p len ((0 + i) + M1)) 25) ∧ X.heap[g17]? = some (.cells (tpC p len i) 25) | 5 => Below V.heap.size V X ∧ OwnM X (V.heap.size) v42 (i) (fun j => p (0 + j)) ∧ OwnM X (X6.heap.size) v69 (M1) (fun j => p ((0 + i) + j)) ∧ OwnM X (X8.heap.size) v78 ((i + M1)) (fun j => p (0 + j)) ∧ OwnM X (X12.heap.size) v160 (M1) (fun j => p (i + j)) ∧ X.heap[g12]? = some (.cells (tpC p len ((0 + i) + M1)) 25) ∧ X.heap[g17]? = some (.cells (tpC p len i) 25) | 6 => Below V.heap.size V X ∧ OwnM X (X6.heap.size) v69 (M1) (fun j => p ((0 + i) + j)) ∧ OwnM X (X8.heap.size) v78 ((i + M1)) (fun j => p (0 + j)) ∧ OwnM X (X12.heap.size) v160 (M1) (fun j => p (i + j)) ∧ X.heap[g12]? = some (.cells (tpC p len ((0 + i) + M1)) 25) ∧ X.heap[g17]? = some (.cells (tpC p len i) 25) ∧ SliceN X s (i + M1) (cat2 i (fun j => p (0 + j)) (fun j => p (0 + i + j))) | 7 => Below V.heap.size V X ∧ OwnM X (X6.heap.size) v69 (M1) (fun j => p ((0 + i) + j)) ∧ OwnM X (X8.heap.size) v78 ((i + M1)) (fun j => p (0 + j)) ∧ OwnM X (X12.heap.size) v160 (M1) (fun j => p (i + j)) ∧ X.heap[g12]? = some (.cells (tpC p len ((0 + i) + M1)) 25) ∧ X.heap[g17]? = some (.cells (tpC p len i) 25) ∧ SliceN X s (i + M1) (cat2 i (fun j => p (0 + j)) (fun j => p (0 + i + j))) | 8 => Below V.heap.size V X ∧ OwnM X (X6.heap.size) v69 (M1) (fun j => p ((0 + i) + j)) ∧ OwnM X (X8.heap.size) v78 ((i + M1)) (fun j => p (0 + j)) ∧ OwnM X (X12.heap.size) v160 (M1) (fun j => p (i + j)) ∧ X.heap[g12]? = some (.cells (tpC p len ((0 + i) + M1)) 25) ∧ X.heap[g17]? = some (.cells (tpC p len i) 25) ∧ SliceN X s (i + M1) (cat2 i (fun j => p (0 + j)) (fun j => p (0 + i + j))) | 9 => Below V.heap.size V X ∧ OwnM X (X6.heap.size) v69 (M1) (fun j => p ((0 + i) + j)) ∧ OwnM X (X8.heap.size) v78 ((i + M1)) (fun j => p (0 + j)) ∧ OwnM X (X12.heap.size) v160 (M1) (fun j => p (i + j)) ∧ X.heap[g12]? = some (.cells (tpC p len ((0 + i) + M1)) 25) ∧ X.heap[g17]? = some (.cells (tpC p len i) 25) ∧ SliceN X s (i + M1) (cat2 i (fun j => p (0 + j)) (fun j => p (0 + i + j))) | 10 => Below V.heap.size V X ∧ OwnM X (X6.heap.size) v69 (M1) (fun j => p ((0 + i) + j)) ∧ OwnM X (X8.heap.size) v78 ((i + M1)) (fun j => p (0 + j)) ∧ OwnM X (X12.heap.size) v160 (M1) (fun j => p (i + j)) ∧ X.heap[g12]? = some (.cells (tpC p len ((0 + i) + M1)) 25) ∧ X.heap[g17]? = some (.cells (tpC p len i) 25) ∧ SliceN X s (i + M1) (cat2 i (fun j => p (0 + j)) (fun j => p (0 + i + j))) | 11 => Below V.heap.size V X ∧ OwnM X (X6.heap.size) v69 (M1) (fun j => p ((0 + i) + j)) ∧ OwnM X (X8.heap.size) v78 ((i + M1)) (fun j => p (0 + j)) ∧ OwnM X (X12.heap.size) v160 (M1) (fun j => p (i + j)) ∧ X.heap[g12]? = some (.cells (tpC p len ((0 + i) + M1)) 25) ∧ X.heap[g17]? = some (.cells (tpC p len i) 25) ∧ SliceN X s (i + M1) (cat2 i (fun j => p (0 + j)) (fun j => p (0 + i + j))) | 12 => Below V.heap.size V X ∧ OwnM X (X6.heap.size) v69 (M1) (fun j => p ((0 + i) + j)) ∧ OwnM X (X8.heap.size) v78 ((i + M1)) (fun j => p (0 + j)) ∧ OwnM X (X12.heap.size) v160 (M1) (fun j => p (i + j)) ∧ X.heap[g12]? = some (.cells (tpC p len ((0 + i) + M1)) 25) ∧ X.heap[g17]? = some (.cells (tpC p len i) 25) ∧ SliceN X s (i + M1) (cat2 i (fun j => p (0 + j)) (fun j => p (0 + i + j))) | 13 => Below V.heap.size V X ∧ OwnM X (X6.heap.size) v69 (M1) (fun j => p ((0 + i) + j)) ∧ OwnM X (X8.heap.size) v78 ((i + M1)) (fun j => p (0 + j)) ∧ OwnM X (X12.heap.size) v160 (M1) (fun j => p (i + j)) ∧ X.heap[g12]? = some (.cells (tpC p len ((0 + i) + M1)) 25) ∧ X.heap[g17]? = some (.cells (tpC p len i) 25) ∧ SliceN X s (i + M1) (cat2 i (fun j => p (0 + j)) (fun j => p (0 + i + j))) | 14 => Below V.heap.size V X ∧ OwnM X (X6.heap.size) v69 (M1) (fun j => p ((0 + i) + j)) ∧ OwnM X (X8.heap.size) v78 ((i + M1)) (fun j => p (0 + j)) ∧ OwnM X (X12.heap.size) v160 (M1) (fun j => p (i + j)) ∧ X.heap[g12]? = some (.cells (tpC p len ((0 + i) + M1)) 25) ∧ X.heap[g17]? = some (.cells (tpC p len i) 25) ∧ SliceN X s (i + M1) (cat2 i (fun j => p (0 + j)) (fun j => p (0 + i + j))) | 15 => Below V.heap.size V X ∧ OwnM X (X6.heap.size) v69 (M1) (fun j => p ((0 + i) + j)) ∧ OwnM X (X8.heap.size) v78 ((i + M1)) (fun j => p (0 + j)) ∧ OwnM X (X12.heap.size) v160 (M1) (fun j => p (i + j)) ∧ X.heap[g12]? = some (.cells (tpC p len ((0 + i) + M1)) 25) ∧ X.heap[g17]? = some (.cells (tpC p len i) 25) ∧ SliceN X s (i + M1) (cat2 i (fun j => p (0 + j)) (fun j => p (0 + i + j))) | 16 => Below V.heap.size V X ∧ OwnM X (X6.heap.size) v69 (M1) (fun j => p ((0 + i) + j)) ∧ OwnM X (X8.heap.size) v78 ((i + M1)) (fun j => p (0 + j)) ∧ OwnM X (X12.heap.size) v160 (M1) (fun j => p (i + j)) ∧ X.heap[g12]? = some (.cells (tpC p len ((0 + i) + M1)) 25) ∧ X.heap[g17]? = some (.cells (tpC p len i) 25) ∧ SliceN X s (i + M1) (cat2 i (fun j => p (0 + j)) (fun j => p (0 + i + j))) | 17 => Below V.heap.size V X ∧ OwnM X (X6.heap.size) v69 (M1) (fun j => p ((0 + i) + j)) ∧ OwnM X (X8.heap.size) v78 ((i + M1)) (fun j => p (0 + j)) ∧ OwnM X (X12.heap.size) v160 (M1) (fun j => p (i + j)) ∧ X.heap[g12]? = some (.cells (tpC p len ((0 + i) + M1)) 25) ∧ X.heap[g17]? = some (.cells (tpC p len i) 25) ∧ SliceN X s (i + M1) (cat2 i (fun j => p (0 + j)) (fun j => p (0 + i + j))) | 18 => Below V.heap.size V X ∧ OwnM X (X6.heap.size) v69 (M1) (fun j => p ((0 + i) + j)) ∧ OwnM X (X8.heap.size) v78 ((i + M1)) (fun j => p (0 + j)) ∧ OwnM X (X12.heap.size) v160 (M1) (fun j => p (i + j)) ∧ X.heap[g12]? = some (.cells (tpC p len ((0 + i) + M1)) 25) ∧ X.heap[g17]? = some (.cells (tpC p len i) 25) ∧ SliceN X s (i + M1) (cat2 i (fun j => p (0 + j)) (fun j => p (0 + i + j))) | 19 => Below V.heap.size V X ∧ OwnM X (X6.heap.size) v69 (M1) (fun j => p ((0 + i) + j)) ∧ OwnM X (X8.heap.size) v78 ((i + M1)) (fun j => p (0 + j)) ∧ OwnM X (X12.heap.size) v160 (M1) (fun j => p (i + j)) ∧ X.heap[g12]? = some (.cells (tpC p len ((0 + i) + M1)) 25) ∧ X.heap[g17]? = some (.cells (tpC p len i) 25) ∧ SliceN X s (i + M1) (cat2 i (fun j => p (0 + j)) (fun j => p (0 + i + j))) | 20 => Below V.heap.size V X ∧ OwnM X (X6.heap.size) v69 (M1) (fun j => p ((0 + i) + j)) ∧ OwnM X (X8.heap.size) v78 ((i + M1)) (fun j => p (0 + j)) ∧ OwnM X (X12.heap.size) v160 (M1) (fun j => p (i + j)) ∧ X.heap[g12]? = some (.cells (tpC p len ((0 + i) + M1)) 25) ∧ X.heap[g17]? = some (.cells (tpC p len i) 25) ∧ SliceN X s (i + M1) (cat2 i (fun j => p (0 + j)) (fun j => p (0 + i + j))) | 21 => Below V.heap.size V X ∧ OwnM X (X6.heap.size) v69 (M1) (fun j => p ((0 + i) + j)) ∧ OwnM X (X8.heap.size) v78 ((i + M1)) (fun j => p (0 + j)) ∧ OwnM X (X12.heap.size) v160 (M1) (fun j => p (i + j)) ∧ X.heap[g12]? = some (.cells (tpC p len ((0 + i) + M1)) 25) ∧ X.heap[g17]? = some (.cells (tpC p len i) 25) ∧ SliceN X s (i + M1) (cat2 i (fun j => p (0 + j)) (fun j => p (0 + i + j))) | 22 => Below V.heap.size V X ∧ OwnM X (X6.heap.size) v69 (M1) (fun j => p ((0 + i) + j)) ∧ OwnM X (X8.heap.size) v78 ((i + M1)) (fun j => p (0 + j)) ∧ OwnM X (X12.heap.size) v160 (M1) (fun j => p (i + j)) ∧ X.heap[g12]? = some (.cells (tpC p len ((0 + i) + M1)) 25) ∧ X.heap[g17]? = some (.cells (tpC p len i) 25) ∧ SliceN X s (i + M1) (cat2 i (fun j => p (0 + j)) (fun j => p (0 + i + j))) | 23 => Below V.heap.size V X ∧ OwnM X (X6.heap.size) v69 (M1) (fun j => p ((0 + i) + j)) ∧ OwnM X (X8.heap.size) v78 ((i + M1)) (fun j => p (0 + j)) ∧ OwnM X (X12.heap.size) v160 (M1) (fun j => p (i + j)) ∧ X.heap[g12]? = some (.cells (tpC p len ((0 + i) + M1)) 25) ∧ X.heap[g17]? = some (.cells (tpC p len i) 25) ∧ SliceN X s (i + M1) (cat2 i (fun j => p (0 + j)) (fun j => p (0 + i + j))) | 24 => Below V.heap.size V X ∧ OwnM X (X6.heap.size) v69 (M1) (fun j => p ((0 + i) + j)) ∧ OwnM X (X8.heap.size) v78 ((i + M1)) (fun j => p (0 + j)) ∧ OwnM X (X12.heap.size) v160 (M1) (fun j => p (i + j)) ∧ X.heap[g12]? = some (.cells (tpC p len ((0 + i) + M1)) 25) ∧ X.heap[g17]? = some (.cells (tpC p len i) 25) ∧ SliceN X s (i + M1) (cat2 i (fun j => p (0 + j)) (fun j => p (0 + i + j))) | 25 => Below V.heap.size V X ∧ OwnM X (X6.heap.size) v69 (M1) (fun j => p ((0 + i) + j)) ∧ OwnM X (X8.heap.size) v78 ((i + M1)) (fun j => p (0 + j)) ∧ OwnM X (X12.heap.size) v160 (M1) (fun j => p (i + j)) ∧ X.heap[g12]? = some (.cells (tpC p len ((0 + i) + M1)) 25) ∧ X.heap[g17]? = some (.cells (tpC p len i) 25) ∧ SliceN X s (i + M1) (cat2 i (fun j => p (0 + j)) (fun j => p (0 + i + j))) | 26 => Below V.heap.size V X ∧ OwnM X (X6.heap.size) v69 (M1) (fun j => p ((0 + i) + j)) ∧ OwnM X (X8.heap.size) v78 ((i + M1)) (fun j => p (0 + j)) ∧ OwnM X (X12.heap.size) v160 (M1) (fun j => p (i + j)) ∧ X.heap[g12]? = some (.cells (tpC p len ((0 + i) + M1)) 25) ∧ X.heap[g17]? = some (.cells (tpC p len i) 25) ∧ SliceN X s (i + M1) (cat2 i (fun j => p (0 + j)) (fun j => p (0 + i + j))) | 27 => Below V.heap.size V X ∧ OwnM X (X6.heap.size) v69 (M1) (fun j => p ((0 + i) + j)) ∧ OwnM X (X8.heap.size) v78 ((i + M1)) (fun j => p (0 + j)) ∧ OwnM X (X12.heap.size) v160 (M1) (fun j => p (i + j)) ∧ X.heap[g12]? = some (.cells (tpC p len ((0 + i) + M1)) 25) ∧ X.heap[g17]? = some (.cells (tpC p len i) 25) ∧ SliceN X s (i + M1) (cat2 i (fun j => p (0 + j)) (fun j => p (0 + i + j))) | 28 => Below V.heap.size V X ∧ OwnM X (X6.heap.size) v69 (M1) (fun j => p ((0 + i) + j)) ∧ OwnM X (X8.heap.size) v78 ((i + M1)) (fun j => p (0 + j)) ∧ OwnM X (X12.heap.size) v160 (M1) (fun j => p (i + j)) ∧ X.heap[g12]? = some (.cells (tpC p len ((0 + i) + M1)) 25) ∧ X.heap[g17]? = some (.cells (tpC p len i) 25) ∧ SliceN X s (i + M1) (cat2 i (fun j => p (0 + j)) (fun j => p (0 + i + j))) | _ => Below V.heap.size V X ∧ OwnM X (X6.heap.size) v69 (M1) (fun j => p ((0 + i) + j)) ∧ OwnM X (X8.heap.size) v78 ((i + M1)) (fun j => p (0 + j)) ∧ OwnM X (X12.heap.size) v160 (M1) (fun j => p (i + j)) ∧ X.heap[g12]? = some (.cells (tpC p len ((0 + i) + M1)) 25) ∧ X.heap[g17]? = some (.cells (tpC p len i) 25) ∧ SliceN X s (i + M1) (cat2 i (fun j => p (0 + j)) (fun j => p (0 + i + j)))) (fun s => fun i_ => match i_ with | 0 => .int .i64 ((0 : Nat) : Int) | 1 => .bool true | 2 => .bool true | 3 => v42 | 4 => v69 | 5 => s | 6 => v78 | 7 => .bool true | 8 => .bool true | 9 => .bool true | 10 => v160 | 11 => v69 | 12 => .bool true | 13 => .bool true | 14 => .bool true | 15 => .agg (tpC p len ((0 + i) + M1)) | 16 => .int .i64 ((((0 + i) + M1) : Nat) : Int) | 17 => .int .i64 ((i : Nat) : Int) | 18 => .int .i64 ((M1 : Nat) : Int) | 19 => .int .i64 ((i + M1 : Nat) : Int) | 20 => .bool true | 21 => .bool true | 22 => .bool true | 23 => .agg (tpC p len i) | 24 => .int .i64 ((i : Nat) : Int) | 25 => .int .i64 ((i : Nat) : Int) | 26 => .bool true | 27 => .bool true | 28 => .bool true | _ => undef) undef A.1 (by kernel_rfl) (by decide) (by decide) ⟨BB, Fv42, Fv69, Fv78, Fv160, F12, F17⟩ ?_ ?_
      · intro i_ hi_ s a X hf hv hn hS
        match i_, hi_ with
        | 0, _ => exact stepV rfl rfl (execMvB rfl ((hf 24 (by decide)).trans t24)) ⟨s, ⟨_, rfl, rfl⟩, hS, fun _ _ => rfl⟩
        | 1, _ => exact stepV rfl rfl (execDec (execEqE (p := 0) (q := 0) rfl (hv 0 (by omega) _ rfl _ rfl) rfl) (decide_eq_true (by omega))) ⟨s, ⟨_, rfl, rfl⟩, hS, fun _ _ => rfl⟩
        | 2, _ => exact stepV rfl rfl (execMvB rfl (hv 1 (by omega) _ rfl _ rfl)) ⟨s, ⟨_, rfl, rfl⟩, hS, fun _ _ => rfl⟩
        | 3, _ => exact stepV rfl (wantedOf rfl (yieldedAt rfl rfl (show a.eval (.tmp 166) = .bool true from (hv 2 (by omega) _ rfl _ rfl)))) (execMvB rfl ((hf 8 (by decide)).trans t8)) ⟨s, ⟨_, rfl, rfl⟩, hS, fun _ _ => rfl⟩
        | 4, _ => exact stepV rfl (wantedOf rfl (yieldedAt rfl rfl (show a.eval (.tmp 166) = .bool true from (hv 2 (by omega) _ rfl _ rfl)))) (execMvB rfl ((hf 11 (by decide)).trans t11)) ⟨s, ⟨_, rfl, rfl⟩, hS, fun _ _ => rfl⟩
        | 5, _ =>
          refine stepAppM rfl (wantedOf rfl (yieldedAt rfl rfl (show a.eval (.tmp 166) = .bool true from (hv 2 (by omega) _ rfl _ rfl)))) rfl (hv 3 (by omega) _ rfl _ rfl) (hv 4 (by omega) _ rfl _ rfl) hS.2.1 hS.2.2.1.slice hS.2.2.1.some (by omega) fun v' W' sv gr => ⟨v', ⟨_, rfl, rfl⟩, ⟨(hS.1).grown gr (hS.1).size (fun k hk => (hS.2.1.row k hk).1), (hS.2.2.1.over gr R8 (by omega)), (hS.2.2.2.1.over gr R8 (by omega)), (hS.2.2.2.2.1.over gr R8 (by omega)), (heap_over hS.2.1 gr hS.2.2.2.2.2.1 (by decide)), (heap_over hS.2.1 gr hS.2.2.2.2.2.2 (by decide)), sv⟩, fun i hi => ?_⟩
          match i, hi with
          | 0, _ => rfl
          | 1, _ => rfl
          | 2, _ => rfl
          | 3, _ => rfl
          | 4, _ => rfl
          | n_ + 5, h_ => omega
        | 6, _ => exact stepV rfl (wantedOf rfl (yieldedAt rfl rfl (show a.eval (.tmp 166) = .bool true from (hv 2 (by omega) _ rfl _ rfl)))) (execMvB rfl ((hf 14 (by decide)).trans t14)) ⟨s, ⟨_, rfl, rfl⟩, hS, fun _ _ => rfl⟩
        | 7, _ => exact stepC rfl (wantedOf rfl (yieldedAt rfl rfl (show a.eval (.tmp 166) = .bool true from (hv 2 (by omega) _ rfl _ rfl)))) (execCall2 Try.func10 (by kernel_rfl) (by kernel_rfl) rfl (hv 5 (by omega) _ rfl _ rfl) (hv 6 (by omega) _ rfl _ rfl)) (same_true _ _ (i + M1) _ _ X hS.2.2.2.2.2.2 hS.2.2.1.slice (by intro j hj; first | (show p _ = p _; congr 1; omega) | exact cat2_is p i j)) fun e w' hh => ⟨_, hh.1, s, ⟨_, rfl, rfl⟩, by rw [hh.2]; exact hS, fun _ _ => rfl⟩
        | 8, _ => exact stepV rfl rfl (execPickT rfl (hv 2 (by omega) _ rfl _ rfl) (hv 7 (by omega) _ rfl _ rfl)) ⟨s, ⟨_, rfl, rfl⟩, hS, fun _ _ => rfl⟩
        | 9, _ => exact stepV rfl rfl (execMvB rfl (hv 8 (by omega) _ rfl _ rfl)) ⟨s, ⟨_, rfl, rfl⟩, hS, fun _ _ => rfl⟩
        | 10, _ => exact stepV rfl (wantedOf rfl (yieldedAt rfl rfl (show a.eval (.tmp 173) = .bool true from (hv 9 (by omega) _ rfl _ rfl)))) (execMvB rfl ((hf 22 (by decide)).trans t22)) ⟨s, ⟨_, rfl, rfl⟩, hS, fun _ _ => rfl⟩
        | 11, _ => exact stepV rfl (wantedOf rfl (yieldedAt rfl rfl (show a.eval (.tmp 173) = .bool true from (hv 9 (by omega) _ rfl _ rfl)))) (execMvB rfl ((hf 11 (by decide)).trans t11)) ⟨s, ⟨_, rfl, rfl⟩, hS, fun _ _ => rfl⟩
        | 12, _ => exact stepC rfl (wantedOf rfl (yieldedAt rfl rfl (show a.eval (.tmp 173) = .bool true from (hv 9 (by omega) _ rfl _ rfl)))) (execCall2 Try.func10 (by kernel_rfl) (by kernel_rfl) rfl (hv 10 (by omega) _ rfl _ rfl) (hv 11 (by omega) _ rfl _ rfl)) (same_true _ _ (M1) _ _ X hS.2.2.2.1.slice hS.2.1.slice (by intro j hj; first | (show p _ = p _; congr 1; omega) | exact cat2_is p i j)) fun e w' hh => ⟨_, hh.1, s, ⟨_, rfl, rfl⟩, by rw [hh.2]; exact hS, fun _ _ => rfl⟩
        | 13, _ => exact stepV rfl rfl (execPickT rfl (hv 9 (by omega) _ rfl _ rfl) (hv 12 (by omega) _ rfl _ rfl)) ⟨s, ⟨_, rfl, rfl⟩, hS, fun _ _ => rfl⟩
        | 14, _ => exact stepV rfl rfl (execMvB rfl (hv 13 (by omega) _ rfl _ rfl)) ⟨s, ⟨_, rfl, rfl⟩, hS, fun _ _ => rfl⟩
        | 15, _ => exact stepV rfl (wantedOf rfl (yieldedAt rfl rfl (show a.eval (.tmp 178) = .bool true from (hv 14 (by omega) _ rfl _ rfl)))) (execLdTp rfl ((hf 12 (by decide)).trans t12) hS.2.2.2.2.1) ⟨s, ⟨_, rfl, rfl⟩, hS, fun _ _ => rfl⟩
        | 16, _ => exact stepC rfl (wantedOf rfl (yieldedAt rfl rfl (show a.eval (.tmp 178) = .bool true from (hv 14 (by omega) _ rfl _ rfl)))) (execCall1 Try.func16 (by kernel_rfl) (by kernel_rfl) rfl (hv 15 (by omega) _ rfl _ rfl)) (used_any p len ((0 + i) + M1) X) fun e w' hh => ⟨_, hh.1, s, ⟨_, rfl, rfl⟩, ⟨(hS.1).trans ((hh.2).mono (hS.1).size), (hS.2.1.on hh.2), (hS.2.2.1.on hh.2), (hS.2.2.2.1.on hh.2), (on9 hS.2.2.2.2.1 hh.2), (on9 hS.2.2.2.2.2.1 hh.2), (hS.2.2.2.2.2.2.on hh.2)⟩, fun _ _ => rfl⟩
        | 17, _ => exact stepV rfl (wantedOf rfl (yieldedAt rfl rfl (show a.eval (.tmp 178) = .bool true from (hv 14 (by omega) _ rfl _ rfl)))) (execMvB rfl ((hf 1 (by decide)).trans t1)) ⟨s, ⟨_, rfl, rfl⟩, hS, fun _ _ => rfl⟩
        | 18, _ => exact stepV rfl (wantedOf rfl (yieldedAt rfl rfl (show a.eval (.tmp 178) = .bool true from (hv 14 (by omega) _ rfl _ rfl)))) (execMvB rfl ((hf 2 (by decide)).trans t2)) ⟨s, ⟨_, rfl, rfl⟩, hS, fun _ _ => rfl⟩
        | 19, _ => exact stepV rfl (wantedOf rfl (yieldedAt rfl rfl (show a.eval (.tmp 178) = .bool true from (hv 14 (by omega) _ rfl _ rfl)))) (execAd8 (p := i) (q := M1) rfl (hv 17 (by omega) _ rfl _ rfl) (hv 18 (by omega) _ rfl _ rfl) (by omega)) ⟨s, ⟨_, rfl, rfl⟩, hS, fun _ _ => rfl⟩
        | 20, _ => exact stepV rfl (wantedOf rfl (yieldedAt rfl rfl (show a.eval (.tmp 178) = .bool true from (hv 14 (by omega) _ rfl _ rfl)))) (execDec (execEqN (p := ((0 + i) + M1)) (q := i + M1) rfl (hv 16 (by omega) _ rfl _ rfl) (hv 19 (by omega) _ rfl _ rfl)) (decide_eq_true (by omega))) ⟨s, ⟨_, rfl, rfl⟩, hS, fun _ _ => rfl⟩
        | 21, _ => exact stepV rfl rfl (execPickT rfl (hv 14 (by omega) _ rfl _ rfl) (hv 20 (by omega) _ rfl _ rfl)) ⟨s, ⟨_, rfl, rfl⟩, hS, fun _ _ => rfl⟩
        | 22, _ => exact stepV rfl rfl (execMvB rfl (hv 21 (by omega) _ rfl _ rfl)) ⟨s, ⟨_, rfl, rfl⟩, hS, fun _ _ => rfl⟩
        | 23, _ => exact stepV rfl (wantedOf rfl (yieldedAt rfl rfl (show a.eval (.tmp 186) = .bool true from (hv 22 (by omega) _ rfl _ rfl)))) (execLdTp rfl ((hf 17 (by decide)).trans t17) hS.2.2.2.2.2.1) ⟨s, ⟨_, rfl, rfl⟩, hS, fun _ _ => rfl⟩
        | 24, _ => exact stepC rfl (wantedOf rfl (yieldedAt rfl rfl (show a.eval (.tmp 186) = .bool true from (hv 22 (by omega) _ rfl _ rfl)))) (execCall1 Try.func16 (by kernel_rfl) (by kernel_rfl) rfl (hv 23 (by omega) _ rfl _ rfl)) (used_any p len i X) fun e w' hh => ⟨_, hh.1, s, ⟨_, rfl, rfl⟩, ⟨(hS.1).trans ((hh.2).mono (hS.1).size), (hS.2.1.on hh.2), (hS.2.2.1.on hh.2), (hS.2.2.2.1.on hh.2), (on9 hS.2.2.2.2.1 hh.2), (on9 hS.2.2.2.2.2.1 hh.2), (hS.2.2.2.2.2.2.on hh.2)⟩, fun _ _ => rfl⟩
        | 25, _ => exact stepV rfl (wantedOf rfl (yieldedAt rfl rfl (show a.eval (.tmp 186) = .bool true from (hv 22 (by omega) _ rfl _ rfl)))) (execMvB rfl ((hf 1 (by decide)).trans t1)) ⟨s, ⟨_, rfl, rfl⟩, hS, fun _ _ => rfl⟩
        | 26, _ => exact stepV rfl (wantedOf rfl (yieldedAt rfl rfl (show a.eval (.tmp 186) = .bool true from (hv 22 (by omega) _ rfl _ rfl)))) (execDec (execEqN (p := i) (q := i) rfl (hv 24 (by omega) _ rfl _ rfl) (hv 25 (by omega) _ rfl _ rfl)) (decide_eq_true (by omega))) ⟨s, ⟨_, rfl, rfl⟩, hS, fun _ _ => rfl⟩
        | 27, _ => exact stepV rfl rfl (execPickT rfl (hv 22 (by omega) _ rfl _ rfl) (hv 26 (by omega) _ rfl _ rfl)) ⟨s, ⟨_, rfl, rfl⟩, hS, fun _ _ => rfl⟩
        | 28, _ => exact stepV rfl rfl (execAsgB rfl (hv 27 (by omega) _ rfl _ rfl)) ⟨s, ⟨_, rfl, rfl⟩, hS, fun _ _ => rfl⟩
        | k_ + 29, h_ => exact absurd h_ (by simp)
      rintro v169 a X24 h1 h2 h3 h4 hS
      clear BB
      clear Fv42
      clear Fv69
      clear Fv78
      clear Fv160
      clear F12
      clear F17
      replace hS : Below V.heap.size V X24 ∧ OwnM X24 (X6.heap.size) v69 (M1) (fun j => p ((0 + i) + j)) ∧ OwnM X24 (X8.heap.size) v78 ((i + M1)) (fun j => p (0 + j)) ∧ OwnM X24 (X12.heap.size) v160 (M1) (fun j => p (i + j)) ∧ X24.heap[g12]? = some (.cells (tpC p len ((0 + i) + M1)) 25) ∧ X24.heap[g17]? = some (.cells (tpC p len i) 25) ∧ SliceN X24 v169 (i + M1) (cat2 i (fun j => p (0 + j)) (fun j => p (0 + i + j))) := hS
      obtain ⟨BB, Fv69, Fv78, Fv160, F12, F17, FXs⟩ := hS
      have t6 : a.eval (.tmp 6) = .bool true := h4 28 _ rfl _ rfl
      replace A := (⟨h1, h2.trans A.2⟩ : a.tmps.size = 192 ∧ a.defers = [])
      clear h1 h2 h3 h4
      clear t1 t2 t8 t11 t12 t14 t17 t22 t24
      refine wp_ret ?_
      refine bodyPost_ret (results_tmp rfl _ _ _) A.2 ⟨?_, BB⟩
      show Ending.returned (a.eval (.tmp 6)) = _
      rw [t6]
  · refine wp_seq ?_
    refine wp_region_sq (σ := Nat) 192 [(0, 67), (1, 68), (2, 69), (3, 66), (4, 70), (5, 71), (6, 72), (7, 12), (8, 11), (10, 13)] (fun j_ s X => match j_ with | 0 => Below X6.heap.size X6 X | 1 => Below X6.heap.size X6 X | 2 => Below X6.heap.size X6 X | 3 => Below X6.heap.size X6 X | 4 => Below X6.heap.size X6 X | 5 => Below X6.heap.size X6 X | 6 => Below X6.heap.size X6 X | 7 => Below X6.heap.size X6 X | 8 => Below X6.heap.size X6 X ∧ X.heap[s]? = some (.cells (tpC (fun _ => 0) 0 0) 25) ∧ X6.heap.size ≤ s | 9 => Below X6.heap.size X6 X ∧ X.heap[s]? = some (.cells (tpC (fun _ => 0) 0 0) 25) ∧ X6.heap.size ≤ s | 10 => Below X6.heap.size X6 X ∧ X6.heap.size ≤ s ∧ X.heap[s]? = some (.cells (tpC p 0 0) 25) | _ => Below X6.heap.size X6 X ∧ X6.heap.size ≤ s ∧ X.heap[s]? = some (.cells (tpC p 0 0) 25)) (fun s => fun i_ => match i_ with | 0 => .agg (tpC p len (0 + N1)) | 1 => .int .i64 ((M1 : Nat) : Int) | 2 => .tuple #[.slice none 0 0, .agg (tpC p 0 0), .int .i64 ((3 : Nat) : Int)] | 3 => .tuple #[.slice none 0 0, .agg (tpC p 0 0), .int .i64 ((3 : Nat) : Int)] | 4 => .slice none 0 0 | 5 => .agg (tpC p 0 0) | 6 => .int .i64 ((3 : Nat) : Int) | 7 => .pointer (some ⟨s, 0, none⟩) | 8 => .slice none 0 0 | 9 => undef | 10 => .int .i64 ((3 : Nat) : Int) | _ => undef) 0 A.1 (by kernel_rfl) (by decide) (by decide) (Below.refl _ _) ?_ ?_
    · intro i_ hi_ s a X hf hv hn hS
      match i_, hi_ with
      | 0, _ => exact stepV rfl rfl (execLdTp rfl ((hf 9 (by decide)).trans t9) (on9 F9 hS)) ⟨s, ⟨_, rfl, rfl⟩, hS, fun _ _ => rfl⟩
      | 1, _ => exact stepV rfl rfl (execMvB rfl ((hf 2 (by decide)).trans t2)) ⟨s, ⟨_, rfl, rfl⟩, hS, fun _ _ => rfl⟩
      | 2, _ => exact stepC rfl rfl (execCall2 Try.func13 (by kernel_rfl) (by kernel_rfl) rfl (hv 0 (by omega) _ rfl _ rfl) (hv 1 (by omega) _ rfl _ rfl)) (take_no p len (0 + N1) M1 X (by omega) (by omega) (by omega) hp) fun e w' hh => ⟨_, hh.1, s, ⟨_, rfl, rfl⟩, (hS).trans ((hh.2).mono (hS).size), fun _ _ => rfl⟩
      | 3, _ => exact stepV rfl rfl (execMvB rfl (hv 2 (by omega) _ rfl _ rfl)) ⟨s, ⟨_, rfl, rfl⟩, hS, fun _ _ => rfl⟩
      | 4, _ => exact stepV rfl rfl (execExtT rfl (hv 3 (by omega) _ rfl _ rfl) rfl) ⟨s, ⟨_, rfl, rfl⟩, hS, fun _ _ => rfl⟩
      | 5, _ => exact stepV rfl rfl (execExtT rfl (hv 3 (by omega) _ rfl _ rfl) rfl) ⟨s, ⟨_, rfl, rfl⟩, hS, fun _ _ => rfl⟩
      | 6, _ => exact stepV rfl rfl (execExtT rfl (hv 3 (by omega) _ rfl _ rfl) rfl) ⟨s, ⟨_, rfl, rfl⟩, hS, fun _ _ => rfl⟩
      | 7, _ =>
        refine stepV rfl rfl (execAllTp rfl (fun _ => 0)) ⟨X.heap.size, ⟨_, rfl, rfl⟩, ⟨(hS).trans (((belNew X _)).mono (hS).size), heapNew X _, (hS).size⟩, fun i hi => ?_⟩
        match i, hi with
        | 0, _ => rfl
        | 1, _ => rfl
        | 2, _ => rfl
        | 3, _ => rfl
        | 4, _ => rfl
        | 5, _ => rfl
        | 6, _ => rfl
        | n_ + 7, h_ => omega
      | 8, _ => exact stepV rfl rfl (execAsgB rfl (hv 4 (by omega) _ rfl _ rfl)) ⟨s, ⟨_, rfl, rfl⟩, hS, fun _ _ => rfl⟩
      | 9, _ => exact stepS rfl rfl (execStTp rfl (hv 7 (by omega) _ rfl _ rfl) (hv 5 (by omega) _ rfl _ rfl) hS.2.1 rfl) ⟨s, ⟨_, rfl, rfl⟩, ⟨below4 hS.1 hS.2.2 _, hS.2.2, setRow_heap _ _ _ _ _ _ hS.2.1⟩, fun _ _ => rfl⟩
      | 10, _ => exact stepV rfl rfl (execAsgB rfl (hv 6 (by omega) _ rfl _ rfl)) ⟨s, ⟨_, rfl, rfl⟩, hS, fun _ _ => rfl⟩
      | k_ + 11, h_ => exact absurd h_ (by simp)
    rintro g12 a X8 h1 h2 h3 h4 hS
    replace hS : Below X6.heap.size X6 X8 ∧ X6.heap.size ≤ g12 ∧ X8.heap[g12]? = some (.cells (tpC p 0 0) 25) := hS
    obtain ⟨bX, Fge12, F12⟩ := hS
    replace t0 := (h3 0 (by decide)).trans t0
    replace t1 := (h3 1 (by decide)).trans t1
    replace t2 := (h3 2 (by decide)).trans t2
    replace t7 := (h3 7 (by decide)).trans t7
    replace t8 := (h3 8 (by decide)).trans t8
    replace t9 := (h3 9 (by decide)).trans t9
    have t11 : a.eval (.tmp 11) = .slice none 0 0 := h4 8 _ rfl _ rfl
    have t12 : a.eval (.tmp 12) = .pointer (some ⟨g12, 0, none⟩) := h4 7 _ rfl _ rfl
    have t13 : a.eval (.tmp 13) = .int .i64 ((3 : Nat) : Int) := h4 10 _ rfl _ rfl
    replace FP := (FP.on bX)
    replace Fge7 := Fge7
    replace F7 := (on9 F7 bX)
    replace Fv42 := (Fv42.on bX)
    replace Fge9 := Fge9
    replace F9 := (on9 F9 bX)
    have ZX8 := bX.size
    replace BW := BW.trans (bX.mono BW.size)
    clear bX
    replace A := (⟨h1, h2.trans A.2⟩ : a.tmps.size = 192 ∧ a.defers = [])
    clear h1 h2 h3 h4
    refine wp_seq ?_
    refine wp_region_sq (σ := Nat) 192 [(0, 74), (1, 75), (2, 76), (3, 77), (4, 78), (5, 73), (6, 79), (7, 80), (8, 81), (9, 15), (10, 14), (12, 16)] (fun j_ s X => match j_ with | 0 => Below X8.heap.size X8 X | 1 => Below X8.heap.size X8 X | 2 => Below X8.heap.size X8 X | 3 => Below X8.heap.size X8 X | 4 => Below X8.heap.size X8 X | 5 => Below X8.heap.size X8 X | 6 => Below X8.heap.size X8 X | 7 => Below X8.heap.size X8 X | 8 => Below X8.heap.size X8 X | 9 => Below X8.heap.size X8 X | 10 => Below X8.heap.size X8 X ∧ X.heap[s]? = some (.cells (tpC (fun _ => 0) 0 0) 25) ∧ X8.heap.size ≤ s | 11 => Below X8.heap.size X8 X ∧ X.heap[s]? = some (.cells (tpC (fun _ => 0) 0 0) 25) ∧ X8.heap.size ≤ s | 12 => Below X8.heap.size X8 X ∧ X8.heap.size ≤ s ∧ X.heap[s]? = some (.cells (tpC p 0 0) 25) | _ => Below X8.heap.size X8 X ∧ X8.heap.size ≤ s ∧ X.heap[s]? = some (.cells (tpC p 0 0) 25)) (fun s => fun i_ => match i_ with | 0 => .agg (tpC p len 0) | 1 => .int .i64 ((N1 : Nat) : Int) | 2 => .int .i64 ((M1 : Nat) : Int) | 3 => .int .i64 ((N1 + M1 : Nat) : Int) | 4 => .tuple #[.slice none 0 0, .agg (tpC p 0 0), .int .i64 ((3 : Nat) : Int)] | 5 => .tuple #[.slice none 0 0, .agg (tpC p 0 0), .int .i64 ((3 : Nat) : Int)] | 6 => .slice none 0 0 | 7 => .agg (tpC p 0 0) | 8 => .int .i64 ((3 : Nat) : Int) | 9 => .pointer (some ⟨s, 0, none⟩) | 10 => .slice none 0 0 | 11 => undef | 12 => .int .i64 ((3 : Nat) : Int) | _ => undef) 0 A.1 (by kernel_rfl) (by decide) (by decide) (Below.refl _ _) ?_ ?_
    · intro i_ hi_ s a X hf hv hn hS
      match i_, hi_ with
      | 0, _ => exact stepV rfl rfl (execLdTp rfl ((hf 7 (by decide)).trans t7) (on9 F7 hS)) ⟨s, ⟨_, rfl, rfl⟩, hS, fun _ _ => rfl⟩
      | 1, _ => exact stepV rfl rfl (execMvB rfl ((hf 1 (by decide)).trans t1)) ⟨s, ⟨_, rfl, rfl⟩, hS, fun _ _ => rfl⟩
      | 2, _ => exact stepV rfl rfl (execMvB rfl ((hf 2 (by decide)).trans t2)) ⟨s, ⟨_, rfl, rfl⟩, hS, fun _ _ => rfl⟩
      | 3, _ => exact stepV rfl rfl (execAd8 (p := N1) (q := M1) rfl (hv 1 (by omega) _ rfl _ rfl) (hv 2 (by omega) _ rfl _ rfl) (by omega)) ⟨s, ⟨_, rfl, rfl⟩, hS, fun _ _ => rfl⟩
      | 4, _ => exact stepC rfl rfl (execCall2 Try.func13 (by kernel_rfl) (by kernel_rfl) rfl (hv 0 (by omega) _ rfl _ rfl) (hv 3 (by omega) _ rfl _ rfl)) (take_no p len 0 (N1 + M1) X (by omega) (by omega) (by omega) hp) fun e w' hh => ⟨_, hh.1, s, ⟨_, rfl, rfl⟩, (hS).trans ((hh.2).mono (hS).size), fun _ _ => rfl⟩
      | 5, _ => exact stepV rfl rfl (execMvB rfl (hv 4 (by omega) _ rfl _ rfl)) ⟨s, ⟨_, rfl, rfl⟩, hS, fun _ _ => rfl⟩
      | 6, _ => exact stepV rfl rfl (execExtT rfl (hv 5 (by omega) _ rfl _ rfl) rfl) ⟨s, ⟨_, rfl, rfl⟩, hS, fun _ _ => rfl⟩
      | 7, _ => exact stepV rfl rfl (execExtT rfl (hv 5 (by omega) _ rfl _ rfl) rfl) ⟨s, ⟨_, rfl, rfl⟩, hS, fun _ _ => rfl⟩
      | 8, _ => exact stepV rfl rfl (execExtT rfl (hv 5 (by omega) _ rfl _ rfl) rfl) ⟨s, ⟨_, rfl, rfl⟩, hS, fun _ _ => rfl⟩
      | 9, _ =>
        refine stepV rfl rfl (execAllTp rfl (fun _ => 0)) ⟨X.heap.size, ⟨_, rfl, rfl⟩, ⟨(hS).trans (((belNew X _)).mono (hS).size), heapNew X _, (hS).size⟩, fun i hi => ?_⟩
        match i, hi with
        | 0, _ => rfl
        | 1, _ => rfl
        | 2, _ => rfl
        | 3, _ => rfl
        | 4, _ => rfl
        | 5, _ => rfl
        | 6, _ => rfl
        | 7, _ => rfl
        | 8, _ => rfl
        | n_ + 9, h_ => omega
      | 10, _ => exact stepV rfl rfl (execAsgB rfl (hv 6 (by omega) _ rfl _ rfl)) ⟨s, ⟨_, rfl, rfl⟩, hS, fun _ _ => rfl⟩
      | 11, _ => exact stepS rfl rfl (execStTp rfl (hv 9 (by omega) _ rfl _ rfl) (hv 7 (by omega) _ rfl _ rfl) hS.2.1 rfl) ⟨s, ⟨_, rfl, rfl⟩, ⟨below4 hS.1 hS.2.2 _, hS.2.2, setRow_heap _ _ _ _ _ _ hS.2.1⟩, fun _ _ => rfl⟩
      | 12, _ => exact stepV rfl rfl (execAsgB rfl (hv 8 (by omega) _ rfl _ rfl)) ⟨s, ⟨_, rfl, rfl⟩, hS, fun _ _ => rfl⟩
      | k_ + 13, h_ => exact absurd h_ (by simp)
    rintro g15 a X9 h1 h2 h3 h4 hS
    replace hS : Below X8.heap.size X8 X9 ∧ X8.heap.size ≤ g15 ∧ X9.heap[g15]? = some (.cells (tpC p 0 0) 25) := hS
    obtain ⟨bX, Fge15, F15⟩ := hS
    replace t0 := (h3 0 (by decide)).trans t0
    replace t1 := (h3 1 (by decide)).trans t1
    replace t2 := (h3 2 (by decide)).trans t2
    replace t7 := (h3 7 (by decide)).trans t7
    replace t8 := (h3 8 (by decide)).trans t8
    replace t9 := (h3 9 (by decide)).trans t9
    replace t11 := (h3 11 (by decide)).trans t11
    replace t12 := (h3 12 (by decide)).trans t12
    replace t13 := (h3 13 (by decide)).trans t13
    have t14 : a.eval (.tmp 14) = .slice none 0 0 := h4 10 _ rfl _ rfl
    have t15 : a.eval (.tmp 15) = .pointer (some ⟨g15, 0, none⟩) := h4 9 _ rfl _ rfl
    have t16 : a.eval (.tmp 16) = .int .i64 ((3 : Nat) : Int) := h4 12 _ rfl _ rfl
    replace FP := (FP.on bX)
    replace Fge7 := Fge7
    replace F7 := (on9 F7 bX)
    replace Fv42 := (Fv42.on bX)
    replace Fge9 := Fge9
    replace F9 := (on9 F9 bX)
    replace Fge12 := Fge12
    replace F12 := (on9 F12 bX)
    have ZX9 := bX.size
    replace BW := BW.trans (bX.mono BW.size)
    clear bX
    replace A := (⟨h1, h2.trans A.2⟩ : a.tmps.size = 192 ∧ a.defers = [])
    clear h1 h2 h3 h4
    refine wp_seq ?_
    refine wp_seq ?_
    refine wp_region_detA 192 [(0, 82), (1, 83), (2, 84), (3, 85), (4, 86), (5, 87), (6, 88), (7, 89), (8, 90), (9, 91), (10, 92), (11, 93), (12, 94), (13, 95), (14, 96), (15, 97), (16, 98), (17, 99), (18, 100), (19, 101), (20, 102), (21, 103), (22, 104), (23, 105), (24, 106), (25, 107), (26, 108), (27, 109)] (fun i_ => match i_ with | 0 => .int .i64 ((3 : Nat) : Int) | 1 => .bool false | 2 => .int .i64 ((N1 : Nat) : Int) | 3 => .int .i64 ((M1 : Nat) : Int) | 4 => .int .i64 ((N1 + M1 : Nat) : Int) | 5 => .slice ao len cap | 6 => .int .i64 ((len : Nat) : Int) | 7 => .bool false | 8 => .bool false | 9 => .bool false | 10 => .int .i64 ((3 : Nat) : Int) | 11 => .int .i64 ((3 : Nat) : Int) | 12 => .bool false | 13 => .bool false | 14 => .bool false | 15 => .agg (tpC p 0 0) | 16 => .int .i64 ((0 - 0 : Nat) : Int) | 17 => .agg (tpC p 0 0) | 18 => .int .i64 ((0 - 0 : Nat) : Int) | 19 => .bool false | 20 => .bool false | 21 => .bool false | 22 => .agg (tpC p 0 0) | 23 => .int .i64 ((0 : Nat) : Int) | 24 => .agg (tpC p 0 0) | 25 => .int .i64 ((0 : Nat) : Int) | 26 => .bool false | 27 => .bool false | _ => undef) (fun _ X => Below X9.heap.size X9 X) (by kernel_rfl) (by kernel_rfl) A.1 (by kernel_rfl) (by decide) (by decide) (Below.refl _ _).drew ?_ ?_
    · intro i_ hi_ l_ a X hl_ hf hdep hl2 hcl hno hT
      match i_, hi_ with
      | 0, _ => exact stepV rfl rfl (execMvB rfl ((hf 13 (by decide)).trans t13)) ⟨⟨_, rfl, rfl⟩, hT⟩
      | 1, _ => exact stepV rfl rfl (execDec (execEqE (p := 3) (q := 0) rfl (hdep _ rfl 0 rfl _ rfl _ rfl) rfl) (decide_eq_false (by omega))) ⟨⟨_, rfl, rfl⟩, hT⟩
      | 2, _ => exact stepV rfl rfl (execMvB rfl ((hf 1 (by decide)).trans t1)) ⟨⟨_, rfl, rfl⟩, hT⟩
      | 3, _ => exact stepV rfl rfl (execMvB rfl ((hf 2 (by decide)).trans t2)) ⟨⟨_, rfl, rfl⟩, hT⟩
      | 4, _ => exact stepV rfl rfl (execAd8 (p := N1) (q := M1) rfl (hdep _ rfl 2 rfl _ rfl _ rfl) (hdep _ rfl 3 rfl _ rfl _ rfl) (by omega)) ⟨⟨_, rfl, rfl⟩, hT⟩
      | 5, _ => exact stepV rfl rfl (execMvB rfl ((hf 0 (by decide)).trans t0)) ⟨⟨_, rfl, rfl⟩, hT⟩
      | 6, _ => exact stepV rfl rfl (execLenV (len := len) rfl (hdep _ rfl 5 rfl _ rfl _ rfl) (shp9 (FP.on hT))) ⟨⟨_, rfl, rfl⟩, hT⟩
      | 7, _ => exact stepV rfl rfl (execDec (execLeN (p := N1 + M1) (q := len) rfl (hdep _ rfl 4 rfl _ rfl _ rfl) (hdep _ rfl 6 rfl _ rfl _ rfl)) (decide_eq_false (by omega))) ⟨⟨_, rfl, rfl⟩, hT⟩
      | 8, _ => exact stepV rfl rfl (execNeB rfl (hdep _ rfl 1 rfl _ rfl _ rfl) (hdep _ rfl 7 rfl _ rfl _ rfl)) ⟨⟨_, rfl, rfl⟩, hT⟩
      | 9, _ => exact stepV rfl rfl (execMvB rfl (hdep _ rfl 8 rfl _ rfl _ rfl)) ⟨⟨_, rfl, rfl⟩, hT⟩
      | 10, _ => exact stepV rfl (wantedOf rfl (yieldedAt rfl rfl (show a.eval (.tmp 91) = .bool false from (hdep _ rfl 9 rfl _ rfl _ rfl)))) (execMvB rfl ((hf 13 (by decide)).trans t13)) ⟨⟨_, rfl, rfl⟩, hT⟩
      | 11, _ => exact stepV rfl (wantedOf rfl (yieldedAt rfl rfl (show a.eval (.tmp 91) = .bool false from (hdep _ rfl 9 rfl _ rfl _ rfl)))) (execMvB rfl ((hf 16 (by decide)).trans t16)) ⟨⟨_, rfl, rfl⟩, hT⟩
      | 12, _ => exact stepV rfl (wantedOf rfl (yieldedAt rfl rfl (show a.eval (.tmp 91) = .bool false from (hdep _ rfl 9 rfl _ rfl _ rfl)))) (execDec (execNeE (p := 3) (q := 3) rfl (hdep _ rfl 10 rfl _ rfl _ rfl) (hdep _ rfl 11 rfl _ rfl _ rfl)) (decide_eq_false (by omega))) ⟨⟨_, rfl, rfl⟩, hT⟩
      | 13, _ => exact stepV rfl rfl (execPickF rfl (hdep _ rfl 9 rfl _ rfl _ rfl) (hdep _ rfl 12 rfl _ rfl _ rfl)) ⟨⟨_, rfl, rfl⟩, hT⟩
      | 14, _ => exact stepV rfl rfl (execMvB rfl (hdep _ rfl 13 rfl _ rfl _ rfl)) ⟨⟨_, rfl, rfl⟩, hT⟩
      | 15, _ => exact stepV rfl (wantedOf rfl (yieldedAt rfl rfl (show a.eval (.tmp 96) = .bool false from (hdep _ rfl 14 rfl _ rfl _ rfl)))) (execLdTp rfl ((hf 12 (by decide)).trans t12) (on9 F12 hT)) ⟨⟨_, rfl, rfl⟩, hT⟩
      | 16, _ => exact stepC rfl (wantedOf rfl (yieldedAt rfl rfl (show a.eval (.tmp 96) = .bool false from (hdep _ rfl 14 rfl _ rfl _ rfl)))) (execCall1 Try.func15 (by kernel_rfl) (by kernel_rfl) rfl (hdep _ rfl 15 rfl _ rfl _ rfl)) (left_any p 0 0 X (by omega) (by omega)) fun e w' hh => ⟨_, hh.1, ⟨_, rfl, rfl⟩, hT.trans (hh.2.mono hT.size)⟩
      | 17, _ => exact stepV rfl (wantedOf rfl (yieldedAt rfl rfl (show a.eval (.tmp 96) = .bool false from (hdep _ rfl 14 rfl _ rfl _ rfl)))) (execLdTp rfl ((hf 15 (by decide)).trans t15) (on9 F15 hT)) ⟨⟨_, rfl, rfl⟩, hT⟩
      | 18, _ => exact stepC rfl (wantedOf rfl (yieldedAt rfl rfl (show a.eval (.tmp 96) = .bool false from (hdep _ rfl 14 rfl _ rfl _ rfl)))) (execCall1 Try.func15 (by kernel_rfl) (by kernel_rfl) rfl (hdep _ rfl 17 rfl _ rfl _ rfl)) (left_any p 0 0 X (by omega) (by omega)) fun e w' hh => ⟨_, hh.1, ⟨_, rfl, rfl⟩, hT.trans (hh.2.mono hT.size)⟩
      | 19, _ => exact stepV rfl (wantedOf rfl (yieldedAt rfl rfl (show a.eval (.tmp 96) = .bool false from (hdep _ rfl 14 rfl _ rfl _ rfl)))) (execDec (execNeN (p := 0 - 0) (q := 0 - 0) rfl (hdep _ rfl 16 rfl _ rfl _ rfl) (hdep _ rfl 18 rfl _ rfl _ rfl)) (decide_eq_false (by omega))) ⟨⟨_, rfl, rfl⟩, hT⟩
      | 20, _ => exact stepV rfl rfl (execPickF rfl (hdep _ rfl 14 rfl _ rfl _ rfl) (hdep _ rfl 19 rfl _ rfl _ rfl)) ⟨⟨_, rfl, rfl⟩, hT⟩
      | 21, _ => exact stepV rfl rfl (execMvB rfl (hdep _ rfl 20 rfl _ rfl _ rfl)) ⟨⟨_, rfl, rfl⟩, hT⟩
      | 22, _ => exact stepV rfl (wantedOf rfl (yieldedAt rfl rfl (show a.eval (.tmp 103) = .bool false from (hdep _ rfl 21 rfl _ rfl _ rfl)))) (execLdTp rfl ((hf 12 (by decide)).trans t12) (on9 F12 hT)) ⟨⟨_, rfl, rfl⟩, hT⟩
      | 23, _ => exact stepC rfl (wantedOf rfl (yieldedAt rfl rfl (show a.eval (.tmp 103) = .bool false from (hdep _ rfl 21 rfl _ rfl _ rfl)))) (execCall1 Try.func16 (by kernel_rfl) (by kernel_rfl) rfl (hdep _ rfl 22 rfl _ rfl _ rfl)) (used_any p 0 0 X) fun e w' hh => ⟨_, hh.1, ⟨_, rfl, rfl⟩, hT.trans (hh.2.mono hT.size)⟩
      | 24, _ => exact stepV rfl (wantedOf rfl (yieldedAt rfl rfl (show a.eval (.tmp 103) = .bool false from (hdep _ rfl 21 rfl _ rfl _ rfl)))) (execLdTp rfl ((hf 15 (by decide)).trans t15) (on9 F15 hT)) ⟨⟨_, rfl, rfl⟩, hT⟩
      | 25, _ => exact stepC rfl (wantedOf rfl (yieldedAt rfl rfl (show a.eval (.tmp 103) = .bool false from (hdep _ rfl 21 rfl _ rfl _ rfl)))) (execCall1 Try.func16 (by kernel_rfl) (by kernel_rfl) rfl (hdep _ rfl 24 rfl _ rfl _ rfl)) (used_any p 0 0 X) fun e w' hh => ⟨_, hh.1, ⟨_, rfl, rfl⟩, hT.trans (hh.2.mono hT.size)⟩
      | 26, _ => exact stepV rfl (wantedOf rfl (yieldedAt rfl rfl (show a.eval (.tmp 103) = .bool false from (hdep _ rfl 21 rfl _ rfl _ rfl)))) (execDec (execNeN (p := 0) (q := 0) rfl (hdep _ rfl 23 rfl _ rfl _ rfl) (hdep _ rfl 25 rfl _ rfl _ rfl)) (decide_eq_false (by omega))) ⟨⟨_, rfl, rfl⟩, hT⟩
      | 27, _ => exact stepV rfl rfl (execPickF rfl (hdep _ rfl 21 rfl _ rfl _ rfl) (hdep _ rfl 26 rfl _ rfl _ rfl)) ⟨⟨_, rfl, rfl⟩, hT⟩
      | k_ + 28, h_ => exact absurd h_ (by simp)
    intro l_ a X10 h1 h2 h3 h4 hall hT
    clear hall
    have bX := hT
    clear hT
    replace t0 := (h3 0 (by decide)).trans t0
    replace t1 := (h3 1 (by decide)).trans t1
    replace t2 := (h3 2 (by decide)).trans t2
    replace t7 := (h3 7 (by decide)).trans t7
    replace t8 := (h3 8 (by decide)).trans t8
    replace t9 := (h3 9 (by decide)).trans t9
    replace t11 := (h3 11 (by decide)).trans t11
    replace t12 := (h3 12 (by decide)).trans t12
    replace t13 := (h3 13 (by decide)).trans t13
    replace t14 := (h3 14 (by decide)).trans t14
    replace t15 := (h3 15 (by decide)).trans t15
    replace t16 := (h3 16 (by decide)).trans t16
    have t109 : a.eval (.tmp 109) = .bool false := h4 (27, 109) (by decide)
    replace FP := (FP.on bX)
    replace Fge7 := Fge7
    replace F7 := (on9 F7 bX)
    replace Fv42 := (Fv42.on bX)
    replace Fge9 := Fge9
    replace F9 := (on9 F9 bX)
    replace Fge12 := Fge12
    replace F12 := (on9 F12 bX)
    replace Fge15 := Fge15
    replace F15 := (on9 F15 bX)
    have ZX10 := bX.size
    replace BW := BW.trans (bX.mono BW.size)
    clear bX
    replace A := (⟨h1, h2.trans A.2⟩ : a.tmps.size = 192 ∧ a.defers = [])
    clear h1 h2 h3 h4
    refine wp_cond_false t109 ?_
    refine wp_skip ?_
    clear t109
    refine wp_seq ?_
    refine wp_seq ?_
    refine wp_region_sq (σ := Unit) 192 [(0, 110), (1, 111)] (fun j_ s X => match j_ with | 0 => Below X10.heap.size X10 X | 1 => Below X10.heap.size X10 X | _ => Below X10.heap.size X10 X) (fun s => fun i_ => match i_ with | 0 => .int .i64 ((3 : Nat) : Int) | 1 => .bool true | _ => undef) () A.1 (by kernel_rfl) (by decide) (by decide) (Below.refl _ _) ?_ ?_
    · intro i_ hi_ s a X hf hv hn hS
      match i_, hi_ with
      | 0, _ => exact stepV rfl rfl (execMvB rfl ((hf 13 (by decide)).trans t13)) ⟨s, ⟨_, rfl, rfl⟩, hS, fun _ _ => rfl⟩
      | 1, _ => exact stepV rfl rfl (execDec (execNeE (p := 3) (q := 0) rfl (hv 0 (by omega) _ rfl _ rfl) rfl) (decide_eq_true (by omega))) ⟨s, ⟨_, rfl, rfl⟩, hS, fun _ _ => rfl⟩
      | k_ + 2, h_ => exact absurd h_ (by simp)
    rintro _ a X12 h1 h2 h3 h4 hS
    replace hS : Below X10.heap.size X10 X12 := hS
    have bX := hS
    clear hS
    replace t0 := (h3 0 (by decide)).trans t0
    replace t1 := (h3 1 (by decide)).trans t1
    replace t2 := (h3 2 (by decide)).trans t2
    replace t7 := (h3 7 (by decide)).trans t7
    replace t8 := (h3 8 (by decide)).trans t8
    replace t9 := (h3 9 (by decide)).trans t9
    replace t11 := (h3 11 (by decide)).trans t11
    replace t12 := (h3 12 (by decide)).trans t12
    replace t13 := (h3 13 (by decide)).trans t13
    replace t14 := (h3 14 (by decide)).trans t14
    replace t15 := (h3 15 (by decide)).trans t15
    replace t16 := (h3 16 (by decide)).trans t16
    have t111 : a.eval (.tmp 111) = .bool true := h4 1 _ rfl _ rfl
    replace FP := (FP.on bX)
    replace Fge7 := Fge7
    replace F7 := (on9 F7 bX)
    replace Fv42 := (Fv42.on bX)
    replace Fge9 := Fge9
    replace F9 := (on9 F9 bX)
    replace Fge12 := Fge12
    replace F12 := (on9 F12 bX)
    replace Fge15 := Fge15
    replace F15 := (on9 F15 bX)
    have ZX12 := bX.size
    replace BW := BW.trans (bX.mono BW.size)
    clear bX
    replace A := (⟨h1, h2.trans A.2⟩ : a.tmps.size = 192 ∧ a.defers = [])
    clear h1 h2 h3 h4
    refine wp_cond_true t111 ?_
    refine wp_seq ?_
    refine wp_region_sq (σ := Unit) 192 [(0, 112), (1, 113), (2, 114), (3, 115), (4, 116), (5, 117), (6, 118), (7, 119), (8, 120), (9, 121), (10, 122), (11, 123), (12, 124), (13, 125), (14, 126), (15, 127), (16, 128), (17, 129), (18, 130), (19, 131), (20, 132), (21, 133), (22, 6)] (fun j_ s X => match j_ with | 0 => Below X12.heap.size X12 X | 1 => Below X12.heap.size X12 X | 2 => Below X12.heap.size X12 X | 3 => Below X12.heap.size X12 X | 4 => Below X12.heap.size X12 X | 5 => Below X12.heap.size X12 X | 6 => Below X12.heap.size X12 X | 7 => Below X12.heap.size X12 X | 8 => Below X12.heap.size X12 X | 9 => Below X12.heap.size X12 X | 10 => Below X12.heap.size X12 X | 11 => Below X12.heap.size X12 X | 12 => Below X12.heap.size X12 X | 13 => Below X12.heap.size X12 X | 14 => Below X12.heap.size X12 X | 15 => Below X12.heap.size X12 X | 16 => Below X12.heap.size X12 X | 17 => Below X12.heap.size X12 X | 18 => Below X12.heap.size X12 X | 19 => Below X12.heap.size X12 X | 20 => Below X12.heap.size X12 X | 21 => Below X12.heap.size X12 X | 22 => Below X12.heap.size X12 X | _ => Below X12.heap.size X12 X) (fun s => fun i_ => match i_ with | 0 => .int .i64 ((3 : Nat) : Int) | 1 => .bool true | 2 => .bool true | 3 => .slice none 0 0 | 4 => .int .i64 ((0 : Nat) : Int) | 5 => .bool true | 6 => .bool true | 7 => .bool true | 8 => .slice none 0 0 | 9 => .int .i64 ((0 : Nat) : Int) | 10 => .bool true | 11 => .bool true | 12 => .bool true | 13 => .agg (tpC p 0 0) | 14 => .int .i64 ((0 - 0 : Nat) : Int) | 15 => .bool true | 16 => .bool true | 17 => .bool true | 18 => .agg (tpC p 0 0) | 19 => .int .i64 ((0 : Nat) : Int) | 20 => .bool true | 21 => .bool true | 22 => .bool true | _ => undef) () A.1 (by kernel_rfl) (by decide) (by decide) (Below.refl _ _) ?_ ?_
    · intro i_ hi_ s a X hf hv hn hS
      match i_, hi_ with
      | 0, _ => exact stepV rfl rfl (execMvB rfl ((hf 13 (by decide)).trans t13)) ⟨s, ⟨_, rfl, rfl⟩, hS, fun _ _ => rfl⟩
      | 1, _ => exact stepV rfl rfl (execDec (execEqE (p := 3) (q := 3) rfl (hv 0 (by omega) _ rfl _ rfl) rfl) (decide_eq_true (by omega))) ⟨s, ⟨_, rfl, rfl⟩, hS, fun _ _ => rfl⟩
      | 2, _ => exact stepV rfl rfl (execMvB rfl (hv 1 (by omega) _ rfl _ rfl)) ⟨s, ⟨_, rfl, rfl⟩, hS, fun _ _ => rfl⟩
      | 3, _ => exact stepV rfl (wantedOf rfl (yieldedAt rfl rfl (show a.eval (.tmp 114) = .bool true from (hv 2 (by omega) _ rfl _ rfl)))) (execMvB rfl ((hf 11 (by decide)).trans t11)) ⟨s, ⟨_, rfl, rfl⟩, hS, fun _ _ => rfl⟩
      | 4, _ => exact stepV rfl (wantedOf rfl (yieldedAt rfl rfl (show a.eval (.tmp 114) = .bool true from (hv 2 (by omega) _ rfl _ rfl)))) (execLenV (len := 0) rfl (hv 3 (by omega) _ rfl _ rfl) ⟨_, _, rfl⟩) ⟨s, ⟨_, rfl, rfl⟩, hS, fun _ _ => rfl⟩
      | 5, _ => exact stepV rfl (wantedOf rfl (yieldedAt rfl rfl (show a.eval (.tmp 114) = .bool true from (hv 2 (by omega) _ rfl _ rfl)))) (execDec (execEqN (p := 0) (q := 0) rfl (hv 4 (by omega) _ rfl _ rfl) rfl) (decide_eq_true (by omega))) ⟨s, ⟨_, rfl, rfl⟩, hS, fun _ _ => rfl⟩
      | 6, _ => exact stepV rfl rfl (execPickT rfl (hv 2 (by omega) _ rfl _ rfl) (hv 5 (by omega) _ rfl _ rfl)) ⟨s, ⟨_, rfl, rfl⟩, hS, fun _ _ => rfl⟩
      | 7, _ => exact stepV rfl rfl (execMvB rfl (hv 6 (by omega) _ rfl _ rfl)) ⟨s, ⟨_, rfl, rfl⟩, hS, fun _ _ => rfl⟩
      | 8, _ => exact stepV rfl (wantedOf rfl (yieldedAt rfl rfl (show a.eval (.tmp 119) = .bool true from (hv 7 (by omega) _ rfl _ rfl)))) (execMvB rfl ((hf 14 (by decide)).trans t14)) ⟨s, ⟨_, rfl, rfl⟩, hS, fun _ _ => rfl⟩
      | 9, _ => exact stepV rfl (wantedOf rfl (yieldedAt rfl rfl (show a.eval (.tmp 119) = .bool true from (hv 7 (by omega) _ rfl _ rfl)))) (execLenV (len := 0) rfl (hv 8 (by omega) _ rfl _ rfl) ⟨_, _, rfl⟩) ⟨s, ⟨_, rfl, rfl⟩, hS, fun _ _ => rfl⟩
      | 10, _ => exact stepV rfl (wantedOf rfl (yieldedAt rfl rfl (show a.eval (.tmp 119) = .bool true from (hv 7 (by omega) _ rfl _ rfl)))) (execDec (execEqN (p := 0) (q := 0) rfl (hv 9 (by omega) _ rfl _ rfl) rfl) (decide_eq_true (by omega))) ⟨s, ⟨_, rfl, rfl⟩, hS, fun _ _ => rfl⟩
      | 11, _ => exact stepV rfl rfl (execPickT rfl (hv 7 (by omega) _ rfl _ rfl) (hv 10 (by omega) _ rfl _ rfl)) ⟨s, ⟨_, rfl, rfl⟩, hS, fun _ _ => rfl⟩
      | 12, _ => exact stepV rfl rfl (execMvB rfl (hv 11 (by omega) _ rfl _ rfl)) ⟨s, ⟨_, rfl, rfl⟩, hS, fun _ _ => rfl⟩
      | 13, _ => exact stepV rfl (wantedOf rfl (yieldedAt rfl rfl (show a.eval (.tmp 124) = .bool true from (hv 12 (by omega) _ rfl _ rfl)))) (execLdTp rfl ((hf 12 (by decide)).trans t12) (on9 F12 hS)) ⟨s, ⟨_, rfl, rfl⟩, hS, fun _ _ => rfl⟩
      | 14, _ => exact stepC rfl (wantedOf rfl (yieldedAt rfl rfl (show a.eval (.tmp 124) = .bool true from (hv 12 (by omega) _ rfl _ rfl)))) (execCall1 Try.func15 (by kernel_rfl) (by kernel_rfl) rfl (hv 13 (by omega) _ rfl _ rfl)) (left_any p 0 0 X (by omega) (by omega)) fun e w' hh => ⟨_, hh.1, s, ⟨_, rfl, rfl⟩, (hS).trans ((hh.2).mono (hS).size), fun _ _ => rfl⟩
      | 15, _ => exact stepV rfl (wantedOf rfl (yieldedAt rfl rfl (show a.eval (.tmp 124) = .bool true from (hv 12 (by omega) _ rfl _ rfl)))) (execDec (execEqN (p := 0 - 0) (q := 0) rfl (hv 14 (by omega) _ rfl _ rfl) rfl) (decide_eq_true (by omega))) ⟨s, ⟨_, rfl, rfl⟩, hS, fun _ _ => rfl⟩
      | 16, _ => exact stepV rfl rfl (execPickT rfl (hv 12 (by omega) _ rfl _ rfl) (hv 15 (by omega) _ rfl _ rfl)) ⟨s, ⟨_, rfl, rfl⟩, hS, fun _ _ => rfl⟩
      | 17, _ => exact stepV rfl rfl (execMvB rfl (hv 16 (by omega) _ rfl _ rfl)) ⟨s, ⟨_, rfl, rfl⟩, hS, fun _ _ => rfl⟩
      | 18, _ => exact stepV rfl (wantedOf rfl (yieldedAt rfl rfl (show a.eval (.tmp 129) = .bool true from (hv 17 (by omega) _ rfl _ rfl)))) (execLdTp rfl ((hf 12 (by decide)).trans t12) (on9 F12 hS)) ⟨s, ⟨_, rfl, rfl⟩, hS, fun _ _ => rfl⟩
      | 19, _ => exact stepC rfl (wantedOf rfl (yieldedAt rfl rfl (show a.eval (.tmp 129) = .bool true from (hv 17 (by omega) _ rfl _ rfl)))) (execCall1 Try.func16 (by kernel_rfl) (by kernel_rfl) rfl (hv 18 (by omega) _ rfl _ rfl)) (used_any p 0 0 X) fun e w' hh => ⟨_, hh.1, s, ⟨_, rfl, rfl⟩, (hS).trans ((hh.2).mono (hS).size), fun _ _ => rfl⟩
      | 20, _ => exact stepV rfl (wantedOf rfl (yieldedAt rfl rfl (show a.eval (.tmp 129) = .bool true from (hv 17 (by omega) _ rfl _ rfl)))) (execDec (execEqN (p := 0) (q := 0) rfl (hv 19 (by omega) _ rfl _ rfl) rfl) (decide_eq_true (by omega))) ⟨s, ⟨_, rfl, rfl⟩, hS, fun _ _ => rfl⟩
      | 21, _ => exact stepV rfl rfl (execPickT rfl (hv 17 (by omega) _ rfl _ rfl) (hv 20 (by omega) _ rfl _ rfl)) ⟨s, ⟨_, rfl, rfl⟩, hS, fun _ _ => rfl⟩
      | 22, _ => exact stepV rfl rfl (execAsgB rfl (hv 21 (by omega) _ rfl _ rfl)) ⟨s, ⟨_, rfl, rfl⟩, hS, fun _ _ => rfl⟩
      | k_ + 23, h_ => exact absurd h_ (by simp)
    rintro _ a X13 h1 h2 h3 h4 hS
    replace hS : Below X12.heap.size X12 X13 := hS
    have bX := hS
    clear hS
    have t6 : a.eval (.tmp 6) = .bool true := h4 22 _ rfl _ rfl
    replace FP := (FP.on bX)
    replace Fge7 := Fge7
    replace F7 := (on9 F7 bX)
    replace Fv42 := (Fv42.on bX)
    replace Fge9 := Fge9
    replace F9 := (on9 F9 bX)
    replace Fge12 := Fge12
    replace F12 := (on9 F12 bX)
    replace Fge15 := Fge15
    replace F15 := (on9 F15 bX)
    have ZX13 := bX.size
    replace BW := BW.trans (bX.mono BW.size)
    clear bX
    replace A := (⟨h1, h2.trans A.2⟩ : a.tmps.size = 192 ∧ a.defers = [])
    clear h1 h2 h3 h4
    clear t0 t1 t2 t7 t8 t9 t11 t12 t13 t14 t15 t16 t111
    refine wp_ret ?_
    refine ret_then ?_
    refine bodyPost_ret (results_tmp rfl _ _ _) A.2 ⟨?_, BW⟩
    show Ending.returned (a.eval (.tmp 6)) = _
    rw [t6]
end Go.Proofs.Ytigkmgoidbamnaa.Tap
