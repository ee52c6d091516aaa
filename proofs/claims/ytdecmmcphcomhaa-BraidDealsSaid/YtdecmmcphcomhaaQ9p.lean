import Derived.Test.YtdecmmcphcomhaaQ9o
namespace Go.Proofs.Ytdecmmcphcomhaa.Brd
open Go.RowKit Gf8 Aes By8 Cel Cf Tap Drw Prm
/- Stage 12's laws: awake, BraidCarries. Written by tools/mkQ9p.py. -/

theorem same_t (f g : Nat → Int) (n : Nat) (v u0 : Value) (V : World) (hv : SliceI V v n f) (hu : SliceI V u0 n g) (h : ∀ j, j < n → f j = g j) (hn17 : n ≤ 17592186044416) :
    Calls Try.prog 14 #[v, u0] V fun e w' => e = .returned (.bool true) ∧ Below V.heap.size V w' := by
  have k := same_any f g n n v u0 V hv hu hn17
  rw [decide_eq_true rfl, eqL_iff.2 h] at k
  exact k
section
variable {o : Oper} {a : Act} {w : World}
theorem execBsI3 {x y z : Int} (ho : o.op = .buildSlice 23 3 #[(0, .const (.int .i64 x)), (1, .const (.int .i64 y)), (2, .const (.int .i64 z))]) : (execOp a.eval o).run Try.prog w = .ok (.value (.slice (some ⟨w.heap.size, 0, none⟩) 3 3)) (w.alloc (.cells #[.int .i64 x, .int .i64 y, .int .i64 z] 3)) := by
  unfold execOp
  simp only [ho]
  simp [go_sem, Act.eval]
end
theorem sliceI3 (X : World) (x y z : Int) (hx : -9223372036854775808 ≤ x ∧ x < 9223372036854775808) (hy : -9223372036854775808 ≤ y ∧ y < 9223372036854775808) (hz : -9223372036854775808 ≤ z ∧ z < 9223372036854775808) : SliceI (X.alloc (.cells #[.int .i64 x, .int .i64 y, .int .i64 z] 3)) (.slice (some ⟨X.heap.size, 0, none⟩) 3 3) 3 (fun j => if j = 0 then x else if j = 1 then y else z) := by
  refine ⟨⟨_, _, rfl, Nat.le_refl _, by unfold maxLen; omega, fun _ => ⟨X.heap.size, 0, rfl, by simp, fun j hj => ?_⟩⟩, fun j hj => ?_⟩
  · rw [cell_of_row _ _ _ _ _ _ (heapNew X _)]
    match j, hj with
    | 0, _ => rfl
    | 1, _ => rfl
    | 2, _ => rfl
    | j + 3, h => omega
  · match j, hj with
    | 0, _ => exact hx
    | 1, _ => exact hy
    | 2, _ => exact hz
    | j + 3, h => omega
theorem aw_pa : paE (fun j => if j = 0 then 2 else 1) 2 (fun j => if j = 0 then 2 else if j = 1 then 1 else 0) 3 = 0 := by decide
theorem aw_pc : ∀ j, j < 3 → pcF (fun j => if j = 0 then 2 else 1) 2 (fun j => if j = 0 then 2 else if j = 1 then 1 else 0) j = (fun j => if j = 0 then 1 else if j = 1 then 0 else 0 : Nat → Int) j := by decide
theorem aw_po : ∀ j, j < 3 → poF (fun j => if j = 0 then 2 else 1) 2 (fun j => if j = 0 then 2 else if j = 1 then 1 else 0) 3 j = (fun j => if j = 0 then 1 else if j = 1 then 0 else 0 : Nat → Int) j := by decide
set_option maxRecDepth 100000 in
set_option maxHeartbeats 4000000 in
/-- The laws' awake. -/
theorem awake12 (V : World) :
    Calls Try.prog 9 #[] V fun e w' => e = .returned (.bool true) ∧ Below V.heap.size V w' := by
  go_enter Try.func9, Try.ntmps9
  refine wp_seq ?_
  refine wp_region_sqK 23 [(0, 0)] (fun i_ => match i_ with | 0 => .bool false | _ => undef) rfl (by kernel_rfl) (by decide) (by decide) ?_ ?_
  · intro i_ hi_ a hf hv hn
    match i_, hi_ with
    | 0, _ => exact stepV rfl rfl (execAsgB rfl rfl) ⟨⟨_, rfl, rfl⟩, rfl⟩
    | k_ + 1, h_ => exact absurd h_ (by simp)
  intro a h1 h2 h3 h4
  have A : a.tmps.size = 23 ∧ a.defers = [] := ⟨h1, h2⟩
  have BW : Below V.heap.size V V := Below.refl _ _
  clear h1 h2 h3 h4
  refine wp_seq ?_
  refine wp_region_sq (σ := Nat × Nat × Value × Value) 23 [(0, 5), (1, 6), (2, 7), (3, 4), (4, 8), (5, 9), (6, 10), (7, 1), (8, 2), (9, 3)] (fun j_ s X => match j_ with | 0 => Below V.heap.size V X | 1 => Below V.heap.size V X ∧ (SliceI X (.slice (some ⟨s.1, 0, none⟩) 2 2) (2) (fun j => if j = 0 then 2 else 1)) | 2 => Below V.heap.size V X ∧ (SliceI X (.slice (some ⟨s.1, 0, none⟩) 2 2) (2) (fun j => if j = 0 then 2 else 1)) ∧ (SliceI X (.slice (some ⟨s.2.1, 0, none⟩) 3 3) (3) (fun j => if j = 0 then 2 else if j = 1 then 1 else 0)) | 3 => Below V.heap.size V X ∧ (SliceI X (.slice (some ⟨s.1, 0, none⟩) 2 2) (2) (fun j => if j = 0 then 2 else 1)) ∧ (SliceI X (.slice (some ⟨s.2.1, 0, none⟩) 3 3) (3) (fun j => if j = 0 then 2 else if j = 1 then 1 else 0)) ∧ (SliceI X s.2.2.1 (zl (paE (fun j => if j = 0 then 2 else 1) 2 (fun j => if j = 0 then 2 else if j = 1 then 1 else 0) 3) 3) (pcF (fun j => if j = 0 then 2 else 1) 2 (fun j => if j = 0 then 2 else if j = 1 then 1 else 0))) ∧ (SliceI X s.2.2.2 (zl (paE (fun j => if j = 0 then 2 else 1) 2 (fun j => if j = 0 then 2 else if j = 1 then 1 else 0) 3) 3) (poF (fun j => if j = 0 then 2 else 1) 2 (fun j => if j = 0 then 2 else if j = 1 then 1 else 0) 3)) | 4 => Below V.heap.size V X ∧ (SliceI X (.slice (some ⟨s.1, 0, none⟩) 2 2) (2) (fun j => if j = 0 then 2 else 1)) ∧ (SliceI X (.slice (some ⟨s.2.1, 0, none⟩) 3 3) (3) (fun j => if j = 0 then 2 else if j = 1 then 1 else 0)) ∧ (SliceI X s.2.2.1 (zl (paE (fun j => if j = 0 then 2 else 1) 2 (fun j => if j = 0 then 2 else if j = 1 then 1 else 0) 3) 3) (pcF (fun j => if j = 0 then 2 else 1) 2 (fun j => if j = 0 then 2 else if j = 1 then 1 else 0))) ∧ (SliceI X s.2.2.2 (zl (paE (fun j => if j = 0 then 2 else 1) 2 (fun j => if j = 0 then 2 else if j = 1 then 1 else 0) 3) 3) (poF (fun j => if j = 0 then 2 else 1) 2 (fun j => if j = 0 then 2 else if j = 1 then 1 else 0) 3)) | 5 => Below V.heap.size V X ∧ (SliceI X (.slice (some ⟨s.1, 0, none⟩) 2 2) (2) (fun j => if j = 0 then 2 else 1)) ∧ (SliceI X (.slice (some ⟨s.2.1, 0, none⟩) 3 3) (3) (fun j => if j = 0 then 2 else if j = 1 then 1 else 0)) ∧ (SliceI X s.2.2.1 (zl (paE (fun j => if j = 0 then 2 else 1) 2 (fun j => if j = 0 then 2 else if j = 1 then 1 else 0) 3) 3) (pcF (fun j => if j = 0 then 2 else 1) 2 (fun j => if j = 0 then 2 else if j = 1 then 1 else 0))) ∧ (SliceI X s.2.2.2 (zl (paE (fun j => if j = 0 then 2 else 1) 2 (fun j => if j = 0 then 2 else if j = 1 then 1 else 0) 3) 3) (poF (fun j => if j = 0 then 2 else 1) 2 (fun j => if j = 0 then 2 else if j = 1 then 1 else 0) 3)) | 6 => Below V.heap.size V X ∧ (SliceI X (.slice (some ⟨s.1, 0, none⟩) 2 2) (2) (fun j => if j = 0 then 2 else 1)) ∧ (SliceI X (.slice (some ⟨s.2.1, 0, none⟩) 3 3) (3) (fun j => if j = 0 then 2 else if j = 1 then 1 else 0)) ∧ (SliceI X s.2.2.1 (zl (paE (fun j => if j = 0 then 2 else 1) 2 (fun j => if j = 0 then 2 else if j = 1 then 1 else 0) 3) 3) (pcF (fun j => if j = 0 then 2 else 1) 2 (fun j => if j = 0 then 2 else if j = 1 then 1 else 0))) ∧ (SliceI X s.2.2.2 (zl (paE (fun j => if j = 0 then 2 else 1) 2 (fun j => if j = 0 then 2 else if j = 1 then 1 else 0) 3) 3) (poF (fun j => if j = 0 then 2 else 1) 2 (fun j => if j = 0 then 2 else if j = 1 then 1 else 0) 3)) | 7 => Below V.heap.size V X ∧ (SliceI X (.slice (some ⟨s.1, 0, none⟩) 2 2) (2) (fun j => if j = 0 then 2 else 1)) ∧ (SliceI X (.slice (some ⟨s.2.1, 0, none⟩) 3 3) (3) (fun j => if j = 0 then 2 else if j = 1 then 1 else 0)) ∧ (SliceI X s.2.2.1 (zl (paE (fun j => if j = 0 then 2 else 1) 2 (fun j => if j = 0 then 2 else if j = 1 then 1 else 0) 3) 3) (pcF (fun j => if j = 0 then 2 else 1) 2 (fun j => if j = 0 then 2 else if j = 1 then 1 else 0))) ∧ (SliceI X s.2.2.2 (zl (paE (fun j => if j = 0 then 2 else 1) 2 (fun j => if j = 0 then 2 else if j = 1 then 1 else 0) 3) 3) (poF (fun j => if j = 0 then 2 else 1) 2 (fun j => if j = 0 then 2 else if j = 1 then 1 else 0) 3)) | 8 => Below V.heap.size V X ∧ (SliceI X (.slice (some ⟨s.1, 0, none⟩) 2 2) (2) (fun j => if j = 0 then 2 else 1)) ∧ (SliceI X (.slice (some ⟨s.2.1, 0, none⟩) 3 3) (3) (fun j => if j = 0 then 2 else if j = 1 then 1 else 0)) ∧ (SliceI X s.2.2.1 (zl (paE (fun j => if j = 0 then 2 else 1) 2 (fun j => if j = 0 then 2 else if j = 1 then 1 else 0) 3) 3) (pcF (fun j => if j = 0 then 2 else 1) 2 (fun j => if j = 0 then 2 else if j = 1 then 1 else 0))) ∧ (SliceI X s.2.2.2 (zl (paE (fun j => if j = 0 then 2 else 1) 2 (fun j => if j = 0 then 2 else if j = 1 then 1 else 0) 3) 3) (poF (fun j => if j = 0 then 2 else 1) 2 (fun j => if j = 0 then 2 else if j = 1 then 1 else 0) 3)) | 9 => Below V.heap.size V X ∧ (SliceI X (.slice (some ⟨s.1, 0, none⟩) 2 2) (2) (fun j => if j = 0 then 2 else 1)) ∧ (SliceI X (.slice (some ⟨s.2.1, 0, none⟩) 3 3) (3) (fun j => if j = 0 then 2 else if j = 1 then 1 else 0)) ∧ (SliceI X s.2.2.1 (zl (paE (fun j => if j = 0 then 2 else 1) 2 (fun j => if j = 0 then 2 else if j = 1 then 1 else 0) 3) 3) (pcF (fun j => if j = 0 then 2 else 1) 2 (fun j => if j = 0 then 2 else if j = 1 then 1 else 0))) ∧ (SliceI X s.2.2.2 (zl (paE (fun j => if j = 0 then 2 else 1) 2 (fun j => if j = 0 then 2 else if j = 1 then 1 else 0) 3) 3) (poF (fun j => if j = 0 then 2 else 1) 2 (fun j => if j = 0 then 2 else if j = 1 then 1 else 0) 3)) | _ => Below V.heap.size V X ∧ (SliceI X (.slice (some ⟨s.1, 0, none⟩) 2 2) (2) (fun j => if j = 0 then 2 else 1)) ∧ (SliceI X (.slice (some ⟨s.2.1, 0, none⟩) 3 3) (3) (fun j => if j = 0 then 2 else if j = 1 then 1 else 0)) ∧ (SliceI X s.2.2.1 (zl (paE (fun j => if j = 0 then 2 else 1) 2 (fun j => if j = 0 then 2 else if j = 1 then 1 else 0) 3) 3) (pcF (fun j => if j = 0 then 2 else 1) 2 (fun j => if j = 0 then 2 else if j = 1 then 1 else 0))) ∧ (SliceI X s.2.2.2 (zl (paE (fun j => if j = 0 then 2 else 1) 2 (fun j => if j = 0 then 2 else if j = 1 then 1 else 0) 3) 3) (poF (fun j => if j = 0 then 2 else 1) 2 (fun j => if j = 0 then 2 else if j = 1 then 1 else 0) 3))) (fun s => fun i_ => match i_ with | 0 => .slice (some ⟨s.1, 0, none⟩) 2 2 | 1 => .slice (some ⟨s.2.1, 0, none⟩) 3 3 | 2 => .tuple #[s.2.2.1, s.2.2.2, .int .i64 ((paE (fun j => if j = 0 then 2 else 1) 2 (fun j => if j = 0 then 2 else if j = 1 then 1 else 0) 3 : Nat) : Int)] | 3 => .tuple #[s.2.2.1, s.2.2.2, .int .i64 ((paE (fun j => if j = 0 then 2 else 1) 2 (fun j => if j = 0 then 2 else if j = 1 then 1 else 0) 3 : Nat) : Int)] | 4 => s.2.2.1 | 5 => s.2.2.2 | 6 => .int .i64 ((paE (fun j => if j = 0 then 2 else 1) 2 (fun j => if j = 0 then 2 else if j = 1 then 1 else 0) 3 : Nat) : Int) | 7 => s.2.2.1 | 8 => s.2.2.2 | 9 => .int .i64 ((paE (fun j => if j = 0 then 2 else 1) 2 (fun j => if j = 0 then 2 else if j = 1 then 1 else 0) 3 : Nat) : Int) | _ => undef) (0, 0, undef, undef) A.1 (by kernel_rfl) (by decide) (by decide) (Below.refl _ _) ?_ ?_
  · intro i_ hi_ s a X hf hv hn hS
    match i_, hi_ with
    | 0, _ =>
      refine stepV rfl rfl (execBsI2 (y := 2) (z := 1) rfl) ⟨(X.heap.size, s.2.1, s.2.2.1, s.2.2.2), ⟨_, rfl, rfl⟩, ⟨(hS).trans (((belNew X _)).mono (hS).size), sliceI2 X 2 1 (by omega) (by omega)⟩, fun i hi => ?_⟩
      omega
    | 1, _ =>
      refine stepV rfl rfl (execBsI3 (x := 2) (y := 1) (z := 0) rfl) ⟨(s.1, X.heap.size, s.2.2.1, s.2.2.2), ⟨_, rfl, rfl⟩, ⟨(hS.1).trans (((belNew X _)).mono (hS.1).size), (hS.2.on (belNew X _)), sliceI3 X 2 1 0 (by omega) (by omega) (by omega)⟩, fun i hi => ?_⟩
      match i, hi with
      | 0, _ => rfl
      | n_ + 1, h_ => omega
    | 2, _ =>
      refine stepC rfl rfl (execCall2 Try.func19 (by kernel_rfl) (by kernel_rfl) rfl (hv 0 (by omega) _ rfl _ rfl) (hv 1 (by omega) _ rfl _ rfl)) (ppattern (fun j => if j = 0 then 2 else 1) (fun j => if j = 0 then 2 else if j = 1 then 1 else 0) 2 3 _ _ X hS.2.1 (by omega) hS.2.2 (by omega)) fun e w' hh => ?_
      obtain ⟨r0_, r1_, he, hk, hb⟩ := hh
      refine ⟨_, he, (s.1, s.2.1, r0_, r1_), ⟨_, rfl, rfl⟩, ⟨(hS.1).trans ((hb).mono (hS.1).size), (hS.2.1.on hb), (hS.2.2.on hb), own_ints (hk.rows 0 (by omega)) (pc_fits (by omega)), own_ints (hk.rows 1 (by omega)) (po_fits (hS.2.2).fits)⟩, fun i hi => ?_⟩
      match i, hi with
      | 0, _ => rfl
      | 1, _ => rfl
      | n_ + 2, h_ => omega
    | 3, _ => exact stepV rfl rfl (execMvB rfl (hv 2 (by omega) _ rfl _ rfl)) ⟨s, ⟨_, rfl, rfl⟩, hS, fun _ _ => rfl⟩
    | 4, _ => exact stepV rfl rfl (execExtT rfl (hv 3 (by omega) _ rfl _ rfl) rfl) ⟨s, ⟨_, rfl, rfl⟩, hS, fun _ _ => rfl⟩
    | 5, _ => exact stepV rfl rfl (execExtT rfl (hv 3 (by omega) _ rfl _ rfl) rfl) ⟨s, ⟨_, rfl, rfl⟩, hS, fun _ _ => rfl⟩
    | 6, _ => exact stepV rfl rfl (execExtT rfl (hv 3 (by omega) _ rfl _ rfl) rfl) ⟨s, ⟨_, rfl, rfl⟩, hS, fun _ _ => rfl⟩
    | 7, _ => exact stepV rfl rfl (execAsgB rfl (hv 4 (by omega) _ rfl _ rfl)) ⟨s, ⟨_, rfl, rfl⟩, hS, fun _ _ => rfl⟩
    | 8, _ => exact stepV rfl rfl (execAsgB rfl (hv 5 (by omega) _ rfl _ rfl)) ⟨s, ⟨_, rfl, rfl⟩, hS, fun _ _ => rfl⟩
    | 9, _ => exact stepV rfl rfl (execAsgB rfl (hv 6 (by omega) _ rfl _ rfl)) ⟨s, ⟨_, rfl, rfl⟩, hS, fun _ _ => rfl⟩
    | k_ + 10, h_ => exact absurd h_ (by simp)
  rintro ⟨g5, g6, a7, o7⟩ a X1 h1 h2 h3 h4 hS
  replace hS : Below V.heap.size V X1 ∧ (SliceI X1 (.slice (some ⟨g5, 0, none⟩) 2 2) (2) (fun j => if j = 0 then 2 else 1)) ∧ (SliceI X1 (.slice (some ⟨g6, 0, none⟩) 3 3) (3) (fun j => if j = 0 then 2 else if j = 1 then 1 else 0)) ∧ (SliceI X1 a7 (zl (paE (fun j => if j = 0 then 2 else 1) 2 (fun j => if j = 0 then 2 else if j = 1 then 1 else 0) 3) 3) (pcF (fun j => if j = 0 then 2 else 1) 2 (fun j => if j = 0 then 2 else if j = 1 then 1 else 0))) ∧ (SliceI X1 o7 (zl (paE (fun j => if j = 0 then 2 else 1) 2 (fun j => if j = 0 then 2 else if j = 1 then 1 else 0) 3) 3) (poF (fun j => if j = 0 then 2 else 1) 2 (fun j => if j = 0 then 2 else if j = 1 then 1 else 0) 3)) := hS
  obtain ⟨bX, Fg5, Fg6, Fa7, Fo7⟩ := hS
  have t1 : a.eval (.tmp 1) = a7 := h4 7 _ rfl _ rfl
  have t2 : a.eval (.tmp 2) = o7 := h4 8 _ rfl _ rfl
  have t3 : a.eval (.tmp 3) = .int .i64 ((paE (fun j => if j = 0 then 2 else 1) 2 (fun j => if j = 0 then 2 else if j = 1 then 1 else 0) 3 : Nat) : Int) := h4 9 _ rfl _ rfl
  have ZX1 := bX.size
  replace BW := BW.trans (bX.mono BW.size)
  clear bX
  replace A := (⟨h1, h2.trans A.2⟩ : a.tmps.size = 23 ∧ a.defers = [])
  clear h1 h2 h3 h4
  rw [aw_pa] at t3
  replace Fa7 : (SliceI X1 a7 (3) (pcF (fun j => if j = 0 then 2 else 1) 2 (fun j => if j = 0 then 2 else if j = 1 then 1 else 0))) := (by have h_ := Fa7; rw [aw_pa, zl_ok] at h_; exact h_)
  replace Fo7 : (SliceI X1 o7 (3) (poF (fun j => if j = 0 then 2 else 1) 2 (fun j => if j = 0 then 2 else if j = 1 then 1 else 0) 3)) := (by have h_ := Fo7; rw [aw_pa, zl_ok] at h_; exact h_)
  refine wp_seq ?_
  refine wp_region_sq (σ := Nat × Nat) 23 [(0, 11), (1, 12), (2, 13), (3, 14), (4, 15), (5, 16), (6, 17), (7, 18), (8, 19), (9, 20), (10, 21), (11, 22), (12, 0)] (fun j_ s X => match j_ with | 0 => Below X1.heap.size X1 X | 1 => Below X1.heap.size X1 X | 2 => Below X1.heap.size X1 X | 3 => Below X1.heap.size X1 X | 4 => Below X1.heap.size X1 X | 5 => Below X1.heap.size X1 X ∧ (SliceI X (.slice (some ⟨s.1, 0, none⟩) 3 3) (3) (fun j => if j = 0 then 1 else if j = 1 then 0 else 0)) | 6 => Below X1.heap.size X1 X ∧ (SliceI X (.slice (some ⟨s.1, 0, none⟩) 3 3) (3) (fun j => if j = 0 then 1 else if j = 1 then 0 else 0)) | 7 => Below X1.heap.size X1 X ∧ (SliceI X (.slice (some ⟨s.1, 0, none⟩) 3 3) (3) (fun j => if j = 0 then 1 else if j = 1 then 0 else 0)) | 8 => Below X1.heap.size X1 X ∧ (SliceI X (.slice (some ⟨s.1, 0, none⟩) 3 3) (3) (fun j => if j = 0 then 1 else if j = 1 then 0 else 0)) | 9 => Below X1.heap.size X1 X ∧ (SliceI X (.slice (some ⟨s.1, 0, none⟩) 3 3) (3) (fun j => if j = 0 then 1 else if j = 1 then 0 else 0)) | 10 => Below X1.heap.size X1 X ∧ (SliceI X (.slice (some ⟨s.1, 0, none⟩) 3 3) (3) (fun j => if j = 0 then 1 else if j = 1 then 0 else 0)) ∧ (SliceI X (.slice (some ⟨s.2, 0, none⟩) 3 3) (3) (fun j => if j = 0 then 1 else if j = 1 then 0 else 0)) | 11 => Below X1.heap.size X1 X ∧ (SliceI X (.slice (some ⟨s.1, 0, none⟩) 3 3) (3) (fun j => if j = 0 then 1 else if j = 1 then 0 else 0)) ∧ (SliceI X (.slice (some ⟨s.2, 0, none⟩) 3 3) (3) (fun j => if j = 0 then 1 else if j = 1 then 0 else 0)) | 12 => Below X1.heap.size X1 X ∧ (SliceI X (.slice (some ⟨s.1, 0, none⟩) 3 3) (3) (fun j => if j = 0 then 1 else if j = 1 then 0 else 0)) ∧ (SliceI X (.slice (some ⟨s.2, 0, none⟩) 3 3) (3) (fun j => if j = 0 then 1 else if j = 1 then 0 else 0)) | _ => Below X1.heap.size X1 X ∧ (SliceI X (.slice (some ⟨s.1, 0, none⟩) 3 3) (3) (fun j => if j = 0 then 1 else if j = 1 then 0 else 0)) ∧ (SliceI X (.slice (some ⟨s.2, 0, none⟩) 3 3) (3) (fun j => if j = 0 then 1 else if j = 1 then 0 else 0))) (fun s => fun i_ => match i_ with | 0 => .int .i64 ((0 : Nat) : Int) | 1 => .bool true | 2 => .bool true | 3 => a7 | 4 => .slice (some ⟨s.1, 0, none⟩) 3 3 | 5 => .bool true | 6 => .bool true | 7 => .bool true | 8 => o7 | 9 => .slice (some ⟨s.2, 0, none⟩) 3 3 | 10 => .bool true | 11 => .bool true | 12 => .bool true | _ => undef) (0, 0) A.1 (by kernel_rfl) (by decide) (by decide) (Below.refl _ _) ?_ ?_
  · intro i_ hi_ s a X hf hv hn hS
    match i_, hi_ with
    | 0, _ => exact stepV rfl rfl (execMvB rfl ((hf 3 (by decide)).trans t3)) ⟨s, ⟨_, rfl, rfl⟩, hS, fun _ _ => rfl⟩
    | 1, _ => exact stepV rfl rfl (execDec (execEqE (p := 0) (q := 0) rfl (hv 0 (by omega) _ rfl _ rfl) rfl) (decide_eq_true (by decide))) ⟨s, ⟨_, rfl, rfl⟩, hS, fun _ _ => rfl⟩
    | 2, _ => exact stepV rfl rfl (execMvB rfl (hv 1 (by omega) _ rfl _ rfl)) ⟨s, ⟨_, rfl, rfl⟩, hS, fun _ _ => rfl⟩
    | 3, _ => exact stepV rfl (wantedOf rfl (yieldedAt rfl rfl (show a.eval (.tmp 13) = .bool true from (hv 2 (by omega) _ rfl _ rfl)))) (execMvB rfl ((hf 1 (by decide)).trans t1)) ⟨s, ⟨_, rfl, rfl⟩, hS, fun _ _ => rfl⟩
    | 4, _ =>
      refine stepV rfl (wantedOf rfl (yieldedAt rfl rfl (show a.eval (.tmp 13) = .bool true from (hv 2 (by omega) _ rfl _ rfl)))) (execBsI3 (x := 1) (y := 0) (z := 0) rfl) ⟨(X.heap.size, s.2), ⟨_, rfl, rfl⟩, ⟨(hS).trans (((belNew X _)).mono (hS).size), sliceI3 X 1 0 0 (by omega) (by omega) (by omega)⟩, fun i hi => ?_⟩
      match i, hi with
      | 0, _ => rfl
      | 1, _ => rfl
      | 2, _ => rfl
      | 3, _ => rfl
      | n_ + 4, h_ => omega
    | 5, _ => exact stepC rfl (wantedOf rfl (yieldedAt rfl rfl (show a.eval (.tmp 13) = .bool true from (hv 2 (by omega) _ rfl _ rfl)))) (execCall2 Try.func14 (by kernel_rfl) (by kernel_rfl) rfl (hv 3 (by omega) _ rfl _ rfl) (hv 4 (by omega) _ rfl _ rfl)) (same_t _ _ (3) _ _ X (Fa7.on hS.1) hS.2 (aw_pc) (by omega)) fun e w' hh => ⟨_, hh.1, s, ⟨_, rfl, rfl⟩, ⟨(hS.1).trans ((hh.2).mono (hS.1).size), (hS.2.on hh.2)⟩, fun _ _ => rfl⟩
    | 6, _ => exact stepV rfl rfl (execPickT rfl (hv 2 (by omega) _ rfl _ rfl) (hv 5 (by omega) _ rfl _ rfl)) ⟨s, ⟨_, rfl, rfl⟩, hS, fun _ _ => rfl⟩
    | 7, _ => exact stepV rfl rfl (execMvB rfl (hv 6 (by omega) _ rfl _ rfl)) ⟨s, ⟨_, rfl, rfl⟩, hS, fun _ _ => rfl⟩
    | 8, _ => exact stepV rfl (wantedOf rfl (yieldedAt rfl rfl (show a.eval (.tmp 18) = .bool true from (hv 7 (by omega) _ rfl _ rfl)))) (execMvB rfl ((hf 2 (by decide)).trans t2)) ⟨s, ⟨_, rfl, rfl⟩, hS, fun _ _ => rfl⟩
    | 9, _ =>
      refine stepV rfl (wantedOf rfl (yieldedAt rfl rfl (show a.eval (.tmp 18) = .bool true from (hv 7 (by omega) _ rfl _ rfl)))) (execBsI3 (x := 1) (y := 0) (z := 0) rfl) ⟨(s.1, X.heap.size), ⟨_, rfl, rfl⟩, ⟨(hS.1).trans (((belNew X _)).mono (hS.1).size), (hS.2.on (belNew X _)), sliceI3 X 1 0 0 (by omega) (by omega) (by omega)⟩, fun i hi => ?_⟩
      match i, hi with
      | 0, _ => rfl
      | 1, _ => rfl
      | 2, _ => rfl
      | 3, _ => rfl
      | 4, _ => rfl
      | 5, _ => rfl
      | 6, _ => rfl
      | 7, _ => rfl
      | 8, _ => rfl
      | n_ + 9, h_ => omega
    | 10, _ => exact stepC rfl (wantedOf rfl (yieldedAt rfl rfl (show a.eval (.tmp 18) = .bool true from (hv 7 (by omega) _ rfl _ rfl)))) (execCall2 Try.func14 (by kernel_rfl) (by kernel_rfl) rfl (hv 8 (by omega) _ rfl _ rfl) (hv 9 (by omega) _ rfl _ rfl)) (same_t _ _ (3) _ _ X (Fo7.on hS.1) hS.2.2 (aw_po) (by omega)) fun e w' hh => ⟨_, hh.1, s, ⟨_, rfl, rfl⟩, ⟨(hS.1).trans ((hh.2).mono (hS.1).size), (hS.2.1.on hh.2), (hS.2.2.on hh.2)⟩, fun _ _ => rfl⟩
    | 11, _ => exact stepV rfl rfl (execPickT rfl (hv 7 (by omega) _ rfl _ rfl) (hv 10 (by omega) _ rfl _ rfl)) ⟨s, ⟨_, rfl, rfl⟩, hS, fun _ _ => rfl⟩
    | 12, _ => exact stepV rfl rfl (execAsgB rfl (hv 11 (by omega) _ rfl _ rfl)) ⟨s, ⟨_, rfl, rfl⟩, hS, fun _ _ => rfl⟩
    | k_ + 13, h_ => exact absurd h_ (by simp)
  rintro ⟨g15, g20⟩ a X2 h1 h2 h3 h4 hS
  replace hS : Below X1.heap.size X1 X2 ∧ (SliceI X2 (.slice (some ⟨g15, 0, none⟩) 3 3) (3) (fun j => if j = 0 then 1 else if j = 1 then 0 else 0)) ∧ (SliceI X2 (.slice (some ⟨g20, 0, none⟩) 3 3) (3) (fun j => if j = 0 then 1 else if j = 1 then 0 else 0)) := hS
  obtain ⟨bX, Fg15, Fg20⟩ := hS
  have t0 : a.eval (.tmp 0) = .bool true := h4 12 _ rfl _ rfl
  replace Fg5 := (Fg5.on bX)
  replace Fg6 := (Fg6.on bX)
  replace Fa7 := (Fa7.on bX)
  replace Fo7 := (Fo7.on bX)
  have ZX2 := bX.size
  replace BW := BW.trans (bX.mono BW.size)
  clear bX
  replace A := (⟨h1, h2.trans A.2⟩ : a.tmps.size = 23 ∧ a.defers = [])
  clear h1 h2 h3 h4
  clear t1 t2 t3
  refine wp_ret ?_
  repeat (first | refine ret_in ?_ | refine ret_then ?_)
  refine bodyPost_ret (results_tmp rfl _ _ _) A.2 ⟨?_, BW⟩
  show Ending.returned (a.eval (.tmp 0)) = _
  rw [t0]
end Go.Proofs.Ytdecmmcphcomhaa.Brd
