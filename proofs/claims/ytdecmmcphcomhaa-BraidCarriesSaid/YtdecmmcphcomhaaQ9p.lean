import Derived.Test.YtdecmmcphcomhaaQ9o
namespace Go.Proofs.Ytdecmmcphcomhaa.Brd
open Go.RowKit Gf8 Aes By8 Cel Cf Tap Drw Prm
/- Stage 12's laws: awake, BraidCarries. Written by tools/mkQ9p.py. -/

theorem same_t (f g : Nat → Int) (n : Nat) (v u0 : Value) (V : World) (hv : SliceI V v n f) (hu : SliceI V u0 n g) (h : ∀ j, j < n → f j = g j) (hn17 : n ≤ 17592186044416) :
    Calls Try.prog 14 #[v, u0] V fun e w' => e = .returned (.bool true) ∧ Below V.heap.size V w' := by
  have k := same_any f g n n v u0 V hv hu hn17
  rw [decide_eq_true rfl, eqL_iff.2 h] at k
  exact k
theorem same_f (f g : Nat → Int) (n m : Nat) (v u0 : Value) (V : World) (hv : SliceI V v n f) (hu : SliceI V u0 m g) (h : ¬ (n = m ∧ ∀ j, j < n → f j = g j)) (hn17 : n ≤ 17592186044416) :
    Calls Try.prog 14 #[v, u0] V fun e w' => e = .returned (.bool false) ∧ Below V.heap.size V w' := by
  have k := same_any f g n m v u0 V hv hu hn17
  rw [show (decide (n = m) && eqL f g n) = false from Bool.eq_false_iff.2 fun q => by rw [Bool.and_eq_true, decide_eq_true_eq, eqL_iff] at q; exact h q] at k
  exact k
section
variable {o : Oper} {a : Act} {w : World}
theorem execBsI3 {x y z : Int} (ho : o.op = .buildSlice 23 3 #[(0, .const (.int .i64 x)), (1, .const (.int .i64 y)), (2, .const (.int .i64 z))]) : (execOp a.eval o).run Try.prog w = .ok (.value (.slice (some ⟨w.heap.size, 0, none⟩) 3 3)) (w.alloc (.cells #[.int .i64 x, .int .i64 y, .int .i64 z] 3)) := by
  unfold execOp
  simp only [ho]
  simp [go_sem, Act.eval]
theorem execEqBB {x y : Operand} {b : Bool} (ho : o.op = .binOp .eql 4 x y 4) (hx : a.eval x = .bool b) (hy : a.eval y = .bool b) : (execOp a.eval o).run Try.prog w = .ok (.value (.bool true)) w := by
  unfold execOp
  simp only [ho, hx, hy]
  simp [go_sem]
end
theorem sliceI3 (X : World) (x y z : Int) (hx : -9223372036854775808 ≤ x ∧ x < 9223372036854775808) (hy : -9223372036854775808 ≤ y ∧ y < 9223372036854775808) (hz : -9223372036854775808 ≤ z ∧ z < 9223372036854775808) : SliceI (X.alloc (.cells #[.int .i64 x, .int .i64 y, .int .i64 z] 3)) (.slice (some ⟨X.heap.size, 0, none⟩) 3 3) 3 (fun j => if j = 0 then x else if j = 1 then y else z) := by
  refine ⟨⟨_, _, rfl, Nat.le_refl _, by unfold maxLen; omega, fun _ => ⟨X.heap.size, 0, rfl, by simp, fun j hj => ?_⟩⟩, fun j hj => ?_⟩
  · rw [cell_of_row _ _ _ _ _ _ (heapNew X _)]
    match j, hj with
    | 0, _ => rfl
    | 1, _ => rfl
    | 2, _ => rfl
    | j + 3, h => omega
  · match j, hj with
    | 0, _ => exact hx
    | 1, _ => exact hy
    | 2, _ => exact hz
    | j + 3, h => omega
theorem aw_pa : paE (fun j => if j = 0 then 2 else 1) 2 (fun j => if j = 0 then 2 else if j = 1 then 1 else 0) 3 = 0 := by decide
theorem aw_pc : ∀ j, j < 3 → pcF (fun j => if j = 0 then 2 else 1) 2 (fun j => if j = 0 then 2 else if j = 1 then 1 else 0) j = (fun j => if j = 0 then 1 else if j = 1 then 0 else 0 : Nat → Int) j := by decide
theorem aw_po : ∀ j, j < 3 → poF (fun j => if j = 0 then 2 else 1) 2 (fun j => if j = 0 then 2 else if j = 1 then 1 else 0) 3 j = (fun j => if j = 0 then 1 else if j = 1 then 0 else 0 : Nat → Int) j := by decide
set_option maxRecDepth 100000 in
set_option maxHeartbeats 4000000 in
/-- The laws' awake. -/
theorem awake12 (V : World) :
    Calls Try.prog 9 #[] V fun e w' => e = .returned (.bool true) ∧ Below V.heap.size V w' := by
  go_enter Try.func9, Try.ntmps9
  refine wp_seq ?_
  refine wp_region_sqK 23 [(0, 0)] (fun i_ => match i_ with | 0 => .bool false | _ => undef) rfl (by kernel_rfl) (by decide) (by decide) ?_ ?_
  · intro i_ hi_ a hf hv hn
    match i_, hi_ with
    | 0, _ => exact stepV rfl rfl (execAsgB rfl rfl) ⟨⟨_, rfl, rfl⟩, rfl⟩
    | k_ + 1, h_ => exact absurd h_ (by simp)
  intro a h1 h2 h3 h4
  have A : a.tmps.size = 23 ∧ a.defers = [] := ⟨h1, h2⟩
  have BW : Below V.heap.size V V := Below.refl _ _
  clear h1 h2 h3 h4
  refine wp_seq ?_
  refine wp_region_sq (σ := Nat × Nat × Value × Value) 23 [(0, 5), (1, 6), (2, 7), (3, 4), (4, 8), (5, 9), (6, 10), (7, 1), (8, 2), (9, 3)] (fun j_ s X => match j_ with | 0 => Below V.heap.size V X | 1 => Below V.heap.size V X ∧ (SliceI X (.slice (some ⟨s.1, 0, none⟩) 2 2) (2) (fun j => if j = 0 then 2 else 1)) | 2 => Below V.heap.size V X ∧ (SliceI X (.slice (some ⟨s.1, 0, none⟩) 2 2) (2) (fun j => if j = 0 then 2 else 1)) ∧ (SliceI X (.slice (some ⟨s.2.1, 0, none⟩) 3 3) (3) (fun j => if j = 0 then 2 else if j = 1 then 1 else 0)) | 3 => Below V.heap.size V X ∧ (SliceI X (.slice (some ⟨s.1, 0, none⟩) 2 2) (2) (fun j => if j = 0 then 2 else 1)) ∧ (SliceI X (.slice (some ⟨s.2.1, 0, none⟩) 3 3) (3) (fun j => if j = 0 then 2 else if j = 1 then 1 else 0)) ∧ (SliceI X s.2.2.1 (zl (paE (fun j => if j = 0 then 2 else 1) 2 (fun j => if j = 0 then 2 else if j = 1 then 1 else 0) 3) 3) (pcF (fun j => if j = 0 then 2 else 1) 2 (fun j => if j = 0 then 2 else if j = 1 then 1 else 0))) ∧ (SliceI X s.2.2.2 (zl (paE (fun j => if j = 0 then 2 else 1) 2 (fun j => if j = 0 then 2 else if j = 1 then 1 else 0) 3) 3) (poF (fun j => if j = 0 then 2 else 1) 2 (fun j => if j = 0 then 2 else if j = 1 then 1 else 0) 3)) | 4 => Below V.heap.size V X ∧ (SliceI X (.slice (some ⟨s.1, 0, none⟩) 2 2) (2) (fun j => if j = 0 then 2 else 1)) ∧ (SliceI X (.slice (some ⟨s.2.1, 0, none⟩) 3 3) (3) (fun j => if j = 0 then 2 else if j = 1 then 1 else 0)) ∧ (SliceI X s.2.2.1 (zl (paE (fun j => if j = 0 then 2 else 1) 2 (fun j => if j = 0 then 2 else if j = 1 then 1 else 0) 3) 3) (pcF (fun j => if j = 0 then 2 else 1) 2 (fun j => if j = 0 then 2 else if j = 1 then 1 else 0))) ∧ (SliceI X s.2.2.2 (zl (paE (fun j => if j = 0 then 2 else 1) 2 (fun j => if j = 0 then 2 else if j = 1 then 1 else 0) 3) 3) (poF (fun j => if j = 0 then 2 else 1) 2 (fun j => if j = 0 then 2 else if j = 1 then 1 else 0) 3)) | 5 => Below V.heap.size V X ∧ (SliceI X (.slice (some ⟨s.1, 0, none⟩) 2 2) (2) (fun j => if j = 0 then 2 else 1)) ∧ (SliceI X (.slice (some ⟨s.2.1, 0, none⟩) 3 3) (3) (fun j => if j = 0 then 2 else if j = 1 then 1 else 0)) ∧ (SliceI X s.2.2.1 (zl (paE (fun j => if j = 0 then 2 else 1) 2 (fun j => if j = 0 then 2 else if j = 1 then 1 else 0) 3) 3) (pcF (fun j => if j = 0 then 2 else 1) 2 (fun j => if j = 0 then 2 else if j = 1 then 1 else 0))) ∧ (SliceI X s.2.2.2 (zl (paE (fun j => if j = 0 then 2 else 1) 2 (fun j => if j = 0 then 2 else if j = 1 then 1 else 0) 3) 3) (poF (fun j => if j = 0 then 2 else 1) 2 (fun j => if j = 0 then 2 else if j = 1 then 1 else 0) 3)) | 6 => Below V.heap.size V X ∧ (SliceI X (.slice (some ⟨s.1, 0, none⟩) 2 2) (2) (fun j => if j = 0 then 2 else 1)) ∧ (SliceI X (.slice (some ⟨s.2.1, 0, none⟩) 3 3) (3) (fun j => if j = 0 then 2 else if j = 1 then 1 else 0)) ∧ (SliceI X s.2.2.1 (zl (paE (fun j => if j = 0 then 2 else 1) 2 (fun j => if j = 0 then 2 else if j = 1 then 1 else 0) 3) 3) (pcF (fun j => if j = 0 then 2 else 1) 2 (fun j => if j = 0 then 2 else if j = 1 then 1 else 0))) ∧ (SliceI X s.2.2.2 (zl (paE (fun j => if j = 0 then 2 else 1) 2 (fun j => if j = 0 then 2 else if j = 1 then 1 else 0) 3) 3) (poF (fun j => if j = 0 then 2 else 1) 2 (fun j => if j = 0 then 2 else if j = 1 then 1 else 0) 3)) | 7 => Below V.heap.size V X ∧ (SliceI X (.slice (some ⟨s.1, 0, none⟩) 2 2) (2) (fun j => if j = 0 then 2 else 1)) ∧ (SliceI X (.slice (some ⟨s.2.1, 0, none⟩) 3 3) (3) (fun j => if j = 0 then 2 else if j = 1 then 1 else 0)) ∧ (SliceI X s.2.2.1 (zl (paE (fun j => if j = 0 then 2 else 1) 2 (fun j => if j = 0 then 2 else if j = 1 then 1 else 0) 3) 3) (pcF (fun j => if j = 0 then 2 else 1) 2 (fun j => if j = 0 then 2 else if j = 1 then 1 else 0))) ∧ (SliceI X s.2.2.2 (zl (paE (fun j => if j = 0 then 2 else 1) 2 (fun j => if j = 0 then 2 else if j = 1 then 1 else 0) 3) 3) (poF (fun j => if j = 0 then 2 else 1) 2 (fun j => if j = 0 then 2 else if j = 1 then 1 else 0) 3)) | 8 => Below V.heap.size V X ∧ (SliceI X (.slice (some ⟨s.1, 0, none⟩) 2 2) (2) (fun j => if j = 0 then 2 else 1)) ∧ (SliceI X (.slice (some ⟨s.2.1, 0, none⟩) 3 3) (3) (fun j => if j = 0 then 2 else if j = 1 then 1 else 0)) ∧ (SliceI X s.2.2.1 (zl (paE (fun j => if j = 0 then 2 else 1) 2 (fun j => if j = 0 then 2 else if j = 1 then 1 else 0) 3) 3) (pcF (fun j => if j = 0 then 2 else 1) 2 (fun j => if j = 0 then 2 else if j = 1 then 1 else 0))) ∧ (SliceI X s.2.2.2 (zl (paE (fun j => if j = 0 then 2 else 1) 2 (fun j => if j = 0 then 2 else if j = 1 then 1 else 0) 3) 3) (poF (fun j => if j = 0 then 2 else 1) 2 (fun j => if j = 0 then 2 else if j = 1 then 1 else 0) 3)) | 9 => Below V.heap.size V X ∧ (SliceI X (.slice (some ⟨s.1, 0, none⟩) 2 2) (2) (fun j => if j = 0 then 2 else 1)) ∧ (SliceI X (.slice (some ⟨s.2.1, 0, none⟩) 3 3) (3) (fun j => if j = 0 then 2 else if j = 1 then 1 else 0)) ∧ (SliceI X s.2.2.1 (zl (paE (fun j => if j = 0 then 2 else 1) 2 (fun j => if j = 0 then 2 else if j = 1 then 1 else 0) 3) 3) (pcF (fun j => if j = 0 then 2 else 1) 2 (fun j => if j = 0 then 2 else if j = 1 then 1 else 0))) ∧ (SliceI X s.2.2.2 (zl (paE (fun j => if j = 0 then 2 else 1) 2 (fun j => if j = 0 then 2 else if j = 1 then 1 else 0) 3) 3) (poF (fun j => if j = 0 then 2 else 1) 2 (fun j => if j = 0 then 2 else if j = 1 then 1 else 0) 3)) | _ => Below V.heap.size V X ∧ (SliceI X (.slice (some ⟨s.1, 0, none⟩) 2 2) (2) (fun j => if j = 0 then 2 else 1)) ∧ (SliceI X (.slice (some ⟨s.2.1, 0, none⟩) 3 3) (3) (fun j => if j = 0 then 2 else if j = 1 then 1 else 0)) ∧ (SliceI X s.2.2.1 (zl (paE (fun j => if j = 0 then 2 else 1) 2 (fun j => if j = 0 then 2 else if j = 1 then 1 else 0) 3) 3) (pcF (fun j => if j = 0 then 2 else 1) 2 (fun j => if j = 0 then 2 else if j = 1 then 1 else 0))) ∧ (SliceI X s.2.2.2 (zl (paE (fun j => if j = 0 then 2 else 1) 2 (fun j => if j = 0 then 2 else if j = 1 then 1 else 0) 3) 3) (poF (fun j => if j = 0 then 2 else 1) 2 (fun j => if j = 0 then 2 else if j = 1 then 1 else 0) 3))) (fun s => fun i_ => match i_ with | 0 => .slice (some ⟨s.1, 0, none⟩) 2 2 | 1 => .slice (some ⟨s.2.1, 0, none⟩) 3 3 | 2 => .tuple #[s.2.2.1, s.2.2.2, .int .i64 ((paE (fun j => if j = 0 then 2 else 1) 2 (fun j => if j = 0 then 2 else if j = 1 then 1 else 0) 3 : Nat) : Int)] | 3 => .tuple #[s.2.2.1, s.2.2.2, .int .i64 ((paE (fun j => if j = 0 then 2 else 1) 2 (fun j => if j = 0 then 2 else if j = 1 then 1 else 0) 3 : Nat) : Int)] | 4 => s.2.2.1 | 5 => s.2.2.2 | 6 => .int .i64 ((paE (fun j => if j = 0 then 2 else 1) 2 (fun j => if j = 0 then 2 else if j = 1 then 1 else 0) 3 : Nat) : Int) | 7 => s.2.2.1 | 8 => s.2.2.2 | 9 => .int .i64 ((paE (fun j => if j = 0 then 2 else 1) 2 (fun j => if j = 0 then 2 else if j = 1 then 1 else 0) 3 : Nat) : Int) | _ => undef) (0, 0, undef, undef) A.1 (by kernel_rfl) (by decide) (by decide) (Below.refl _ _) ?_ ?_
  · intro i_ hi_ s a X hf hv hn hS
    match i_, hi_ with
    | 0, _ =>
      refine stepV rfl rfl (execBsI2 (y := 2) (z := 1) rfl) ⟨(X.heap.size, s.2.1, s.2.2.1, s.2.2.2), ⟨_, rfl, rfl⟩, ⟨(hS).trans (((belNew X _)).mono (hS).size), sliceI2 X 2 1 (by omega) (by omega)⟩, fun i hi => ?_⟩
      omega
    | 1, _ =>
      refine stepV rfl rfl (execBsI3 (x := 2) (y := 1) (z := 0) rfl) ⟨(s.1, X.heap.size, s.2.2.1, s.2.2.2), ⟨_, rfl, rfl⟩, ⟨(hS.1).trans (((belNew X _)).mono (hS.1).size), (hS.2.on (belNew X _)), sliceI3 X 2 1 0 (by omega) (by omega) (by omega)⟩, fun i hi => ?_⟩
      match i, hi with
      | 0, _ => rfl
      | n_ + 1, h_ => omega
    | 2, _ =>
      refine stepC rfl rfl (execCall2 Try.func19 (by kernel_rfl) (by kernel_rfl) rfl (hv 0 (by omega) _ rfl _ rfl) (hv 1 (by omega) _ rfl _ rfl)) (ppattern (fun j => if j = 0 then 2 else 1) (fun j => if j = 0 then 2 else if j = 1 then 1 else 0) 2 3 _ _ X hS.2.1 (by omega) hS.2.2 (by omega)) fun e w' hh => ?_
      obtain ⟨r0_, r1_, he, hk, hb⟩ := hh
      refine ⟨_, he, (s.1, s.2.1, r0_, r1_), ⟨_, rfl, rfl⟩, ⟨(hS.1).trans ((hb).mono (hS.1).size), (hS.2.1.on hb), (hS.2.2.on hb), own_ints (hk.rows 0 (by omega)) (pc_fits (by omega)), own_ints (hk.rows 1 (by omega)) (po_fits (hS.2.2).fits)⟩, fun i hi => ?_⟩
      match i, hi with
      | 0, _ => rfl
      | 1, _ => rfl
      | n_ + 2, h_ => omega
    | 3, _ => exact stepV rfl rfl (execMvB rfl (hv 2 (by omega) _ rfl _ rfl)) ⟨s, ⟨_, rfl, rfl⟩, hS, fun _ _ => rfl⟩
    | 4, _ => exact stepV rfl rfl (execExtT rfl (hv 3 (by omega) _ rfl _ rfl) rfl) ⟨s, ⟨_, rfl, rfl⟩, hS, fun _ _ => rfl⟩
    | 5, _ => exact stepV rfl rfl (execExtT rfl (hv 3 (by omega) _ rfl _ rfl) rfl) ⟨s, ⟨_, rfl, rfl⟩, hS, fun _ _ => rfl⟩
    | 6, _ => exact stepV rfl rfl (execExtT rfl (hv 3 (by omega) _ rfl _ rfl) rfl) ⟨s, ⟨_, rfl, rfl⟩, hS, fun _ _ => rfl⟩
    | 7, _ => exact stepV rfl rfl (execAsgB rfl (hv 4 (by omega) _ rfl _ rfl)) ⟨s, ⟨_, rfl, rfl⟩, hS, fun _ _ => rfl⟩
    | 8, _ => exact stepV rfl rfl (execAsgB rfl (hv 5 (by omega) _ rfl _ rfl)) ⟨s, ⟨_, rfl, rfl⟩, hS, fun _ _ => rfl⟩
    | 9, _ => exact stepV rfl rfl (execAsgB rfl (hv 6 (by omega) _ rfl _ rfl)) ⟨s, ⟨_, rfl, rfl⟩, hS, fun _ _ => rfl⟩
    | k_ + 10, h_ => exact absurd h_ (by simp)
  rintro ⟨g5, g6, a7, o7⟩ a X1 h1 h2 h3 h4 hS
  replace hS : Below V.heap.size V X1 ∧ (SliceI X1 (.slice (some ⟨g5, 0, none⟩) 2 2) (2) (fun j => if j = 0 then 2 else 1)) ∧ (SliceI X1 (.slice (some ⟨g6, 0, none⟩) 3 3) (3) (fun j => if j = 0 then 2 else if j = 1 then 1 else 0)) ∧ (SliceI X1 a7 (zl (paE (fun j => if j = 0 then 2 else 1) 2 (fun j => if j = 0 then 2 else if j = 1 then 1 else 0) 3) 3) (pcF (fun j => if j = 0 then 2 else 1) 2 (fun j => if j = 0 then 2 else if j = 1 then 1 else 0))) ∧ (SliceI X1 o7 (zl (paE (fun j => if j = 0 then 2 else 1) 2 (fun j => if j = 0 then 2 else if j = 1 then 1 else 0) 3) 3) (poF (fun j => if j = 0 then 2 else 1) 2 (fun j => if j = 0 then 2 else if j = 1 then 1 else 0) 3)) := hS
  obtain ⟨bX, Fg5, Fg6, Fa7, Fo7⟩ := hS
  have t1 : a.eval (.tmp 1) = a7 := h4 7 _ rfl _ rfl
  have t2 : a.eval (.tmp 2) = o7 := h4 8 _ rfl _ rfl
  have t3 : a.eval (.tmp 3) = .int .i64 ((paE (fun j => if j = 0 then 2 else 1) 2 (fun j => if j = 0 then 2 else if j = 1 then 1 else 0) 3 : Nat) : Int) := h4 9 _ rfl _ rfl
  have ZX1 := bX.size
  replace BW := BW.trans (bX.mono BW.size)
  clear bX
  replace A := (⟨h1, h2.trans A.2⟩ : a.tmps.size = 23 ∧ a.defers = [])
  clear h1 h2 h3 h4
  rw [aw_pa] at t3
  replace Fa7 : (SliceI X1 a7 (3) (pcF (fun j => if j = 0 then 2 else 1) 2 (fun j => if j = 0 then 2 else if j = 1 then 1 else 0))) := (by have h_ := Fa7; rw [aw_pa, zl_ok] at h_; exact h_)
  replace Fo7 : (SliceI X1 o7 (3) (poF (fun j => if j = 0 then 2 else 1) 2 (fun j => if j = 0 then 2 else if j = 1 then 1 else 0) 3)) := (by have h_ := Fo7; rw [aw_pa, zl_ok] at h_; exact h_)
  refine wp_seq ?_
  refine wp_region_sq (σ := Nat × Nat) 23 [(0, 11), (1, 12), (2, 13), (3, 14), (4, 15), (5, 16), (6, 17), (7, 18), (8, 19), (9, 20), (10, 21), (11, 22), (12, 0)] (fun j_ s X => match j_ with | 0 => Below X1.heap.size X1 X | 1 => Below X1.heap.size X1 X | 2 => Below X1.heap.size X1 X | 3 => Below X1.heap.size X1 X | 4 => Below X1.heap.size X1 X | 5 => Below X1.heap.size X1 X ∧ (SliceI X (.slice (some ⟨s.1, 0, none⟩) 3 3) (3) (fun j => if j = 0 then 1 else if j = 1 then 0 else 0)) | 6 => Below X1.heap.size X1 X ∧ (SliceI X (.slice (some ⟨s.1, 0, none⟩) 3 3) (3) (fun j => if j = 0 then 1 else if j = 1 then 0 else 0)) | 7 => Below X1.heap.size X1 X ∧ (SliceI X (.slice (some ⟨s.1, 0, none⟩) 3 3) (3) (fun j => if j = 0 then 1 else if j = 1 then 0 else 0)) | 8 => Below X1.heap.size X1 X ∧ (SliceI X (.slice (some ⟨s.1, 0, none⟩) 3 3) (3) (fun j => if j = 0 then 1 else if j = 1 then 0 else 0)) | 9 => Below X1.heap.size X1 X ∧ (SliceI X (.slice (some ⟨s.1, 0, none⟩) 3 3) (3) (fun j => if j = 0 then 1 else if j = 1 then 0 else 0)) | 10 => Below X1.heap.size X1 X ∧ (SliceI X (.slice (some ⟨s.1, 0, none⟩) 3 3) (3) (fun j => if j = 0 then 1 else if j = 1 then 0 else 0)) ∧ (SliceI X (.slice (some ⟨s.2, 0, none⟩) 3 3) (3) (fun j => if j = 0 then 1 else if j = 1 then 0 else 0)) | 11 => Below X1.heap.size X1 X ∧ (SliceI X (.slice (some ⟨s.1, 0, none⟩) 3 3) (3) (fun j => if j = 0 then 1 else if j = 1 then 0 else 0)) ∧ (SliceI X (.slice (some ⟨s.2, 0, none⟩) 3 3) (3) (fun j => if j = 0 then 1 else if j = 1 then 0 else 0)) | 12 => Below X1.heap.size X1 X ∧ (SliceI X (.slice (some ⟨s.1, 0, none⟩) 3 3) (3) (fun j => if j = 0 then 1 else if j = 1 then 0 else 0)) ∧ (SliceI X (.slice (some ⟨s.2, 0, none⟩) 3 3) (3) (fun j => if j = 0 then 1 else if j = 1 then 0 else 0)) | _ => Below X1.heap.size X1 X ∧ (SliceI X (.slice (some ⟨s.1, 0, none⟩) 3 3) (3) (fun j => if j = 0 then 1 else if j = 1 then 0 else 0)) ∧ (SliceI X (.slice (some ⟨s.2, 0, none⟩) 3 3) (3) (fun j => if j = 0 then 1 else if j = 1 then 0 else 0))) (fun s => fun i_ => match i_ with | 0 => .int .i64 ((0 : Nat) : Int) | 1 => .bool true | 2 => .bool true | 3 => a7 | 4 => .slice (some ⟨s.1, 0, none⟩) 3 3 | 5 => .bool true | 6 => .bool true | 7 => .bool true | 8 => o7 | 9 => .slice (some ⟨s.2, 0, none⟩) 3 3 | 10 => .bool true | 11 => .bool true | 12 => .bool true | _ => undef) (0, 0) A.1 (by kernel_rfl) (by decide) (by decide) (Below.refl _ _) ?_ ?_
  · intro i_ hi_ s a X hf hv hn hS
    match i_, hi_ with
    | 0, _ => exact stepV rfl rfl (execMvB rfl ((hf 3 (by decide)).trans t3)) ⟨s, ⟨_, rfl, rfl⟩, hS, fun _ _ => rfl⟩
    | 1, _ => exact stepV rfl rfl (execDec (execEqE (p := 0) (q := 0) rfl (hv 0 (by omega) _ rfl _ rfl) rfl) (decide_eq_true (by decide))) ⟨s, ⟨_, rfl, rfl⟩, hS, fun _ _ => rfl⟩
    | 2, _ => exact stepV rfl rfl (execMvB rfl (hv 1 (by omega) _ rfl _ rfl)) ⟨s, ⟨_, rfl, rfl⟩, hS, fun _ _ => rfl⟩
    | 3, _ => exact stepV rfl (wantedOf rfl (yieldedAt rfl rfl (show a.eval (.tmp 13) = .bool true from (hv 2 (by omega) _ rfl _ rfl)))) (execMvB rfl ((hf 1 (by decide)).trans t1)) ⟨s, ⟨_, rfl, rfl⟩, hS, fun _ _ => rfl⟩
    | 4, _ =>
      refine stepV rfl (wantedOf rfl (yieldedAt rfl rfl (show a.eval (.tmp 13) = .bool true from (hv 2 (by omega) _ rfl _ rfl)))) (execBsI3 (x := 1) (y := 0) (z := 0) rfl) ⟨(X.heap.size, s.2), ⟨_, rfl, rfl⟩, ⟨(hS).trans (((belNew X _)).mono (hS).size), sliceI3 X 1 0 0 (by omega) (by omega) (by omega)⟩, fun i hi => ?_⟩
      match i, hi with
      | 0, _ => rfl
      | 1, _ => rfl
      | 2, _ => rfl
      | 3, _ => rfl
      | n_ + 4, h_ => omega
    | 5, _ => exact stepC rfl (wantedOf rfl (yieldedAt rfl rfl (show a.eval (.tmp 13) = .bool true from (hv 2 (by omega) _ rfl _ rfl)))) (execCall2 Try.func14 (by kernel_rfl) (by kernel_rfl) rfl (hv 3 (by omega) _ rfl _ rfl) (hv 4 (by omega) _ rfl _ rfl)) (same_t _ _ (3) _ _ X (Fa7.on hS.1) hS.2 (aw_pc) (by omega)) fun e w' hh => ⟨_, hh.1, s, ⟨_, rfl, rfl⟩, ⟨(hS.1).trans ((hh.2).mono (hS.1).size), (hS.2.on hh.2)⟩, fun _ _ => rfl⟩
    | 6, _ => exact stepV rfl rfl (execPickT rfl (hv 2 (by omega) _ rfl _ rfl) (hv 5 (by omega) _ rfl _ rfl)) ⟨s, ⟨_, rfl, rfl⟩, hS, fun _ _ => rfl⟩
    | 7, _ => exact stepV rfl rfl (execMvB rfl (hv 6 (by omega) _ rfl _ rfl)) ⟨s, ⟨_, rfl, rfl⟩, hS, fun _ _ => rfl⟩
    | 8, _ => exact stepV rfl (wantedOf rfl (yieldedAt rfl rfl (show a.eval (.tmp 18) = .bool true from (hv 7 (by omega) _ rfl _ rfl)))) (execMvB rfl ((hf 2 (by decide)).trans t2)) ⟨s, ⟨_, rfl, rfl⟩, hS, fun _ _ => rfl⟩
    | 9, _ =>
      refine stepV rfl (wantedOf rfl (yieldedAt rfl rfl (show a.eval (.tmp 18) = .bool true from (hv 7 (by omega) _ rfl _ rfl)))) (execBsI3 (x := 1) (y := 0) (z := 0) rfl) ⟨(s.1, X.heap.size), ⟨_, rfl, rfl⟩, ⟨(hS.1).trans (((belNew X _)).mono (hS.1).size), (hS.2.on (belNew X _)), sliceI3 X 1 0 0 (by omega) (by omega) (by omega)⟩, fun i hi => ?_⟩
      match i, hi with
      | 0, _ => rfl
      | 1, _ => rfl
      | 2, _ => rfl
      | 3, _ => rfl
      | 4, _ => rfl
      | 5, _ => rfl
      | 6, _ => rfl
      | 7, _ => rfl
      | 8, _ => rfl
      | n_ + 9, h_ => omega
    | 10, _ => exact stepC rfl (wantedOf rfl (yieldedAt rfl rfl (show a.eval (.tmp 18) = .bool true from (hv 7 (by omega) _ rfl _ rfl)))) (execCall2 Try.func14 (by kernel_rfl) (by kernel_rfl) rfl (hv 8 (by omega) _ rfl _ rfl) (hv 9 (by omega) _ rfl _ rfl)) (same_t _ _ (3) _ _ X (Fo7.on hS.1) hS.2.2 (aw_po) (by omega)) fun e w' hh => ⟨_, hh.1, s, ⟨_, rfl, rfl⟩, ⟨(hS.1).trans ((hh.2).mono (hS.1).size), (hS.2.1.on hh.2), (hS.2.2.on hh.2)⟩, fun _ _ => rfl⟩
    | 11, _ => exact stepV rfl rfl (execPickT rfl (hv 7 (by omega) _ rfl _ rfl) (hv 10 (by omega) _ rfl _ rfl)) ⟨s, ⟨_, rfl, rfl⟩, hS, fun _ _ => rfl⟩
    | 12, _ => exact stepV rfl rfl (execAsgB rfl (hv 11 (by omega) _ rfl _ rfl)) ⟨s, ⟨_, rfl, rfl⟩, hS, fun _ _ => rfl⟩
    | k_ + 13, h_ => exact absurd h_ (by simp)
  rintro ⟨g15, g20⟩ a X2 h1 h2 h3 h4 hS
  replace hS : Below X1.heap.size X1 X2 ∧ (SliceI X2 (.slice (some ⟨g15, 0, none⟩) 3 3) (3) (fun j => if j = 0 then 1 else if j = 1 then 0 else 0)) ∧ (SliceI X2 (.slice (some ⟨g20, 0, none⟩) 3 3) (3) (fun j => if j = 0 then 1 else if j = 1 then 0 else 0)) := hS
  obtain ⟨bX, Fg15, Fg20⟩ := hS
  have t0 : a.eval (.tmp 0) = .bool true := h4 12 _ rfl _ rfl
  replace Fg5 := (Fg5.on bX)
  replace Fg6 := (Fg6.on bX)
  replace Fa7 := (Fa7.on bX)
  replace Fo7 := (Fo7.on bX)
  have ZX2 := bX.size
  replace BW := BW.trans (bX.mono BW.size)
  clear bX
  replace A := (⟨h1, h2.trans A.2⟩ : a.tmps.size = 23 ∧ a.defers = [])
  clear h1 h2 h3 h4
  clear t1 t2 t3
  refine wp_ret ?_
  repeat (first | refine ret_in ?_ | refine ret_then ?_)
  refine bodyPost_ret (results_tmp rfl _ _ _) A.2 ⟨?_, BW⟩
  show Ending.returned (a.eval (.tmp 0)) = _
  rw [t0]
set_option maxRecDepth 100000 in
set_option maxHeartbeats 4000000 in
/-- BraidCarries. -/
theorem carries_any (sf f g : Nat → Int) (J m k : Nat) (v u1 u2 : Value) (V : World) (FI : SliceI V v J sf) (hJ17 : J ≤ 17592186044416) (FF : SliceI V u1 m f) (hm17 : m ≤ 17592186044416) (FG : SliceI V u2 k g) (hk17 : k ≤ 17592186044416) :
    Calls Try.prog 7 #[v, u1, u2] V fun e w' => e = .returned (.bool true) ∧ Below V.heap.size V w' := by
  go_enter Try.func7, Try.ntmps7
  refine wp_seq ?_
  refine wp_region_sqK 117 [(0, 6)] (fun i_ => match i_ with | 0 => .bool false | _ => undef) rfl (by kernel_rfl) (by decide) (by decide) ?_ ?_
  · intro i_ hi_ a hf hv hn
    match i_, hi_ with
    | 0, _ => exact stepV rfl rfl (execAsgB rfl rfl) ⟨⟨_, rfl, rfl⟩, rfl⟩
    | k_ + 1, h_ => exact absurd h_ (by simp)
  intro a h1 h2 h3 h4
  have t0 : a.eval (.tmp 0) = v := (h3 0 (by decide)).trans rfl
  have t1 : a.eval (.tmp 1) = u1 := (h3 1 (by decide)).trans rfl
  have t2 : a.eval (.tmp 2) = u2 := (h3 2 (by decide)).trans rfl
  have A : a.tmps.size = 117 ∧ a.defers = [] := ⟨h1, h2⟩
  have BW : Below V.heap.size V V := Below.refl _ _
  clear h1 h2 h3 h4
  refine wp_seq ?_
  refine wp_seq ?_
  refine wp_region_sq (σ := Unit) 117 [(0, 17), (1, 18)] (fun j_ s X => match j_ with | 0 => Below V.heap.size V X | 1 => Below V.heap.size V X | _ => Below V.heap.size V X) (fun s => fun i_ => match i_ with | 0 => .bool true | 1 => .bool false | _ => undef) () A.1 (by kernel_rfl) (by decide) (by decide) (Below.refl _ _) ?_ ?_
  · intro i_ hi_ s a X hf hv hn hS
    match i_, hi_ with
    | 0, _ => exact stepC rfl rfl (execCall0 Try.func9 (by kernel_rfl) (by kernel_rfl) rfl ) (awake12 X) fun e w' hh => ⟨_, hh.1, s, ⟨_, rfl, rfl⟩, (hS).trans ((hh.2).mono (hS).size), fun _ _ => rfl⟩
    | 1, _ => exact stepV rfl rfl (execNot8 rfl (hv 0 (by omega) _ rfl _ rfl)) ⟨s, ⟨_, rfl, rfl⟩, hS, fun _ _ => rfl⟩
    | k_ + 2, h_ => exact absurd h_ (by simp)
  rintro _ a X1 h1 h2 h3 h4 hS
  replace hS : Below V.heap.size V X1 := hS
  have bX := hS
  clear hS
  replace t0 := (h3 0 (by decide)).trans t0
  replace t1 := (h3 1 (by decide)).trans t1
  replace t2 := (h3 2 (by decide)).trans t2
  have t18 : a.eval (.tmp 18) = .bool false := h4 1 _ rfl _ rfl
  replace FI := (FI.on bX)
  replace FF := (FF.on bX)
  replace FG := (FG.on bX)
  have ZX1 := bX.size
  replace BW := BW.trans (bX.mono BW.size)
  clear bX
  replace A := (⟨h1, h2.trans A.2⟩ : a.tmps.size = 117 ∧ a.defers = [])
  clear h1 h2 h3 h4
  refine wp_cond_false t18 ?_
  refine wp_skip ?_
  clear t18
  refine wp_seq ?_
  refine wp_region_sq (σ := Value × Value) 117 [(0, 20), (1, 21), (2, 22), (3, 19), (4, 23), (5, 24), (6, 25), (7, 7), (8, 8), (9, 9)] (fun j_ s X => match j_ with | 0 => Below X1.heap.size X1 X | 1 => Below X1.heap.size X1 X | 2 => Below X1.heap.size X1 X | 3 => Below X1.heap.size X1 X ∧ (SliceI X s.1 (zl (paE sf J f m) m) (pcF sf J f)) ∧ (SliceI X s.2 (zl (paE sf J f m) m) (poF sf J f m)) | 4 => Below X1.heap.size X1 X ∧ (SliceI X s.1 (zl (paE sf J f m) m) (pcF sf J f)) ∧ (SliceI X s.2 (zl (paE sf J f m) m) (poF sf J f m)) | 5 => Below X1.heap.size X1 X ∧ (SliceI X s.1 (zl (paE sf J f m) m) (pcF sf J f)) ∧ (SliceI X s.2 (zl (paE sf J f m) m) (poF sf J f m)) | 6 => Below X1.heap.size X1 X ∧ (SliceI X s.1 (zl (paE sf J f m) m) (pcF sf J f)) ∧ (SliceI X s.2 (zl (paE sf J f m) m) (poF sf J f m)) | 7 => Below X1.heap.size X1 X ∧ (SliceI X s.1 (zl (paE sf J f m) m) (pcF sf J f)) ∧ (SliceI X s.2 (zl (paE sf J f m) m) (poF sf J f m)) | 8 => Below X1.heap.size X1 X ∧ (SliceI X s.1 (zl (paE sf J f m) m) (pcF sf J f)) ∧ (SliceI X s.2 (zl (paE sf J f m) m) (poF sf J f m)) | 9 => Below X1.heap.size X1 X ∧ (SliceI X s.1 (zl (paE sf J f m) m) (pcF sf J f)) ∧ (SliceI X s.2 (zl (paE sf J f m) m) (poF sf J f m)) | _ => Below X1.heap.size X1 X ∧ (SliceI X s.1 (zl (paE sf J f m) m) (pcF sf J f)) ∧ (SliceI X s.2 (zl (paE sf J f m) m) (poF sf J f m))) (fun s => fun i_ => match i_ with | 0 => v | 1 => u1 | 2 => .tuple #[s.1, s.2, .int .i64 ((paE sf J f m : Nat) : Int)] | 3 => .tuple #[s.1, s.2, .int .i64 ((paE sf J f m : Nat) : Int)] | 4 => s.1 | 5 => s.2 | 6 => .int .i64 ((paE sf J f m : Nat) : Int) | 7 => s.1 | 8 => s.2 | 9 => .int .i64 ((paE sf J f m : Nat) : Int) | _ => undef) (undef, undef) A.1 (by kernel_rfl) (by decide) (by decide) (Below.refl _ _) ?_ ?_
  · intro i_ hi_ s a X hf hv hn hS
    match i_, hi_ with
    | 0, _ => exact stepV rfl rfl (execMvB rfl ((hf 0 (by decide)).trans t0)) ⟨s, ⟨_, rfl, rfl⟩, hS, fun _ _ => rfl⟩
    | 1, _ => exact stepV rfl rfl (execMvB rfl ((hf 1 (by decide)).trans t1)) ⟨s, ⟨_, rfl, rfl⟩, hS, fun _ _ => rfl⟩
    | 2, _ =>
      refine stepC rfl rfl (execCall2 Try.func19 (by kernel_rfl) (by kernel_rfl) rfl (hv 0 (by omega) _ rfl _ rfl) (hv 1 (by omega) _ rfl _ rfl)) (ppattern sf f J m _ _ X (FI.on hS) (by omega) (FF.on hS) (by omega)) fun e w' hh => ?_
      obtain ⟨r0_, r1_, he, hk, hb⟩ := hh
      refine ⟨_, he, (r0_, r1_), ⟨_, rfl, rfl⟩, ⟨(hS).trans ((hb).mono (hS).size), own_ints (hk.rows 0 (by omega)) (pc_fits (by omega)), own_ints (hk.rows 1 (by omega)) (po_fits ((FF.on hS)).fits)⟩, fun i hi => ?_⟩
      match i, hi with
      | 0, _ => rfl
      | 1, _ => rfl
      | n_ + 2, h_ => omega
    | 3, _ => exact stepV rfl rfl (execMvB rfl (hv 2 (by omega) _ rfl _ rfl)) ⟨s, ⟨_, rfl, rfl⟩, hS, fun _ _ => rfl⟩
    | 4, _ => exact stepV rfl rfl (execExtT rfl (hv 3 (by omega) _ rfl _ rfl) rfl) ⟨s, ⟨_, rfl, rfl⟩, hS, fun _ _ => rfl⟩
    | 5, _ => exact stepV rfl rfl (execExtT rfl (hv 3 (by omega) _ rfl _ rfl) rfl) ⟨s, ⟨_, rfl, rfl⟩, hS, fun _ _ => rfl⟩
    | 6, _ => exact stepV rfl rfl (execExtT rfl (hv 3 (by omega) _ rfl _ rfl) rfl) ⟨s, ⟨_, rfl, rfl⟩, hS, fun _ _ => rfl⟩
    | 7, _ => exact stepV rfl rfl (execAsgB rfl (hv 4 (by omega) _ rfl _ rfl)) ⟨s, ⟨_, rfl, rfl⟩, hS, fun _ _ => rfl⟩
    | 8, _ => exact stepV rfl rfl (execAsgB rfl (hv 5 (by omega) _ rfl _ rfl)) ⟨s, ⟨_, rfl, rfl⟩, hS, fun _ _ => rfl⟩
    | 9, _ => exact stepV rfl rfl (execAsgB rfl (hv 6 (by omega) _ rfl _ rfl)) ⟨s, ⟨_, rfl, rfl⟩, hS, fun _ _ => rfl⟩
    | k_ + 10, h_ => exact absurd h_ (by simp)
  rintro ⟨a22, o22⟩ a X3 h1 h2 h3 h4 hS
  replace hS : Below X1.heap.size X1 X3 ∧ (SliceI X3 a22 (zl (paE sf J f m) m) (pcF sf J f)) ∧ (SliceI X3 o22 (zl (paE sf J f m) m) (poF sf J f m)) := hS
  obtain ⟨bX, Fa22, Fo22⟩ := hS
  replace t0 := (h3 0 (by decide)).trans t0
  replace t1 := (h3 1 (by decide)).trans t1
  replace t2 := (h3 2 (by decide)).trans t2
  have t7 : a.eval (.tmp 7) = a22 := h4 7 _ rfl _ rfl
  have t8 : a.eval (.tmp 8) = o22 := h4 8 _ rfl _ rfl
  have t9 : a.eval (.tmp 9) = .int .i64 ((paE sf J f m : Nat) : Int) := h4 9 _ rfl _ rfl
  replace FI := (FI.on bX)
  replace FF := (FF.on bX)
  replace FG := (FG.on bX)
  have ZX3 := bX.size
  replace BW := BW.trans (bX.mono BW.size)
  clear bX
  replace A := (⟨h1, h2.trans A.2⟩ : a.tmps.size = 117 ∧ a.defers = [])
  clear h1 h2 h3 h4
  refine wp_seq ?_
  refine wp_region_sq (σ := Value × Value) 117 [(0, 27), (1, 28), (2, 29), (3, 26), (4, 30), (5, 31), (6, 32), (7, 10), (8, 11), (9, 12)] (fun j_ s X => match j_ with | 0 => Below X3.heap.size X3 X | 1 => Below X3.heap.size X3 X | 2 => Below X3.heap.size X3 X | 3 => Below X3.heap.size X3 X ∧ (SliceI X s.1 (zl (paE sf J g k) k) (pcF sf J g)) ∧ (SliceI X s.2 (zl (paE sf J g k) k) (poF sf J g k)) | 4 => Below X3.heap.size X3 X ∧ (SliceI X s.1 (zl (paE sf J g k) k) (pcF sf J g)) ∧ (SliceI X s.2 (zl (paE sf J g k) k) (poF sf J g k)) | 5 => Below X3.heap.size X3 X ∧ (SliceI X s.1 (zl (paE sf J g k) k) (pcF sf J g)) ∧ (SliceI X s.2 (zl (paE sf J g k) k) (poF sf J g k)) | 6 => Below X3.heap.size X3 X ∧ (SliceI X s.1 (zl (paE sf J g k) k) (pcF sf J g)) ∧ (SliceI X s.2 (zl (paE sf J g k) k) (poF sf J g k)) | 7 => Below X3.heap.size X3 X ∧ (SliceI X s.1 (zl (paE sf J g k) k) (pcF sf J g)) ∧ (SliceI X s.2 (zl (paE sf J g k) k) (poF sf J g k)) | 8 => Below X3.heap.size X3 X ∧ (SliceI X s.1 (zl (paE sf J g k) k) (pcF sf J g)) ∧ (SliceI X s.2 (zl (paE sf J g k) k) (poF sf J g k)) | 9 => Below X3.heap.size X3 X ∧ (SliceI X s.1 (zl (paE sf J g k) k) (pcF sf J g)) ∧ (SliceI X s.2 (zl (paE sf J g k) k) (poF sf J g k)) | _ => Below X3.heap.size X3 X ∧ (SliceI X s.1 (zl (paE sf J g k) k) (pcF sf J g)) ∧ (SliceI X s.2 (zl (paE sf J g k) k) (poF sf J g k))) (fun s => fun i_ => match i_ with | 0 => v | 1 => u2 | 2 => .tuple #[s.1, s.2, .int .i64 ((paE sf J g k : Nat) : Int)] | 3 => .tuple #[s.1, s.2, .int .i64 ((paE sf J g k : Nat) : Int)] | 4 => s.1 | 5 => s.2 | 6 => .int .i64 ((paE sf J g k : Nat) : Int) | 7 => s.1 | 8 => s.2 | 9 => .int .i64 ((paE sf J g k : Nat) : Int) | _ => undef) (undef, undef) A.1 (by kernel_rfl) (by decide) (by decide) (Below.refl _ _) ?_ ?_
  · intro i_ hi_ s a X hf hv hn hS
    match i_, hi_ with
    | 0, _ => exact stepV rfl rfl (execMvB rfl ((hf 0 (by decide)).trans t0)) ⟨s, ⟨_, rfl, rfl⟩, hS, fun _ _ => rfl⟩
    | 1, _ => exact stepV rfl rfl (execMvB rfl ((hf 2 (by decide)).trans t2)) ⟨s, ⟨_, rfl, rfl⟩, hS, fun _ _ => rfl⟩
    | 2, _ =>
      refine stepC rfl rfl (execCall2 Try.func19 (by kernel_rfl) (by kernel_rfl) rfl (hv 0 (by omega) _ rfl _ rfl) (hv 1 (by omega) _ rfl _ rfl)) (ppattern sf g J k _ _ X (FI.on hS) (by omega) (FG.on hS) (by omega)) fun e w' hh => ?_
      obtain ⟨r0_, r1_, he, hk, hb⟩ := hh
      refine ⟨_, he, (r0_, r1_), ⟨_, rfl, rfl⟩, ⟨(hS).trans ((hb).mono (hS).size), own_ints (hk.rows 0 (by omega)) (pc_fits (by omega)), own_ints (hk.rows 1 (by omega)) (po_fits ((FG.on hS)).fits)⟩, fun i hi => ?_⟩
      match i, hi with
      | 0, _ => rfl
      | 1, _ => rfl
      | n_ + 2, h_ => omega
    | 3, _ => exact stepV rfl rfl (execMvB rfl (hv 2 (by omega) _ rfl _ rfl)) ⟨s, ⟨_, rfl, rfl⟩, hS, fun _ _ => rfl⟩
    | 4, _ => exact stepV rfl rfl (execExtT rfl (hv 3 (by omega) _ rfl _ rfl) rfl) ⟨s, ⟨_, rfl, rfl⟩, hS, fun _ _ => rfl⟩
    | 5, _ => exact stepV rfl rfl (execExtT rfl (hv 3 (by omega) _ rfl _ rfl) rfl) ⟨s, ⟨_, rfl, rfl⟩, hS, fun _ _ => rfl⟩
    | 6, _ => exact stepV rfl rfl (execExtT rfl (hv 3 (by omega) _ rfl _ rfl) rfl) ⟨s, ⟨_, rfl, rfl⟩, hS, fun _ _ => rfl⟩
    | 7, _ => exact stepV rfl rfl (execAsgB rfl (hv 4 (by omega) _ rfl _ rfl)) ⟨s, ⟨_, rfl, rfl⟩, hS, fun _ _ => rfl⟩
    | 8, _ => exact stepV rfl rfl (execAsgB rfl (hv 5 (by omega) _ rfl _ rfl)) ⟨s, ⟨_, rfl, rfl⟩, hS, fun _ _ => rfl⟩
    | 9, _ => exact stepV rfl rfl (execAsgB rfl (hv 6 (by omega) _ rfl _ rfl)) ⟨s, ⟨_, rfl, rfl⟩, hS, fun _ _ => rfl⟩
    | k_ + 10, h_ => exact absurd h_ (by simp)
  rintro ⟨a29, o29⟩ a X4 h1 h2 h3 h4 hS
  replace hS : Below X3.heap.size X3 X4 ∧ (SliceI X4 a29 (zl (paE sf J g k) k) (pcF sf J g)) ∧ (SliceI X4 o29 (zl (paE sf J g k) k) (poF sf J g k)) := hS
  obtain ⟨bX, Fa29, Fo29⟩ := hS
  replace t0 := (h3 0 (by decide)).trans t0
  replace t1 := (h3 1 (by decide)).trans t1
  replace t2 := (h3 2 (by decide)).trans t2
  replace t7 := (h3 7 (by decide)).trans t7
  replace t8 := (h3 8 (by decide)).trans t8
  replace t9 := (h3 9 (by decide)).trans t9
  have t10 : a.eval (.tmp 10) = a29 := h4 7 _ rfl _ rfl
  have t11 : a.eval (.tmp 11) = o29 := h4 8 _ rfl _ rfl
  have t12 : a.eval (.tmp 12) = .int .i64 ((paE sf J g k : Nat) : Int) := h4 9 _ rfl _ rfl
  replace FI := (FI.on bX)
  replace FF := (FF.on bX)
  replace FG := (FG.on bX)
  replace Fa22 := (Fa22.on bX)
  replace Fo22 := (Fo22.on bX)
  have ZX4 := bX.size
  replace BW := BW.trans (bX.mono BW.size)
  clear bX
  replace A := (⟨h1, h2.trans A.2⟩ : a.tmps.size = 117 ∧ a.defers = [])
  clear h1 h2 h3 h4
  refine wp_seq ?_
  refine wp_seq ?_
  by_cases h1 : paQ sf J f m = true
  · by_cases h2 : paQ sf J g k = true
    · rw [paE_ok h1] at t9
      rw [paE_ok h2] at t12
      refine wp_region_sq (σ := Unit) 117 [(0, 33), (1, 34), (2, 35), (3, 36), (4, 37), (5, 38)] (fun j_ s X => match j_ with | 0 => Below X4.heap.size X4 X | 1 => Below X4.heap.size X4 X | 2 => Below X4.heap.size X4 X | 3 => Below X4.heap.size X4 X | 4 => Below X4.heap.size X4 X | 5 => Below X4.heap.size X4 X | _ => Below X4.heap.size X4 X) (fun s => fun i_ => match i_ with | 0 => .int .i64 ((0 : Nat) : Int) | 1 => .bool false | 2 => .bool false | 3 => .int .i64 ((0 : Nat) : Int) | 4 => .bool false | 5 => .bool false | _ => undef) () A.1 (by kernel_rfl) (by decide) (by decide) (Below.refl _ _) ?_ ?_
      · intro i_ hi_ s a X hf hv hn hS
        match i_, hi_ with
        | 0, _ => exact stepV rfl rfl (execMvB rfl ((hf 9 (by decide)).trans t9)) ⟨s, ⟨_, rfl, rfl⟩, hS, fun _ _ => rfl⟩
        | 1, _ => exact stepV rfl rfl (execDec (execNeE (p := 0) (q := 0) rfl (hv 0 (by omega) _ rfl _ rfl) rfl) (decide_eq_false (by decide))) ⟨s, ⟨_, rfl, rfl⟩, hS, fun _ _ => rfl⟩
        | 2, _ => exact stepV rfl rfl (execMvB rfl (hv 1 (by omega) _ rfl _ rfl)) ⟨s, ⟨_, rfl, rfl⟩, hS, fun _ _ => rfl⟩
        | 3, _ => exact stepV rfl (wantedOf rfl (yieldedAt rfl rfl (show a.eval (.tmp 35) = .bool false from (hv 2 (by omega) _ rfl _ rfl)))) (execMvB rfl ((hf 12 (by decide)).trans t12)) ⟨s, ⟨_, rfl, rfl⟩, hS, fun _ _ => rfl⟩
        | 4, _ => exact stepV rfl (wantedOf rfl (yieldedAt rfl rfl (show a.eval (.tmp 35) = .bool false from (hv 2 (by omega) _ rfl _ rfl)))) (execDec (execNeE (p := 0) (q := 0) rfl (hv 3 (by omega) _ rfl _ rfl) rfl) (decide_eq_false (by decide))) ⟨s, ⟨_, rfl, rfl⟩, hS, fun _ _ => rfl⟩
        | 5, _ => exact stepV rfl rfl (execPickF rfl (hv 2 (by omega) _ rfl _ rfl) (hv 4 (by omega) _ rfl _ rfl)) ⟨s, ⟨_, rfl, rfl⟩, hS, fun _ _ => rfl⟩
        | k_ + 6, h_ => exact absurd h_ (by simp)
      rintro _ a X5 h1 h2 h3 h4 hS
      replace hS : Below X4.heap.size X4 X5 := hS
      have bX := hS
      clear hS
      replace t0 := (h3 0 (by decide)).trans t0
      replace t1 := (h3 1 (by decide)).trans t1
      replace t2 := (h3 2 (by decide)).trans t2
      replace t7 := (h3 7 (by decide)).trans t7
      replace t8 := (h3 8 (by decide)).trans t8
      replace t10 := (h3 10 (by decide)).trans t10
      replace t11 := (h3 11 (by decide)).trans t11
      have t38 : a.eval (.tmp 38) = .bool false := h4 5 _ rfl _ rfl
      replace FI := (FI.on bX)
      replace FF := (FF.on bX)
      replace FG := (FG.on bX)
      replace Fa22 := (Fa22.on bX)
      replace Fo22 := (Fo22.on bX)
      replace Fa29 := (Fa29.on bX)
      replace Fo29 := (Fo29.on bX)
      have ZX5 := bX.size
      replace BW := BW.trans (bX.mono BW.size)
      clear bX
      replace A := (⟨h1, h2.trans A.2⟩ : a.tmps.size = 117 ∧ a.defers = [])
      clear h1 h2 h3 h4
      clear t9 t12
      refine wp_cond_false t38 ?_
      refine wp_skip ?_
      clear t38
      have hmS := (paQ_iff.1 h1).2.1
      have hkS := (paQ_iff.1 h2).2.1
      obtain rfl : m = k := by omega
      replace Fa22 : (SliceI X5 a22 (m) (pcF sf J f)) := (by have h_ := Fa22; rw [paE_ok h1, zl_ok] at h_; exact h_)
      replace Fo22 : (SliceI X5 o22 (m) (poF sf J f m)) := (by have h_ := Fo22; rw [paE_ok h1, zl_ok] at h_; exact h_)
      replace Fa29 : (SliceI X5 a29 (m) (pcF sf J g)) := (by have h_ := Fa29; rw [paE_ok h2, zl_ok] at h_; exact h_)
      replace Fo29 : (SliceI X5 o29 (m) (poF sf J g m)) := (by have h_ := Fo29; rw [paE_ok h2, zl_ok] at h_; exact h_)
      have hc1 := carry h1 h2
      have hc2 := carry h2 h1
      obtain ⟨hsm, hD1⟩ := pa_draws h1
      obtain ⟨_, hD2⟩ := pa_draws h2
      have hp1 : IsPat (gN sf) J m (gN (pcF sf J f)) := chD_pat hsm hD1
      have hp2 : IsPat (gN sf) J m (gN (pcF sf J g)) := chD_pat hsm hD2
      obtain ⟨_, hx1, hx2⟩ := pat_dr hc1
      obtain ⟨_, hy1, hy2⟩ := pat_dr hc2
      refine wp_seq ?_
      refine wp_region_sq (σ := Value) 117 [(0, 40), (1, 41), (2, 42), (3, 43), (4, 39), (5, 44), (6, 45), (7, 13), (8, 14)] (fun j_ s X => match j_ with | 0 => Below X5.heap.size X5 X | 1 => Below X5.heap.size X5 X | 2 => Below X5.heap.size X5 X | 3 => Below X5.heap.size X5 X | 4 => Below X5.heap.size X5 X ∧ (SliceI X s (zl (drE sf J (pcF sf J f) m (poF sf J g m) m) m) (dwF sf (pcF sf J f) (poF sf J g m))) | 5 => Below X5.heap.size X5 X ∧ (SliceI X s (zl (drE sf J (pcF sf J f) m (poF sf J g m) m) m) (dwF sf (pcF sf J f) (poF sf J g m))) | 6 => Below X5.heap.size X5 X ∧ (SliceI X s (zl (drE sf J (pcF sf J f) m (poF sf J g m) m) m) (dwF sf (pcF sf J f) (poF sf J g m))) | 7 => Below X5.heap.size X5 X ∧ (SliceI X s (zl (drE sf J (pcF sf J f) m (poF sf J g m) m) m) (dwF sf (pcF sf J f) (poF sf J g m))) | 8 => Below X5.heap.size X5 X ∧ (SliceI X s (zl (drE sf J (pcF sf J f) m (poF sf J g m) m) m) (dwF sf (pcF sf J f) (poF sf J g m))) | _ => Below X5.heap.size X5 X ∧ (SliceI X s (zl (drE sf J (pcF sf J f) m (poF sf J g m) m) m) (dwF sf (pcF sf J f) (poF sf J g m)))) (fun s => fun i_ => match i_ with | 0 => v | 1 => a22 | 2 => o29 | 3 => .tuple #[s, .int .i64 ((drE sf J (pcF sf J f) m (poF sf J g m) m : Nat) : Int)] | 4 => .tuple #[s, .int .i64 ((drE sf J (pcF sf J f) m (poF sf J g m) m : Nat) : Int)] | 5 => s | 6 => .int .i64 ((drE sf J (pcF sf J f) m (poF sf J g m) m : Nat) : Int) | 7 => s | 8 => .int .i64 ((drE sf J (pcF sf J f) m (poF sf J g m) m : Nat) : Int) | _ => undef) undef A.1 (by kernel_rfl) (by decide) (by decide) (Below.refl _ _) ?_ ?_
      · intro i_ hi_ s a X hf hv hn hS
        match i_, hi_ with
        | 0, _ => exact stepV rfl rfl (execMvB rfl ((hf 0 (by decide)).trans t0)) ⟨s, ⟨_, rfl, rfl⟩, hS, fun _ _ => rfl⟩
        | 1, _ => exact stepV rfl rfl (execMvB rfl ((hf 7 (by decide)).trans t7)) ⟨s, ⟨_, rfl, rfl⟩, hS, fun _ _ => rfl⟩
        | 2, _ => exact stepV rfl rfl (execMvB rfl ((hf 11 (by decide)).trans t11)) ⟨s, ⟨_, rfl, rfl⟩, hS, fun _ _ => rfl⟩
        | 3, _ =>
          refine stepC rfl rfl (execCall3 Try.func20 (by kernel_rfl) (by kernel_rfl) rfl (hv 0 (by omega) _ rfl _ rfl) (hv 1 (by omega) _ rfl _ rfl) (hv 2 (by omega) _ rfl _ rfl)) (pdraws12 sf (pcF sf J f) (poF sf J g m) J m m _ _ _ X (FI.on hS) (by omega) (Fa22.on hS) (by omega) (Fo29.on hS)) fun e w' hh => ?_
          obtain ⟨r0_, he, hk, hb⟩ := hh
          refine ⟨_, he, r0_, ⟨_, rfl, rfl⟩, ⟨(hS).trans ((hb).mono (hS).size), own_ints hk (dw_fits (by omega))⟩, fun i hi => ?_⟩
          match i, hi with
          | 0, _ => rfl
          | 1, _ => rfl
          | 2, _ => rfl
          | n_ + 3, h_ => omega
        | 4, _ => exact stepV rfl rfl (execMvB rfl (hv 3 (by omega) _ rfl _ rfl)) ⟨s, ⟨_, rfl, rfl⟩, hS, fun _ _ => rfl⟩
        | 5, _ => exact stepV rfl rfl (execExtT rfl (hv 4 (by omega) _ rfl _ rfl) rfl) ⟨s, ⟨_, rfl, rfl⟩, hS, fun _ _ => rfl⟩
        | 6, _ => exact stepV rfl rfl (execExtT rfl (hv 4 (by omega) _ rfl _ rfl) rfl) ⟨s, ⟨_, rfl, rfl⟩, hS, fun _ _ => rfl⟩
        | 7, _ => exact stepV rfl rfl (execAsgB rfl (hv 5 (by omega) _ rfl _ rfl)) ⟨s, ⟨_, rfl, rfl⟩, hS, fun _ _ => rfl⟩
        | 8, _ => exact stepV rfl rfl (execAsgB rfl (hv 6 (by omega) _ rfl _ rfl)) ⟨s, ⟨_, rfl, rfl⟩, hS, fun _ _ => rfl⟩
        | k_ + 9, h_ => exact absurd h_ (by simp)
      rintro d43 a X7 h1 h2 h3 h4 hS
      replace hS : Below X5.heap.size X5 X7 ∧ (SliceI X7 d43 (zl (drE sf J (pcF sf J f) m (poF sf J g m) m) m) (dwF sf (pcF sf J f) (poF sf J g m))) := hS
      obtain ⟨bX, Fd43⟩ := hS
      replace t0 := (h3 0 (by decide)).trans t0
      replace t1 := (h3 1 (by decide)).trans t1
      replace t2 := (h3 2 (by decide)).trans t2
      replace t7 := (h3 7 (by decide)).trans t7
      replace t8 := (h3 8 (by decide)).trans t8
      replace t10 := (h3 10 (by decide)).trans t10
      replace t11 := (h3 11 (by decide)).trans t11
      have t13 : a.eval (.tmp 13) = d43 := h4 7 _ rfl _ rfl
      have t14 : a.eval (.tmp 14) = .int .i64 ((drE sf J (pcF sf J f) m (poF sf J g m) m : Nat) : Int) := h4 8 _ rfl _ rfl
      replace FI := (FI.on bX)
      replace FF := (FF.on bX)
      replace FG := (FG.on bX)
      replace Fa22 := (Fa22.on bX)
      replace Fo22 := (Fo22.on bX)
      replace Fa29 := (Fa29.on bX)
      replace Fo29 := (Fo29.on bX)
      have ZX7 := bX.size
      replace BW := BW.trans (bX.mono BW.size)
      clear bX
      replace A := (⟨h1, h2.trans A.2⟩ : a.tmps.size = 117 ∧ a.defers = [])
      clear h1 h2 h3 h4
      rw [drE_ok hc1] at t14
      replace Fd43 : (SliceI X7 d43 (m) (dwF sf (pcF sf J f) (poF sf J g m))) := (by have h_ := Fd43; rw [drE_ok hc1, zl_ok] at h_; exact h_)
      refine wp_seq ?_
      refine wp_region_sq (σ := Value) 117 [(0, 47), (1, 48), (2, 49), (3, 50), (4, 46), (5, 51), (6, 52), (7, 15), (8, 16)] (fun j_ s X => match j_ with | 0 => Below X7.heap.size X7 X | 1 => Below X7.heap.size X7 X | 2 => Below X7.heap.size X7 X | 3 => Below X7.heap.size X7 X | 4 => Below X7.heap.size X7 X ∧ (SliceI X s (zl (drE sf J (pcF sf J g) m (poF sf J f m) m) m) (dwF sf (pcF sf J g) (poF sf J f m))) | 5 => Below X7.heap.size X7 X ∧ (SliceI X s (zl (drE sf J (pcF sf J g) m (poF sf J f m) m) m) (dwF sf (pcF sf J g) (poF sf J f m))) | 6 => Below X7.heap.size X7 X ∧ (SliceI X s (zl (drE sf J (pcF sf J g) m (poF sf J f m) m) m) (dwF sf (pcF sf J g) (poF sf J f m))) | 7 => Below X7.heap.size X7 X ∧ (SliceI X s (zl (drE sf J (pcF sf J g) m (poF sf J f m) m) m) (dwF sf (pcF sf J g) (poF sf J f m))) | 8 => Below X7.heap.size X7 X ∧ (SliceI X s (zl (drE sf J (pcF sf J g) m (poF sf J f m) m) m) (dwF sf (pcF sf J g) (poF sf J f m))) | _ => Below X7.heap.size X7 X ∧ (SliceI X s (zl (drE sf J (pcF sf J g) m (poF sf J f m) m) m) (dwF sf (pcF sf J g) (poF sf J f m)))) (fun s => fun i_ => match i_ with | 0 => v | 1 => a29 | 2 => o22 | 3 => .tuple #[s, .int .i64 ((drE sf J (pcF sf J g) m (poF sf J f m) m : Nat) : Int)] | 4 => .tuple #[s, .int .i64 ((drE sf J (pcF sf J g) m (poF sf J f m) m : Nat) : Int)] | 5 => s | 6 => .int .i64 ((drE sf J (pcF sf J g) m (poF sf J f m) m : Nat) : Int) | 7 => s | 8 => .int .i64 ((drE sf J (pcF sf J g) m (poF sf J f m) m : Nat) : Int) | _ => undef) undef A.1 (by kernel_rfl) (by decide) (by decide) (Below.refl _ _) ?_ ?_
      · intro i_ hi_ s a X hf hv hn hS
        match i_, hi_ with
        | 0, _ => exact stepV rfl rfl (execMvB rfl ((hf 0 (by decide)).trans t0)) ⟨s, ⟨_, rfl, rfl⟩, hS, fun _ _ => rfl⟩
        | 1, _ => exact stepV rfl rfl (execMvB rfl ((hf 10 (by decide)).trans t10)) ⟨s, ⟨_, rfl, rfl⟩, hS, fun _ _ => rfl⟩
        | 2, _ => exact stepV rfl rfl (execMvB rfl ((hf 8 (by decide)).trans t8)) ⟨s, ⟨_, rfl, rfl⟩, hS, fun _ _ => rfl⟩
        | 3, _ =>
          refine stepC rfl rfl (execCall3 Try.func20 (by kernel_rfl) (by kernel_rfl) rfl (hv 0 (by omega) _ rfl _ rfl) (hv 1 (by omega) _ rfl _ rfl) (hv 2 (by omega) _ rfl _ rfl)) (pdraws12 sf (pcF sf J g) (poF sf J f m) J m m _ _ _ X (FI.on hS) (by omega) (Fa29.on hS) (by omega) (Fo22.on hS)) fun e w' hh => ?_
          obtain ⟨r0_, he, hk, hb⟩ := hh
          refine ⟨_, he, r0_, ⟨_, rfl, rfl⟩, ⟨(hS).trans ((hb).mono (hS).size), own_ints hk (dw_fits (by omega))⟩, fun i hi => ?_⟩
          match i, hi with
          | 0, _ => rfl
          | 1, _ => rfl
          | 2, _ => rfl
          | n_ + 3, h_ => omega
        | 4, _ => exact stepV rfl rfl (execMvB rfl (hv 3 (by omega) _ rfl _ rfl)) ⟨s, ⟨_, rfl, rfl⟩, hS, fun _ _ => rfl⟩
        | 5, _ => exact stepV rfl rfl (execExtT rfl (hv 4 (by omega) _ rfl _ rfl) rfl) ⟨s, ⟨_, rfl, rfl⟩, hS, fun _ _ => rfl⟩
        | 6, _ => exact stepV rfl rfl (execExtT rfl (hv 4 (by omega) _ rfl _ rfl) rfl) ⟨s, ⟨_, rfl, rfl⟩, hS, fun _ _ => rfl⟩
        | 7, _ => exact stepV rfl rfl (execAsgB rfl (hv 5 (by omega) _ rfl _ rfl)) ⟨s, ⟨_, rfl, rfl⟩, hS, fun _ _ => rfl⟩
        | 8, _ => exact stepV rfl rfl (execAsgB rfl (hv 6 (by omega) _ rfl _ rfl)) ⟨s, ⟨_, rfl, rfl⟩, hS, fun _ _ => rfl⟩
        | k_ + 9, h_ => exact absurd h_ (by simp)
      rintro d50 a X8 h1 h2 h3 h4 hS
      replace hS : Below X7.heap.size X7 X8 ∧ (SliceI X8 d50 (zl (drE sf J (pcF sf J g) m (poF sf J f m) m) m) (dwF sf (pcF sf J g) (poF sf J f m))) := hS
      obtain ⟨bX, Fd50⟩ := hS
      replace t1 := (h3 1 (by decide)).trans t1
      replace t2 := (h3 2 (by decide)).trans t2
      replace t7 := (h3 7 (by decide)).trans t7
      replace t8 := (h3 8 (by decide)).trans t8
      replace t10 := (h3 10 (by decide)).trans t10
      replace t11 := (h3 11 (by decide)).trans t11
      replace t13 := (h3 13 (by decide)).trans t13
      replace t14 := (h3 14 (by decide)).trans t14
      have t15 : a.eval (.tmp 15) = d50 := h4 7 _ rfl _ rfl
      have t16 : a.eval (.tmp 16) = .int .i64 ((drE sf J (pcF sf J g) m (poF sf J f m) m : Nat) : Int) := h4 8 _ rfl _ rfl
      replace FI := (FI.on bX)
      replace FF := (FF.on bX)
      replace FG := (FG.on bX)
      replace Fa22 := (Fa22.on bX)
      replace Fo22 := (Fo22.on bX)
      replace Fa29 := (Fa29.on bX)
      replace Fo29 := (Fo29.on bX)
      replace Fd43 := (Fd43.on bX)
      have ZX8 := bX.size
      replace BW := BW.trans (bX.mono BW.size)
      clear bX
      replace A := (⟨h1, h2.trans A.2⟩ : a.tmps.size = 117 ∧ a.defers = [])
      clear h1 h2 h3 h4
      clear t0
      rw [drE_ok hc2] at t16
      replace Fd50 : (SliceI X8 d50 (m) (dwF sf (pcF sf J g) (poF sf J f m))) := (by have h_ := Fd50; rw [drE_ok hc2, zl_ok] at h_; exact h_)
      refine wp_seq ?_
      refine wp_seq ?_
      refine wp_region_sq (σ := Unit) 117 [(0, 53), (1, 54), (2, 55), (3, 56), (4, 57), (5, 58), (6, 59), (7, 60), (8, 61), (9, 62), (10, 63), (11, 64), (12, 65), (13, 66), (14, 67), (15, 68), (16, 69), (17, 70), (18, 71), (19, 72)] (fun j_ s X => match j_ with | 0 => Below X8.heap.size X8 X | 1 => Below X8.heap.size X8 X | 2 => Below X8.heap.size X8 X | 3 => Below X8.heap.size X8 X | 4 => Below X8.heap.size X8 X | 5 => Below X8.heap.size X8 X | 6 => Below X8.heap.size X8 X | 7 => Below X8.heap.size X8 X | 8 => Below X8.heap.size X8 X | 9 => Below X8.heap.size X8 X | 10 => Below X8.heap.size X8 X | 11 => Below X8.heap.size X8 X | 12 => Below X8.heap.size X8 X | 13 => Below X8.heap.size X8 X | 14 => Below X8.heap.size X8 X | 15 => Below X8.heap.size X8 X | 16 => Below X8.heap.size X8 X | 17 => Below X8.heap.size X8 X | 18 => Below X8.heap.size X8 X | 19 => Below X8.heap.size X8 X | _ => Below X8.heap.size X8 X) (fun s => fun i_ => match i_ with | 0 => .int .i64 ((0 : Nat) : Int) | 1 => .bool false | 2 => .bool false | 3 => .int .i64 ((0 : Nat) : Int) | 4 => .bool false | 5 => .bool false | 6 => .bool false | 7 => d43 | 8 => .int .i64 ((m : Nat) : Int) | 9 => a22 | 10 => .int .i64 ((m : Nat) : Int) | 11 => .bool false | 12 => .bool false | 13 => .bool false | 14 => d50 | 15 => .int .i64 ((m : Nat) : Int) | 16 => a22 | 17 => .int .i64 ((m : Nat) : Int) | 18 => .bool false | 19 => .bool false | _ => undef) () A.1 (by kernel_rfl) (by decide) (by decide) (Below.refl _ _) ?_ ?_
      · intro i_ hi_ s a X hf hv hn hS
        match i_, hi_ with
        | 0, _ => exact stepV rfl rfl (execMvB rfl ((hf 14 (by decide)).trans t14)) ⟨s, ⟨_, rfl, rfl⟩, hS, fun _ _ => rfl⟩
        | 1, _ => exact stepV rfl rfl (execDec (execNeE (p := 0) (q := 0) rfl (hv 0 (by omega) _ rfl _ rfl) rfl) (decide_eq_false (by omega))) ⟨s, ⟨_, rfl, rfl⟩, hS, fun _ _ => rfl⟩
        | 2, _ => exact stepV rfl rfl (execMvB rfl (hv 1 (by omega) _ rfl _ rfl)) ⟨s, ⟨_, rfl, rfl⟩, hS, fun _ _ => rfl⟩
        | 3, _ => exact stepV rfl (wantedOf rfl (yieldedAt rfl rfl (show a.eval (.tmp 55) = .bool false from (hv 2 (by omega) _ rfl _ rfl)))) (execMvB rfl ((hf 16 (by decide)).trans t16)) ⟨s, ⟨_, rfl, rfl⟩, hS, fun _ _ => rfl⟩
        | 4, _ => exact stepV rfl (wantedOf rfl (yieldedAt rfl rfl (show a.eval (.tmp 55) = .bool false from (hv 2 (by omega) _ rfl _ rfl)))) (execDec (execNeE (p := 0) (q := 0) rfl (hv 3 (by omega) _ rfl _ rfl) rfl) (decide_eq_false (by omega))) ⟨s, ⟨_, rfl, rfl⟩, hS, fun _ _ => rfl⟩
        | 5, _ => exact stepV rfl rfl (execPickF rfl (hv 2 (by omega) _ rfl _ rfl) (hv 4 (by omega) _ rfl _ rfl)) ⟨s, ⟨_, rfl, rfl⟩, hS, fun _ _ => rfl⟩
        | 6, _ => exact stepV rfl rfl (execMvB rfl (hv 5 (by omega) _ rfl _ rfl)) ⟨s, ⟨_, rfl, rfl⟩, hS, fun _ _ => rfl⟩
        | 7, _ => exact stepV rfl (wantedOf rfl (yieldedAt rfl rfl (show a.eval (.tmp 59) = .bool false from (hv 6 (by omega) _ rfl _ rfl)))) (execMvB rfl ((hf 13 (by decide)).trans t13)) ⟨s, ⟨_, rfl, rfl⟩, hS, fun _ _ => rfl⟩
        | 8, _ => exact stepV rfl (wantedOf rfl (yieldedAt rfl rfl (show a.eval (.tmp 59) = .bool false from (hv 6 (by omega) _ rfl _ rfl)))) (execLenI (len := m) rfl (hv 7 (by omega) _ rfl _ rfl) ((Fd43.on hS)).shp) ⟨s, ⟨_, rfl, rfl⟩, hS, fun _ _ => rfl⟩
        | 9, _ => exact stepV rfl (wantedOf rfl (yieldedAt rfl rfl (show a.eval (.tmp 59) = .bool false from (hv 6 (by omega) _ rfl _ rfl)))) (execMvB rfl ((hf 7 (by decide)).trans t7)) ⟨s, ⟨_, rfl, rfl⟩, hS, fun _ _ => rfl⟩
        | 10, _ => exact stepV rfl (wantedOf rfl (yieldedAt rfl rfl (show a.eval (.tmp 59) = .bool false from (hv 6 (by omega) _ rfl _ rfl)))) (execLenI (len := m) rfl (hv 9 (by omega) _ rfl _ rfl) ((Fa22.on hS)).shp) ⟨s, ⟨_, rfl, rfl⟩, hS, fun _ _ => rfl⟩
        | 11, _ => exact stepV rfl (wantedOf rfl (yieldedAt rfl rfl (show a.eval (.tmp 59) = .bool false from (hv 6 (by omega) _ rfl _ rfl)))) (execDec (execNeN (p := m) (q := m) rfl (hv 8 (by omega) _ rfl _ rfl) (hv 10 (by omega) _ rfl _ rfl)) (decide_eq_false (by omega))) ⟨s, ⟨_, rfl, rfl⟩, hS, fun _ _ => rfl⟩
        | 12, _ => exact stepV rfl rfl (execPickF rfl (hv 6 (by omega) _ rfl _ rfl) (hv 11 (by omega) _ rfl _ rfl)) ⟨s, ⟨_, rfl, rfl⟩, hS, fun _ _ => rfl⟩
        | 13, _ => exact stepV rfl rfl (execMvB rfl (hv 12 (by omega) _ rfl _ rfl)) ⟨s, ⟨_, rfl, rfl⟩, hS, fun _ _ => rfl⟩
        | 14, _ => exact stepV rfl (wantedOf rfl (yieldedAt rfl rfl (show a.eval (.tmp 66) = .bool false from (hv 13 (by omega) _ rfl _ rfl)))) (execMvB rfl ((hf 15 (by decide)).trans t15)) ⟨s, ⟨_, rfl, rfl⟩, hS, fun _ _ => rfl⟩
        | 15, _ => exact stepV rfl (wantedOf rfl (yieldedAt rfl rfl (show a.eval (.tmp 66) = .bool false from (hv 13 (by omega) _ rfl _ rfl)))) (execLenI (len := m) rfl (hv 14 (by omega) _ rfl _ rfl) ((Fd50.on hS)).shp) ⟨s, ⟨_, rfl, rfl⟩, hS, fun _ _ => rfl⟩
        | 16, _ => exact stepV rfl (wantedOf rfl (yieldedAt rfl rfl (show a.eval (.tmp 66) = .bool false from (hv 13 (by omega) _ rfl _ rfl)))) (execMvB rfl ((hf 7 (by decide)).trans t7)) ⟨s, ⟨_, rfl, rfl⟩, hS, fun _ _ => rfl⟩
        | 17, _ => exact stepV rfl (wantedOf rfl (yieldedAt rfl rfl (show a.eval (.tmp 66) = .bool false from (hv 13 (by omega) _ rfl _ rfl)))) (execLenI (len := m) rfl (hv 16 (by omega) _ rfl _ rfl) ((Fa22.on hS)).shp) ⟨s, ⟨_, rfl, rfl⟩, hS, fun _ _ => rfl⟩
        | 18, _ => exact stepV rfl (wantedOf rfl (yieldedAt rfl rfl (show a.eval (.tmp 66) = .bool false from (hv 13 (by omega) _ rfl _ rfl)))) (execDec (execNeN (p := m) (q := m) rfl (hv 15 (by omega) _ rfl _ rfl) (hv 17 (by omega) _ rfl _ rfl)) (decide_eq_false (by omega))) ⟨s, ⟨_, rfl, rfl⟩, hS, fun _ _ => rfl⟩
        | 19, _ => exact stepV rfl rfl (execPickF rfl (hv 13 (by omega) _ rfl _ rfl) (hv 18 (by omega) _ rfl _ rfl)) ⟨s, ⟨_, rfl, rfl⟩, hS, fun _ _ => rfl⟩
        | k_ + 20, h_ => exact absurd h_ (by simp)
      rintro _ a X9 h1 h2 h3 h4 hS
      replace hS : Below X8.heap.size X8 X9 := hS
      have bX := hS
      clear hS
      replace t1 := (h3 1 (by decide)).trans t1
      replace t2 := (h3 2 (by decide)).trans t2
      replace t7 := (h3 7 (by decide)).trans t7
      replace t8 := (h3 8 (by decide)).trans t8
      replace t10 := (h3 10 (by decide)).trans t10
      replace t11 := (h3 11 (by decide)).trans t11
      replace t13 := (h3 13 (by decide)).trans t13
      replace t15 := (h3 15 (by decide)).trans t15
      have t72 : a.eval (.tmp 72) = .bool false := h4 19 _ rfl _ rfl
      replace FI := (FI.on bX)
      replace FF := (FF.on bX)
      replace FG := (FG.on bX)
      replace Fa22 := (Fa22.on bX)
      replace Fo22 := (Fo22.on bX)
      replace Fa29 := (Fa29.on bX)
      replace Fo29 := (Fo29.on bX)
      replace Fd43 := (Fd43.on bX)
      replace Fd50 := (Fd50.on bX)
      have ZX9 := bX.size
      replace BW := BW.trans (bX.mono BW.size)
      clear bX
      replace A := (⟨h1, h2.trans A.2⟩ : a.tmps.size = 117 ∧ a.defers = [])
      clear h1 h2 h3 h4
      clear t14 t16
      refine wp_cond_false t72 ?_
      refine wp_skip ?_
      clear t72
      by_cases hab : ∀ i, i < m → pcF sf J f i = pcF sf J g i
      · by_cases hop : ∀ i, i < m → poF sf J f m i = poF sf J g m i
        · refine wp_seq ?_
          refine wp_seq ?_
          refine wp_region_sq (σ := Unit) 117 [(0, 73), (1, 74), (2, 75), (3, 76), (4, 77), (5, 78), (6, 79), (7, 80), (8, 81), (9, 82), (10, 83), (11, 84), (12, 85), (13, 86), (14, 87), (15, 88), (16, 89), (17, 90), (18, 91), (19, 92), (20, 93), (21, 94), (22, 95), (23, 96), (24, 97), (25, 98), (26, 99), (27, 100), (28, 101), (29, 102), (30, 103), (31, 104)] (fun j_ s X => match j_ with | 0 => Below X9.heap.size X9 X | 1 => Below X9.heap.size X9 X | 2 => Below X9.heap.size X9 X | 3 => Below X9.heap.size X9 X | 4 => Below X9.heap.size X9 X | 5 => Below X9.heap.size X9 X | 6 => Below X9.heap.size X9 X | 7 => Below X9.heap.size X9 X | 8 => Below X9.heap.size X9 X | 9 => Below X9.heap.size X9 X | 10 => Below X9.heap.size X9 X | 11 => Below X9.heap.size X9 X | 12 => Below X9.heap.size X9 X | 13 => Below X9.heap.size X9 X | 14 => Below X9.heap.size X9 X | 15 => Below X9.heap.size X9 X | 16 => Below X9.heap.size X9 X | 17 => Below X9.heap.size X9 X | 18 => Below X9.heap.size X9 X | 19 => Below X9.heap.size X9 X | 20 => Below X9.heap.size X9 X | 21 => Below X9.heap.size X9 X | 22 => Below X9.heap.size X9 X | 23 => Below X9.heap.size X9 X | 24 => Below X9.heap.size X9 X | 25 => Below X9.heap.size X9 X | 26 => Below X9.heap.size X9 X | 27 => Below X9.heap.size X9 X | 28 => Below X9.heap.size X9 X | 29 => Below X9.heap.size X9 X | 30 => Below X9.heap.size X9 X | 31 => Below X9.heap.size X9 X | _ => Below X9.heap.size X9 X) (fun s => fun i_ => match i_ with | 0 => a22 | 1 => a29 | 2 => .bool true | 3 => .bool true | 4 => d43 | 5 => u2 | 6 => .bool true | 7 => .bool false | 8 => .bool false | 9 => d50 | 10 => u1 | 11 => .bool true | 12 => .bool false | 13 => .bool false | 14 => .bool false | 15 => .bool false | 16 => o22 | 17 => o29 | 18 => .bool true | 19 => .bool true | 20 => d43 | 21 => u1 | 22 => .bool true | 23 => .bool false | 24 => .bool false | 25 => d50 | 26 => u2 | 27 => .bool true | 28 => .bool false | 29 => .bool false | 30 => .bool false | 31 => .bool false | _ => undef) () A.1 (by kernel_rfl) (by decide) (by decide) (Below.refl _ _) ?_ ?_
          · intro i_ hi_ s a X hf hv hn hS
            match i_, hi_ with
            | 0, _ => exact stepV rfl rfl (execMvB rfl ((hf 7 (by decide)).trans t7)) ⟨s, ⟨_, rfl, rfl⟩, hS, fun _ _ => rfl⟩
            | 1, _ => exact stepV rfl rfl (execMvB rfl ((hf 10 (by decide)).trans t10)) ⟨s, ⟨_, rfl, rfl⟩, hS, fun _ _ => rfl⟩
            | 2, _ => exact stepC rfl rfl (execCall2 Try.func14 (by kernel_rfl) (by kernel_rfl) rfl (hv 0 (by omega) _ rfl _ rfl) (hv 1 (by omega) _ rfl _ rfl)) (same_t _ _ (m) _ _ X (Fa22.on hS) (Fa29.on hS) (hab) (by omega)) fun e w' hh => ⟨_, hh.1, s, ⟨_, rfl, rfl⟩, (hS).trans ((hh.2).mono (hS).size), fun _ _ => rfl⟩
            | 3, _ => exact stepV rfl rfl (execMvB rfl (hv 2 (by omega) _ rfl _ rfl)) ⟨s, ⟨_, rfl, rfl⟩, hS, fun _ _ => rfl⟩
            | 4, _ => exact stepV rfl (wantedOf rfl (yieldedAt rfl rfl (show a.eval (.tmp 76) = .bool true from (hv 3 (by omega) _ rfl _ rfl)))) (execMvB rfl ((hf 13 (by decide)).trans t13)) ⟨s, ⟨_, rfl, rfl⟩, hS, fun _ _ => rfl⟩
            | 5, _ => exact stepV rfl (wantedOf rfl (yieldedAt rfl rfl (show a.eval (.tmp 76) = .bool true from (hv 3 (by omega) _ rfl _ rfl)))) (execMvB rfl ((hf 2 (by decide)).trans t2)) ⟨s, ⟨_, rfl, rfl⟩, hS, fun _ _ => rfl⟩
            | 6, _ => exact stepC rfl (wantedOf rfl (yieldedAt rfl rfl (show a.eval (.tmp 76) = .bool true from (hv 3 (by omega) _ rfl _ rfl)))) (execCall2 Try.func14 (by kernel_rfl) (by kernel_rfl) rfl (hv 4 (by omega) _ rfl _ rfl) (hv 5 (by omega) _ rfl _ rfl)) (same_t _ _ (m) _ _ X (Fd43.on hS) (FG.on hS) (fun i hi => (dw_cg hp1 hsm hab (fun _ _ => rfl) hi).trans (back_dr h2 hi)) (by omega)) fun e w' hh => ⟨_, hh.1, s, ⟨_, rfl, rfl⟩, (hS).trans ((hh.2).mono (hS).size), fun _ _ => rfl⟩
            | 7, _ => exact stepV rfl (wantedOf rfl (yieldedAt rfl rfl (show a.eval (.tmp 76) = .bool true from (hv 3 (by omega) _ rfl _ rfl)))) (execNot8 rfl (hv 6 (by omega) _ rfl _ rfl)) ⟨s, ⟨_, rfl, rfl⟩, hS, fun _ _ => rfl⟩
            | 8, _ => exact stepV rfl (wantedOf rfl (yieldedAt rfl rfl (show a.eval (.tmp 76) = .bool true from (hv 3 (by omega) _ rfl _ rfl)))) (execMvB rfl (hv 7 (by omega) _ rfl _ rfl)) ⟨s, ⟨_, rfl, rfl⟩, hS, fun _ _ => rfl⟩
            | 9, _ => exact stepV rfl (wantedOf rfl (yieldedAt rfl rfl (show a.eval (.tmp 81) = .bool false from (hv 8 (by omega) _ rfl _ rfl)))) (execMvB rfl ((hf 15 (by decide)).trans t15)) ⟨s, ⟨_, rfl, rfl⟩, hS, fun _ _ => rfl⟩
            | 10, _ => exact stepV rfl (wantedOf rfl (yieldedAt rfl rfl (show a.eval (.tmp 81) = .bool false from (hv 8 (by omega) _ rfl _ rfl)))) (execMvB rfl ((hf 1 (by decide)).trans t1)) ⟨s, ⟨_, rfl, rfl⟩, hS, fun _ _ => rfl⟩
            | 11, _ => exact stepC rfl (wantedOf rfl (yieldedAt rfl rfl (show a.eval (.tmp 81) = .bool false from (hv 8 (by omega) _ rfl _ rfl)))) (execCall2 Try.func14 (by kernel_rfl) (by kernel_rfl) rfl (hv 9 (by omega) _ rfl _ rfl) (hv 10 (by omega) _ rfl _ rfl)) (same_t _ _ (m) _ _ X (Fd50.on hS) (FF.on hS) (fun i hi => (dw_cg hp2 hsm (fun i hi => (hab i hi).symm) (fun _ _ => rfl) hi).trans (back_dr h1 hi)) (by omega)) fun e w' hh => ⟨_, hh.1, s, ⟨_, rfl, rfl⟩, (hS).trans ((hh.2).mono (hS).size), fun _ _ => rfl⟩
            | 12, _ => exact stepV rfl (wantedOf rfl (yieldedAt rfl rfl (show a.eval (.tmp 81) = .bool false from (hv 8 (by omega) _ rfl _ rfl)))) (execNot8 rfl (hv 11 (by omega) _ rfl _ rfl)) ⟨s, ⟨_, rfl, rfl⟩, hS, fun _ _ => rfl⟩
            | 13, _ => exact stepV rfl (wantedOf rfl (yieldedAt rfl rfl (show a.eval (.tmp 76) = .bool true from (hv 3 (by omega) _ rfl _ rfl)))) (execPickF rfl (hv 8 (by omega) _ rfl _ rfl) (hv 12 (by omega) _ rfl _ rfl)) ⟨s, ⟨_, rfl, rfl⟩, hS, fun _ _ => rfl⟩
            | 14, _ => exact stepV rfl rfl (execPickT rfl (hv 3 (by omega) _ rfl _ rfl) (hv 13 (by omega) _ rfl _ rfl)) ⟨s, ⟨_, rfl, rfl⟩, hS, fun _ _ => rfl⟩
            | 15, _ => exact stepV rfl rfl (execMvB rfl (hv 14 (by omega) _ rfl _ rfl)) ⟨s, ⟨_, rfl, rfl⟩, hS, fun _ _ => rfl⟩
            | 16, _ => exact stepV rfl (wantedOf rfl (yieldedAt rfl rfl (show a.eval (.tmp 88) = .bool false from (hv 15 (by omega) _ rfl _ rfl)))) (execMvB rfl ((hf 8 (by decide)).trans t8)) ⟨s, ⟨_, rfl, rfl⟩, hS, fun _ _ => rfl⟩
            | 17, _ => exact stepV rfl (wantedOf rfl (yieldedAt rfl rfl (show a.eval (.tmp 88) = .bool false from (hv 15 (by omega) _ rfl _ rfl)))) (execMvB rfl ((hf 11 (by decide)).trans t11)) ⟨s, ⟨_, rfl, rfl⟩, hS, fun _ _ => rfl⟩
            | 18, _ => exact stepC rfl (wantedOf rfl (yieldedAt rfl rfl (show a.eval (.tmp 88) = .bool false from (hv 15 (by omega) _ rfl _ rfl)))) (execCall2 Try.func14 (by kernel_rfl) (by kernel_rfl) rfl (hv 16 (by omega) _ rfl _ rfl) (hv 17 (by omega) _ rfl _ rfl)) (same_t _ _ (m) _ _ X (Fo22.on hS) (Fo29.on hS) (hop) (by omega)) fun e w' hh => ⟨_, hh.1, s, ⟨_, rfl, rfl⟩, (hS).trans ((hh.2).mono (hS).size), fun _ _ => rfl⟩
            | 19, _ => exact stepV rfl (wantedOf rfl (yieldedAt rfl rfl (show a.eval (.tmp 88) = .bool false from (hv 15 (by omega) _ rfl _ rfl)))) (execMvB rfl (hv 18 (by omega) _ rfl _ rfl)) ⟨s, ⟨_, rfl, rfl⟩, hS, fun _ _ => rfl⟩
            | 20, _ => exact stepV rfl (wantedOf rfl (yieldedAt rfl rfl (show a.eval (.tmp 92) = .bool true from (hv 19 (by omega) _ rfl _ rfl)))) (execMvB rfl ((hf 13 (by decide)).trans t13)) ⟨s, ⟨_, rfl, rfl⟩, hS, fun _ _ => rfl⟩
            | 21, _ => exact stepV rfl (wantedOf rfl (yieldedAt rfl rfl (show a.eval (.tmp 92) = .bool true from (hv 19 (by omega) _ rfl _ rfl)))) (execMvB rfl ((hf 1 (by decide)).trans t1)) ⟨s, ⟨_, rfl, rfl⟩, hS, fun _ _ => rfl⟩
            | 22, _ => exact stepC rfl (wantedOf rfl (yieldedAt rfl rfl (show a.eval (.tmp 92) = .bool true from (hv 19 (by omega) _ rfl _ rfl)))) (execCall2 Try.func14 (by kernel_rfl) (by kernel_rfl) rfl (hv 20 (by omega) _ rfl _ rfl) (hv 21 (by omega) _ rfl _ rfl)) (same_t _ _ (m) _ _ X (Fd43.on hS) (FF.on hS) (fun i hi => (dw_cg hp1 hsm (fun _ _ => rfl) (fun i hi => (hop i hi).symm) hi).trans (back_dr h1 hi)) (by omega)) fun e w' hh => ⟨_, hh.1, s, ⟨_, rfl, rfl⟩, (hS).trans ((hh.2).mono (hS).size), fun _ _ => rfl⟩
            | 23, _ => exact stepV rfl (wantedOf rfl (yieldedAt rfl rfl (show a.eval (.tmp 92) = .bool true from (hv 19 (by omega) _ rfl _ rfl)))) (execNot8 rfl (hv 22 (by omega) _ rfl _ rfl)) ⟨s, ⟨_, rfl, rfl⟩, hS, fun _ _ => rfl⟩
            | 24, _ => exact stepV rfl (wantedOf rfl (yieldedAt rfl rfl (show a.eval (.tmp 92) = .bool true from (hv 19 (by omega) _ rfl _ rfl)))) (execMvB rfl (hv 23 (by omega) _ rfl _ rfl)) ⟨s, ⟨_, rfl, rfl⟩, hS, fun _ _ => rfl⟩
            | 25, _ => exact stepV rfl (wantedOf rfl (yieldedAt rfl rfl (show a.eval (.tmp 97) = .bool false from (hv 24 (by omega) _ rfl _ rfl)))) (execMvB rfl ((hf 15 (by decide)).trans t15)) ⟨s, ⟨_, rfl, rfl⟩, hS, fun _ _ => rfl⟩
            | 26, _ => exact stepV rfl (wantedOf rfl (yieldedAt rfl rfl (show a.eval (.tmp 97) = .bool false from (hv 24 (by omega) _ rfl _ rfl)))) (execMvB rfl ((hf 2 (by decide)).trans t2)) ⟨s, ⟨_, rfl, rfl⟩, hS, fun _ _ => rfl⟩
            | 27, _ => exact stepC rfl (wantedOf rfl (yieldedAt rfl rfl (show a.eval (.tmp 97) = .bool false from (hv 24 (by omega) _ rfl _ rfl)))) (execCall2 Try.func14 (by kernel_rfl) (by kernel_rfl) rfl (hv 25 (by omega) _ rfl _ rfl) (hv 26 (by omega) _ rfl _ rfl)) (same_t _ _ (m) _ _ X (Fd50.on hS) (FG.on hS) (fun i hi => (dw_cg hp2 hsm (fun _ _ => rfl) hop hi).trans (back_dr h2 hi)) (by omega)) fun e w' hh => ⟨_, hh.1, s, ⟨_, rfl, rfl⟩, (hS).trans ((hh.2).mono (hS).size), fun _ _ => rfl⟩
            | 28, _ => exact stepV rfl (wantedOf rfl (yieldedAt rfl rfl (show a.eval (.tmp 97) = .bool false from (hv 24 (by omega) _ rfl _ rfl)))) (execNot8 rfl (hv 27 (by omega) _ rfl _ rfl)) ⟨s, ⟨_, rfl, rfl⟩, hS, fun _ _ => rfl⟩
            | 29, _ => exact stepV rfl (wantedOf rfl (yieldedAt rfl rfl (show a.eval (.tmp 92) = .bool true from (hv 19 (by omega) _ rfl _ rfl)))) (execPickF rfl (hv 24 (by omega) _ rfl _ rfl) (hv 28 (by omega) _ rfl _ rfl)) ⟨s, ⟨_, rfl, rfl⟩, hS, fun _ _ => rfl⟩
            | 30, _ => exact stepV rfl (wantedOf rfl (yieldedAt rfl rfl (show a.eval (.tmp 88) = .bool false from (hv 15 (by omega) _ rfl _ rfl)))) (execPickT rfl (hv 19 (by omega) _ rfl _ rfl) (hv 29 (by omega) _ rfl _ rfl)) ⟨s, ⟨_, rfl, rfl⟩, hS, fun _ _ => rfl⟩
            | 31, _ => exact stepV rfl rfl (execPickF rfl (hv 15 (by omega) _ rfl _ rfl) (hv 30 (by omega) _ rfl _ rfl)) ⟨s, ⟨_, rfl, rfl⟩, hS, fun _ _ => rfl⟩
            | k_ + 32, h_ => exact absurd h_ (by simp)
          rintro _ a X11 h1 h2 h3 h4 hS
          replace hS : Below X9.heap.size X9 X11 := hS
          have bX := hS
          clear hS
          replace t7 := (h3 7 (by decide)).trans t7
          replace t8 := (h3 8 (by decide)).trans t8
          replace t10 := (h3 10 (by decide)).trans t10
          replace t11 := (h3 11 (by decide)).trans t11
          replace t13 := (h3 13 (by decide)).trans t13
          replace t15 := (h3 15 (by decide)).trans t15
          have t104 : a.eval (.tmp 104) = .bool false := h4 31 _ rfl _ rfl
          replace FI := (FI.on bX)
          replace FF := (FF.on bX)
          replace FG := (FG.on bX)
          replace Fa22 := (Fa22.on bX)
          replace Fo22 := (Fo22.on bX)
          replace Fa29 := (Fa29.on bX)
          replace Fo29 := (Fo29.on bX)
          replace Fd43 := (Fd43.on bX)
          replace Fd50 := (Fd50.on bX)
          have ZX11 := bX.size
          replace BW := BW.trans (bX.mono BW.size)
          clear bX
          replace A := (⟨h1, h2.trans A.2⟩ : a.tmps.size = 117 ∧ a.defers = [])
          clear h1 h2 h3 h4
          clear t1 t2
          refine wp_cond_false t104 ?_
          refine wp_skip ?_
          clear t104
          refine wp_seq ?_
          refine wp_region_sq (σ := Unit) 117 [(0, 105), (1, 106), (2, 107), (3, 108), (4, 109), (5, 110), (6, 111), (7, 112), (8, 113), (9, 114), (10, 115), (11, 116), (12, 6)] (fun j_ s X => match j_ with | 0 => Below X11.heap.size X11 X | 1 => Below X11.heap.size X11 X | 2 => Below X11.heap.size X11 X | 3 => Below X11.heap.size X11 X | 4 => Below X11.heap.size X11 X | 5 => Below X11.heap.size X11 X | 6 => Below X11.heap.size X11 X | 7 => Below X11.heap.size X11 X | 8 => Below X11.heap.size X11 X | 9 => Below X11.heap.size X11 X | 10 => Below X11.heap.size X11 X | 11 => Below X11.heap.size X11 X | 12 => Below X11.heap.size X11 X | _ => Below X11.heap.size X11 X) (fun s => fun i_ => match i_ with | 0 => d43 | 1 => d50 | 2 => .bool true | 3 => a22 | 4 => a29 | 5 => .bool true | 6 => .bool true | 7 => o22 | 8 => o29 | 9 => .bool true | 10 => .bool true | 11 => .bool true | 12 => .bool true | _ => undef) () A.1 (by kernel_rfl) (by decide) (by decide) (Below.refl _ _) ?_ ?_
          · intro i_ hi_ s a X hf hv hn hS
            match i_, hi_ with
            | 0, _ => exact stepV rfl rfl (execMvB rfl ((hf 13 (by decide)).trans t13)) ⟨s, ⟨_, rfl, rfl⟩, hS, fun _ _ => rfl⟩
            | 1, _ => exact stepV rfl rfl (execMvB rfl ((hf 15 (by decide)).trans t15)) ⟨s, ⟨_, rfl, rfl⟩, hS, fun _ _ => rfl⟩
            | 2, _ => exact stepC rfl rfl (execCall2 Try.func14 (by kernel_rfl) (by kernel_rfl) rfl (hv 0 (by omega) _ rfl _ rfl) (hv 1 (by omega) _ rfl _ rfl)) (same_t _ _ (m) _ _ X (Fd43.on hS) (Fd50.on hS) (fun i hi => ((dw_cg hp1 hsm (fun _ _ => rfl) (fun i hi => (hop i hi).symm) hi).trans (back_dr h1 hi)).trans ((dw_cg hp2 hsm (fun i hi => (hab i hi).symm) (fun _ _ => rfl) hi).trans (back_dr h1 hi)).symm) (by omega)) fun e w' hh => ⟨_, hh.1, s, ⟨_, rfl, rfl⟩, (hS).trans ((hh.2).mono (hS).size), fun _ _ => rfl⟩
            | 3, _ => exact stepV rfl rfl (execMvB rfl ((hf 7 (by decide)).trans t7)) ⟨s, ⟨_, rfl, rfl⟩, hS, fun _ _ => rfl⟩
            | 4, _ => exact stepV rfl rfl (execMvB rfl ((hf 10 (by decide)).trans t10)) ⟨s, ⟨_, rfl, rfl⟩, hS, fun _ _ => rfl⟩
            | 5, _ => exact stepC rfl rfl (execCall2 Try.func14 (by kernel_rfl) (by kernel_rfl) rfl (hv 3 (by omega) _ rfl _ rfl) (hv 4 (by omega) _ rfl _ rfl)) (same_t _ _ (m) _ _ X (Fa22.on hS) (Fa29.on hS) (hab) (by omega)) fun e w' hh => ⟨_, hh.1, s, ⟨_, rfl, rfl⟩, (hS).trans ((hh.2).mono (hS).size), fun _ _ => rfl⟩
            | 6, _ => exact stepV rfl rfl (execMvB rfl (hv 5 (by omega) _ rfl _ rfl)) ⟨s, ⟨_, rfl, rfl⟩, hS, fun _ _ => rfl⟩
            | 7, _ => exact stepV rfl (wantedOf rfl (yieldedAt rfl rfl (show a.eval (.tmp 111) = .bool true from (hv 6 (by omega) _ rfl _ rfl)))) (execMvB rfl ((hf 8 (by decide)).trans t8)) ⟨s, ⟨_, rfl, rfl⟩, hS, fun _ _ => rfl⟩
            | 8, _ => exact stepV rfl (wantedOf rfl (yieldedAt rfl rfl (show a.eval (.tmp 111) = .bool true from (hv 6 (by omega) _ rfl _ rfl)))) (execMvB rfl ((hf 11 (by decide)).trans t11)) ⟨s, ⟨_, rfl, rfl⟩, hS, fun _ _ => rfl⟩
            | 9, _ => exact stepC rfl (wantedOf rfl (yieldedAt rfl rfl (show a.eval (.tmp 111) = .bool true from (hv 6 (by omega) _ rfl _ rfl)))) (execCall2 Try.func14 (by kernel_rfl) (by kernel_rfl) rfl (hv 7 (by omega) _ rfl _ rfl) (hv 8 (by omega) _ rfl _ rfl)) (same_t _ _ (m) _ _ X (Fo22.on hS) (Fo29.on hS) (hop) (by omega)) fun e w' hh => ⟨_, hh.1, s, ⟨_, rfl, rfl⟩, (hS).trans ((hh.2).mono (hS).size), fun _ _ => rfl⟩
            | 10, _ => exact stepV rfl rfl (execPickT rfl (hv 6 (by omega) _ rfl _ rfl) (hv 9 (by omega) _ rfl _ rfl)) ⟨s, ⟨_, rfl, rfl⟩, hS, fun _ _ => rfl⟩
            | 11, _ => exact stepV rfl rfl (execEqBB rfl (hv 2 (by omega) _ rfl _ rfl) (hv 10 (by omega) _ rfl _ rfl)) ⟨s, ⟨_, rfl, rfl⟩, hS, fun _ _ => rfl⟩
            | 12, _ => exact stepV rfl rfl (execAsgB rfl (hv 11 (by omega) _ rfl _ rfl)) ⟨s, ⟨_, rfl, rfl⟩, hS, fun _ _ => rfl⟩
            | k_ + 13, h_ => exact absurd h_ (by simp)
          rintro _ a X13 h1 h2 h3 h4 hS
          replace hS : Below X11.heap.size X11 X13 := hS
          have bX := hS
          clear hS
          have t6 : a.eval (.tmp 6) = .bool true := h4 12 _ rfl _ rfl
          replace FI := (FI.on bX)
          replace FF := (FF.on bX)
          replace FG := (FG.on bX)
          replace Fa22 := (Fa22.on bX)
          replace Fo22 := (Fo22.on bX)
          replace Fa29 := (Fa29.on bX)
          replace Fo29 := (Fo29.on bX)
          replace Fd43 := (Fd43.on bX)
          replace Fd50 := (Fd50.on bX)
          have ZX13 := bX.size
          replace BW := BW.trans (bX.mono BW.size)
          clear bX
          replace A := (⟨h1, h2.trans A.2⟩ : a.tmps.size = 117 ∧ a.defers = [])
          clear h1 h2 h3 h4
          clear t7 t8 t10 t11 t13 t15
          refine wp_ret ?_
          repeat (first | refine ret_in ?_ | refine ret_then ?_)
          refine bodyPost_ret (results_tmp rfl _ _ _) A.2 ⟨?_, BW⟩
          show Ending.returned (a.eval (.tmp 6)) = _
          rw [t6]
        · refine wp_seq ?_
          refine wp_seq ?_
          refine wp_region_sq (σ := Unit) 117 [(0, 73), (1, 74), (2, 75), (3, 76), (4, 77), (5, 78), (6, 79), (7, 80), (8, 81), (9, 82), (10, 83), (11, 84), (12, 85), (13, 86), (14, 87), (15, 88), (16, 89), (17, 90), (18, 91), (19, 92), (20, 93), (21, 94), (22, 95), (23, 96), (24, 97), (25, 98), (26, 99), (27, 100), (28, 101), (29, 102), (30, 103), (31, 104)] (fun j_ s X => match j_ with | 0 => Below X9.heap.size X9 X | 1 => Below X9.heap.size X9 X | 2 => Below X9.heap.size X9 X | 3 => Below X9.heap.size X9 X | 4 => Below X9.heap.size X9 X | 5 => Below X9.heap.size X9 X | 6 => Below X9.heap.size X9 X | 7 => Below X9.heap.size X9 X | 8 => Below X9.heap.size X9 X | 9 => Below X9.heap.size X9 X | 10 => Below X9.heap.size X9 X | 11 => Below X9.heap.size X9 X | 12 => Below X9.heap.size X9 X | 13 => Below X9.heap.size X9 X | 14 => Below X9.heap.size X9 X | 15 => Below X9.heap.size X9 X | 16 => Below X9.heap.size X9 X | 17 => Below X9.heap.size X9 X | 18 => Below X9.heap.size X9 X | 19 => Below X9.heap.size X9 X | 20 => Below X9.heap.size X9 X | 21 => Below X9.heap.size X9 X | 22 => Below X9.heap.size X9 X | 23 => Below X9.heap.size X9 X | 24 => Below X9.heap.size X9 X | 25 => Below X9.heap.size X9 X | 26 => Below X9.heap.size X9 X | 27 => Below X9.heap.size X9 X | 28 => Below X9.heap.size X9 X | 29 => Below X9.heap.size X9 X | 30 => Below X9.heap.size X9 X | 31 => Below X9.heap.size X9 X | _ => Below X9.heap.size X9 X) (fun s => fun i_ => match i_ with | 0 => a22 | 1 => a29 | 2 => .bool true | 3 => .bool true | 4 => d43 | 5 => u2 | 6 => .bool true | 7 => .bool false | 8 => .bool false | 9 => d50 | 10 => u1 | 11 => .bool true | 12 => .bool false | 13 => .bool false | 14 => .bool false | 15 => .bool false | 16 => o22 | 17 => o29 | 18 => .bool false | 19 => .bool false | 20 => undef | 21 => undef | 22 => undef | 23 => undef | 24 => undef | 25 => undef | 26 => undef | 27 => undef | 28 => undef | 29 => undef | 30 => .bool false | 31 => .bool false | _ => undef) () A.1 (by kernel_rfl) (by decide) (by decide) (Below.refl _ _) ?_ ?_
          · intro i_ hi_ s a X hf hv hn hS
            match i_, hi_ with
            | 0, _ => exact stepV rfl rfl (execMvB rfl ((hf 7 (by decide)).trans t7)) ⟨s, ⟨_, rfl, rfl⟩, hS, fun _ _ => rfl⟩
            | 1, _ => exact stepV rfl rfl (execMvB rfl ((hf 10 (by decide)).trans t10)) ⟨s, ⟨_, rfl, rfl⟩, hS, fun _ _ => rfl⟩
            | 2, _ => exact stepC rfl rfl (execCall2 Try.func14 (by kernel_rfl) (by kernel_rfl) rfl (hv 0 (by omega) _ rfl _ rfl) (hv 1 (by omega) _ rfl _ rfl)) (same_t _ _ (m) _ _ X (Fa22.on hS) (Fa29.on hS) (hab) (by omega)) fun e w' hh => ⟨_, hh.1, s, ⟨_, rfl, rfl⟩, (hS).trans ((hh.2).mono (hS).size), fun _ _ => rfl⟩
            | 3, _ => exact stepV rfl rfl (execMvB rfl (hv 2 (by omega) _ rfl _ rfl)) ⟨s, ⟨_, rfl, rfl⟩, hS, fun _ _ => rfl⟩
            | 4, _ => exact stepV rfl (wantedOf rfl (yieldedAt rfl rfl (show a.eval (.tmp 76) = .bool true from (hv 3 (by omega) _ rfl _ rfl)))) (execMvB rfl ((hf 13 (by decide)).trans t13)) ⟨s, ⟨_, rfl, rfl⟩, hS, fun _ _ => rfl⟩
            | 5, _ => exact stepV rfl (wantedOf rfl (yieldedAt rfl rfl (show a.eval (.tmp 76) = .bool true from (hv 3 (by omega) _ rfl _ rfl)))) (execMvB rfl ((hf 2 (by decide)).trans t2)) ⟨s, ⟨_, rfl, rfl⟩, hS, fun _ _ => rfl⟩
            | 6, _ => exact stepC rfl (wantedOf rfl (yieldedAt rfl rfl (show a.eval (.tmp 76) = .bool true from (hv 3 (by omega) _ rfl _ rfl)))) (execCall2 Try.func14 (by kernel_rfl) (by kernel_rfl) rfl (hv 4 (by omega) _ rfl _ rfl) (hv 5 (by omega) _ rfl _ rfl)) (same_t _ _ (m) _ _ X (Fd43.on hS) (FG.on hS) (fun i hi => (dw_cg hp1 hsm hab (fun _ _ => rfl) hi).trans (back_dr h2 hi)) (by omega)) fun e w' hh => ⟨_, hh.1, s, ⟨_, rfl, rfl⟩, (hS).trans ((hh.2).mono (hS).size), fun _ _ => rfl⟩
            | 7, _ => exact stepV rfl (wantedOf rfl (yieldedAt rfl rfl (show a.eval (.tmp 76) = .bool true from (hv 3 (by omega) _ rfl _ rfl)))) (execNot8 rfl (hv 6 (by omega) _ rfl _ rfl)) ⟨s, ⟨_, rfl, rfl⟩, hS, fun _ _ => rfl⟩
            | 8, _ => exact stepV rfl (wantedOf rfl (yieldedAt rfl rfl (show a.eval (.tmp 76) = .bool true from (hv 3 (by omega) _ rfl _ rfl)))) (execMvB rfl (hv 7 (by omega) _ rfl _ rfl)) ⟨s, ⟨_, rfl, rfl⟩, hS, fun _ _ => rfl⟩
            | 9, _ => exact stepV rfl (wantedOf rfl (yieldedAt rfl rfl (show a.eval (.tmp 81) = .bool false from (hv 8 (by omega) _ rfl _ rfl)))) (execMvB rfl ((hf 15 (by decide)).trans t15)) ⟨s, ⟨_, rfl, rfl⟩, hS, fun _ _ => rfl⟩
            | 10, _ => exact stepV rfl (wantedOf rfl (yieldedAt rfl rfl (show a.eval (.tmp 81) = .bool false from (hv 8 (by omega) _ rfl _ rfl)))) (execMvB rfl ((hf 1 (by decide)).trans t1)) ⟨s, ⟨_, rfl, rfl⟩, hS, fun _ _ => rfl⟩
            | 11, _ => exact stepC rfl (wantedOf rfl (yieldedAt rfl rfl (show a.eval (.tmp 81) = .bool false from (hv 8 (by omega) _ rfl _ rfl)))) (execCall2 Try.func14 (by kernel_rfl) (by kernel_rfl) rfl (hv 9 (by omega) _ rfl _ rfl) (hv 10 (by omega) _ rfl _ rfl)) (same_t _ _ (m) _ _ X (Fd50.on hS) (FF.on hS) (fun i hi => (dw_cg hp2 hsm (fun i hi => (hab i hi).symm) (fun _ _ => rfl) hi).trans (back_dr h1 hi)) (by omega)) fun e w' hh => ⟨_, hh.1, s, ⟨_, rfl, rfl⟩, (hS).trans ((hh.2).mono (hS).size), fun _ _ => rfl⟩
            | 12, _ => exact stepV rfl (wantedOf rfl (yieldedAt rfl rfl (show a.eval (.tmp 81) = .bool false from (hv 8 (by omega) _ rfl _ rfl)))) (execNot8 rfl (hv 11 (by omega) _ rfl _ rfl)) ⟨s, ⟨_, rfl, rfl⟩, hS, fun _ _ => rfl⟩
            | 13, _ => exact stepV rfl (wantedOf rfl (yieldedAt rfl rfl (show a.eval (.tmp 76) = .bool true from (hv 3 (by omega) _ rfl _ rfl)))) (execPickF rfl (hv 8 (by omega) _ rfl _ rfl) (hv 12 (by omega) _ rfl _ rfl)) ⟨s, ⟨_, rfl, rfl⟩, hS, fun _ _ => rfl⟩
            | 14, _ => exact stepV rfl rfl (execPickT rfl (hv 3 (by omega) _ rfl _ rfl) (hv 13 (by omega) _ rfl _ rfl)) ⟨s, ⟨_, rfl, rfl⟩, hS, fun _ _ => rfl⟩
            | 15, _ => exact stepV rfl rfl (execMvB rfl (hv 14 (by omega) _ rfl _ rfl)) ⟨s, ⟨_, rfl, rfl⟩, hS, fun _ _ => rfl⟩
            | 16, _ => exact stepV rfl (wantedOf rfl (yieldedAt rfl rfl (show a.eval (.tmp 88) = .bool false from (hv 15 (by omega) _ rfl _ rfl)))) (execMvB rfl ((hf 8 (by decide)).trans t8)) ⟨s, ⟨_, rfl, rfl⟩, hS, fun _ _ => rfl⟩
            | 17, _ => exact stepV rfl (wantedOf rfl (yieldedAt rfl rfl (show a.eval (.tmp 88) = .bool false from (hv 15 (by omega) _ rfl _ rfl)))) (execMvB rfl ((hf 11 (by decide)).trans t11)) ⟨s, ⟨_, rfl, rfl⟩, hS, fun _ _ => rfl⟩
            | 18, _ => exact stepC rfl (wantedOf rfl (yieldedAt rfl rfl (show a.eval (.tmp 88) = .bool false from (hv 15 (by omega) _ rfl _ rfl)))) (execCall2 Try.func14 (by kernel_rfl) (by kernel_rfl) rfl (hv 16 (by omega) _ rfl _ rfl) (hv 17 (by omega) _ rfl _ rfl)) (same_f _ _ (m) (m) _ _ X (Fo22.on hS) (Fo29.on hS) (fun q => hop q.2) (by omega)) fun e w' hh => ⟨_, hh.1, s, ⟨_, rfl, rfl⟩, (hS).trans ((hh.2).mono (hS).size), fun _ _ => rfl⟩
            | 19, _ => exact stepV rfl (wantedOf rfl (yieldedAt rfl rfl (show a.eval (.tmp 88) = .bool false from (hv 15 (by omega) _ rfl _ rfl)))) (execMvB rfl (hv 18 (by omega) _ rfl _ rfl)) ⟨s, ⟨_, rfl, rfl⟩, hS, fun _ _ => rfl⟩
            | 20, _ => exact stepU rfl (unwantedOf rfl (yieldedAt rfl rfl (show a.eval (.tmp 92) = .bool (!true) from (hv 19 (by omega) _ rfl _ rfl)))) ⟨s, ⟨_, rfl, rfl⟩, hS, fun _ _ => rfl⟩
            | 21, _ => exact stepU rfl (unwantedOf rfl (yieldedAt rfl rfl (show a.eval (.tmp 92) = .bool (!true) from (hv 19 (by omega) _ rfl _ rfl)))) ⟨s, ⟨_, rfl, rfl⟩, hS, fun _ _ => rfl⟩
            | 22, _ => exact stepU rfl (unwantedOf rfl (yieldedAt rfl rfl (show a.eval (.tmp 92) = .bool (!true) from (hv 19 (by omega) _ rfl _ rfl)))) ⟨s, ⟨_, rfl, rfl⟩, hS, fun _ _ => rfl⟩
            | 23, _ => exact stepU rfl (unwantedOf rfl (yieldedAt rfl rfl (show a.eval (.tmp 92) = .bool (!true) from (hv 19 (by omega) _ rfl _ rfl)))) ⟨s, ⟨_, rfl, rfl⟩, hS, fun _ _ => rfl⟩
            | 24, _ => exact stepU rfl (unwantedOf rfl (yieldedAt rfl rfl (show a.eval (.tmp 92) = .bool (!true) from (hv 19 (by omega) _ rfl _ rfl)))) ⟨s, ⟨_, rfl, rfl⟩, hS, fun _ _ => rfl⟩
            | 25, _ => exact stepU rfl (unwantedNo rfl (yieldedNo rfl rfl (show a.eval (.tmp 97) = undef from (hv 24 (by omega) _ rfl _ rfl)))) ⟨s, ⟨_, rfl, rfl⟩, hS, fun _ _ => rfl⟩
            | 26, _ => exact stepU rfl (unwantedNo rfl (yieldedNo rfl rfl (show a.eval (.tmp 97) = undef from (hv 24 (by omega) _ rfl _ rfl)))) ⟨s, ⟨_, rfl, rfl⟩, hS, fun _ _ => rfl⟩
            | 27, _ => exact stepU rfl (unwantedNo rfl (yieldedNo rfl rfl (show a.eval (.tmp 97) = undef from (hv 24 (by omega) _ rfl _ rfl)))) ⟨s, ⟨_, rfl, rfl⟩, hS, fun _ _ => rfl⟩
            | 28, _ => exact stepU rfl (unwantedNo rfl (yieldedNo rfl rfl (show a.eval (.tmp 97) = undef from (hv 24 (by omega) _ rfl _ rfl)))) ⟨s, ⟨_, rfl, rfl⟩, hS, fun _ _ => rfl⟩
            | 29, _ => exact stepU rfl (unwantedOf rfl (yieldedAt rfl rfl (show a.eval (.tmp 92) = .bool (!true) from (hv 19 (by omega) _ rfl _ rfl)))) ⟨s, ⟨_, rfl, rfl⟩, hS, fun _ _ => rfl⟩
            | 30, _ => exact stepV rfl (wantedOf rfl (yieldedAt rfl rfl (show a.eval (.tmp 88) = .bool false from (hv 15 (by omega) _ rfl _ rfl)))) (execPickF rfl (hv 19 (by omega) _ rfl _ rfl) rfl) ⟨s, ⟨_, rfl, rfl⟩, hS, fun _ _ => rfl⟩
            | 31, _ => exact stepV rfl rfl (execPickF rfl (hv 15 (by omega) _ rfl _ rfl) (hv 30 (by omega) _ rfl _ rfl)) ⟨s, ⟨_, rfl, rfl⟩, hS, fun _ _ => rfl⟩
            | k_ + 32, h_ => exact absurd h_ (by simp)
          rintro _ a X11 h1 h2 h3 h4 hS
          replace hS : Below X9.heap.size X9 X11 := hS
          have bX := hS
          clear hS
          replace t7 := (h3 7 (by decide)).trans t7
          replace t8 := (h3 8 (by decide)).trans t8
          replace t10 := (h3 10 (by decide)).trans t10
          replace t11 := (h3 11 (by decide)).trans t11
          replace t13 := (h3 13 (by decide)).trans t13
          replace t15 := (h3 15 (by decide)).trans t15
          have t104 : a.eval (.tmp 104) = .bool false := h4 31 _ rfl _ rfl
          replace FI := (FI.on bX)
          replace FF := (FF.on bX)
          replace FG := (FG.on bX)
          replace Fa22 := (Fa22.on bX)
          replace Fo22 := (Fo22.on bX)
          replace Fa29 := (Fa29.on bX)
          replace Fo29 := (Fo29.on bX)
          replace Fd43 := (Fd43.on bX)
          replace Fd50 := (Fd50.on bX)
          have ZX11 := bX.size
          replace BW := BW.trans (bX.mono BW.size)
          clear bX
          replace A := (⟨h1, h2.trans A.2⟩ : a.tmps.size = 117 ∧ a.defers = [])
          clear h1 h2 h3 h4
          clear t1 t2
          refine wp_cond_false t104 ?_
          refine wp_skip ?_
          clear t104
          refine wp_seq ?_
          refine wp_region_sq (σ := Unit) 117 [(0, 105), (1, 106), (2, 107), (3, 108), (4, 109), (5, 110), (6, 111), (7, 112), (8, 113), (9, 114), (10, 115), (11, 116), (12, 6)] (fun j_ s X => match j_ with | 0 => Below X11.heap.size X11 X | 1 => Below X11.heap.size X11 X | 2 => Below X11.heap.size X11 X | 3 => Below X11.heap.size X11 X | 4 => Below X11.heap.size X11 X | 5 => Below X11.heap.size X11 X | 6 => Below X11.heap.size X11 X | 7 => Below X11.heap.size X11 X | 8 => Below X11.heap.size X11 X | 9 => Below X11.heap.size X11 X | 10 => Below X11.heap.size X11 X | 11 => Below X11.heap.size X11 X | 12 => Below X11.heap.size X11 X | _ => Below X11.heap.size X11 X) (fun s => fun i_ => match i_ with | 0 => d43 | 1 => d50 | 2 => .bool false | 3 => a22 | 4 => a29 | 5 => .bool true | 6 => .bool true | 7 => o22 | 8 => o29 | 9 => .bool false | 10 => .bool false | 11 => .bool true | 12 => .bool true | _ => undef) () A.1 (by kernel_rfl) (by decide) (by decide) (Below.refl _ _) ?_ ?_
          · intro i_ hi_ s a X hf hv hn hS
            match i_, hi_ with
            | 0, _ => exact stepV rfl rfl (execMvB rfl ((hf 13 (by decide)).trans t13)) ⟨s, ⟨_, rfl, rfl⟩, hS, fun _ _ => rfl⟩
            | 1, _ => exact stepV rfl rfl (execMvB rfl ((hf 15 (by decide)).trans t15)) ⟨s, ⟨_, rfl, rfl⟩, hS, fun _ _ => rfl⟩
            | 2, _ => exact stepC rfl rfl (execCall2 Try.func14 (by kernel_rfl) (by kernel_rfl) rfl (hv 0 (by omega) _ rfl _ rfl) (hv 1 (by omega) _ rfl _ rfl)) (same_f _ _ (m) (m) _ _ X (Fd43.on hS) (Fd50.on hS) (fun q => hop fun i hi => (hy2 i hi).symm.trans ((po_cg q.2 hi).symm.trans (hx2 i hi))) (by omega)) fun e w' hh => ⟨_, hh.1, s, ⟨_, rfl, rfl⟩, (hS).trans ((hh.2).mono (hS).size), fun _ _ => rfl⟩
            | 3, _ => exact stepV rfl rfl (execMvB rfl ((hf 7 (by decide)).trans t7)) ⟨s, ⟨_, rfl, rfl⟩, hS, fun _ _ => rfl⟩
            | 4, _ => exact stepV rfl rfl (execMvB rfl ((hf 10 (by decide)).trans t10)) ⟨s, ⟨_, rfl, rfl⟩, hS, fun _ _ => rfl⟩
            | 5, _ => exact stepC rfl rfl (execCall2 Try.func14 (by kernel_rfl) (by kernel_rfl) rfl (hv 3 (by omega) _ rfl _ rfl) (hv 4 (by omega) _ rfl _ rfl)) (same_t _ _ (m) _ _ X (Fa22.on hS) (Fa29.on hS) (hab) (by omega)) fun e w' hh => ⟨_, hh.1, s, ⟨_, rfl, rfl⟩, (hS).trans ((hh.2).mono (hS).size), fun _ _ => rfl⟩
            | 6, _ => exact stepV rfl rfl (execMvB rfl (hv 5 (by omega) _ rfl _ rfl)) ⟨s, ⟨_, rfl, rfl⟩, hS, fun _ _ => rfl⟩
            | 7, _ => exact stepV rfl (wantedOf rfl (yieldedAt rfl rfl (show a.eval (.tmp 111) = .bool true from (hv 6 (by omega) _ rfl _ rfl)))) (execMvB rfl ((hf 8 (by decide)).trans t8)) ⟨s, ⟨_, rfl, rfl⟩, hS, fun _ _ => rfl⟩
            | 8, _ => exact stepV rfl (wantedOf rfl (yieldedAt rfl rfl (show a.eval (.tmp 111) = .bool true from (hv 6 (by omega) _ rfl _ rfl)))) (execMvB rfl ((hf 11 (by decide)).trans t11)) ⟨s, ⟨_, rfl, rfl⟩, hS, fun _ _ => rfl⟩
            | 9, _ => exact stepC rfl (wantedOf rfl (yieldedAt rfl rfl (show a.eval (.tmp 111) = .bool true from (hv 6 (by omega) _ rfl _ rfl)))) (execCall2 Try.func14 (by kernel_rfl) (by kernel_rfl) rfl (hv 7 (by omega) _ rfl _ rfl) (hv 8 (by omega) _ rfl _ rfl)) (same_f _ _ (m) (m) _ _ X (Fo22.on hS) (Fo29.on hS) (fun q => hop q.2) (by omega)) fun e w' hh => ⟨_, hh.1, s, ⟨_, rfl, rfl⟩, (hS).trans ((hh.2).mono (hS).size), fun _ _ => rfl⟩
            | 10, _ => exact stepV rfl rfl (execPickT rfl (hv 6 (by omega) _ rfl _ rfl) (hv 9 (by omega) _ rfl _ rfl)) ⟨s, ⟨_, rfl, rfl⟩, hS, fun _ _ => rfl⟩
            | 11, _ => exact stepV rfl rfl (execEqBB rfl (hv 2 (by omega) _ rfl _ rfl) (hv 10 (by omega) _ rfl _ rfl)) ⟨s, ⟨_, rfl, rfl⟩, hS, fun _ _ => rfl⟩
            | 12, _ => exact stepV rfl rfl (execAsgB rfl (hv 11 (by omega) _ rfl _ rfl)) ⟨s, ⟨_, rfl, rfl⟩, hS, fun _ _ => rfl⟩
            | k_ + 13, h_ => exact absurd h_ (by simp)
          rintro _ a X13 h1 h2 h3 h4 hS
          replace hS : Below X11.heap.size X11 X13 := hS
          have bX := hS
          clear hS
          have t6 : a.eval (.tmp 6) = .bool true := h4 12 _ rfl _ rfl
          replace FI := (FI.on bX)
          replace FF := (FF.on bX)
          replace FG := (FG.on bX)
          replace Fa22 := (Fa22.on bX)
          replace Fo22 := (Fo22.on bX)
          replace Fa29 := (Fa29.on bX)
          replace Fo29 := (Fo29.on bX)
          replace Fd43 := (Fd43.on bX)
          replace Fd50 := (Fd50.on bX)
          have ZX13 := bX.size
          replace BW := BW.trans (bX.mono BW.size)
          clear bX
          replace A := (⟨h1, h2.trans A.2⟩ : a.tmps.size = 117 ∧ a.defers = [])
          clear h1 h2 h3 h4
          clear t7 t8 t10 t11 t13 t15
          refine wp_ret ?_
          repeat (first | refine ret_in ?_ | refine ret_then ?_)
          refine bodyPost_ret (results_tmp rfl _ _ _) A.2 ⟨?_, BW⟩
          show Ending.returned (a.eval (.tmp 6)) = _
          rw [t6]
      · by_cases hop : ∀ i, i < m → poF sf J f m i = poF sf J g m i
        · refine wp_seq ?_
          refine wp_seq ?_
          refine wp_region_sq (σ := Unit) 117 [(0, 73), (1, 74), (2, 75), (3, 76), (4, 77), (5, 78), (6, 79), (7, 80), (8, 81), (9, 82), (10, 83), (11, 84), (12, 85), (13, 86), (14, 87), (15, 88), (16, 89), (17, 90), (18, 91), (19, 92), (20, 93), (21, 94), (22, 95), (23, 96), (24, 97), (25, 98), (26, 99), (27, 100), (28, 101), (29, 102), (30, 103), (31, 104)] (fun j_ s X => match j_ with | 0 => Below X9.heap.size X9 X | 1 => Below X9.heap.size X9 X | 2 => Below X9.heap.size X9 X | 3 => Below X9.heap.size X9 X | 4 => Below X9.heap.size X9 X | 5 => Below X9.heap.size X9 X | 6 => Below X9.heap.size X9 X | 7 => Below X9.heap.size X9 X | 8 => Below X9.heap.size X9 X | 9 => Below X9.heap.size X9 X | 10 => Below X9.heap.size X9 X | 11 => Below X9.heap.size X9 X | 12 => Below X9.heap.size X9 X | 13 => Below X9.heap.size X9 X | 14 => Below X9.heap.size X9 X | 15 => Below X9.heap.size X9 X | 16 => Below X9.heap.size X9 X | 17 => Below X9.heap.size X9 X | 18 => Below X9.heap.size X9 X | 19 => Below X9.heap.size X9 X | 20 => Below X9.heap.size X9 X | 21 => Below X9.heap.size X9 X | 22 => Below X9.heap.size X9 X | 23 => Below X9.heap.size X9 X | 24 => Below X9.heap.size X9 X | 25 => Below X9.heap.size X9 X | 26 => Below X9.heap.size X9 X | 27 => Below X9.heap.size X9 X | 28 => Below X9.heap.size X9 X | 29 => Below X9.heap.size X9 X | 30 => Below X9.heap.size X9 X | 31 => Below X9.heap.size X9 X | _ => Below X9.heap.size X9 X) (fun s => fun i_ => match i_ with | 0 => a22 | 1 => a29 | 2 => .bool false | 3 => .bool false | 4 => undef | 5 => undef | 6 => undef | 7 => undef | 8 => undef | 9 => undef | 10 => undef | 11 => undef | 12 => undef | 13 => undef | 14 => .bool false | 15 => .bool false | 16 => o22 | 17 => o29 | 18 => .bool true | 19 => .bool true | 20 => d43 | 21 => u1 | 22 => .bool true | 23 => .bool false | 24 => .bool false | 25 => d50 | 26 => u2 | 27 => .bool true | 28 => .bool false | 29 => .bool false | 30 => .bool false | 31 => .bool false | _ => undef) () A.1 (by kernel_rfl) (by decide) (by decide) (Below.refl _ _) ?_ ?_
          · intro i_ hi_ s a X hf hv hn hS
            match i_, hi_ with
            | 0, _ => exact stepV rfl rfl (execMvB rfl ((hf 7 (by decide)).trans t7)) ⟨s, ⟨_, rfl, rfl⟩, hS, fun _ _ => rfl⟩
            | 1, _ => exact stepV rfl rfl (execMvB rfl ((hf 10 (by decide)).trans t10)) ⟨s, ⟨_, rfl, rfl⟩, hS, fun _ _ => rfl⟩
            | 2, _ => exact stepC rfl rfl (execCall2 Try.func14 (by kernel_rfl) (by kernel_rfl) rfl (hv 0 (by omega) _ rfl _ rfl) (hv 1 (by omega) _ rfl _ rfl)) (same_f _ _ (m) (m) _ _ X (Fa22.on hS) (Fa29.on hS) (fun q => hab q.2) (by omega)) fun e w' hh => ⟨_, hh.1, s, ⟨_, rfl, rfl⟩, (hS).trans ((hh.2).mono (hS).size), fun _ _ => rfl⟩
            | 3, _ => exact stepV rfl rfl (execMvB rfl (hv 2 (by omega) _ rfl _ rfl)) ⟨s, ⟨_, rfl, rfl⟩, hS, fun _ _ => rfl⟩
            | 4, _ => exact stepU rfl (unwantedOf rfl (yieldedAt rfl rfl (show a.eval (.tmp 76) = .bool (!true) from (hv 3 (by omega) _ rfl _ rfl)))) ⟨s, ⟨_, rfl, rfl⟩, hS, fun _ _ => rfl⟩
            | 5, _ => exact stepU rfl (unwantedOf rfl (yieldedAt rfl rfl (show a.eval (.tmp 76) = .bool (!true) from (hv 3 (by omega) _ rfl _ rfl)))) ⟨s, ⟨_, rfl, rfl⟩, hS, fun _ _ => rfl⟩
            | 6, _ => exact stepU rfl (unwantedOf rfl (yieldedAt rfl rfl (show a.eval (.tmp 76) = .bool (!true) from (hv 3 (by omega) _ rfl _ rfl)))) ⟨s, ⟨_, rfl, rfl⟩, hS, fun _ _ => rfl⟩
            | 7, _ => exact stepU rfl (unwantedOf rfl (yieldedAt rfl rfl (show a.eval (.tmp 76) = .bool (!true) from (hv 3 (by omega) _ rfl _ rfl)))) ⟨s, ⟨_, rfl, rfl⟩, hS, fun _ _ => rfl⟩
            | 8, _ => exact stepU rfl (unwantedOf rfl (yieldedAt rfl rfl (show a.eval (.tmp 76) = .bool (!true) from (hv 3 (by omega) _ rfl _ rfl)))) ⟨s, ⟨_, rfl, rfl⟩, hS, fun _ _ => rfl⟩
            | 9, _ => exact stepU rfl (unwantedNo rfl (yieldedNo rfl rfl (show a.eval (.tmp 81) = undef from (hv 8 (by omega) _ rfl _ rfl)))) ⟨s, ⟨_, rfl, rfl⟩, hS, fun _ _ => rfl⟩
            | 10, _ => exact stepU rfl (unwantedNo rfl (yieldedNo rfl rfl (show a.eval (.tmp 81) = undef from (hv 8 (by omega) _ rfl _ rfl)))) ⟨s, ⟨_, rfl, rfl⟩, hS, fun _ _ => rfl⟩
            | 11, _ => exact stepU rfl (unwantedNo rfl (yieldedNo rfl rfl (show a.eval (.tmp 81) = undef from (hv 8 (by omega) _ rfl _ rfl)))) ⟨s, ⟨_, rfl, rfl⟩, hS, fun _ _ => rfl⟩
            | 12, _ => exact stepU rfl (unwantedNo rfl (yieldedNo rfl rfl (show a.eval (.tmp 81) = undef from (hv 8 (by omega) _ rfl _ rfl)))) ⟨s, ⟨_, rfl, rfl⟩, hS, fun _ _ => rfl⟩
            | 13, _ => exact stepU rfl (unwantedOf rfl (yieldedAt rfl rfl (show a.eval (.tmp 76) = .bool (!true) from (hv 3 (by omega) _ rfl _ rfl)))) ⟨s, ⟨_, rfl, rfl⟩, hS, fun _ _ => rfl⟩
            | 14, _ => exact stepV rfl rfl (execPickF rfl (hv 3 (by omega) _ rfl _ rfl) rfl) ⟨s, ⟨_, rfl, rfl⟩, hS, fun _ _ => rfl⟩
            | 15, _ => exact stepV rfl rfl (execMvB rfl (hv 14 (by omega) _ rfl _ rfl)) ⟨s, ⟨_, rfl, rfl⟩, hS, fun _ _ => rfl⟩
            | 16, _ => exact stepV rfl (wantedOf rfl (yieldedAt rfl rfl (show a.eval (.tmp 88) = .bool false from (hv 15 (by omega) _ rfl _ rfl)))) (execMvB rfl ((hf 8 (by decide)).trans t8)) ⟨s, ⟨_, rfl, rfl⟩, hS, fun _ _ => rfl⟩
            | 17, _ => exact stepV rfl (wantedOf rfl (yieldedAt rfl rfl (show a.eval (.tmp 88) = .bool false from (hv 15 (by omega) _ rfl _ rfl)))) (execMvB rfl ((hf 11 (by decide)).trans t11)) ⟨s, ⟨_, rfl, rfl⟩, hS, fun _ _ => rfl⟩
            | 18, _ => exact stepC rfl (wantedOf rfl (yieldedAt rfl rfl (show a.eval (.tmp 88) = .bool false from (hv 15 (by omega) _ rfl _ rfl)))) (execCall2 Try.func14 (by kernel_rfl) (by kernel_rfl) rfl (hv 16 (by omega) _ rfl _ rfl) (hv 17 (by omega) _ rfl _ rfl)) (same_t _ _ (m) _ _ X (Fo22.on hS) (Fo29.on hS) (hop) (by omega)) fun e w' hh => ⟨_, hh.1, s, ⟨_, rfl, rfl⟩, (hS).trans ((hh.2).mono (hS).size), fun _ _ => rfl⟩
            | 19, _ => exact stepV rfl (wantedOf rfl (yieldedAt rfl rfl (show a.eval (.tmp 88) = .bool false from (hv 15 (by omega) _ rfl _ rfl)))) (execMvB rfl (hv 18 (by omega) _ rfl _ rfl)) ⟨s, ⟨_, rfl, rfl⟩, hS, fun _ _ => rfl⟩
            | 20, _ => exact stepV rfl (wantedOf rfl (yieldedAt rfl rfl (show a.eval (.tmp 92) = .bool true from (hv 19 (by omega) _ rfl _ rfl)))) (execMvB rfl ((hf 13 (by decide)).trans t13)) ⟨s, ⟨_, rfl, rfl⟩, hS, fun _ _ => rfl⟩
            | 21, _ => exact stepV rfl (wantedOf rfl (yieldedAt rfl rfl (show a.eval (.tmp 92) = .bool true from (hv 19 (by omega) _ rfl _ rfl)))) (execMvB rfl ((hf 1 (by decide)).trans t1)) ⟨s, ⟨_, rfl, rfl⟩, hS, fun _ _ => rfl⟩
            | 22, _ => exact stepC rfl (wantedOf rfl (yieldedAt rfl rfl (show a.eval (.tmp 92) = .bool true from (hv 19 (by omega) _ rfl _ rfl)))) (execCall2 Try.func14 (by kernel_rfl) (by kernel_rfl) rfl (hv 20 (by omega) _ rfl _ rfl) (hv 21 (by omega) _ rfl _ rfl)) (same_t _ _ (m) _ _ X (Fd43.on hS) (FF.on hS) (fun i hi => (dw_cg hp1 hsm (fun _ _ => rfl) (fun i hi => (hop i hi).symm) hi).trans (back_dr h1 hi)) (by omega)) fun e w' hh => ⟨_, hh.1, s, ⟨_, rfl, rfl⟩, (hS).trans ((hh.2).mono (hS).size), fun _ _ => rfl⟩
            | 23, _ => exact stepV rfl (wantedOf rfl (yieldedAt rfl rfl (show a.eval (.tmp 92) = .bool true from (hv 19 (by omega) _ rfl _ rfl)))) (execNot8 rfl (hv 22 (by omega) _ rfl _ rfl)) ⟨s, ⟨_, rfl, rfl⟩, hS, fun _ _ => rfl⟩
            | 24, _ => exact stepV rfl (wantedOf rfl (yieldedAt rfl rfl (show a.eval (.tmp 92) = .bool true from (hv 19 (by omega) _ rfl _ rfl)))) (execMvB rfl (hv 23 (by omega) _ rfl _ rfl)) ⟨s, ⟨_, rfl, rfl⟩, hS, fun _ _ => rfl⟩
            | 25, _ => exact stepV rfl (wantedOf rfl (yieldedAt rfl rfl (show a.eval (.tmp 97) = .bool false from (hv 24 (by omega) _ rfl _ rfl)))) (execMvB rfl ((hf 15 (by decide)).trans t15)) ⟨s, ⟨_, rfl, rfl⟩, hS, fun _ _ => rfl⟩
            | 26, _ => exact stepV rfl (wantedOf rfl (yieldedAt rfl rfl (show a.eval (.tmp 97) = .bool false from (hv 24 (by omega) _ rfl _ rfl)))) (execMvB rfl ((hf 2 (by decide)).trans t2)) ⟨s, ⟨_, rfl, rfl⟩, hS, fun _ _ => rfl⟩
            | 27, _ => exact stepC rfl (wantedOf rfl (yieldedAt rfl rfl (show a.eval (.tmp 97) = .bool false from (hv 24 (by omega) _ rfl _ rfl)))) (execCall2 Try.func14 (by kernel_rfl) (by kernel_rfl) rfl (hv 25 (by omega) _ rfl _ rfl) (hv 26 (by omega) _ rfl _ rfl)) (same_t _ _ (m) _ _ X (Fd50.on hS) (FG.on hS) (fun i hi => (dw_cg hp2 hsm (fun _ _ => rfl) hop hi).trans (back_dr h2 hi)) (by omega)) fun e w' hh => ⟨_, hh.1, s, ⟨_, rfl, rfl⟩, (hS).trans ((hh.2).mono (hS).size), fun _ _ => rfl⟩
            | 28, _ => exact stepV rfl (wantedOf rfl (yieldedAt rfl rfl (show a.eval (.tmp 97) = .bool false from (hv 24 (by omega) _ rfl _ rfl)))) (execNot8 rfl (hv 27 (by omega) _ rfl _ rfl)) ⟨s, ⟨_, rfl, rfl⟩, hS, fun _ _ => rfl⟩
            | 29, _ => exact stepV rfl (wantedOf rfl (yieldedAt rfl rfl (show a.eval (.tmp 92) = .bool true from (hv 19 (by omega) _ rfl _ rfl)))) (execPickF rfl (hv 24 (by omega) _ rfl _ rfl) (hv 28 (by omega) _ rfl _ rfl)) ⟨s, ⟨_, rfl, rfl⟩, hS, fun _ _ => rfl⟩
            | 30, _ => exact stepV rfl (wantedOf rfl (yieldedAt rfl rfl (show a.eval (.tmp 88) = .bool false from (hv 15 (by omega) _ rfl _ rfl)))) (execPickT rfl (hv 19 (by omega) _ rfl _ rfl) (hv 29 (by omega) _ rfl _ rfl)) ⟨s, ⟨_, rfl, rfl⟩, hS, fun _ _ => rfl⟩
            | 31, _ => exact stepV rfl rfl (execPickF rfl (hv 15 (by omega) _ rfl _ rfl) (hv 30 (by omega) _ rfl _ rfl)) ⟨s, ⟨_, rfl, rfl⟩, hS, fun _ _ => rfl⟩
            | k_ + 32, h_ => exact absurd h_ (by simp)
          rintro _ a X11 h1 h2 h3 h4 hS
          replace hS : Below X9.heap.size X9 X11 := hS
          have bX := hS
          clear hS
          replace t7 := (h3 7 (by decide)).trans t7
          replace t8 := (h3 8 (by decide)).trans t8
          replace t10 := (h3 10 (by decide)).trans t10
          replace t11 := (h3 11 (by decide)).trans t11
          replace t13 := (h3 13 (by decide)).trans t13
          replace t15 := (h3 15 (by decide)).trans t15
          have t104 : a.eval (.tmp 104) = .bool false := h4 31 _ rfl _ rfl
          replace FI := (FI.on bX)
          replace FF := (FF.on bX)
          replace FG := (FG.on bX)
          replace Fa22 := (Fa22.on bX)
          replace Fo22 := (Fo22.on bX)
          replace Fa29 := (Fa29.on bX)
          replace Fo29 := (Fo29.on bX)
          replace Fd43 := (Fd43.on bX)
          replace Fd50 := (Fd50.on bX)
          have ZX11 := bX.size
          replace BW := BW.trans (bX.mono BW.size)
          clear bX
          replace A := (⟨h1, h2.trans A.2⟩ : a.tmps.size = 117 ∧ a.defers = [])
          clear h1 h2 h3 h4
          clear t1 t2
          refine wp_cond_false t104 ?_
          refine wp_skip ?_
          clear t104
          refine wp_seq ?_
          refine wp_region_sq (σ := Unit) 117 [(0, 105), (1, 106), (2, 107), (3, 108), (4, 109), (5, 110), (6, 111), (7, 112), (8, 113), (9, 114), (10, 115), (11, 116), (12, 6)] (fun j_ s X => match j_ with | 0 => Below X11.heap.size X11 X | 1 => Below X11.heap.size X11 X | 2 => Below X11.heap.size X11 X | 3 => Below X11.heap.size X11 X | 4 => Below X11.heap.size X11 X | 5 => Below X11.heap.size X11 X | 6 => Below X11.heap.size X11 X | 7 => Below X11.heap.size X11 X | 8 => Below X11.heap.size X11 X | 9 => Below X11.heap.size X11 X | 10 => Below X11.heap.size X11 X | 11 => Below X11.heap.size X11 X | 12 => Below X11.heap.size X11 X | _ => Below X11.heap.size X11 X) (fun s => fun i_ => match i_ with | 0 => d43 | 1 => d50 | 2 => .bool false | 3 => a22 | 4 => a29 | 5 => .bool false | 6 => .bool false | 7 => undef | 8 => undef | 9 => undef | 10 => .bool false | 11 => .bool true | 12 => .bool true | _ => undef) () A.1 (by kernel_rfl) (by decide) (by decide) (Below.refl _ _) ?_ ?_
          · intro i_ hi_ s a X hf hv hn hS
            match i_, hi_ with
            | 0, _ => exact stepV rfl rfl (execMvB rfl ((hf 13 (by decide)).trans t13)) ⟨s, ⟨_, rfl, rfl⟩, hS, fun _ _ => rfl⟩
            | 1, _ => exact stepV rfl rfl (execMvB rfl ((hf 15 (by decide)).trans t15)) ⟨s, ⟨_, rfl, rfl⟩, hS, fun _ _ => rfl⟩
            | 2, _ => exact stepC rfl rfl (execCall2 Try.func14 (by kernel_rfl) (by kernel_rfl) rfl (hv 0 (by omega) _ rfl _ rfl) (hv 1 (by omega) _ rfl _ rfl)) (same_f _ _ (m) (m) _ _ X (Fd43.on hS) (Fd50.on hS) (fun q => hab fun i hi => (hx1 i hi).symm.trans ((pc_cg q.2 hi).trans (hy1 i hi))) (by omega)) fun e w' hh => ⟨_, hh.1, s, ⟨_, rfl, rfl⟩, (hS).trans ((hh.2).mono (hS).size), fun _ _ => rfl⟩
            | 3, _ => exact stepV rfl rfl (execMvB rfl ((hf 7 (by decide)).trans t7)) ⟨s, ⟨_, rfl, rfl⟩, hS, fun _ _ => rfl⟩
            | 4, _ => exact stepV rfl rfl (execMvB rfl ((hf 10 (by decide)).trans t10)) ⟨s, ⟨_, rfl, rfl⟩, hS, fun _ _ => rfl⟩
            | 5, _ => exact stepC rfl rfl (execCall2 Try.func14 (by kernel_rfl) (by kernel_rfl) rfl (hv 3 (by omega) _ rfl _ rfl) (hv 4 (by omega) _ rfl _ rfl)) (same_f _ _ (m) (m) _ _ X (Fa22.on hS) (Fa29.on hS) (fun q => hab q.2) (by omega)) fun e w' hh => ⟨_, hh.1, s, ⟨_, rfl, rfl⟩, (hS).trans ((hh.2).mono (hS).size), fun _ _ => rfl⟩
            | 6, _ => exact stepV rfl rfl (execMvB rfl (hv 5 (by omega) _ rfl _ rfl)) ⟨s, ⟨_, rfl, rfl⟩, hS, fun _ _ => rfl⟩
            | 7, _ => exact stepU rfl (unwantedOf rfl (yieldedAt rfl rfl (show a.eval (.tmp 111) = .bool (!true) from (hv 6 (by omega) _ rfl _ rfl)))) ⟨s, ⟨_, rfl, rfl⟩, hS, fun _ _ => rfl⟩
            | 8, _ => exact stepU rfl (unwantedOf rfl (yieldedAt rfl rfl (show a.eval (.tmp 111) = .bool (!true) from (hv 6 (by omega) _ rfl _ rfl)))) ⟨s, ⟨_, rfl, rfl⟩, hS, fun _ _ => rfl⟩
            | 9, _ => exact stepU rfl (unwantedOf rfl (yieldedAt rfl rfl (show a.eval (.tmp 111) = .bool (!true) from (hv 6 (by omega) _ rfl _ rfl)))) ⟨s, ⟨_, rfl, rfl⟩, hS, fun _ _ => rfl⟩
            | 10, _ => exact stepV rfl rfl (execPickF rfl (hv 6 (by omega) _ rfl _ rfl) rfl) ⟨s, ⟨_, rfl, rfl⟩, hS, fun _ _ => rfl⟩
            | 11, _ => exact stepV rfl rfl (execEqBB rfl (hv 2 (by omega) _ rfl _ rfl) (hv 10 (by omega) _ rfl _ rfl)) ⟨s, ⟨_, rfl, rfl⟩, hS, fun _ _ => rfl⟩
            | 12, _ => exact stepV rfl rfl (execAsgB rfl (hv 11 (by omega) _ rfl _ rfl)) ⟨s, ⟨_, rfl, rfl⟩, hS, fun _ _ => rfl⟩
            | k_ + 13, h_ => exact absurd h_ (by simp)
          rintro _ a X13 h1 h2 h3 h4 hS
          replace hS : Below X11.heap.size X11 X13 := hS
          have bX := hS
          clear hS
          have t6 : a.eval (.tmp 6) = .bool true := h4 12 _ rfl _ rfl
          replace FI := (FI.on bX)
          replace FF := (FF.on bX)
          replace FG := (FG.on bX)
          replace Fa22 := (Fa22.on bX)
          replace Fo22 := (Fo22.on bX)
          replace Fa29 := (Fa29.on bX)
          replace Fo29 := (Fo29.on bX)
          replace Fd43 := (Fd43.on bX)
          replace Fd50 := (Fd50.on bX)
          have ZX13 := bX.size
          replace BW := BW.trans (bX.mono BW.size)
          clear bX
          replace A := (⟨h1, h2.trans A.2⟩ : a.tmps.size = 117 ∧ a.defers = [])
          clear h1 h2 h3 h4
          clear t7 t8 t10 t11 t13 t15
          refine wp_ret ?_
          repeat (first | refine ret_in ?_ | refine ret_then ?_)
          refine bodyPost_ret (results_tmp rfl _ _ _) A.2 ⟨?_, BW⟩
          show Ending.returned (a.eval (.tmp 6)) = _
          rw [t6]
        · refine wp_seq ?_
          refine wp_seq ?_
          refine wp_region_sq (σ := Unit) 117 [(0, 73), (1, 74), (2, 75), (3, 76), (4, 77), (5, 78), (6, 79), (7, 80), (8, 81), (9, 82), (10, 83), (11, 84), (12, 85), (13, 86), (14, 87), (15, 88), (16, 89), (17, 90), (18, 91), (19, 92), (20, 93), (21, 94), (22, 95), (23, 96), (24, 97), (25, 98), (26, 99), (27, 100), (28, 101), (29, 102), (30, 103), (31, 104)] (fun j_ s X => match j_ with | 0 => Below X9.heap.size X9 X | 1 => Below X9.heap.size X9 X | 2 => Below X9.heap.size X9 X | 3 => Below X9.heap.size X9 X | 4 => Below X9.heap.size X9 X | 5 => Below X9.heap.size X9 X | 6 => Below X9.heap.size X9 X | 7 => Below X9.heap.size X9 X | 8 => Below X9.heap.size X9 X | 9 => Below X9.heap.size X9 X | 10 => Below X9.heap.size X9 X | 11 => Below X9.heap.size X9 X | 12 => Below X9.heap.size X9 X | 13 => Below X9.heap.size X9 X | 14 => Below X9.heap.size X9 X | 15 => Below X9.heap.size X9 X | 16 => Below X9.heap.size X9 X | 17 => Below X9.heap.size X9 X | 18 => Below X9.heap.size X9 X | 19 => Below X9.heap.size X9 X | 20 => Below X9.heap.size X9 X | 21 => Below X9.heap.size X9 X | 22 => Below X9.heap.size X9 X | 23 => Below X9.heap.size X9 X | 24 => Below X9.heap.size X9 X | 25 => Below X9.heap.size X9 X | 26 => Below X9.heap.size X9 X | 27 => Below X9.heap.size X9 X | 28 => Below X9.heap.size X9 X | 29 => Below X9.heap.size X9 X | 30 => Below X9.heap.size X9 X | 31 => Below X9.heap.size X9 X | _ => Below X9.heap.size X9 X) (fun s => fun i_ => match i_ with | 0 => a22 | 1 => a29 | 2 => .bool false | 3 => .bool false | 4 => undef | 5 => undef | 6 => undef | 7 => undef | 8 => undef | 9 => undef | 10 => undef | 11 => undef | 12 => undef | 13 => undef | 14 => .bool false | 15 => .bool false | 16 => o22 | 17 => o29 | 18 => .bool false | 19 => .bool false | 20 => undef | 21 => undef | 22 => undef | 23 => undef | 24 => undef | 25 => undef | 26 => undef | 27 => undef | 28 => undef | 29 => undef | 30 => .bool false | 31 => .bool false | _ => undef) () A.1 (by kernel_rfl) (by decide) (by decide) (Below.refl _ _) ?_ ?_
          · intro i_ hi_ s a X hf hv hn hS
            match i_, hi_ with
            | 0, _ => exact stepV rfl rfl (execMvB rfl ((hf 7 (by decide)).trans t7)) ⟨s, ⟨_, rfl, rfl⟩, hS, fun _ _ => rfl⟩
            | 1, _ => exact stepV rfl rfl (execMvB rfl ((hf 10 (by decide)).trans t10)) ⟨s, ⟨_, rfl, rfl⟩, hS, fun _ _ => rfl⟩
            | 2, _ => exact stepC rfl rfl (execCall2 Try.func14 (by kernel_rfl) (by kernel_rfl) rfl (hv 0 (by omega) _ rfl _ rfl) (hv 1 (by omega) _ rfl _ rfl)) (same_f _ _ (m) (m) _ _ X (Fa22.on hS) (Fa29.on hS) (fun q => hab q.2) (by omega)) fun e w' hh => ⟨_, hh.1, s, ⟨_, rfl, rfl⟩, (hS).trans ((hh.2).mono (hS).size), fun _ _ => rfl⟩
            | 3, _ => exact stepV rfl rfl (execMvB rfl (hv 2 (by omega) _ rfl _ rfl)) ⟨s, ⟨_, rfl, rfl⟩, hS, fun _ _ => rfl⟩
            | 4, _ => exact stepU rfl (unwantedOf rfl (yieldedAt rfl rfl (show a.eval (.tmp 76) = .bool (!true) from (hv 3 (by omega) _ rfl _ rfl)))) ⟨s, ⟨_, rfl, rfl⟩, hS, fun _ _ => rfl⟩
            | 5, _ => exact stepU rfl (unwantedOf rfl (yieldedAt rfl rfl (show a.eval (.tmp 76) = .bool (!true) from (hv 3 (by omega) _ rfl _ rfl)))) ⟨s, ⟨_, rfl, rfl⟩, hS, fun _ _ => rfl⟩
            | 6, _ => exact stepU rfl (unwantedOf rfl (yieldedAt rfl rfl (show a.eval (.tmp 76) = .bool (!true) from (hv 3 (by omega) _ rfl _ rfl)))) ⟨s, ⟨_, rfl, rfl⟩, hS, fun _ _ => rfl⟩
            | 7, _ => exact stepU rfl (unwantedOf rfl (yieldedAt rfl rfl (show a.eval (.tmp 76) = .bool (!true) from (hv 3 (by omega) _ rfl _ rfl)))) ⟨s, ⟨_, rfl, rfl⟩, hS, fun _ _ => rfl⟩
            | 8, _ => exact stepU rfl (unwantedOf rfl (yieldedAt rfl rfl (show a.eval (.tmp 76) = .bool (!true) from (hv 3 (by omega) _ rfl _ rfl)))) ⟨s, ⟨_, rfl, rfl⟩, hS, fun _ _ => rfl⟩
            | 9, _ => exact stepU rfl (unwantedNo rfl (yieldedNo rfl rfl (show a.eval (.tmp 81) = undef from (hv 8 (by omega) _ rfl _ rfl)))) ⟨s, ⟨_, rfl, rfl⟩, hS, fun _ _ => rfl⟩
            | 10, _ => exact stepU rfl (unwantedNo rfl (yieldedNo rfl rfl (show a.eval (.tmp 81) = undef from (hv 8 (by omega) _ rfl _ rfl)))) ⟨s, ⟨_, rfl, rfl⟩, hS, fun _ _ => rfl⟩
            | 11, _ => exact stepU rfl (unwantedNo rfl (yieldedNo rfl rfl (show a.eval (.tmp 81) = undef from (hv 8 (by omega) _ rfl _ rfl)))) ⟨s, ⟨_, rfl, rfl⟩, hS, fun _ _ => rfl⟩
            | 12, _ => exact stepU rfl (unwantedNo rfl (yieldedNo rfl rfl (show a.eval (.tmp 81) = undef from (hv 8 (by omega) _ rfl _ rfl)))) ⟨s, ⟨_, rfl, rfl⟩, hS, fun _ _ => rfl⟩
            | 13, _ => exact stepU rfl (unwantedOf rfl (yieldedAt rfl rfl (show a.eval (.tmp 76) = .bool (!true) from (hv 3 (by omega) _ rfl _ rfl)))) ⟨s, ⟨_, rfl, rfl⟩, hS, fun _ _ => rfl⟩
            | 14, _ => exact stepV rfl rfl (execPickF rfl (hv 3 (by omega) _ rfl _ rfl) rfl) ⟨s, ⟨_, rfl, rfl⟩, hS, fun _ _ => rfl⟩
            | 15, _ => exact stepV rfl rfl (execMvB rfl (hv 14 (by omega) _ rfl _ rfl)) ⟨s, ⟨_, rfl, rfl⟩, hS, fun _ _ => rfl⟩
            | 16, _ => exact stepV rfl (wantedOf rfl (yieldedAt rfl rfl (show a.eval (.tmp 88) = .bool false from (hv 15 (by omega) _ rfl _ rfl)))) (execMvB rfl ((hf 8 (by decide)).trans t8)) ⟨s, ⟨_, rfl, rfl⟩, hS, fun _ _ => rfl⟩
            | 17, _ => exact stepV rfl (wantedOf rfl (yieldedAt rfl rfl (show a.eval (.tmp 88) = .bool false from (hv 15 (by omega) _ rfl _ rfl)))) (execMvB rfl ((hf 11 (by decide)).trans t11)) ⟨s, ⟨_, rfl, rfl⟩, hS, fun _ _ => rfl⟩
            | 18, _ => exact stepC rfl (wantedOf rfl (yieldedAt rfl rfl (show a.eval (.tmp 88) = .bool false from (hv 15 (by omega) _ rfl _ rfl)))) (execCall2 Try.func14 (by kernel_rfl) (by kernel_rfl) rfl (hv 16 (by omega) _ rfl _ rfl) (hv 17 (by omega) _ rfl _ rfl)) (same_f _ _ (m) (m) _ _ X (Fo22.on hS) (Fo29.on hS) (fun q => hop q.2) (by omega)) fun e w' hh => ⟨_, hh.1, s, ⟨_, rfl, rfl⟩, (hS).trans ((hh.2).mono (hS).size), fun _ _ => rfl⟩
            | 19, _ => exact stepV rfl (wantedOf rfl (yieldedAt rfl rfl (show a.eval (.tmp 88) = .bool false from (hv 15 (by omega) _ rfl _ rfl)))) (execMvB rfl (hv 18 (by omega) _ rfl _ rfl)) ⟨s, ⟨_, rfl, rfl⟩, hS, fun _ _ => rfl⟩
            | 20, _ => exact stepU rfl (unwantedOf rfl (yieldedAt rfl rfl (show a.eval (.tmp 92) = .bool (!true) from (hv 19 (by omega) _ rfl _ rfl)))) ⟨s, ⟨_, rfl, rfl⟩, hS, fun _ _ => rfl⟩
            | 21, _ => exact stepU rfl (unwantedOf rfl (yieldedAt rfl rfl (show a.eval (.tmp 92) = .bool (!true) from (hv 19 (by omega) _ rfl _ rfl)))) ⟨s, ⟨_, rfl, rfl⟩, hS, fun _ _ => rfl⟩
            | 22, _ => exact stepU rfl (unwantedOf rfl (yieldedAt rfl rfl (show a.eval (.tmp 92) = .bool (!true) from (hv 19 (by omega) _ rfl _ rfl)))) ⟨s, ⟨_, rfl, rfl⟩, hS, fun _ _ => rfl⟩
            | 23, _ => exact stepU rfl (unwantedOf rfl (yieldedAt rfl rfl (show a.eval (.tmp 92) = .bool (!true) from (hv 19 (by omega) _ rfl _ rfl)))) ⟨s, ⟨_, rfl, rfl⟩, hS, fun _ _ => rfl⟩
            | 24, _ => exact stepU rfl (unwantedOf rfl (yieldedAt rfl rfl (show a.eval (.tmp 92) = .bool (!true) from (hv 19 (by omega) _ rfl _ rfl)))) ⟨s, ⟨_, rfl, rfl⟩, hS, fun _ _ => rfl⟩
            | 25, _ => exact stepU rfl (unwantedNo rfl (yieldedNo rfl rfl (show a.eval (.tmp 97) = undef from (hv 24 (by omega) _ rfl _ rfl)))) ⟨s, ⟨_, rfl, rfl⟩, hS, fun _ _ => rfl⟩
            | 26, _ => exact stepU rfl (unwantedNo rfl (yieldedNo rfl rfl (show a.eval (.tmp 97) = undef from (hv 24 (by omega) _ rfl _ rfl)))) ⟨s, ⟨_, rfl, rfl⟩, hS, fun _ _ => rfl⟩
            | 27, _ => exact stepU rfl (unwantedNo rfl (yieldedNo rfl rfl (show a.eval (.tmp 97) = undef from (hv 24 (by omega) _ rfl _ rfl)))) ⟨s, ⟨_, rfl, rfl⟩, hS, fun _ _ => rfl⟩
            | 28, _ => exact stepU rfl (unwantedNo rfl (yieldedNo rfl rfl (show a.eval (.tmp 97) = undef from (hv 24 (by omega) _ rfl _ rfl)))) ⟨s, ⟨_, rfl, rfl⟩, hS, fun _ _ => rfl⟩
            | 29, _ => exact stepU rfl (unwantedOf rfl (yieldedAt rfl rfl (show a.eval (.tmp 92) = .bool (!true) from (hv 19 (by omega) _ rfl _ rfl)))) ⟨s, ⟨_, rfl, rfl⟩, hS, fun _ _ => rfl⟩
            | 30, _ => exact stepV rfl (wantedOf rfl (yieldedAt rfl rfl (show a.eval (.tmp 88) = .bool false from (hv 15 (by omega) _ rfl _ rfl)))) (execPickF rfl (hv 19 (by omega) _ rfl _ rfl) rfl) ⟨s, ⟨_, rfl, rfl⟩, hS, fun _ _ => rfl⟩
            | 31, _ => exact stepV rfl rfl (execPickF rfl (hv 15 (by omega) _ rfl _ rfl) (hv 30 (by omega) _ rfl _ rfl)) ⟨s, ⟨_, rfl, rfl⟩, hS, fun _ _ => rfl⟩
            | k_ + 32, h_ => exact absurd h_ (by simp)
          rintro _ a X11 h1 h2 h3 h4 hS
          replace hS : Below X9.heap.size X9 X11 := hS
          have bX := hS
          clear hS
          replace t7 := (h3 7 (by decide)).trans t7
          replace t8 := (h3 8 (by decide)).trans t8
          replace t10 := (h3 10 (by decide)).trans t10
          replace t11 := (h3 11 (by decide)).trans t11
          replace t13 := (h3 13 (by decide)).trans t13
          replace t15 := (h3 15 (by decide)).trans t15
          have t104 : a.eval (.tmp 104) = .bool false := h4 31 _ rfl _ rfl
          replace FI := (FI.on bX)
          replace FF := (FF.on bX)
          replace FG := (FG.on bX)
          replace Fa22 := (Fa22.on bX)
          replace Fo22 := (Fo22.on bX)
          replace Fa29 := (Fa29.on bX)
          replace Fo29 := (Fo29.on bX)
          replace Fd43 := (Fd43.on bX)
          replace Fd50 := (Fd50.on bX)
          have ZX11 := bX.size
          replace BW := BW.trans (bX.mono BW.size)
          clear bX
          replace A := (⟨h1, h2.trans A.2⟩ : a.tmps.size = 117 ∧ a.defers = [])
          clear h1 h2 h3 h4
          clear t1 t2
          refine wp_cond_false t104 ?_
          refine wp_skip ?_
          clear t104
          refine wp_seq ?_
          refine wp_region_sq (σ := Unit) 117 [(0, 105), (1, 106), (2, 107), (3, 108), (4, 109), (5, 110), (6, 111), (7, 112), (8, 113), (9, 114), (10, 115), (11, 116), (12, 6)] (fun j_ s X => match j_ with | 0 => Below X11.heap.size X11 X | 1 => Below X11.heap.size X11 X | 2 => Below X11.heap.size X11 X | 3 => Below X11.heap.size X11 X | 4 => Below X11.heap.size X11 X | 5 => Below X11.heap.size X11 X | 6 => Below X11.heap.size X11 X | 7 => Below X11.heap.size X11 X | 8 => Below X11.heap.size X11 X | 9 => Below X11.heap.size X11 X | 10 => Below X11.heap.size X11 X | 11 => Below X11.heap.size X11 X | 12 => Below X11.heap.size X11 X | _ => Below X11.heap.size X11 X) (fun s => fun i_ => match i_ with | 0 => d43 | 1 => d50 | 2 => .bool false | 3 => a22 | 4 => a29 | 5 => .bool false | 6 => .bool false | 7 => undef | 8 => undef | 9 => undef | 10 => .bool false | 11 => .bool true | 12 => .bool true | _ => undef) () A.1 (by kernel_rfl) (by decide) (by decide) (Below.refl _ _) ?_ ?_
          · intro i_ hi_ s a X hf hv hn hS
            match i_, hi_ with
            | 0, _ => exact stepV rfl rfl (execMvB rfl ((hf 13 (by decide)).trans t13)) ⟨s, ⟨_, rfl, rfl⟩, hS, fun _ _ => rfl⟩
            | 1, _ => exact stepV rfl rfl (execMvB rfl ((hf 15 (by decide)).trans t15)) ⟨s, ⟨_, rfl, rfl⟩, hS, fun _ _ => rfl⟩
            | 2, _ => exact stepC rfl rfl (execCall2 Try.func14 (by kernel_rfl) (by kernel_rfl) rfl (hv 0 (by omega) _ rfl _ rfl) (hv 1 (by omega) _ rfl _ rfl)) (same_f _ _ (m) (m) _ _ X (Fd43.on hS) (Fd50.on hS) (fun q => hab fun i hi => (hx1 i hi).symm.trans ((pc_cg q.2 hi).trans (hy1 i hi))) (by omega)) fun e w' hh => ⟨_, hh.1, s, ⟨_, rfl, rfl⟩, (hS).trans ((hh.2).mono (hS).size), fun _ _ => rfl⟩
            | 3, _ => exact stepV rfl rfl (execMvB rfl ((hf 7 (by decide)).trans t7)) ⟨s, ⟨_, rfl, rfl⟩, hS, fun _ _ => rfl⟩
            | 4, _ => exact stepV rfl rfl (execMvB rfl ((hf 10 (by decide)).trans t10)) ⟨s, ⟨_, rfl, rfl⟩, hS, fun _ _ => rfl⟩
            | 5, _ => exact stepC rfl rfl (execCall2 Try.func14 (by kernel_rfl) (by kernel_rfl) rfl (hv 3 (by omega) _ rfl _ rfl) (hv 4 (by omega) _ rfl _ rfl)) (same_f _ _ (m) (m) _ _ X (Fa22.on hS) (Fa29.on hS) (fun q => hab q.2) (by omega)) fun e w' hh => ⟨_, hh.1, s, ⟨_, rfl, rfl⟩, (hS).trans ((hh.2).mono (hS).size), fun _ _ => rfl⟩
            | 6, _ => exact stepV rfl rfl (execMvB rfl (hv 5 (by omega) _ rfl _ rfl)) ⟨s, ⟨_, rfl, rfl⟩, hS, fun _ _ => rfl⟩
            | 7, _ => exact stepU rfl (unwantedOf rfl (yieldedAt rfl rfl (show a.eval (.tmp 111) = .bool (!true) from (hv 6 (by omega) _ rfl _ rfl)))) ⟨s, ⟨_, rfl, rfl⟩, hS, fun _ _ => rfl⟩
            | 8, _ => exact stepU rfl (unwantedOf rfl (yieldedAt rfl rfl (show a.eval (.tmp 111) = .bool (!true) from (hv 6 (by omega) _ rfl _ rfl)))) ⟨s, ⟨_, rfl, rfl⟩, hS, fun _ _ => rfl⟩
            | 9, _ => exact stepU rfl (unwantedOf rfl (yieldedAt rfl rfl (show a.eval (.tmp 111) = .bool (!true) from (hv 6 (by omega) _ rfl _ rfl)))) ⟨s, ⟨_, rfl, rfl⟩, hS, fun _ _ => rfl⟩
            | 10, _ => exact stepV rfl rfl (execPickF rfl (hv 6 (by omega) _ rfl _ rfl) rfl) ⟨s, ⟨_, rfl, rfl⟩, hS, fun _ _ => rfl⟩
            | 11, _ => exact stepV rfl rfl (execEqBB rfl (hv 2 (by omega) _ rfl _ rfl) (hv 10 (by omega) _ rfl _ rfl)) ⟨s, ⟨_, rfl, rfl⟩, hS, fun _ _ => rfl⟩
            | 12, _ => exact stepV rfl rfl (execAsgB rfl (hv 11 (by omega) _ rfl _ rfl)) ⟨s, ⟨_, rfl, rfl⟩, hS, fun _ _ => rfl⟩
            | k_ + 13, h_ => exact absurd h_ (by simp)
          rintro _ a X13 h1 h2 h3 h4 hS
          replace hS : Below X11.heap.size X11 X13 := hS
          have bX := hS
          clear hS
          have t6 : a.eval (.tmp 6) = .bool true := h4 12 _ rfl _ rfl
          replace FI := (FI.on bX)
          replace FF := (FF.on bX)
          replace FG := (FG.on bX)
          replace Fa22 := (Fa22.on bX)
          replace Fo22 := (Fo22.on bX)
          replace Fa29 := (Fa29.on bX)
          replace Fo29 := (Fo29.on bX)
          replace Fd43 := (Fd43.on bX)
          replace Fd50 := (Fd50.on bX)
          have ZX13 := bX.size
          replace BW := BW.trans (bX.mono BW.size)
          clear bX
          replace A := (⟨h1, h2.trans A.2⟩ : a.tmps.size = 117 ∧ a.defers = [])
          clear h1 h2 h3 h4
          clear t7 t8 t10 t11 t13 t15
          refine wp_ret ?_
          repeat (first | refine ret_in ?_ | refine ret_then ?_)
          refine bodyPost_ret (results_tmp rfl _ _ _) A.2 ⟨?_, BW⟩
          show Ending.returned (a.eval (.tmp 6)) = _
          rw [t6]
    · rw [paE_ok h1] at t9
      rw [paE_no h2] at t12
      refine wp_region_sq (σ := Unit) 117 [(0, 33), (1, 34), (2, 35), (3, 36), (4, 37), (5, 38)] (fun j_ s X => match j_ with | 0 => Below X4.heap.size X4 X | 1 => Below X4.heap.size X4 X | 2 => Below X4.heap.size X4 X | 3 => Below X4.heap.size X4 X | 4 => Below X4.heap.size X4 X | 5 => Below X4.heap.size X4 X | _ => Below X4.heap.size X4 X) (fun s => fun i_ => match i_ with | 0 => .int .i64 ((0 : Nat) : Int) | 1 => .bool false | 2 => .bool false | 3 => .int .i64 ((2 : Nat) : Int) | 4 => .bool true | 5 => .bool true | _ => undef) () A.1 (by kernel_rfl) (by decide) (by decide) (Below.refl _ _) ?_ ?_
      · intro i_ hi_ s a X hf hv hn hS
        match i_, hi_ with
        | 0, _ => exact stepV rfl rfl (execMvB rfl ((hf 9 (by decide)).trans t9)) ⟨s, ⟨_, rfl, rfl⟩, hS, fun _ _ => rfl⟩
        | 1, _ => exact stepV rfl rfl (execDec (execNeE (p := 0) (q := 0) rfl (hv 0 (by omega) _ rfl _ rfl) rfl) (decide_eq_false (by decide))) ⟨s, ⟨_, rfl, rfl⟩, hS, fun _ _ => rfl⟩
        | 2, _ => exact stepV rfl rfl (execMvB rfl (hv 1 (by omega) _ rfl _ rfl)) ⟨s, ⟨_, rfl, rfl⟩, hS, fun _ _ => rfl⟩
        | 3, _ => exact stepV rfl (wantedOf rfl (yieldedAt rfl rfl (show a.eval (.tmp 35) = .bool false from (hv 2 (by omega) _ rfl _ rfl)))) (execMvB rfl ((hf 12 (by decide)).trans t12)) ⟨s, ⟨_, rfl, rfl⟩, hS, fun _ _ => rfl⟩
        | 4, _ => exact stepV rfl (wantedOf rfl (yieldedAt rfl rfl (show a.eval (.tmp 35) = .bool false from (hv 2 (by omega) _ rfl _ rfl)))) (execDec (execNeE (p := 2) (q := 0) rfl (hv 3 (by omega) _ rfl _ rfl) rfl) (decide_eq_true (by decide))) ⟨s, ⟨_, rfl, rfl⟩, hS, fun _ _ => rfl⟩
        | 5, _ => exact stepV rfl rfl (execPickF rfl (hv 2 (by omega) _ rfl _ rfl) (hv 4 (by omega) _ rfl _ rfl)) ⟨s, ⟨_, rfl, rfl⟩, hS, fun _ _ => rfl⟩
        | k_ + 6, h_ => exact absurd h_ (by simp)
      rintro _ a X5 h1 h2 h3 h4 hS
      replace hS : Below X4.heap.size X4 X5 := hS
      have bX := hS
      clear hS
      replace t0 := (h3 0 (by decide)).trans t0
      replace t1 := (h3 1 (by decide)).trans t1
      replace t2 := (h3 2 (by decide)).trans t2
      replace t7 := (h3 7 (by decide)).trans t7
      replace t8 := (h3 8 (by decide)).trans t8
      replace t10 := (h3 10 (by decide)).trans t10
      replace t11 := (h3 11 (by decide)).trans t11
      have t38 : a.eval (.tmp 38) = .bool true := h4 5 _ rfl _ rfl
      replace FI := (FI.on bX)
      replace FF := (FF.on bX)
      replace FG := (FG.on bX)
      replace Fa22 := (Fa22.on bX)
      replace Fo22 := (Fo22.on bX)
      replace Fa29 := (Fa29.on bX)
      replace Fo29 := (Fo29.on bX)
      have ZX5 := bX.size
      replace BW := BW.trans (bX.mono BW.size)
      clear bX
      replace A := (⟨h1, h2.trans A.2⟩ : a.tmps.size = 117 ∧ a.defers = [])
      clear h1 h2 h3 h4
      clear t9 t12
      refine wp_cond_true t38 ?_
      refine wp_seq ?_
      refine wp_region_sq (σ := Unit) 117 [(0, 6)] (fun j_ s X => match j_ with | 0 => Below X5.heap.size X5 X | _ => Below X5.heap.size X5 X) (fun s => fun i_ => match i_ with | 0 => .bool true | _ => undef) () A.1 (by kernel_rfl) (by decide) (by decide) (Below.refl _ _) ?_ ?_
      · intro i_ hi_ s a X hf hv hn hS
        match i_, hi_ with
        | 0, _ => exact stepV rfl rfl (execAsgB rfl rfl) ⟨s, ⟨_, rfl, rfl⟩, hS, fun _ _ => rfl⟩
        | k_ + 1, h_ => exact absurd h_ (by simp)
      rintro _ a X6 h1 h2 h3 h4 hS
      replace hS : Below X5.heap.size X5 X6 := hS
      have bX := hS
      clear hS
      have t6 : a.eval (.tmp 6) = .bool true := h4 0 _ rfl _ rfl
      replace FI := (FI.on bX)
      replace FF := (FF.on bX)
      replace FG := (FG.on bX)
      replace Fa22 := (Fa22.on bX)
      replace Fo22 := (Fo22.on bX)
      replace Fa29 := (Fa29.on bX)
      replace Fo29 := (Fo29.on bX)
      have ZX6 := bX.size
      replace BW := BW.trans (bX.mono BW.size)
      clear bX
      replace A := (⟨h1, h2.trans A.2⟩ : a.tmps.size = 117 ∧ a.defers = [])
      clear h1 h2 h3 h4
      clear t0 t1 t2 t7 t8 t10 t11
      refine wp_ret ?_
      repeat (first | refine ret_in ?_ | refine ret_then ?_)
      refine bodyPost_ret (results_tmp rfl _ _ _) A.2 ⟨?_, BW⟩
      show Ending.returned (a.eval (.tmp 6)) = _
      rw [t6]
  · rw [paE_no h1] at t9
    refine wp_region_sq (σ := Unit) 117 [(0, 33), (1, 34), (2, 35), (3, 36), (4, 37), (5, 38)] (fun j_ s X => match j_ with | 0 => Below X4.heap.size X4 X | 1 => Below X4.heap.size X4 X | 2 => Below X4.heap.size X4 X | 3 => Below X4.heap.size X4 X | 4 => Below X4.heap.size X4 X | 5 => Below X4.heap.size X4 X | _ => Below X4.heap.size X4 X) (fun s => fun i_ => match i_ with | 0 => .int .i64 ((2 : Nat) : Int) | 1 => .bool true | 2 => .bool true | 3 => undef | 4 => undef | 5 => .bool true | _ => undef) () A.1 (by kernel_rfl) (by decide) (by decide) (Below.refl _ _) ?_ ?_
    · intro i_ hi_ s a X hf hv hn hS
      match i_, hi_ with
      | 0, _ => exact stepV rfl rfl (execMvB rfl ((hf 9 (by decide)).trans t9)) ⟨s, ⟨_, rfl, rfl⟩, hS, fun _ _ => rfl⟩
      | 1, _ => exact stepV rfl rfl (execDec (execNeE (p := 2) (q := 0) rfl (hv 0 (by omega) _ rfl _ rfl) rfl) (decide_eq_true (by decide))) ⟨s, ⟨_, rfl, rfl⟩, hS, fun _ _ => rfl⟩
      | 2, _ => exact stepV rfl rfl (execMvB rfl (hv 1 (by omega) _ rfl _ rfl)) ⟨s, ⟨_, rfl, rfl⟩, hS, fun _ _ => rfl⟩
      | 3, _ => exact stepU rfl (unwantedOf rfl (yieldedAt rfl rfl (show a.eval (.tmp 35) = .bool (!false) from (hv 2 (by omega) _ rfl _ rfl)))) ⟨s, ⟨_, rfl, rfl⟩, hS, fun _ _ => rfl⟩
      | 4, _ => exact stepU rfl (unwantedOf rfl (yieldedAt rfl rfl (show a.eval (.tmp 35) = .bool (!false) from (hv 2 (by omega) _ rfl _ rfl)))) ⟨s, ⟨_, rfl, rfl⟩, hS, fun _ _ => rfl⟩
      | 5, _ => exact stepV rfl rfl (execPickT rfl (hv 2 (by omega) _ rfl _ rfl) rfl) ⟨s, ⟨_, rfl, rfl⟩, hS, fun _ _ => rfl⟩
      | k_ + 6, h_ => exact absurd h_ (by simp)
    rintro _ a X5 h1 h2 h3 h4 hS
    replace hS : Below X4.heap.size X4 X5 := hS
    have bX := hS
    clear hS
    replace t0 := (h3 0 (by decide)).trans t0
    replace t1 := (h3 1 (by decide)).trans t1
    replace t2 := (h3 2 (by decide)).trans t2
    replace t7 := (h3 7 (by decide)).trans t7
    replace t8 := (h3 8 (by decide)).trans t8
    replace t10 := (h3 10 (by decide)).trans t10
    replace t11 := (h3 11 (by decide)).trans t11
    have t38 : a.eval (.tmp 38) = .bool true := h4 5 _ rfl _ rfl
    replace FI := (FI.on bX)
    replace FF := (FF.on bX)
    replace FG := (FG.on bX)
    replace Fa22 := (Fa22.on bX)
    replace Fo22 := (Fo22.on bX)
    replace Fa29 := (Fa29.on bX)
    replace Fo29 := (Fo29.on bX)
    have ZX5 := bX.size
    replace BW := BW.trans (bX.mono BW.size)
    clear bX
    replace A := (⟨h1, h2.trans A.2⟩ : a.tmps.size = 117 ∧ a.defers = [])
    clear h1 h2 h3 h4
    clear t9 t12
    refine wp_cond_true t38 ?_
    refine wp_seq ?_
    refine wp_region_sq (σ := Unit) 117 [(0, 6)] (fun j_ s X => match j_ with | 0 => Below X5.heap.size X5 X | _ => Below X5.heap.size X5 X) (fun s => fun i_ => match i_ with | 0 => .bool true | _ => undef) () A.1 (by kernel_rfl) (by decide) (by decide) (Below.refl _ _) ?_ ?_
    · intro i_ hi_ s a X hf hv hn hS
      match i_, hi_ with
      | 0, _ => exact stepV rfl rfl (execAsgB rfl rfl) ⟨s, ⟨_, rfl, rfl⟩, hS, fun _ _ => rfl⟩
      | k_ + 1, h_ => exact absurd h_ (by simp)
    rintro _ a X6 h1 h2 h3 h4 hS
    replace hS : Below X5.heap.size X5 X6 := hS
    have bX := hS
    clear hS
    have t6 : a.eval (.tmp 6) = .bool true := h4 0 _ rfl _ rfl
    replace FI := (FI.on bX)
    replace FF := (FF.on bX)
    replace FG := (FG.on bX)
    replace Fa22 := (Fa22.on bX)
    replace Fo22 := (Fo22.on bX)
    replace Fa29 := (Fa29.on bX)
    replace Fo29 := (Fo29.on bX)
    have ZX6 := bX.size
    replace BW := BW.trans (bX.mono BW.size)
    clear bX
    replace A := (⟨h1, h2.trans A.2⟩ : a.tmps.size = 117 ∧ a.defers = [])
    clear h1 h2 h3 h4
    clear t0 t1 t2 t7 t8 t10 t11
    refine wp_ret ?_
    repeat (first | refine ret_in ?_ | refine ret_then ?_)
    refine bodyPost_ret (results_tmp rfl _ _ _) A.2 ⟨?_, BW⟩
    show Ending.returned (a.eval (.tmp 6)) = _
    rw [t6]
end Go.Proofs.Ytdecmmcphcomhaa.Brd
