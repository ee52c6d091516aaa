import Derived.Test.YtpclecbhfjalnaaG9j
namespace Go.Proofs.Ytpclecbhfjalnaa.Drw
open Go.RowKit Gf8 Aes By8 Cel Cf Tap
/- DrawEven over any Impl. Written by tools/mkG9k.py. -/

theorem allE_is {p : Nat → Nat} {l : Nat} {bs : Nat → Int} {n : Nat} (h : anyB bs n = false) (hok : okA p l bs n) : allE p l bs n = 0 := by
  unfold allE
  rw [if_neg (by rw [h]; decide), if_pos (okB_iff.2 hok)]
theorem trE_is {p : Nat → Nat} {l : Nat} {bs ws : Nat → Int} {n : Nat} (h : anyB bs n = false) (hw : wOk bs ws n) (hok : okA p l bs n) : trE p l bs n ws n = 0 := by
  unfold trE
  rw [if_neg (fun q => by
    rcases q with q | q | q
    · rw [h] at q; cases q
    · exact q rfl
    · rw [anyW_no.2 hw] at q; cases q), if_pos (okB_iff.2 hok)]
theorem trE_two {p : Nat → Nat} {l : Nat} {bs ws : Nat → Int} {n m : Nat} (ha : ¬ trE p l bs n ws m = allE p l bs n) : trE p l bs n ws m = 2 := by
  unfold trE at ha ⊢
  by_cases h1 : anyB bs n = true ∨ m ≠ n ∨ anyW bs ws m = true
  · rw [if_pos h1]
  · rw [if_neg h1] at ha
    exfalso
    apply ha
    unfold allE
    rw [if_neg (fun q => h1 (Or.inl q))]
theorem tk_nil {W : World} {B n : Nat} {v : Value} {q : Nat → Nat} (h : TkA W B v n q) : ∀ l c, v = .slice none l c → c = 0 := by
  intro l c e
  rcases h with ⟨rfl, _⟩ | h
  · injection e with _ _ e
    exact e.symm
  · exact absurd e (h.some l c)
theorem execMkN {o : Oper} {a : Act} {w : World} {x y : Operand} {n : Nat} (ho : o.op = .makeSlice 23 x y) (hx : a.eval x = .int .i64 (n : Int)) (hy : a.eval y = .int .i64 (n : Int)) (hn : n ≤ 17592186044416) : (execOp a.eval o).run Try.prog w = .ok (.value (.slice (some ⟨w.heap.size, 0, none⟩) n n)) (w.alloc (.cells (madeCells #[.int .i64 0] n) 3)) := by
  obtain ⟨i, h1, h2, h3, h4⟩ := infoI
  have h := run_make (P := Try.prog) w 23 3 i (.int .i64 0) Try.underlying23 h1 h2 .i64 .i64 (n : Int) (n : Int) (by omega) (by omega) (by rw [h4]; omega) (by omega)
  rw [h3, Int.toNat_natCast, Nat.mul_one] at h
  unfold execOp
  simp only [ho, hx, hy, Sem.run_bind, h, Result.andThen_ok, Sem.run_pure]
  rfl
theorem zerosI (W : World) (n : Nat) (hn : n ≤ 17592186044416) : SliceI (W.alloc (.cells (madeCells #[.int .i64 0] n) 3)) (.slice (some ⟨W.heap.size, 0, none⟩) n n) n (fun _ => 0) :=
  ⟨⟨_, _, rfl, Nat.le_refl _, by unfold maxLen; omega, fun _ => ⟨W.heap.size, 0, rfl, by simp, fun j hj => by rw [cell_of_row _ _ _ _ _ _ (heapNew W _), Nat.zero_add]; simp [madeCells, hj, Nat.mod_one]⟩⟩, fun _ _ => by decide⟩
set_option maxRecDepth 100000 in
set_option maxHeartbeats 4000000 in
theorem even_bad (I : Impl) (p : Nat → Nat) (l : Nat) (bs ws : Nat → Int) (n m : Nat) (pv bv wv : Value) (V : World) (hp : SliceN V pv l p) (hl : l ≤ 140737488351232) (hz : ∀ l c, pv = .slice none l c → c = 0) (hb : SliceI V bv n bs) (hn17 : n ≤ 17592186044416) (hwv : SliceI V wv m ws) (hm17 : m ≤ 17592186044416) (hE0 : trE p l bs n ws m ≠ 0) : Calls Try.prog 6 #[pv, bv, wv] V fun e w' => e = .returned (.bool true) ∧ Below V.heap.size V w' := by
  have FP := hp
  have FI := hb
  have FJ := hwv
  have hpb := hp.bytes
  have hN0 : trN p l bs n ws m = 0 := if_neg hE0
  by_cases hEA : trE p l bs n ws m = allE p l bs n
  · go_enter Try.func6, Try.ntmps6
    refine wp_seq ?_
    refine wp_region_sqK 139 [(0, 6)] (fun i_ => match i_ with | 0 => .bool false | _ => undef) rfl (by kernel_rfl) (by decide) (by decide) ?_ ?_
    · intro i_ hi_ a hf hv hn
      match i_, hi_ with
      | 0, _ => exact stepV rfl rfl (execAsgB rfl rfl) ⟨⟨_, rfl, rfl⟩, rfl⟩
      | k_ + 1, h_ => exact absurd h_ (by simp)
    intro a h1 h2 h3 h4
    have t0 : a.eval (.tmp 0) = pv := (h3 0 (by decide)).trans rfl
    have t1 : a.eval (.tmp 1) = bv := (h3 1 (by decide)).trans rfl
    have t2 : a.eval (.tmp 2) = wv := (h3 2 (by decide)).trans rfl
    have A : a.tmps.size = 139 ∧ a.defers = [] := ⟨h1, h2⟩
    have BW : Below V.heap.size V V := Below.refl _ _
    clear h1 h2 h3 h4
    refine wp_seq ?_
    refine wp_seq ?_
    refine wp_region_sq (σ := Unit) 139 [(0, 21), (1, 22)] (fun j_ s X => match j_ with | 0 => Below V.heap.size V X | 1 => Below V.heap.size V X | _ => Below V.heap.size V X) (fun s => fun i_ => match i_ with | 0 => .bool true | 1 => .bool false | _ => undef) () A.1 (by kernel_rfl) (by decide) (by decide) (Below.refl _ _) ?_ ?_
    · intro i_ hi_ s a X hf hv hn hS
      match i_, hi_ with
      | 0, _ => exact stepC rfl rfl (execCall0 Try.func9 (by kernel_rfl) (by kernel_rfl) rfl ) (alive10 I X) fun e w' hh => ⟨_, hh.1, s, ⟨_, rfl, rfl⟩, (hS).trans ((hh.2).mono (hS).size), fun _ _ => rfl⟩
      | 1, _ => exact stepV rfl rfl (execNot8 rfl (hv 0 (by omega) _ rfl _ rfl)) ⟨s, ⟨_, rfl, rfl⟩, hS, fun _ _ => rfl⟩
      | k_ + 2, h_ => exact absurd h_ (by simp)
    rintro _ a X1 h1 h2 h3 h4 hS
    replace hS : Below V.heap.size V X1 := hS
    have bX := hS
    clear hS
    replace t0 := (h3 0 (by decide)).trans t0
    replace t1 := (h3 1 (by decide)).trans t1
    replace t2 := (h3 2 (by decide)).trans t2
    have t22 : a.eval (.tmp 22) = .bool false := h4 1 _ rfl _ rfl
    replace FP := (FP.on bX)
    replace FI := (FI.on bX)
    replace FJ := (FJ.on bX)
    have ZX1 := bX.size
    replace BW := BW.trans (bX.mono BW.size)
    clear bX
    replace A := (⟨h1, h2.trans A.2⟩ : a.tmps.size = 139 ∧ a.defers = [])
    clear h1 h2 h3 h4
    refine wp_cond_false t22 ?_
    refine wp_skip ?_
    clear t22
    refine wp_seq ?_
    refine wp_region_sq (σ := Value) 139 [(0, 24), (1, 25), (2, 26), (3, 23), (4, 27), (5, 28), (6, 29), (7, 7), (8, 8), (9, 9)] (fun j_ s X => match j_ with | 0 => Below X1.heap.size X1 X | 1 => Below X1.heap.size X1 X | 2 => Below X1.heap.size X1 X | 3 => Below X1.heap.size X1 X ∧ (SliceI X s (allN p l bs n) (fun i => (dA p l bs i : Int))) | 4 => Below X1.heap.size X1 X ∧ (SliceI X s (allN p l bs n) (fun i => (dA p l bs i : Int))) | 5 => Below X1.heap.size X1 X ∧ (SliceI X s (allN p l bs n) (fun i => (dA p l bs i : Int))) | 6 => Below X1.heap.size X1 X ∧ (SliceI X s (allN p l bs n) (fun i => (dA p l bs i : Int))) | 7 => Below X1.heap.size X1 X ∧ (SliceI X s (allN p l bs n) (fun i => (dA p l bs i : Int))) | 8 => Below X1.heap.size X1 X ∧ (SliceI X s (allN p l bs n) (fun i => (dA p l bs i : Int))) | 9 => Below X1.heap.size X1 X ∧ (SliceI X s (allN p l bs n) (fun i => (dA p l bs i : Int))) | _ => Below X1.heap.size X1 X ∧ (SliceI X s (allN p l bs n) (fun i => (dA p l bs i : Int)))) (fun s => fun i_ => match i_ with | 0 => pv | 1 => bv | 2 => .tuple #[s, .int .i64 ((allK p l bs n : Nat) : Int), .int .i64 ((allE p l bs n : Nat) : Int)] | 3 => .tuple #[s, .int .i64 ((allK p l bs n : Nat) : Int), .int .i64 ((allE p l bs n : Nat) : Int)] | 4 => s | 5 => .int .i64 ((allK p l bs n : Nat) : Int) | 6 => .int .i64 ((allE p l bs n : Nat) : Int) | 7 => s | 8 => .int .i64 ((allK p l bs n : Nat) : Int) | 9 => .int .i64 ((allE p l bs n : Nat) : Int) | _ => undef) undef A.1 (by kernel_rfl) (by decide) (by decide) (Below.refl _ _) ?_ ?_
    · intro i_ hi_ s a X hf hv hn hS
      match i_, hi_ with
      | 0, _ => exact stepV rfl rfl (execMvB rfl ((hf 0 (by decide)).trans t0)) ⟨s, ⟨_, rfl, rfl⟩, hS, fun _ _ => rfl⟩
      | 1, _ => exact stepV rfl rfl (execMvB rfl ((hf 1 (by decide)).trans t1)) ⟨s, ⟨_, rfl, rfl⟩, hS, fun _ _ => rfl⟩
      | 2, _ =>
        refine stepC rfl rfl (execCall2 Try.func17 (by kernel_rfl) (by kernel_rfl) rfl (hv 0 (by omega) _ rfl _ rfl) (hv 1 (by omega) _ rfl _ rfl)) (I.all p l bs n _ _ X (FP.on hS) (by omega) (FI.on hS) (by omega)) fun e w' hh => ?_
        obtain ⟨r_, he, hk, hb⟩ := hh
        refine ⟨_, he, r_, ⟨_, rfl, rfl⟩, ⟨(hS).trans ((hb).mono (hS).size), own_ints hk (dA_fits _ _ _ _)⟩, fun i hi => ?_⟩
        match i, hi with
        | 0, _ => rfl
        | 1, _ => rfl
        | n_ + 2, h_ => omega
      | 3, _ => exact stepV rfl rfl (execMvB rfl (hv 2 (by omega) _ rfl _ rfl)) ⟨s, ⟨_, rfl, rfl⟩, hS, fun _ _ => rfl⟩
      | 4, _ => exact stepV rfl rfl (execExtT rfl (hv 3 (by omega) _ rfl _ rfl) rfl) ⟨s, ⟨_, rfl, rfl⟩, hS, fun _ _ => rfl⟩
      | 5, _ => exact stepV rfl rfl (execExtT rfl (hv 3 (by omega) _ rfl _ rfl) rfl) ⟨s, ⟨_, rfl, rfl⟩, hS, fun _ _ => rfl⟩
      | 6, _ => exact stepV rfl rfl (execExtT rfl (hv 3 (by omega) _ rfl _ rfl) rfl) ⟨s, ⟨_, rfl, rfl⟩, hS, fun _ _ => rfl⟩
      | 7, _ => exact stepV rfl rfl (execAsgB rfl (hv 4 (by omega) _ rfl _ rfl)) ⟨s, ⟨_, rfl, rfl⟩, hS, fun _ _ => rfl⟩
      | 8, _ => exact stepV rfl rfl (execAsgB rfl (hv 5 (by omega) _ rfl _ rfl)) ⟨s, ⟨_, rfl, rfl⟩, hS, fun _ _ => rfl⟩
      | 9, _ => exact stepV rfl rfl (execAsgB rfl (hv 6 (by omega) _ rfl _ rfl)) ⟨s, ⟨_, rfl, rfl⟩, hS, fun _ _ => rfl⟩
      | k_ + 10, h_ => exact absurd h_ (by simp)
    rintro v26 a X3 h1 h2 h3 h4 hS
    replace hS : Below X1.heap.size X1 X3 ∧ (SliceI X3 v26 (allN p l bs n) (fun i => (dA p l bs i : Int))) := hS
    obtain ⟨bX, Fv26⟩ := hS
    replace t0 := (h3 0 (by decide)).trans t0
    replace t1 := (h3 1 (by decide)).trans t1
    replace t2 := (h3 2 (by decide)).trans t2
    have t7 : a.eval (.tmp 7) = v26 := h4 7 _ rfl _ rfl
    have t8 : a.eval (.tmp 8) = .int .i64 ((allK p l bs n : Nat) : Int) := h4 8 _ rfl _ rfl
    have t9 : a.eval (.tmp 9) = .int .i64 ((allE p l bs n : Nat) : Int) := h4 9 _ rfl _ rfl
    replace FP := (FP.on bX)
    replace FI := (FI.on bX)
    replace FJ := (FJ.on bX)
    have ZX3 := bX.size
    replace BW := BW.trans (bX.mono BW.size)
    clear bX
    replace A := (⟨h1, h2.trans A.2⟩ : a.tmps.size = 139 ∧ a.defers = [])
    clear h1 h2 h3 h4
    refine wp_seq ?_
    refine wp_region_sq (σ := Value) 139 [(0, 31), (1, 32), (2, 33), (3, 34), (4, 30), (5, 35), (6, 36), (7, 10), (8, 11)] (fun j_ s X => match j_ with | 0 => Below X3.heap.size X3 X | 1 => Below X3.heap.size X3 X | 2 => Below X3.heap.size X3 X | 3 => Below X3.heap.size X3 X | 4 => Below X3.heap.size X3 X ∧ SliceN X s (trN p l bs n ws m) (trF p l bs ws n) ∧ (∀ l_ c_, s = .slice none l_ c_ → c_ = 0) | 5 => Below X3.heap.size X3 X ∧ SliceN X s (trN p l bs n ws m) (trF p l bs ws n) ∧ (∀ l_ c_, s = .slice none l_ c_ → c_ = 0) | 6 => Below X3.heap.size X3 X ∧ SliceN X s (trN p l bs n ws m) (trF p l bs ws n) ∧ (∀ l_ c_, s = .slice none l_ c_ → c_ = 0) | 7 => Below X3.heap.size X3 X ∧ SliceN X s (trN p l bs n ws m) (trF p l bs ws n) ∧ (∀ l_ c_, s = .slice none l_ c_ → c_ = 0) | 8 => Below X3.heap.size X3 X ∧ SliceN X s (trN p l bs n ws m) (trF p l bs ws n) ∧ (∀ l_ c_, s = .slice none l_ c_ → c_ = 0) | _ => Below X3.heap.size X3 X ∧ SliceN X s (trN p l bs n ws m) (trF p l bs ws n) ∧ (∀ l_ c_, s = .slice none l_ c_ → c_ = 0)) (fun s => fun i_ => match i_ with | 0 => pv | 1 => bv | 2 => wv | 3 => .tuple #[s, .int .i64 ((trE p l bs n ws m : Nat) : Int)] | 4 => .tuple #[s, .int .i64 ((trE p l bs n ws m : Nat) : Int)] | 5 => s | 6 => .int .i64 ((trE p l bs n ws m : Nat) : Int) | 7 => s | 8 => .int .i64 ((trE p l bs n ws m : Nat) : Int) | _ => undef) undef A.1 (by kernel_rfl) (by decide) (by decide) (Below.refl _ _) ?_ ?_
    · intro i_ hi_ s a X hf hv hn hS
      match i_, hi_ with
      | 0, _ => exact stepV rfl rfl (execMvB rfl ((hf 0 (by decide)).trans t0)) ⟨s, ⟨_, rfl, rfl⟩, hS, fun _ _ => rfl⟩
      | 1, _ => exact stepV rfl rfl (execMvB rfl ((hf 1 (by decide)).trans t1)) ⟨s, ⟨_, rfl, rfl⟩, hS, fun _ _ => rfl⟩
      | 2, _ => exact stepV rfl rfl (execMvB rfl ((hf 2 (by decide)).trans t2)) ⟨s, ⟨_, rfl, rfl⟩, hS, fun _ _ => rfl⟩
      | 3, _ =>
        refine stepC rfl rfl (execCall3 Try.func20 (by kernel_rfl) (by kernel_rfl) rfl (hv 0 (by omega) _ rfl _ rfl) (hv 1 (by omega) _ rfl _ rfl) (hv 2 (by omega) _ rfl _ rfl)) (I.turn p l bs ws n m _ _ _ X (FP.on hS) (by omega) hz (FI.on hS) (by omega) (FJ.on hS) (by omega)) fun e w' hh => ?_
        obtain ⟨r_, he, hk, hb⟩ := hh
        refine ⟨_, he, r_, ⟨_, rfl, rfl⟩, ⟨(hS).trans ((hb).mono (hS).size), hk.slice, tk_nil hk⟩, fun i hi => ?_⟩
        match i, hi with
        | 0, _ => rfl
        | 1, _ => rfl
        | 2, _ => rfl
        | n_ + 3, h_ => omega
      | 4, _ => exact stepV rfl rfl (execMvB rfl (hv 3 (by omega) _ rfl _ rfl)) ⟨s, ⟨_, rfl, rfl⟩, hS, fun _ _ => rfl⟩
      | 5, _ => exact stepV rfl rfl (execExtT rfl (hv 4 (by omega) _ rfl _ rfl) rfl) ⟨s, ⟨_, rfl, rfl⟩, hS, fun _ _ => rfl⟩
      | 6, _ => exact stepV rfl rfl (execExtT rfl (hv 4 (by omega) _ rfl _ rfl) rfl) ⟨s, ⟨_, rfl, rfl⟩, hS, fun _ _ => rfl⟩
      | 7, _ => exact stepV rfl rfl (execAsgB rfl (hv 5 (by omega) _ rfl _ rfl)) ⟨s, ⟨_, rfl, rfl⟩, hS, fun _ _ => rfl⟩
      | 8, _ => exact stepV rfl rfl (execAsgB rfl (hv 6 (by omega) _ rfl _ rfl)) ⟨s, ⟨_, rfl, rfl⟩, hS, fun _ _ => rfl⟩
      | k_ + 9, h_ => exact absurd h_ (by simp)
    rintro v34 a X4 h1 h2 h3 h4 hS
    replace hS : Below X3.heap.size X3 X4 ∧ SliceN X4 v34 (trN p l bs n ws m) (trF p l bs ws n) ∧ (∀ l_ c_, v34 = .slice none l_ c_ → c_ = 0) := hS
    obtain ⟨bX, Fv34, Kv34⟩ := hS
    replace t0 := (h3 0 (by decide)).trans t0
    replace t1 := (h3 1 (by decide)).trans t1
    replace t2 := (h3 2 (by decide)).trans t2
    replace t7 := (h3 7 (by decide)).trans t7
    replace t8 := (h3 8 (by decide)).trans t8
    replace t9 := (h3 9 (by decide)).trans t9
    have t10 : a.eval (.tmp 10) = v34 := h4 7 _ rfl _ rfl
    have t11 : a.eval (.tmp 11) = .int .i64 ((trE p l bs n ws m : Nat) : Int) := h4 8 _ rfl _ rfl
    replace FP := (FP.on bX)
    replace FI := (FI.on bX)
    replace FJ := (FJ.on bX)
    replace Fv26 := (Fv26.on bX)
    have ZX4 := bX.size
    replace BW := BW.trans (bX.mono BW.size)
    clear bX
    replace A := (⟨h1, h2.trans A.2⟩ : a.tmps.size = 139 ∧ a.defers = [])
    clear h1 h2 h3 h4
    refine wp_seq ?_
    refine wp_seq ?_
    refine wp_region_sq (σ := Unit) 139 [(0, 37), (1, 38)] (fun j_ s X => match j_ with | 0 => Below X4.heap.size X4 X | 1 => Below X4.heap.size X4 X | _ => Below X4.heap.size X4 X) (fun s => fun i_ => match i_ with | 0 => .int .i64 ((trE p l bs n ws m : Nat) : Int) | 1 => .bool true | _ => undef) () A.1 (by kernel_rfl) (by decide) (by decide) (Below.refl _ _) ?_ ?_
    · intro i_ hi_ s a X hf hv hn hS
      match i_, hi_ with
      | 0, _ => exact stepV rfl rfl (execMvB rfl ((hf 11 (by decide)).trans t11)) ⟨s, ⟨_, rfl, rfl⟩, hS, fun _ _ => rfl⟩
      | 1, _ => exact stepV rfl rfl (execDec (execNeE (p := trE p l bs n ws m) (q := 0) rfl (hv 0 (by omega) _ rfl _ rfl) rfl) (decide_eq_true (by exact hE0))) ⟨s, ⟨_, rfl, rfl⟩, hS, fun _ _ => rfl⟩
      | k_ + 2, h_ => exact absurd h_ (by simp)
    rintro _ a X5 h1 h2 h3 h4 hS
    replace hS : Below X4.heap.size X4 X5 := hS
    have bX := hS
    clear hS
    replace t9 := (h3 9 (by decide)).trans t9
    replace t10 := (h3 10 (by decide)).trans t10
    replace t11 := (h3 11 (by decide)).trans t11
    have t38 : a.eval (.tmp 38) = .bool true := h4 1 _ rfl _ rfl
    replace FP := (FP.on bX)
    replace FI := (FI.on bX)
    replace FJ := (FJ.on bX)
    replace Fv26 := (Fv26.on bX)
    replace Fv34 := (Fv34.on bX)
    replace Kv34 := Kv34
    have ZX5 := bX.size
    replace BW := BW.trans (bX.mono BW.size)
    clear bX
    replace A := (⟨h1, h2.trans A.2⟩ : a.tmps.size = 139 ∧ a.defers = [])
    clear h1 h2 h3 h4
    clear t0 t1 t2 t7 t8
    refine wp_cond_true t38 ?_
    refine wp_seq ?_
    refine wp_region_sq (σ := Unit) 139 [(0, 39), (1, 40), (2, 41), (3, 42), (4, 43), (5, 44), (6, 45), (7, 46), (8, 47), (9, 48), (10, 49), (11, 50), (12, 6)] (fun j_ s X => match j_ with | 0 => Below X5.heap.size X5 X | 1 => Below X5.heap.size X5 X | 2 => Below X5.heap.size X5 X | 3 => Below X5.heap.size X5 X | 4 => Below X5.heap.size X5 X | 5 => Below X5.heap.size X5 X | 6 => Below X5.heap.size X5 X | 7 => Below X5.heap.size X5 X | 8 => Below X5.heap.size X5 X | 9 => Below X5.heap.size X5 X | 10 => Below X5.heap.size X5 X | 11 => Below X5.heap.size X5 X | 12 => Below X5.heap.size X5 X | _ => Below X5.heap.size X5 X) (fun s => fun i_ => match i_ with | 0 => .int .i64 ((trE p l bs n ws m : Nat) : Int) | 1 => .int .i64 ((allE p l bs n : Nat) : Int) | 2 => .bool true | 3 => .bool true | 4 => undef | 5 => undef | 6 => undef | 7 => undef | 8 => undef | 9 => undef | 10 => undef | 11 => .bool true | 12 => .bool true | _ => undef) () A.1 (by kernel_rfl) (by decide) (by decide) (Below.refl _ _) ?_ ?_
    · intro i_ hi_ s a X hf hv hn hS
      match i_, hi_ with
      | 0, _ => exact stepV rfl rfl (execMvB rfl ((hf 11 (by decide)).trans t11)) ⟨s, ⟨_, rfl, rfl⟩, hS, fun _ _ => rfl⟩
      | 1, _ => exact stepV rfl rfl (execMvB rfl ((hf 9 (by decide)).trans t9)) ⟨s, ⟨_, rfl, rfl⟩, hS, fun _ _ => rfl⟩
      | 2, _ => exact stepV rfl rfl (execDec (execEqE (p := trE p l bs n ws m) (q := allE p l bs n) rfl (hv 0 (by omega) _ rfl _ rfl) (hv 1 (by omega) _ rfl _ rfl)) (decide_eq_true (by exact hEA))) ⟨s, ⟨_, rfl, rfl⟩, hS, fun _ _ => rfl⟩
      | 3, _ => exact stepV rfl rfl (execMvB rfl (hv 2 (by omega) _ rfl _ rfl)) ⟨s, ⟨_, rfl, rfl⟩, hS, fun _ _ => rfl⟩
      | 4, _ => exact stepU rfl (unwantedOf rfl (yieldedAt rfl rfl (show a.eval (.tmp 42) = .bool (!false) from (hv 3 (by omega) _ rfl _ rfl)))) ⟨s, ⟨_, rfl, rfl⟩, hS, fun _ _ => rfl⟩
      | 5, _ => exact stepU rfl (unwantedOf rfl (yieldedAt rfl rfl (show a.eval (.tmp 42) = .bool (!false) from (hv 3 (by omega) _ rfl _ rfl)))) ⟨s, ⟨_, rfl, rfl⟩, hS, fun _ _ => rfl⟩
      | 6, _ => exact stepU rfl (unwantedOf rfl (yieldedAt rfl rfl (show a.eval (.tmp 42) = .bool (!false) from (hv 3 (by omega) _ rfl _ rfl)))) ⟨s, ⟨_, rfl, rfl⟩, hS, fun _ _ => rfl⟩
      | 7, _ => exact stepU rfl (unwantedNo rfl (yieldedNo rfl rfl (show a.eval (.tmp 45) = undef from (hv 6 (by omega) _ rfl _ rfl)))) ⟨s, ⟨_, rfl, rfl⟩, hS, fun _ _ => rfl⟩
      | 8, _ => exact stepU rfl (unwantedNo rfl (yieldedNo rfl rfl (show a.eval (.tmp 45) = undef from (hv 6 (by omega) _ rfl _ rfl)))) ⟨s, ⟨_, rfl, rfl⟩, hS, fun _ _ => rfl⟩
      | 9, _ => exact stepU rfl (unwantedNo rfl (yieldedNo rfl rfl (show a.eval (.tmp 45) = undef from (hv 6 (by omega) _ rfl _ rfl)))) ⟨s, ⟨_, rfl, rfl⟩, hS, fun _ _ => rfl⟩
      | 10, _ => exact stepU rfl (unwantedOf rfl (yieldedAt rfl rfl (show a.eval (.tmp 42) = .bool (!false) from (hv 3 (by omega) _ rfl _ rfl)))) ⟨s, ⟨_, rfl, rfl⟩, hS, fun _ _ => rfl⟩
      | 11, _ => exact stepV rfl rfl (execPickT rfl (hv 3 (by omega) _ rfl _ rfl) rfl) ⟨s, ⟨_, rfl, rfl⟩, hS, fun _ _ => rfl⟩
      | 12, _ => exact stepV rfl rfl (execAsgB rfl (hv 11 (by omega) _ rfl _ rfl)) ⟨s, ⟨_, rfl, rfl⟩, hS, fun _ _ => rfl⟩
      | k_ + 13, h_ => exact absurd h_ (by simp)
    rintro _ a X6 h1 h2 h3 h4 hS
    replace hS : Below X5.heap.size X5 X6 := hS
    have bX := hS
    clear hS
    have t6 : a.eval (.tmp 6) = .bool true := h4 12 _ rfl _ rfl
    replace FP := (FP.on bX)
    replace FI := (FI.on bX)
    replace FJ := (FJ.on bX)
    replace Fv26 := (Fv26.on bX)
    replace Fv34 := (Fv34.on bX)
    replace Kv34 := Kv34
    have ZX6 := bX.size
    replace BW := BW.trans (bX.mono BW.size)
    clear bX
    replace A := (⟨h1, h2.trans A.2⟩ : a.tmps.size = 139 ∧ a.defers = [])
    clear h1 h2 h3 h4
    clear t9 t10 t11
    refine wp_ret ?_
    refine ret_then ?_
    refine bodyPost_ret (results_tmp rfl _ _ _) A.2 ⟨?_, BW⟩
    show Ending.returned (a.eval (.tmp 6)) = _
    rw [t6]
  · have hE2 : trE p l bs n ws m = 2 := trE_two hEA
    go_enter Try.func6, Try.ntmps6
    refine wp_seq ?_
    refine wp_region_sqK 139 [(0, 6)] (fun i_ => match i_ with | 0 => .bool false | _ => undef) rfl (by kernel_rfl) (by decide) (by decide) ?_ ?_
    · intro i_ hi_ a hf hv hn
      match i_, hi_ with
      | 0, _ => exact stepV rfl rfl (execAsgB rfl rfl) ⟨⟨_, rfl, rfl⟩, rfl⟩
      | k_ + 1, h_ => exact absurd h_ (by simp)
    intro a h1 h2 h3 h4
    have t0 : a.eval (.tmp 0) = pv := (h3 0 (by decide)).trans rfl
    have t1 : a.eval (.tmp 1) = bv := (h3 1 (by decide)).trans rfl
    have t2 : a.eval (.tmp 2) = wv := (h3 2 (by decide)).trans rfl
    have A : a.tmps.size = 139 ∧ a.defers = [] := ⟨h1, h2⟩
    have BW : Below V.heap.size V V := Below.refl _ _
    clear h1 h2 h3 h4
    refine wp_seq ?_
    refine wp_seq ?_
    refine wp_region_sq (σ := Unit) 139 [(0, 21), (1, 22)] (fun j_ s X => match j_ with | 0 => Below V.heap.size V X | 1 => Below V.heap.size V X | _ => Below V.heap.size V X) (fun s => fun i_ => match i_ with | 0 => .bool true | 1 => .bool false | _ => undef) () A.1 (by kernel_rfl) (by decide) (by decide) (Below.refl _ _) ?_ ?_
    · intro i_ hi_ s a X hf hv hn hS
      match i_, hi_ with
      | 0, _ => exact stepC rfl rfl (execCall0 Try.func9 (by kernel_rfl) (by kernel_rfl) rfl ) (alive10 I X) fun e w' hh => ⟨_, hh.1, s, ⟨_, rfl, rfl⟩, (hS).trans ((hh.2).mono (hS).size), fun _ _ => rfl⟩
      | 1, _ => exact stepV rfl rfl (execNot8 rfl (hv 0 (by omega) _ rfl _ rfl)) ⟨s, ⟨_, rfl, rfl⟩, hS, fun _ _ => rfl⟩
      | k_ + 2, h_ => exact absurd h_ (by simp)
    rintro _ a X1 h1 h2 h3 h4 hS
    replace hS : Below V.heap.size V X1 := hS
    have bX := hS
    clear hS
    replace t0 := (h3 0 (by decide)).trans t0
    replace t1 := (h3 1 (by decide)).trans t1
    replace t2 := (h3 2 (by decide)).trans t2
    have t22 : a.eval (.tmp 22) = .bool false := h4 1 _ rfl _ rfl
    replace FP := (FP.on bX)
    replace FI := (FI.on bX)
    replace FJ := (FJ.on bX)
    have ZX1 := bX.size
    replace BW := BW.trans (bX.mono BW.size)
    clear bX
    replace A := (⟨h1, h2.trans A.2⟩ : a.tmps.size = 139 ∧ a.defers = [])
    clear h1 h2 h3 h4
    refine wp_cond_false t22 ?_
    refine wp_skip ?_
    clear t22
    refine wp_seq ?_
    refine wp_region_sq (σ := Value) 139 [(0, 24), (1, 25), (2, 26), (3, 23), (4, 27), (5, 28), (6, 29), (7, 7), (8, 8), (9, 9)] (fun j_ s X => match j_ with | 0 => Below X1.heap.size X1 X | 1 => Below X1.heap.size X1 X | 2 => Below X1.heap.size X1 X | 3 => Below X1.heap.size X1 X ∧ (SliceI X s (allN p l bs n) (fun i => (dA p l bs i : Int))) | 4 => Below X1.heap.size X1 X ∧ (SliceI X s (allN p l bs n) (fun i => (dA p l bs i : Int))) | 5 => Below X1.heap.size X1 X ∧ (SliceI X s (allN p l bs n) (fun i => (dA p l bs i : Int))) | 6 => Below X1.heap.size X1 X ∧ (SliceI X s (allN p l bs n) (fun i => (dA p l bs i : Int))) | 7 => Below X1.heap.size X1 X ∧ (SliceI X s (allN p l bs n) (fun i => (dA p l bs i : Int))) | 8 => Below X1.heap.size X1 X ∧ (SliceI X s (allN p l bs n) (fun i => (dA p l bs i : Int))) | 9 => Below X1.heap.size X1 X ∧ (SliceI X s (allN p l bs n) (fun i => (dA p l bs i : Int))) | _ => Below X1.heap.size X1 X ∧ (SliceI X s (allN p l bs n) (fun i => (dA p l bs i : Int)))) (fun s => fun i_ => match i_ with | 0 => pv | 1 => bv | 2 => .tuple #[s, .int .i64 ((allK p l bs n : Nat) : Int), .int .i64 ((allE p l bs n : Nat) : Int)] | 3 => .tuple #[s, .int .i64 ((allK p l bs n : Nat) : Int), .int .i64 ((allE p l bs n : Nat) : Int)] | 4 => s | 5 => .int .i64 ((allK p l bs n : Nat) : Int) | 6 => .int .i64 ((allE p l bs n : Nat) : Int) | 7 => s | 8 => .int .i64 ((allK p l bs n : Nat) : Int) | 9 => .int .i64 ((allE p l bs n : Nat) : Int) | _ => undef) undef A.1 (by kernel_rfl) (by decide) (by decide) (Below.refl _ _) ?_ ?_
    · intro i_ hi_ s a X hf hv hn hS
      match i_, hi_ with
      | 0, _ => exact stepV rfl rfl (execMvB rfl ((hf 0 (by decide)).trans t0)) ⟨s, ⟨_, rfl, rfl⟩, hS, fun _ _ => rfl⟩
      | 1, _ => exact stepV rfl rfl (execMvB rfl ((hf 1 (by decide)).trans t1)) ⟨s, ⟨_, rfl, rfl⟩, hS, fun _ _ => rfl⟩
      | 2, _ =>
        refine stepC rfl rfl (execCall2 Try.func17 (by kernel_rfl) (by kernel_rfl) rfl (hv 0 (by omega) _ rfl _ rfl) (hv 1 (by omega) _ rfl _ rfl)) (I.all p l bs n _ _ X (FP.on hS) (by omega) (FI.on hS) (by omega)) fun e w' hh => ?_
        obtain ⟨r_, he, hk, hb⟩ := hh
        refine ⟨_, he, r_, ⟨_, rfl, rfl⟩, ⟨(hS).trans ((hb).mono (hS).size), own_ints hk (dA_fits _ _ _ _)⟩, fun i hi => ?_⟩
        match i, hi with
        | 0, _ => rfl
        | 1, _ => rfl
        | n_ + 2, h_ => omega
      | 3, _ => exact stepV rfl rfl (execMvB rfl (hv 2 (by omega) _ rfl _ rfl)) ⟨s, ⟨_, rfl, rfl⟩, hS, fun _ _ => rfl⟩
      | 4, _ => exact stepV rfl rfl (execExtT rfl (hv 3 (by omega) _ rfl _ rfl) rfl) ⟨s, ⟨_, rfl, rfl⟩, hS, fun _ _ => rfl⟩
      | 5, _ => exact stepV rfl rfl (execExtT rfl (hv 3 (by omega) _ rfl _ rfl) rfl) ⟨s, ⟨_, rfl, rfl⟩, hS, fun _ _ => rfl⟩
      | 6, _ => exact stepV rfl rfl (execExtT rfl (hv 3 (by omega) _ rfl _ rfl) rfl) ⟨s, ⟨_, rfl, rfl⟩, hS, fun _ _ => rfl⟩
      | 7, _ => exact stepV rfl rfl (execAsgB rfl (hv 4 (by omega) _ rfl _ rfl)) ⟨s, ⟨_, rfl, rfl⟩, hS, fun _ _ => rfl⟩
      | 8, _ => exact stepV rfl rfl (execAsgB rfl (hv 5 (by omega) _ rfl _ rfl)) ⟨s, ⟨_, rfl, rfl⟩, hS, fun _ _ => rfl⟩
      | 9, _ => exact stepV rfl rfl (execAsgB rfl (hv 6 (by omega) _ rfl _ rfl)) ⟨s, ⟨_, rfl, rfl⟩, hS, fun _ _ => rfl⟩
      | k_ + 10, h_ => exact absurd h_ (by simp)
    rintro v26 a X3 h1 h2 h3 h4 hS
    replace hS : Below X1.heap.size X1 X3 ∧ (SliceI X3 v26 (allN p l bs n) (fun i => (dA p l bs i : Int))) := hS
    obtain ⟨bX, Fv26⟩ := hS
    replace t0 := (h3 0 (by decide)).trans t0
    replace t1 := (h3 1 (by decide)).trans t1
    replace t2 := (h3 2 (by decide)).trans t2
    have t7 : a.eval (.tmp 7) = v26 := h4 7 _ rfl _ rfl
    have t8 : a.eval (.tmp 8) = .int .i64 ((allK p l bs n : Nat) : Int) := h4 8 _ rfl _ rfl
    have t9 : a.eval (.tmp 9) = .int .i64 ((allE p l bs n : Nat) : Int) := h4 9 _ rfl _ rfl
    replace FP := (FP.on bX)
    replace FI := (FI.on bX)
    replace FJ := (FJ.on bX)
    have ZX3 := bX.size
    replace BW := BW.trans (bX.mono BW.size)
    clear bX
    replace A := (⟨h1, h2.trans A.2⟩ : a.tmps.size = 139 ∧ a.defers = [])
    clear h1 h2 h3 h4
    refine wp_seq ?_
    refine wp_region_sq (σ := Value) 139 [(0, 31), (1, 32), (2, 33), (3, 34), (4, 30), (5, 35), (6, 36), (7, 10), (8, 11)] (fun j_ s X => match j_ with | 0 => Below X3.heap.size X3 X | 1 => Below X3.heap.size X3 X | 2 => Below X3.heap.size X3 X | 3 => Below X3.heap.size X3 X | 4 => Below X3.heap.size X3 X ∧ SliceN X s (trN p l bs n ws m) (trF p l bs ws n) ∧ (∀ l_ c_, s = .slice none l_ c_ → c_ = 0) | 5 => Below X3.heap.size X3 X ∧ SliceN X s (trN p l bs n ws m) (trF p l bs ws n) ∧ (∀ l_ c_, s = .slice none l_ c_ → c_ = 0) | 6 => Below X3.heap.size X3 X ∧ SliceN X s (trN p l bs n ws m) (trF p l bs ws n) ∧ (∀ l_ c_, s = .slice none l_ c_ → c_ = 0) | 7 => Below X3.heap.size X3 X ∧ SliceN X s (trN p l bs n ws m) (trF p l bs ws n) ∧ (∀ l_ c_, s = .slice none l_ c_ → c_ = 0) | 8 => Below X3.heap.size X3 X ∧ SliceN X s (trN p l bs n ws m) (trF p l bs ws n) ∧ (∀ l_ c_, s = .slice none l_ c_ → c_ = 0) | _ => Below X3.heap.size X3 X ∧ SliceN X s (trN p l bs n ws m) (trF p l bs ws n) ∧ (∀ l_ c_, s = .slice none l_ c_ → c_ = 0)) (fun s => fun i_ => match i_ with | 0 => pv | 1 => bv | 2 => wv | 3 => .tuple #[s, .int .i64 ((trE p l bs n ws m : Nat) : Int)] | 4 => .tuple #[s, .int .i64 ((trE p l bs n ws m : Nat) : Int)] | 5 => s | 6 => .int .i64 ((trE p l bs n ws m : Nat) : Int) | 7 => s | 8 => .int .i64 ((trE p l bs n ws m : Nat) : Int) | _ => undef) undef A.1 (by kernel_rfl) (by decide) (by decide) (Below.refl _ _) ?_ ?_
    · intro i_ hi_ s a X hf hv hn hS
      match i_, hi_ with
      | 0, _ => exact stepV rfl rfl (execMvB rfl ((hf 0 (by decide)).trans t0)) ⟨s, ⟨_, rfl, rfl⟩, hS, fun _ _ => rfl⟩
      | 1, _ => exact stepV rfl rfl (execMvB rfl ((hf 1 (by decide)).trans t1)) ⟨s, ⟨_, rfl, rfl⟩, hS, fun _ _ => rfl⟩
      | 2, _ => exact stepV rfl rfl (execMvB rfl ((hf 2 (by decide)).trans t2)) ⟨s, ⟨_, rfl, rfl⟩, hS, fun _ _ => rfl⟩
      | 3, _ =>
        refine stepC rfl rfl (execCall3 Try.func20 (by kernel_rfl) (by kernel_rfl) rfl (hv 0 (by omega) _ rfl _ rfl) (hv 1 (by omega) _ rfl _ rfl) (hv 2 (by omega) _ rfl _ rfl)) (I.turn p l bs ws n m _ _ _ X (FP.on hS) (by omega) hz (FI.on hS) (by omega) (FJ.on hS) (by omega)) fun e w' hh => ?_
        obtain ⟨r_, he, hk, hb⟩ := hh
        refine ⟨_, he, r_, ⟨_, rfl, rfl⟩, ⟨(hS).trans ((hb).mono (hS).size), hk.slice, tk_nil hk⟩, fun i hi => ?_⟩
        match i, hi with
        | 0, _ => rfl
        | 1, _ => rfl
        | 2, _ => rfl
        | n_ + 3, h_ => omega
      | 4, _ => exact stepV rfl rfl (execMvB rfl (hv 3 (by omega) _ rfl _ rfl)) ⟨s, ⟨_, rfl, rfl⟩, hS, fun _ _ => rfl⟩
      | 5, _ => exact stepV rfl rfl (execExtT rfl (hv 4 (by omega) _ rfl _ rfl) rfl) ⟨s, ⟨_, rfl, rfl⟩, hS, fun _ _ => rfl⟩
      | 6, _ => exact stepV rfl rfl (execExtT rfl (hv 4 (by omega) _ rfl _ rfl) rfl) ⟨s, ⟨_, rfl, rfl⟩, hS, fun _ _ => rfl⟩
      | 7, _ => exact stepV rfl rfl (execAsgB rfl (hv 5 (by omega) _ rfl _ rfl)) ⟨s, ⟨_, rfl, rfl⟩, hS, fun _ _ => rfl⟩
      | 8, _ => exact stepV rfl rfl (execAsgB rfl (hv 6 (by omega) _ rfl _ rfl)) ⟨s, ⟨_, rfl, rfl⟩, hS, fun _ _ => rfl⟩
      | k_ + 9, h_ => exact absurd h_ (by simp)
    rintro v34 a X4 h1 h2 h3 h4 hS
    replace hS : Below X3.heap.size X3 X4 ∧ SliceN X4 v34 (trN p l bs n ws m) (trF p l bs ws n) ∧ (∀ l_ c_, v34 = .slice none l_ c_ → c_ = 0) := hS
    obtain ⟨bX, Fv34, Kv34⟩ := hS
    replace t0 := (h3 0 (by decide)).trans t0
    replace t1 := (h3 1 (by decide)).trans t1
    replace t2 := (h3 2 (by decide)).trans t2
    replace t7 := (h3 7 (by decide)).trans t7
    replace t8 := (h3 8 (by decide)).trans t8
    replace t9 := (h3 9 (by decide)).trans t9
    have t10 : a.eval (.tmp 10) = v34 := h4 7 _ rfl _ rfl
    have t11 : a.eval (.tmp 11) = .int .i64 ((trE p l bs n ws m : Nat) : Int) := h4 8 _ rfl _ rfl
    replace FP := (FP.on bX)
    replace FI := (FI.on bX)
    replace FJ := (FJ.on bX)
    replace Fv26 := (Fv26.on bX)
    have ZX4 := bX.size
    replace BW := BW.trans (bX.mono BW.size)
    clear bX
    replace A := (⟨h1, h2.trans A.2⟩ : a.tmps.size = 139 ∧ a.defers = [])
    clear h1 h2 h3 h4
    refine wp_seq ?_
    refine wp_seq ?_
    refine wp_region_sq (σ := Unit) 139 [(0, 37), (1, 38)] (fun j_ s X => match j_ with | 0 => Below X4.heap.size X4 X | 1 => Below X4.heap.size X4 X | _ => Below X4.heap.size X4 X) (fun s => fun i_ => match i_ with | 0 => .int .i64 ((trE p l bs n ws m : Nat) : Int) | 1 => .bool true | _ => undef) () A.1 (by kernel_rfl) (by decide) (by decide) (Below.refl _ _) ?_ ?_
    · intro i_ hi_ s a X hf hv hn hS
      match i_, hi_ with
      | 0, _ => exact stepV rfl rfl (execMvB rfl ((hf 11 (by decide)).trans t11)) ⟨s, ⟨_, rfl, rfl⟩, hS, fun _ _ => rfl⟩
      | 1, _ => exact stepV rfl rfl (execDec (execNeE (p := trE p l bs n ws m) (q := 0) rfl (hv 0 (by omega) _ rfl _ rfl) rfl) (decide_eq_true (by exact hE0))) ⟨s, ⟨_, rfl, rfl⟩, hS, fun _ _ => rfl⟩
      | k_ + 2, h_ => exact absurd h_ (by simp)
    rintro _ a X5 h1 h2 h3 h4 hS
    replace hS : Below X4.heap.size X4 X5 := hS
    have bX := hS
    clear hS
    replace t9 := (h3 9 (by decide)).trans t9
    replace t10 := (h3 10 (by decide)).trans t10
    replace t11 := (h3 11 (by decide)).trans t11
    have t38 : a.eval (.tmp 38) = .bool true := h4 1 _ rfl _ rfl
    replace FP := (FP.on bX)
    replace FI := (FI.on bX)
    replace FJ := (FJ.on bX)
    replace Fv26 := (Fv26.on bX)
    replace Fv34 := (Fv34.on bX)
    replace Kv34 := Kv34
    have ZX5 := bX.size
    replace BW := BW.trans (bX.mono BW.size)
    clear bX
    replace A := (⟨h1, h2.trans A.2⟩ : a.tmps.size = 139 ∧ a.defers = [])
    clear h1 h2 h3 h4
    clear t0 t1 t2 t7 t8
    refine wp_cond_true t38 ?_
    refine wp_seq ?_
    refine wp_region_sq (σ := Unit) 139 [(0, 39), (1, 40), (2, 41), (3, 42), (4, 43), (5, 44), (6, 45), (7, 46), (8, 47), (9, 48), (10, 49), (11, 50), (12, 6)] (fun j_ s X => match j_ with | 0 => Below X5.heap.size X5 X | 1 => Below X5.heap.size X5 X | 2 => Below X5.heap.size X5 X | 3 => Below X5.heap.size X5 X | 4 => Below X5.heap.size X5 X | 5 => Below X5.heap.size X5 X | 6 => Below X5.heap.size X5 X | 7 => Below X5.heap.size X5 X | 8 => Below X5.heap.size X5 X | 9 => Below X5.heap.size X5 X | 10 => Below X5.heap.size X5 X | 11 => Below X5.heap.size X5 X | 12 => Below X5.heap.size X5 X | _ => Below X5.heap.size X5 X) (fun s => fun i_ => match i_ with | 0 => .int .i64 ((trE p l bs n ws m : Nat) : Int) | 1 => .int .i64 ((allE p l bs n : Nat) : Int) | 2 => .bool false | 3 => .bool false | 4 => .int .i64 ((trE p l bs n ws m : Nat) : Int) | 5 => .bool true | 6 => .bool true | 7 => v34 | 8 => .int .i64 ((trN p l bs n ws m : Nat) : Int) | 9 => .bool true | 10 => .bool true | 11 => .bool true | 12 => .bool true | _ => undef) () A.1 (by kernel_rfl) (by decide) (by decide) (Below.refl _ _) ?_ ?_
    · intro i_ hi_ s a X hf hv hn hS
      match i_, hi_ with
      | 0, _ => exact stepV rfl rfl (execMvB rfl ((hf 11 (by decide)).trans t11)) ⟨s, ⟨_, rfl, rfl⟩, hS, fun _ _ => rfl⟩
      | 1, _ => exact stepV rfl rfl (execMvB rfl ((hf 9 (by decide)).trans t9)) ⟨s, ⟨_, rfl, rfl⟩, hS, fun _ _ => rfl⟩
      | 2, _ => exact stepV rfl rfl (execDec (execEqE (p := trE p l bs n ws m) (q := allE p l bs n) rfl (hv 0 (by omega) _ rfl _ rfl) (hv 1 (by omega) _ rfl _ rfl)) (decide_eq_false (by exact hEA))) ⟨s, ⟨_, rfl, rfl⟩, hS, fun _ _ => rfl⟩
      | 3, _ => exact stepV rfl rfl (execMvB rfl (hv 2 (by omega) _ rfl _ rfl)) ⟨s, ⟨_, rfl, rfl⟩, hS, fun _ _ => rfl⟩
      | 4, _ => exact stepV rfl (wantedOf rfl (yieldedAt rfl rfl (show a.eval (.tmp 42) = .bool false from (hv 3 (by omega) _ rfl _ rfl)))) (execMvB rfl ((hf 11 (by decide)).trans t11)) ⟨s, ⟨_, rfl, rfl⟩, hS, fun _ _ => rfl⟩
      | 5, _ => exact stepV rfl (wantedOf rfl (yieldedAt rfl rfl (show a.eval (.tmp 42) = .bool false from (hv 3 (by omega) _ rfl _ rfl)))) (execDec (execEqE (p := trE p l bs n ws m) (q := 2) rfl (hv 4 (by omega) _ rfl _ rfl) rfl) (decide_eq_true (by exact hE2))) ⟨s, ⟨_, rfl, rfl⟩, hS, fun _ _ => rfl⟩
      | 6, _ => exact stepV rfl (wantedOf rfl (yieldedAt rfl rfl (show a.eval (.tmp 42) = .bool false from (hv 3 (by omega) _ rfl _ rfl)))) (execMvB rfl (hv 5 (by omega) _ rfl _ rfl)) ⟨s, ⟨_, rfl, rfl⟩, hS, fun _ _ => rfl⟩
      | 7, _ => exact stepV rfl (wantedOf rfl (yieldedAt rfl rfl (show a.eval (.tmp 45) = .bool true from (hv 6 (by omega) _ rfl _ rfl)))) (execMvB rfl ((hf 10 (by decide)).trans t10)) ⟨s, ⟨_, rfl, rfl⟩, hS, fun _ _ => rfl⟩
      | 8, _ => exact stepV rfl (wantedOf rfl (yieldedAt rfl rfl (show a.eval (.tmp 45) = .bool true from (hv 6 (by omega) _ rfl _ rfl)))) (execLenV (len := trN p l bs n ws m) rfl (hv 7 (by omega) _ rfl _ rfl) (shp9 (Fv34.on hS))) ⟨s, ⟨_, rfl, rfl⟩, hS, fun _ _ => rfl⟩
      | 9, _ => exact stepV rfl (wantedOf rfl (yieldedAt rfl rfl (show a.eval (.tmp 45) = .bool true from (hv 6 (by omega) _ rfl _ rfl)))) (execDec (execEqN (p := trN p l bs n ws m) (q := 0) rfl (hv 8 (by omega) _ rfl _ rfl) rfl) (decide_eq_true (by exact hN0))) ⟨s, ⟨_, rfl, rfl⟩, hS, fun _ _ => rfl⟩
      | 10, _ => exact stepV rfl (wantedOf rfl (yieldedAt rfl rfl (show a.eval (.tmp 42) = .bool false from (hv 3 (by omega) _ rfl _ rfl)))) (execPickT rfl (hv 6 (by omega) _ rfl _ rfl) (hv 9 (by omega) _ rfl _ rfl)) ⟨s, ⟨_, rfl, rfl⟩, hS, fun _ _ => rfl⟩
      | 11, _ => exact stepV rfl rfl (execPickF rfl (hv 3 (by omega) _ rfl _ rfl) (hv 10 (by omega) _ rfl _ rfl)) ⟨s, ⟨_, rfl, rfl⟩, hS, fun _ _ => rfl⟩
      | 12, _ => exact stepV rfl rfl (execAsgB rfl (hv 11 (by omega) _ rfl _ rfl)) ⟨s, ⟨_, rfl, rfl⟩, hS, fun _ _ => rfl⟩
      | k_ + 13, h_ => exact absurd h_ (by simp)
    rintro _ a X6 h1 h2 h3 h4 hS
    replace hS : Below X5.heap.size X5 X6 := hS
    have bX := hS
    clear hS
    have t6 : a.eval (.tmp 6) = .bool true := h4 12 _ rfl _ rfl
    replace FP := (FP.on bX)
    replace FI := (FI.on bX)
    replace FJ := (FJ.on bX)
    replace Fv26 := (Fv26.on bX)
    replace Fv34 := (Fv34.on bX)
    replace Kv34 := Kv34
    have ZX6 := bX.size
    replace BW := BW.trans (bX.mono BW.size)
    clear bX
    replace A := (⟨h1, h2.trans A.2⟩ : a.tmps.size = 139 ∧ a.defers = [])
    clear h1 h2 h3 h4
    clear t9 t10 t11
    refine wp_ret ?_
    refine ret_then ?_
    refine bodyPost_ret (results_tmp rfl _ _ _) A.2 ⟨?_, BW⟩
    show Ending.returned (a.eval (.tmp 6)) = _
    rw [t6]
set_option maxRecDepth 100000 in
set_option maxHeartbeats 8000000 in
theorem even_ok (I : Impl) (p : Nat → Nat) (l : Nat) (bs ws : Nat → Int) (n : Nat) (pv bv wv : Value) (V : World) (hp : SliceN V pv l p) (hl : l ≤ 140737488351232) (hz : ∀ l c, pv = .slice none l c → c = 0) (hb : SliceI V bv n bs) (hn17 : n ≤ 17592186044416) (hwv : SliceI V wv n ws) (hE : trE p l bs n ws n = 0) : Calls Try.prog 6 #[pv, bv, wv] V fun e w' => e = .returned (.bool true) ∧ Below V.heap.size V w' := by
  have FP := hp
  have FI := hb
  have FJ := hwv
  have hpb := hp.bytes
  obtain ⟨hnb, -, hwo, hok⟩ := trE_ok hE
  have hz0 : wOk bs (fun _ => 0) n := fun i hi => by have := ok_pos hok hi; show (0 : Int) ≤ 0 ∧ (0 : Int) < bs i; omega
  have hok2 := turn_ok hok hwo
  have hok3 := turn_ok hok hz0
  have hown : wOk bs (fun i => (dA p l bs i : Int)) n := fun i hi => ⟨by show (0 : Int) ≤ ((dA p l bs i : Nat) : Int); omega, dV_lt (hok i hi)⟩
  have hA1 : allE p l bs n = 0 := allE_is hnb hok
  have hA2 : allE (trF p l bs ws n) l bs n = 0 := allE_is hnb hok2
  have hAN : allN p l bs n = n := if_pos hA1
  have hAN2 : allN (trF p l bs ws n) l bs n = n := if_pos hA2
  have hT2 : trE (trF p l bs ws n) l bs n (fun i => (dA p l bs i : Int)) n = 0 := trE_is hnb hown hok2
  have hT0 : trE p l bs n (fun _ => 0) n = 0 := trE_is hnb hz0 hok
  have hT3 : trE (trF p l bs (fun _ => 0) n) l bs n ws n = 0 := trE_is hnb hwo hok3
  have hTN : trN p l bs n ws n = l := if_pos hE
  have hTN2 : trN (trF p l bs ws n) l bs n (fun i => (dA p l bs i : Int)) n = l := if_pos hT2
  have hTN0 : trN p l bs n (fun _ => 0) n = l := if_pos hT0
  have hTN3 : trN (trF p l bs (fun _ => 0) n) l bs n ws n = l := if_pos hT3
  obtain ⟨k, hkA⟩ : ∃ k, plA p l bs n = k := ⟨_, rfl⟩
  have hkl : k ≤ l := by rw [← hkA]; exact plA_le p l bs n
  have hK1 : allK p l bs n = k := by unfold allK; rw [if_pos hA1, hkA]
  have hK2 : allK (trF p l bs ws n) l bs n = k := by unfold allK; rw [if_pos hA2, (turn_tells hok hwo (Nat.le_refl _)).1, hkA]
  go_enter Try.func6, Try.ntmps6
  refine wp_seq ?_
  refine wp_region_sqK 139 [(0, 6)] (fun i_ => match i_ with | 0 => .bool false | _ => undef) rfl (by kernel_rfl) (by decide) (by decide) ?_ ?_
  · intro i_ hi_ a hf hv hn
    match i_, hi_ with
    | 0, _ => exact stepV rfl rfl (execAsgB rfl rfl) ⟨⟨_, rfl, rfl⟩, rfl⟩
    | k_ + 1, h_ => exact absurd h_ (by simp)
  intro a h1 h2 h3 h4
  have t0 : a.eval (.tmp 0) = pv := (h3 0 (by decide)).trans rfl
  have t1 : a.eval (.tmp 1) = bv := (h3 1 (by decide)).trans rfl
  have t2 : a.eval (.tmp 2) = wv := (h3 2 (by decide)).trans rfl
  have A : a.tmps.size = 139 ∧ a.defers = [] := ⟨h1, h2⟩
  have BW : Below V.heap.size V V := Below.refl _ _
  clear h1 h2 h3 h4
  refine wp_seq ?_
  refine wp_seq ?_
  refine wp_region_sq (σ := Unit) 139 [(0, 21), (1, 22)] (fun j_ s X => match j_ with | 0 => Below V.heap.size V X | 1 => Below V.heap.size V X | _ => Below V.heap.size V X) (fun s => fun i_ => match i_ with | 0 => .bool true | 1 => .bool false | _ => undef) () A.1 (by kernel_rfl) (by decide) (by decide) (Below.refl _ _) ?_ ?_
  · intro i_ hi_ s a X hf hv hn hS
    match i_, hi_ with
    | 0, _ => exact stepC rfl rfl (execCall0 Try.func9 (by kernel_rfl) (by kernel_rfl) rfl ) (alive10 I X) fun e w' hh => ⟨_, hh.1, s, ⟨_, rfl, rfl⟩, (hS).trans ((hh.2).mono (hS).size), fun _ _ => rfl⟩
    | 1, _ => exact stepV rfl rfl (execNot8 rfl (hv 0 (by omega) _ rfl _ rfl)) ⟨s, ⟨_, rfl, rfl⟩, hS, fun _ _ => rfl⟩
    | k_ + 2, h_ => exact absurd h_ (by simp)
  rintro _ a X1 h1 h2 h3 h4 hS
  replace hS : Below V.heap.size V X1 := hS
  have bX := hS
  clear hS
  replace t0 := (h3 0 (by decide)).trans t0
  replace t1 := (h3 1 (by decide)).trans t1
  replace t2 := (h3 2 (by decide)).trans t2
  have t22 : a.eval (.tmp 22) = .bool false := h4 1 _ rfl _ rfl
  replace FP := (FP.on bX)
  replace FI := (FI.on bX)
  replace FJ := (FJ.on bX)
  have ZX1 := bX.size
  replace BW := BW.trans (bX.mono BW.size)
  clear bX
  replace A := (⟨h1, h2.trans A.2⟩ : a.tmps.size = 139 ∧ a.defers = [])
  clear h1 h2 h3 h4
  refine wp_cond_false t22 ?_
  refine wp_skip ?_
  clear t22
  refine wp_seq ?_
  refine wp_region_sq (σ := Value) 139 [(0, 24), (1, 25), (2, 26), (3, 23), (4, 27), (5, 28), (6, 29), (7, 7), (8, 8), (9, 9)] (fun j_ s X => match j_ with | 0 => Below X1.heap.size X1 X | 1 => Below X1.heap.size X1 X | 2 => Below X1.heap.size X1 X | 3 => Below X1.heap.size X1 X ∧ (SliceI X s (allN p l bs n) (fun i => (dA p l bs i : Int))) | 4 => Below X1.heap.size X1 X ∧ (SliceI X s (allN p l bs n) (fun i => (dA p l bs i : Int))) | 5 => Below X1.heap.size X1 X ∧ (SliceI X s (allN p l bs n) (fun i => (dA p l bs i : Int))) | 6 => Below X1.heap.size X1 X ∧ (SliceI X s (allN p l bs n) (fun i => (dA p l bs i : Int))) | 7 => Below X1.heap.size X1 X ∧ (SliceI X s (allN p l bs n) (fun i => (dA p l bs i : Int))) | 8 => Below X1.heap.size X1 X ∧ (SliceI X s (allN p l bs n) (fun i => (dA p l bs i : Int))) | 9 => Below X1.heap.size X1 X ∧ (SliceI X s (allN p l bs n) (fun i => (dA p l bs i : Int))) | _ => Below X1.heap.size X1 X ∧ (SliceI X s (allN p l bs n) (fun i => (dA p l bs i : Int)))) (fun s => fun i_ => match i_ with | 0 => pv | 1 => bv | 2 => .tuple #[s, .int .i64 ((allK p l bs n : Nat) : Int), .int .i64 ((allE p l bs n : Nat) : Int)] | 3 => .tuple #[s, .int .i64 ((allK p l bs n : Nat) : Int), .int .i64 ((allE p l bs n : Nat) : Int)] | 4 => s | 5 => .int .i64 ((allK p l bs n : Nat) : Int) | 6 => .int .i64 ((allE p l bs n : Nat) : Int) | 7 => s | 8 => .int .i64 ((allK p l bs n : Nat) : Int) | 9 => .int .i64 ((allE p l bs n : Nat) : Int) | _ => undef) undef A.1 (by kernel_rfl) (by decide) (by decide) (Below.refl _ _) ?_ ?_
  · intro i_ hi_ s a X hf hv hn hS
    match i_, hi_ with
    | 0, _ => exact stepV rfl rfl (execMvB rfl ((hf 0 (by decide)).trans t0)) ⟨s, ⟨_, rfl, rfl⟩, hS, fun _ _ => rfl⟩
    | 1, _ => exact stepV rfl rfl (execMvB rfl ((hf 1 (by decide)).trans t1)) ⟨s, ⟨_, rfl, rfl⟩, hS, fun _ _ => rfl⟩
    | 2, _ =>
      refine stepC rfl rfl (execCall2 Try.func17 (by kernel_rfl) (by kernel_rfl) rfl (hv 0 (by omega) _ rfl _ rfl) (hv 1 (by omega) _ rfl _ rfl)) (I.all p l bs n _ _ X (FP.on hS) (by omega) (FI.on hS) (by omega)) fun e w' hh => ?_
      obtain ⟨r_, he, hk, hb⟩ := hh
      refine ⟨_, he, r_, ⟨_, rfl, rfl⟩, ⟨(hS).trans ((hb).mono (hS).size), own_ints hk (dA_fits _ _ _ _)⟩, fun i hi => ?_⟩
      match i, hi with
      | 0, _ => rfl
      | 1, _ => rfl
      | n_ + 2, h_ => omega
    | 3, _ => exact stepV rfl rfl (execMvB rfl (hv 2 (by omega) _ rfl _ rfl)) ⟨s, ⟨_, rfl, rfl⟩, hS, fun _ _ => rfl⟩
    | 4, _ => exact stepV rfl rfl (execExtT rfl (hv 3 (by omega) _ rfl _ rfl) rfl) ⟨s, ⟨_, rfl, rfl⟩, hS, fun _ _ => rfl⟩
    | 5, _ => exact stepV rfl rfl (execExtT rfl (hv 3 (by omega) _ rfl _ rfl) rfl) ⟨s, ⟨_, rfl, rfl⟩, hS, fun _ _ => rfl⟩
    | 6, _ => exact stepV rfl rfl (execExtT rfl (hv 3 (by omega) _ rfl _ rfl) rfl) ⟨s, ⟨_, rfl, rfl⟩, hS, fun _ _ => rfl⟩
    | 7, _ => exact stepV rfl rfl (execAsgB rfl (hv 4 (by omega) _ rfl _ rfl)) ⟨s, ⟨_, rfl, rfl⟩, hS, fun _ _ => rfl⟩
    | 8, _ => exact stepV rfl rfl (execAsgB rfl (hv 5 (by omega) _ rfl _ rfl)) ⟨s, ⟨_, rfl, rfl⟩, hS, fun _ _ => rfl⟩
    | 9, _ => exact stepV rfl rfl (execAsgB rfl (hv 6 (by omega) _ rfl _ rfl)) ⟨s, ⟨_, rfl, rfl⟩, hS, fun _ _ => rfl⟩
    | k_ + 10, h_ => exact absurd h_ (by simp)
  rintro v26 a X3 h1 h2 h3 h4 hS
  replace hS : Below X1.heap.size X1 X3 ∧ (SliceI X3 v26 (allN p l bs n) (fun i => (dA p l bs i : Int))) := hS
  obtain ⟨bX, Fv26⟩ := hS
  replace t0 := (h3 0 (by decide)).trans t0
  replace t1 := (h3 1 (by decide)).trans t1
  replace t2 := (h3 2 (by decide)).trans t2
  have t7 : a.eval (.tmp 7) = v26 := h4 7 _ rfl _ rfl
  have t8 : a.eval (.tmp 8) = .int .i64 ((allK p l bs n : Nat) : Int) := h4 8 _ rfl _ rfl
  have t9 : a.eval (.tmp 9) = .int .i64 ((allE p l bs n : Nat) : Int) := h4 9 _ rfl _ rfl
  replace FP := (FP.on bX)
  replace FI := (FI.on bX)
  replace FJ := (FJ.on bX)
  have ZX3 := bX.size
  replace BW := BW.trans (bX.mono BW.size)
  clear bX
  replace A := (⟨h1, h2.trans A.2⟩ : a.tmps.size = 139 ∧ a.defers = [])
  clear h1 h2 h3 h4
  refine wp_seq ?_
  refine wp_region_sq (σ := Value) 139 [(0, 31), (1, 32), (2, 33), (3, 34), (4, 30), (5, 35), (6, 36), (7, 10), (8, 11)] (fun j_ s X => match j_ with | 0 => Below X3.heap.size X3 X | 1 => Below X3.heap.size X3 X | 2 => Below X3.heap.size X3 X | 3 => Below X3.heap.size X3 X | 4 => Below X3.heap.size X3 X ∧ SliceN X s (trN p l bs n ws n) (trF p l bs ws n) ∧ (∀ l_ c_, s = .slice none l_ c_ → c_ = 0) | 5 => Below X3.heap.size X3 X ∧ SliceN X s (trN p l bs n ws n) (trF p l bs ws n) ∧ (∀ l_ c_, s = .slice none l_ c_ → c_ = 0) | 6 => Below X3.heap.size X3 X ∧ SliceN X s (trN p l bs n ws n) (trF p l bs ws n) ∧ (∀ l_ c_, s = .slice none l_ c_ → c_ = 0) | 7 => Below X3.heap.size X3 X ∧ SliceN X s (trN p l bs n ws n) (trF p l bs ws n) ∧ (∀ l_ c_, s = .slice none l_ c_ → c_ = 0) | 8 => Below X3.heap.size X3 X ∧ SliceN X s (trN p l bs n ws n) (trF p l bs ws n) ∧ (∀ l_ c_, s = .slice none l_ c_ → c_ = 0) | _ => Below X3.heap.size X3 X ∧ SliceN X s (trN p l bs n ws n) (trF p l bs ws n) ∧ (∀ l_ c_, s = .slice none l_ c_ → c_ = 0)) (fun s => fun i_ => match i_ with | 0 => pv | 1 => bv | 2 => wv | 3 => .tuple #[s, .int .i64 ((trE p l bs n ws n : Nat) : Int)] | 4 => .tuple #[s, .int .i64 ((trE p l bs n ws n : Nat) : Int)] | 5 => s | 6 => .int .i64 ((trE p l bs n ws n : Nat) : Int) | 7 => s | 8 => .int .i64 ((trE p l bs n ws n : Nat) : Int) | _ => undef) undef A.1 (by kernel_rfl) (by decide) (by decide) (Below.refl _ _) ?_ ?_
  · intro i_ hi_ s a X hf hv hn hS
    match i_, hi_ with
    | 0, _ => exact stepV rfl rfl (execMvB rfl ((hf 0 (by decide)).trans t0)) ⟨s, ⟨_, rfl, rfl⟩, hS, fun _ _ => rfl⟩
    | 1, _ => exact stepV rfl rfl (execMvB rfl ((hf 1 (by decide)).trans t1)) ⟨s, ⟨_, rfl, rfl⟩, hS, fun _ _ => rfl⟩
    | 2, _ => exact stepV rfl rfl (execMvB rfl ((hf 2 (by decide)).trans t2)) ⟨s, ⟨_, rfl, rfl⟩, hS, fun _ _ => rfl⟩
    | 3, _ =>
      refine stepC rfl rfl (execCall3 Try.func20 (by kernel_rfl) (by kernel_rfl) rfl (hv 0 (by omega) _ rfl _ rfl) (hv 1 (by omega) _ rfl _ rfl) (hv 2 (by omega) _ rfl _ rfl)) (I.turn p l bs ws n n _ _ _ X (FP.on hS) (by omega) hz (FI.on hS) (by omega) (FJ.on hS) (by omega)) fun e w' hh => ?_
      obtain ⟨r_, he, hk, hb⟩ := hh
      refine ⟨_, he, r_, ⟨_, rfl, rfl⟩, ⟨(hS).trans ((hb).mono (hS).size), hk.slice, tk_nil hk⟩, fun i hi => ?_⟩
      match i, hi with
      | 0, _ => rfl
      | 1, _ => rfl
      | 2, _ => rfl
      | n_ + 3, h_ => omega
    | 4, _ => exact stepV rfl rfl (execMvB rfl (hv 3 (by omega) _ rfl _ rfl)) ⟨s, ⟨_, rfl, rfl⟩, hS, fun _ _ => rfl⟩
    | 5, _ => exact stepV rfl rfl (execExtT rfl (hv 4 (by omega) _ rfl _ rfl) rfl) ⟨s, ⟨_, rfl, rfl⟩, hS, fun _ _ => rfl⟩
    | 6, _ => exact stepV rfl rfl (execExtT rfl (hv 4 (by omega) _ rfl _ rfl) rfl) ⟨s, ⟨_, rfl, rfl⟩, hS, fun _ _ => rfl⟩
    | 7, _ => exact stepV rfl rfl (execAsgB rfl (hv 5 (by omega) _ rfl _ rfl)) ⟨s, ⟨_, rfl, rfl⟩, hS, fun _ _ => rfl⟩
    | 8, _ => exact stepV rfl rfl (execAsgB rfl (hv 6 (by omega) _ rfl _ rfl)) ⟨s, ⟨_, rfl, rfl⟩, hS, fun _ _ => rfl⟩
    | k_ + 9, h_ => exact absurd h_ (by simp)
  rintro v34 a X4 h1 h2 h3 h4 hS
  replace hS : Below X3.heap.size X3 X4 ∧ SliceN X4 v34 (trN p l bs n ws n) (trF p l bs ws n) ∧ (∀ l_ c_, v34 = .slice none l_ c_ → c_ = 0) := hS
  obtain ⟨bX, Fv34, Kv34⟩ := hS
  replace t0 := (h3 0 (by decide)).trans t0
  replace t1 := (h3 1 (by decide)).trans t1
  replace t2 := (h3 2 (by decide)).trans t2
  replace t7 := (h3 7 (by decide)).trans t7
  replace t8 := (h3 8 (by decide)).trans t8
  replace t9 := (h3 9 (by decide)).trans t9
  have t10 : a.eval (.tmp 10) = v34 := h4 7 _ rfl _ rfl
  have t11 : a.eval (.tmp 11) = .int .i64 ((trE p l bs n ws n : Nat) : Int) := h4 8 _ rfl _ rfl
  replace FP := (FP.on bX)
  replace FI := (FI.on bX)
  replace FJ := (FJ.on bX)
  replace Fv26 := (Fv26.on bX)
  have ZX4 := bX.size
  replace BW := BW.trans (bX.mono BW.size)
  clear bX
  replace A := (⟨h1, h2.trans A.2⟩ : a.tmps.size = 139 ∧ a.defers = [])
  clear h1 h2 h3 h4
  refine wp_seq ?_
  refine wp_seq ?_
  refine wp_region_sq (σ := Unit) 139 [(0, 37), (1, 38)] (fun j_ s X => match j_ with | 0 => Below X4.heap.size X4 X | 1 => Below X4.heap.size X4 X | _ => Below X4.heap.size X4 X) (fun s => fun i_ => match i_ with | 0 => .int .i64 ((trE p l bs n ws n : Nat) : Int) | 1 => .bool false | _ => undef) () A.1 (by kernel_rfl) (by decide) (by decide) (Below.refl _ _) ?_ ?_
  · intro i_ hi_ s a X hf hv hn hS
    match i_, hi_ with
    | 0, _ => exact stepV rfl rfl (execMvB rfl ((hf 11 (by decide)).trans t11)) ⟨s, ⟨_, rfl, rfl⟩, hS, fun _ _ => rfl⟩
    | 1, _ => exact stepV rfl rfl (execDec (execNeE (p := trE p l bs n ws n) (q := 0) rfl (hv 0 (by omega) _ rfl _ rfl) rfl) (decide_eq_false (by omega))) ⟨s, ⟨_, rfl, rfl⟩, hS, fun _ _ => rfl⟩
    | k_ + 2, h_ => exact absurd h_ (by simp)
  rintro _ a X5 h1 h2 h3 h4 hS
  replace hS : Below X4.heap.size X4 X5 := hS
  have bX := hS
  clear hS
  replace t0 := (h3 0 (by decide)).trans t0
  replace t1 := (h3 1 (by decide)).trans t1
  replace t2 := (h3 2 (by decide)).trans t2
  replace t7 := (h3 7 (by decide)).trans t7
  replace t8 := (h3 8 (by decide)).trans t8
  replace t9 := (h3 9 (by decide)).trans t9
  replace t10 := (h3 10 (by decide)).trans t10
  replace t11 := (h3 11 (by decide)).trans t11
  have t38 : a.eval (.tmp 38) = .bool false := h4 1 _ rfl _ rfl
  replace FP := (FP.on bX)
  replace FI := (FI.on bX)
  replace FJ := (FJ.on bX)
  replace Fv26 := (Fv26.on bX)
  replace Fv34 := (Fv34.on bX)
  replace Kv34 := Kv34
  have ZX5 := bX.size
  replace BW := BW.trans (bX.mono BW.size)
  clear bX
  replace A := (⟨h1, h2.trans A.2⟩ : a.tmps.size = 139 ∧ a.defers = [])
  clear h1 h2 h3 h4
  refine wp_cond_false t38 ?_
  refine wp_skip ?_
  clear t38
  rw [hTN] at Fv34
  rw [hAN] at Fv26
  have hz_v34 := Kv34
  refine wp_seq ?_
  refine wp_region_sq (σ := Value) 139 [(0, 52), (1, 53), (2, 54), (3, 51), (4, 55), (5, 56), (6, 57), (7, 12), (8, 13), (9, 14)] (fun j_ s X => match j_ with | 0 => Below X5.heap.size X5 X | 1 => Below X5.heap.size X5 X | 2 => Below X5.heap.size X5 X | 3 => Below X5.heap.size X5 X ∧ (SliceI X s (allN (trF p l bs ws n) l bs n) (fun i => (dA (trF p l bs ws n) l bs i : Int))) | 4 => Below X5.heap.size X5 X ∧ (SliceI X s (allN (trF p l bs ws n) l bs n) (fun i => (dA (trF p l bs ws n) l bs i : Int))) | 5 => Below X5.heap.size X5 X ∧ (SliceI X s (allN (trF p l bs ws n) l bs n) (fun i => (dA (trF p l bs ws n) l bs i : Int))) | 6 => Below X5.heap.size X5 X ∧ (SliceI X s (allN (trF p l bs ws n) l bs n) (fun i => (dA (trF p l bs ws n) l bs i : Int))) | 7 => Below X5.heap.size X5 X ∧ (SliceI X s (allN (trF p l bs ws n) l bs n) (fun i => (dA (trF p l bs ws n) l bs i : Int))) | 8 => Below X5.heap.size X5 X ∧ (SliceI X s (allN (trF p l bs ws n) l bs n) (fun i => (dA (trF p l bs ws n) l bs i : Int))) | 9 => Below X5.heap.size X5 X ∧ (SliceI X s (allN (trF p l bs ws n) l bs n) (fun i => (dA (trF p l bs ws n) l bs i : Int))) | _ => Below X5.heap.size X5 X ∧ (SliceI X s (allN (trF p l bs ws n) l bs n) (fun i => (dA (trF p l bs ws n) l bs i : Int)))) (fun s => fun i_ => match i_ with | 0 => v34 | 1 => bv | 2 => .tuple #[s, .int .i64 ((allK (trF p l bs ws n) l bs n : Nat) : Int), .int .i64 ((allE (trF p l bs ws n) l bs n : Nat) : Int)] | 3 => .tuple #[s, .int .i64 ((allK (trF p l bs ws n) l bs n : Nat) : Int), .int .i64 ((allE (trF p l bs ws n) l bs n : Nat) : Int)] | 4 => s | 5 => .int .i64 ((allK (trF p l bs ws n) l bs n : Nat) : Int) | 6 => .int .i64 ((allE (trF p l bs ws n) l bs n : Nat) : Int) | 7 => s | 8 => .int .i64 ((allK (trF p l bs ws n) l bs n : Nat) : Int) | 9 => .int .i64 ((allE (trF p l bs ws n) l bs n : Nat) : Int) | _ => undef) undef A.1 (by kernel_rfl) (by decide) (by decide) (Below.refl _ _) ?_ ?_
  · intro i_ hi_ s a X hf hv hn hS
    match i_, hi_ with
    | 0, _ => exact stepV rfl rfl (execMvB rfl ((hf 10 (by decide)).trans t10)) ⟨s, ⟨_, rfl, rfl⟩, hS, fun _ _ => rfl⟩
    | 1, _ => exact stepV rfl rfl (execMvB rfl ((hf 1 (by decide)).trans t1)) ⟨s, ⟨_, rfl, rfl⟩, hS, fun _ _ => rfl⟩
    | 2, _ =>
      refine stepC rfl rfl (execCall2 Try.func17 (by kernel_rfl) (by kernel_rfl) rfl (hv 0 (by omega) _ rfl _ rfl) (hv 1 (by omega) _ rfl _ rfl)) (I.all (trF p l bs ws n) l bs n _ _ X (Fv34.on hS) (by omega) (FI.on hS) (by omega)) fun e w' hh => ?_
      obtain ⟨r_, he, hk, hb⟩ := hh
      refine ⟨_, he, r_, ⟨_, rfl, rfl⟩, ⟨(hS).trans ((hb).mono (hS).size), own_ints hk (dA_fits _ _ _ _)⟩, fun i hi => ?_⟩
      match i, hi with
      | 0, _ => rfl
      | 1, _ => rfl
      | n_ + 2, h_ => omega
    | 3, _ => exact stepV rfl rfl (execMvB rfl (hv 2 (by omega) _ rfl _ rfl)) ⟨s, ⟨_, rfl, rfl⟩, hS, fun _ _ => rfl⟩
    | 4, _ => exact stepV rfl rfl (execExtT rfl (hv 3 (by omega) _ rfl _ rfl) rfl) ⟨s, ⟨_, rfl, rfl⟩, hS, fun _ _ => rfl⟩
    | 5, _ => exact stepV rfl rfl (execExtT rfl (hv 3 (by omega) _ rfl _ rfl) rfl) ⟨s, ⟨_, rfl, rfl⟩, hS, fun _ _ => rfl⟩
    | 6, _ => exact stepV rfl rfl (execExtT rfl (hv 3 (by omega) _ rfl _ rfl) rfl) ⟨s, ⟨_, rfl, rfl⟩, hS, fun _ _ => rfl⟩
    | 7, _ => exact stepV rfl rfl (execAsgB rfl (hv 4 (by omega) _ rfl _ rfl)) ⟨s, ⟨_, rfl, rfl⟩, hS, fun _ _ => rfl⟩
    | 8, _ => exact stepV rfl rfl (execAsgB rfl (hv 5 (by omega) _ rfl _ rfl)) ⟨s, ⟨_, rfl, rfl⟩, hS, fun _ _ => rfl⟩
    | 9, _ => exact stepV rfl rfl (execAsgB rfl (hv 6 (by omega) _ rfl _ rfl)) ⟨s, ⟨_, rfl, rfl⟩, hS, fun _ _ => rfl⟩
    | k_ + 10, h_ => exact absurd h_ (by simp)
  rintro v54 a X7 h1 h2 h3 h4 hS
  replace hS : Below X5.heap.size X5 X7 ∧ (SliceI X7 v54 (allN (trF p l bs ws n) l bs n) (fun i => (dA (trF p l bs ws n) l bs i : Int))) := hS
  obtain ⟨bX, Fv54⟩ := hS
  replace t0 := (h3 0 (by decide)).trans t0
  replace t1 := (h3 1 (by decide)).trans t1
  replace t2 := (h3 2 (by decide)).trans t2
  replace t7 := (h3 7 (by decide)).trans t7
  replace t8 := (h3 8 (by decide)).trans t8
  replace t9 := (h3 9 (by decide)).trans t9
  replace t10 := (h3 10 (by decide)).trans t10
  replace t11 := (h3 11 (by decide)).trans t11
  have t12 : a.eval (.tmp 12) = v54 := h4 7 _ rfl _ rfl
  have t13 : a.eval (.tmp 13) = .int .i64 ((allK (trF p l bs ws n) l bs n : Nat) : Int) := h4 8 _ rfl _ rfl
  have t14 : a.eval (.tmp 14) = .int .i64 ((allE (trF p l bs ws n) l bs n : Nat) : Int) := h4 9 _ rfl _ rfl
  replace FP := (FP.on bX)
  replace FI := (FI.on bX)
  replace FJ := (FJ.on bX)
  replace Fv26 := (Fv26.on bX)
  replace Fv34 := (Fv34.on bX)
  replace Kv34 := Kv34
  have ZX7 := bX.size
  replace BW := BW.trans (bX.mono BW.size)
  clear bX
  replace A := (⟨h1, h2.trans A.2⟩ : a.tmps.size = 139 ∧ a.defers = [])
  clear h1 h2 h3 h4
  refine wp_seq ?_
  refine wp_region_sq (σ := Value) 139 [(0, 59), (1, 60), (2, 61), (3, 62), (4, 58), (5, 63), (6, 64), (7, 15), (8, 16)] (fun j_ s X => match j_ with | 0 => Below X7.heap.size X7 X | 1 => Below X7.heap.size X7 X | 2 => Below X7.heap.size X7 X | 3 => Below X7.heap.size X7 X | 4 => Below X7.heap.size X7 X ∧ SliceN X s (trN (trF p l bs ws n) l bs n (fun i => (dA p l bs i : Int)) n) (trF (trF p l bs ws n) l bs (fun i => (dA p l bs i : Int)) n) ∧ (∀ l_ c_, s = .slice none l_ c_ → c_ = 0) | 5 => Below X7.heap.size X7 X ∧ SliceN X s (trN (trF p l bs ws n) l bs n (fun i => (dA p l bs i : Int)) n) (trF (trF p l bs ws n) l bs (fun i => (dA p l bs i : Int)) n) ∧ (∀ l_ c_, s = .slice none l_ c_ → c_ = 0) | 6 => Below X7.heap.size X7 X ∧ SliceN X s (trN (trF p l bs ws n) l bs n (fun i => (dA p l bs i : Int)) n) (trF (trF p l bs ws n) l bs (fun i => (dA p l bs i : Int)) n) ∧ (∀ l_ c_, s = .slice none l_ c_ → c_ = 0) | 7 => Below X7.heap.size X7 X ∧ SliceN X s (trN (trF p l bs ws n) l bs n (fun i => (dA p l bs i : Int)) n) (trF (trF p l bs ws n) l bs (fun i => (dA p l bs i : Int)) n) ∧ (∀ l_ c_, s = .slice none l_ c_ → c_ = 0) | 8 => Below X7.heap.size X7 X ∧ SliceN X s (trN (trF p l bs ws n) l bs n (fun i => (dA p l bs i : Int)) n) (trF (trF p l bs ws n) l bs (fun i => (dA p l bs i : Int)) n) ∧ (∀ l_ c_, s = .slice none l_ c_ → c_ = 0) | _ => Below X7.heap.size X7 X ∧ SliceN X s (trN (trF p l bs ws n) l bs n (fun i => (dA p l bs i : Int)) n) (trF (trF p l bs ws n) l bs (fun i => (dA p l bs i : Int)) n) ∧ (∀ l_ c_, s = .slice none l_ c_ → c_ = 0)) (fun s => fun i_ => match i_ with | 0 => v34 | 1 => bv | 2 => v26 | 3 => .tuple #[s, .int .i64 ((trE (trF p l bs ws n) l bs n (fun i => (dA p l bs i : Int)) n : Nat) : Int)] | 4 => .tuple #[s, .int .i64 ((trE (trF p l bs ws n) l bs n (fun i => (dA p l bs i : Int)) n : Nat) : Int)] | 5 => s | 6 => .int .i64 ((trE (trF p l bs ws n) l bs n (fun i => (dA p l bs i : Int)) n : Nat) : Int) | 7 => s | 8 => .int .i64 ((trE (trF p l bs ws n) l bs n (fun i => (dA p l bs i : Int)) n : Nat) : Int) | _ => undef) undef A.1 (by kernel_rfl) (by decide) (by decide) (Below.refl _ _) ?_ ?_
  · intro i_ hi_ s a X hf hv hn hS
    match i_, hi_ with
    | 0, _ => exact stepV rfl rfl (execMvB rfl ((hf 10 (by decide)).trans t10)) ⟨s, ⟨_, rfl, rfl⟩, hS, fun _ _ => rfl⟩
    | 1, _ => exact stepV rfl rfl (execMvB rfl ((hf 1 (by decide)).trans t1)) ⟨s, ⟨_, rfl, rfl⟩, hS, fun _ _ => rfl⟩
    | 2, _ => exact stepV rfl rfl (execMvB rfl ((hf 7 (by decide)).trans t7)) ⟨s, ⟨_, rfl, rfl⟩, hS, fun _ _ => rfl⟩
    | 3, _ =>
      refine stepC rfl rfl (execCall3 Try.func20 (by kernel_rfl) (by kernel_rfl) rfl (hv 0 (by omega) _ rfl _ rfl) (hv 1 (by omega) _ rfl _ rfl) (hv 2 (by omega) _ rfl _ rfl)) (I.turn (trF p l bs ws n) l bs (fun i => (dA p l bs i : Int)) n n _ _ _ X (Fv34.on hS) (by omega) hz_v34 (FI.on hS) (by omega) (Fv26.on hS) (by omega)) fun e w' hh => ?_
      obtain ⟨r_, he, hk, hb⟩ := hh
      refine ⟨_, he, r_, ⟨_, rfl, rfl⟩, ⟨(hS).trans ((hb).mono (hS).size), hk.slice, tk_nil hk⟩, fun i hi => ?_⟩
      match i, hi with
      | 0, _ => rfl
      | 1, _ => rfl
      | 2, _ => rfl
      | n_ + 3, h_ => omega
    | 4, _ => exact stepV rfl rfl (execMvB rfl (hv 3 (by omega) _ rfl _ rfl)) ⟨s, ⟨_, rfl, rfl⟩, hS, fun _ _ => rfl⟩
    | 5, _ => exact stepV rfl rfl (execExtT rfl (hv 4 (by omega) _ rfl _ rfl) rfl) ⟨s, ⟨_, rfl, rfl⟩, hS, fun _ _ => rfl⟩
    | 6, _ => exact stepV rfl rfl (execExtT rfl (hv 4 (by omega) _ rfl _ rfl) rfl) ⟨s, ⟨_, rfl, rfl⟩, hS, fun _ _ => rfl⟩
    | 7, _ => exact stepV rfl rfl (execAsgB rfl (hv 5 (by omega) _ rfl _ rfl)) ⟨s, ⟨_, rfl, rfl⟩, hS, fun _ _ => rfl⟩
    | 8, _ => exact stepV rfl rfl (execAsgB rfl (hv 6 (by omega) _ rfl _ rfl)) ⟨s, ⟨_, rfl, rfl⟩, hS, fun _ _ => rfl⟩
    | k_ + 9, h_ => exact absurd h_ (by simp)
  rintro v62 a X8 h1 h2 h3 h4 hS
  replace hS : Below X7.heap.size X7 X8 ∧ SliceN X8 v62 (trN (trF p l bs ws n) l bs n (fun i => (dA p l bs i : Int)) n) (trF (trF p l bs ws n) l bs (fun i => (dA p l bs i : Int)) n) ∧ (∀ l_ c_, v62 = .slice none l_ c_ → c_ = 0) := hS
  obtain ⟨bX, Fv62, Kv62⟩ := hS
  replace t0 := (h3 0 (by decide)).trans t0
  replace t1 := (h3 1 (by decide)).trans t1
  replace t2 := (h3 2 (by decide)).trans t2
  replace t7 := (h3 7 (by decide)).trans t7
  replace t8 := (h3 8 (by decide)).trans t8
  replace t9 := (h3 9 (by decide)).trans t9
  replace t10 := (h3 10 (by decide)).trans t10
  replace t11 := (h3 11 (by decide)).trans t11
  replace t12 := (h3 12 (by decide)).trans t12
  replace t13 := (h3 13 (by decide)).trans t13
  replace t14 := (h3 14 (by decide)).trans t14
  have t15 : a.eval (.tmp 15) = v62 := h4 7 _ rfl _ rfl
  have t16 : a.eval (.tmp 16) = .int .i64 ((trE (trF p l bs ws n) l bs n (fun i => (dA p l bs i : Int)) n : Nat) : Int) := h4 8 _ rfl _ rfl
  replace FP := (FP.on bX)
  replace FI := (FI.on bX)
  replace FJ := (FJ.on bX)
  replace Fv26 := (Fv26.on bX)
  replace Fv34 := (Fv34.on bX)
  replace Kv34 := Kv34
  replace Fv54 := (Fv54.on bX)
  have ZX8 := bX.size
  replace BW := BW.trans (bX.mono BW.size)
  clear bX
  replace A := (⟨h1, h2.trans A.2⟩ : a.tmps.size = 139 ∧ a.defers = [])
  clear h1 h2 h3 h4
  refine wp_seq ?_
  refine wp_region_sq (σ := Nat × Value) 139 [(0, 66), (1, 67), (2, 68), (3, 69), (4, 70), (5, 71), (6, 65), (7, 72), (8, 73), (9, 17), (10, 18)] (fun j_ s X => match j_ with | 0 => Below X8.heap.size X8 X | 1 => Below X8.heap.size X8 X | 2 => Below X8.heap.size X8 X | 3 => Below X8.heap.size X8 X | 4 => Below X8.heap.size X8 X | 5 => Below X8.heap.size X8 X ∧ (SliceI X (.slice (some ⟨s.1, 0, none⟩) n n) (n) (fun _ => 0)) | 6 => Below X8.heap.size X8 X ∧ (SliceI X (.slice (some ⟨s.1, 0, none⟩) n n) (n) (fun _ => 0)) ∧ SliceN X s.2 (trN p l bs n (fun _ => 0) n) (trF p l bs (fun _ => 0) n) ∧ (∀ l_ c_, s.2 = .slice none l_ c_ → c_ = 0) | 7 => Below X8.heap.size X8 X ∧ (SliceI X (.slice (some ⟨s.1, 0, none⟩) n n) (n) (fun _ => 0)) ∧ SliceN X s.2 (trN p l bs n (fun _ => 0) n) (trF p l bs (fun _ => 0) n) ∧ (∀ l_ c_, s.2 = .slice none l_ c_ → c_ = 0) | 8 => Below X8.heap.size X8 X ∧ (SliceI X (.slice (some ⟨s.1, 0, none⟩) n n) (n) (fun _ => 0)) ∧ SliceN X s.2 (trN p l bs n (fun _ => 0) n) (trF p l bs (fun _ => 0) n) ∧ (∀ l_ c_, s.2 = .slice none l_ c_ → c_ = 0) | 9 => Below X8.heap.size X8 X ∧ (SliceI X (.slice (some ⟨s.1, 0, none⟩) n n) (n) (fun _ => 0)) ∧ SliceN X s.2 (trN p l bs n (fun _ => 0) n) (trF p l bs (fun _ => 0) n) ∧ (∀ l_ c_, s.2 = .slice none l_ c_ → c_ = 0) | 10 => Below X8.heap.size X8 X ∧ (SliceI X (.slice (some ⟨s.1, 0, none⟩) n n) (n) (fun _ => 0)) ∧ SliceN X s.2 (trN p l bs n (fun _ => 0) n) (trF p l bs (fun _ => 0) n) ∧ (∀ l_ c_, s.2 = .slice none l_ c_ → c_ = 0) | _ => Below X8.heap.size X8 X ∧ (SliceI X (.slice (some ⟨s.1, 0, none⟩) n n) (n) (fun _ => 0)) ∧ SliceN X s.2 (trN p l bs n (fun _ => 0) n) (trF p l bs (fun _ => 0) n) ∧ (∀ l_ c_, s.2 = .slice none l_ c_ → c_ = 0)) (fun s => fun i_ => match i_ with | 0 => pv | 1 => bv | 2 => bv | 3 => .int .i64 ((n : Nat) : Int) | 4 => .slice (some ⟨s.1, 0, none⟩) n n | 5 => .tuple #[s.2, .int .i64 ((trE p l bs n (fun _ => 0) n : Nat) : Int)] | 6 => .tuple #[s.2, .int .i64 ((trE p l bs n (fun _ => 0) n : Nat) : Int)] | 7 => s.2 | 8 => .int .i64 ((trE p l bs n (fun _ => 0) n : Nat) : Int) | 9 => s.2 | 10 => .int .i64 ((trE p l bs n (fun _ => 0) n : Nat) : Int) | _ => undef) (0, undef) A.1 (by kernel_rfl) (by decide) (by decide) (Below.refl _ _) ?_ ?_
  · intro i_ hi_ s a X hf hv hn hS
    match i_, hi_ with
    | 0, _ => exact stepV rfl rfl (execMvB rfl ((hf 0 (by decide)).trans t0)) ⟨s, ⟨_, rfl, rfl⟩, hS, fun _ _ => rfl⟩
    | 1, _ => exact stepV rfl rfl (execMvB rfl ((hf 1 (by decide)).trans t1)) ⟨s, ⟨_, rfl, rfl⟩, hS, fun _ _ => rfl⟩
    | 2, _ => exact stepV rfl rfl (execMvB rfl ((hf 1 (by decide)).trans t1)) ⟨s, ⟨_, rfl, rfl⟩, hS, fun _ _ => rfl⟩
    | 3, _ => exact stepV rfl rfl (execLenI (len := n) rfl (hv 2 (by omega) _ rfl _ rfl) ((FI.on hS)).shp) ⟨s, ⟨_, rfl, rfl⟩, hS, fun _ _ => rfl⟩
    | 4, _ =>
      refine stepV rfl rfl (execMkN rfl (hv 3 (by omega) _ rfl _ rfl) (hv 3 (by omega) _ rfl _ rfl) hn17) ⟨(X.heap.size, s.2), ⟨_, rfl, rfl⟩, ⟨(hS).trans (((belNew X _)).mono (hS).size), zerosI X n hn17⟩, fun i hi => ?_⟩
      match i, hi with
      | 0, _ => rfl
      | 1, _ => rfl
      | 2, _ => rfl
      | 3, _ => rfl
      | n_ + 4, h_ => omega
    | 5, _ =>
      refine stepC rfl rfl (execCall3 Try.func20 (by kernel_rfl) (by kernel_rfl) rfl (hv 0 (by omega) _ rfl _ rfl) (hv 1 (by omega) _ rfl _ rfl) (hv 4 (by omega) _ rfl _ rfl)) (I.turn p l bs (fun _ => 0) n n _ _ _ X (FP.on hS.1) (by omega) hz (FI.on hS.1) (by omega) hS.2 (by omega)) fun e w' hh => ?_
      obtain ⟨r_, he, hk, hb⟩ := hh
      refine ⟨_, he, (s.1, r_), ⟨_, rfl, rfl⟩, ⟨(hS.1).trans ((hb).mono (hS.1).size), (hS.2.on hb), hk.slice, tk_nil hk⟩, fun i hi => ?_⟩
      match i, hi with
      | 0, _ => rfl
      | 1, _ => rfl
      | 2, _ => rfl
      | 3, _ => rfl
      | 4, _ => rfl
      | n_ + 5, h_ => omega
    | 6, _ => exact stepV rfl rfl (execMvB rfl (hv 5 (by omega) _ rfl _ rfl)) ⟨s, ⟨_, rfl, rfl⟩, hS, fun _ _ => rfl⟩
    | 7, _ => exact stepV rfl rfl (execExtT rfl (hv 6 (by omega) _ rfl _ rfl) rfl) ⟨s, ⟨_, rfl, rfl⟩, hS, fun _ _ => rfl⟩
    | 8, _ => exact stepV rfl rfl (execExtT rfl (hv 6 (by omega) _ rfl _ rfl) rfl) ⟨s, ⟨_, rfl, rfl⟩, hS, fun _ _ => rfl⟩
    | 9, _ => exact stepV rfl rfl (execAsgB rfl (hv 7 (by omega) _ rfl _ rfl)) ⟨s, ⟨_, rfl, rfl⟩, hS, fun _ _ => rfl⟩
    | 10, _ => exact stepV rfl rfl (execAsgB rfl (hv 8 (by omega) _ rfl _ rfl)) ⟨s, ⟨_, rfl, rfl⟩, hS, fun _ _ => rfl⟩
    | k_ + 11, h_ => exact absurd h_ (by simp)
  rintro ⟨g70, v71⟩ a X9 h1 h2 h3 h4 hS
  replace hS : Below X8.heap.size X8 X9 ∧ (SliceI X9 (.slice (some ⟨g70, 0, none⟩) n n) (n) (fun _ => 0)) ∧ SliceN X9 v71 (trN p l bs n (fun _ => 0) n) (trF p l bs (fun _ => 0) n) ∧ (∀ l_ c_, v71 = .slice none l_ c_ → c_ = 0) := hS
  obtain ⟨bX, Fg70, Fv71, Kv71⟩ := hS
  replace t0 := (h3 0 (by decide)).trans t0
  replace t1 := (h3 1 (by decide)).trans t1
  replace t2 := (h3 2 (by decide)).trans t2
  replace t7 := (h3 7 (by decide)).trans t7
  replace t8 := (h3 8 (by decide)).trans t8
  replace t9 := (h3 9 (by decide)).trans t9
  replace t10 := (h3 10 (by decide)).trans t10
  replace t11 := (h3 11 (by decide)).trans t11
  replace t12 := (h3 12 (by decide)).trans t12
  replace t13 := (h3 13 (by decide)).trans t13
  replace t14 := (h3 14 (by decide)).trans t14
  replace t15 := (h3 15 (by decide)).trans t15
  replace t16 := (h3 16 (by decide)).trans t16
  have t17 : a.eval (.tmp 17) = v71 := h4 9 _ rfl _ rfl
  have t18 : a.eval (.tmp 18) = .int .i64 ((trE p l bs n (fun _ => 0) n : Nat) : Int) := h4 10 _ rfl _ rfl
  replace FP := (FP.on bX)
  replace FI := (FI.on bX)
  replace FJ := (FJ.on bX)
  replace Fv26 := (Fv26.on bX)
  replace Fv34 := (Fv34.on bX)
  replace Kv34 := Kv34
  replace Fv54 := (Fv54.on bX)
  replace Fv62 := (Fv62.on bX)
  replace Kv62 := Kv62
  have ZX9 := bX.size
  replace BW := BW.trans (bX.mono BW.size)
  clear bX
  replace A := (⟨h1, h2.trans A.2⟩ : a.tmps.size = 139 ∧ a.defers = [])
  clear h1 h2 h3 h4
  rw [hTN0] at Fv71
  have hz_v71 := Kv71
  refine wp_seq ?_
  refine wp_region_sq (σ := Value) 139 [(0, 75), (1, 76), (2, 77), (3, 78), (4, 74), (5, 79), (6, 80), (7, 19), (8, 20)] (fun j_ s X => match j_ with | 0 => Below X9.heap.size X9 X | 1 => Below X9.heap.size X9 X | 2 => Below X9.heap.size X9 X | 3 => Below X9.heap.size X9 X | 4 => Below X9.heap.size X9 X ∧ SliceN X s (trN (trF p l bs (fun _ => 0) n) l bs n ws n) (trF (trF p l bs (fun _ => 0) n) l bs ws n) ∧ (∀ l_ c_, s = .slice none l_ c_ → c_ = 0) | 5 => Below X9.heap.size X9 X ∧ SliceN X s (trN (trF p l bs (fun _ => 0) n) l bs n ws n) (trF (trF p l bs (fun _ => 0) n) l bs ws n) ∧ (∀ l_ c_, s = .slice none l_ c_ → c_ = 0) | 6 => Below X9.heap.size X9 X ∧ SliceN X s (trN (trF p l bs (fun _ => 0) n) l bs n ws n) (trF (trF p l bs (fun _ => 0) n) l bs ws n) ∧ (∀ l_ c_, s = .slice none l_ c_ → c_ = 0) | 7 => Below X9.heap.size X9 X ∧ SliceN X s (trN (trF p l bs (fun _ => 0) n) l bs n ws n) (trF (trF p l bs (fun _ => 0) n) l bs ws n) ∧ (∀ l_ c_, s = .slice none l_ c_ → c_ = 0) | 8 => Below X9.heap.size X9 X ∧ SliceN X s (trN (trF p l bs (fun _ => 0) n) l bs n ws n) (trF (trF p l bs (fun _ => 0) n) l bs ws n) ∧ (∀ l_ c_, s = .slice none l_ c_ → c_ = 0) | _ => Below X9.heap.size X9 X ∧ SliceN X s (trN (trF p l bs (fun _ => 0) n) l bs n ws n) (trF (trF p l bs (fun _ => 0) n) l bs ws n) ∧ (∀ l_ c_, s = .slice none l_ c_ → c_ = 0)) (fun s => fun i_ => match i_ with | 0 => v71 | 1 => bv | 2 => wv | 3 => .tuple #[s, .int .i64 ((trE (trF p l bs (fun _ => 0) n) l bs n ws n : Nat) : Int)] | 4 => .tuple #[s, .int .i64 ((trE (trF p l bs (fun _ => 0) n) l bs n ws n : Nat) : Int)] | 5 => s | 6 => .int .i64 ((trE (trF p l bs (fun _ => 0) n) l bs n ws n : Nat) : Int) | 7 => s | 8 => .int .i64 ((trE (trF p l bs (fun _ => 0) n) l bs n ws n : Nat) : Int) | _ => undef) undef A.1 (by kernel_rfl) (by decide) (by decide) (Below.refl _ _) ?_ ?_
  · intro i_ hi_ s a X hf hv hn hS
    match i_, hi_ with
    | 0, _ => exact stepV rfl rfl (execMvB rfl ((hf 17 (by decide)).trans t17)) ⟨s, ⟨_, rfl, rfl⟩, hS, fun _ _ => rfl⟩
    | 1, _ => exact stepV rfl rfl (execMvB rfl ((hf 1 (by decide)).trans t1)) ⟨s, ⟨_, rfl, rfl⟩, hS, fun _ _ => rfl⟩
    | 2, _ => exact stepV rfl rfl (execMvB rfl ((hf 2 (by decide)).trans t2)) ⟨s, ⟨_, rfl, rfl⟩, hS, fun _ _ => rfl⟩
    | 3, _ =>
      refine stepC rfl rfl (execCall3 Try.func20 (by kernel_rfl) (by kernel_rfl) rfl (hv 0 (by omega) _ rfl _ rfl) (hv 1 (by omega) _ rfl _ rfl) (hv 2 (by omega) _ rfl _ rfl)) (I.turn (trF p l bs (fun _ => 0) n) l bs ws n n _ _ _ X (Fv71.on hS) (by omega) hz_v71 (FI.on hS) (by omega) (FJ.on hS) (by omega)) fun e w' hh => ?_
      obtain ⟨r_, he, hk, hb⟩ := hh
      refine ⟨_, he, r_, ⟨_, rfl, rfl⟩, ⟨(hS).trans ((hb).mono (hS).size), hk.slice, tk_nil hk⟩, fun i hi => ?_⟩
      match i, hi with
      | 0, _ => rfl
      | 1, _ => rfl
      | 2, _ => rfl
      | n_ + 3, h_ => omega
    | 4, _ => exact stepV rfl rfl (execMvB rfl (hv 3 (by omega) _ rfl _ rfl)) ⟨s, ⟨_, rfl, rfl⟩, hS, fun _ _ => rfl⟩
    | 5, _ => exact stepV rfl rfl (execExtT rfl (hv 4 (by omega) _ rfl _ rfl) rfl) ⟨s, ⟨_, rfl, rfl⟩, hS, fun _ _ => rfl⟩
    | 6, _ => exact stepV rfl rfl (execExtT rfl (hv 4 (by omega) _ rfl _ rfl) rfl) ⟨s, ⟨_, rfl, rfl⟩, hS, fun _ _ => rfl⟩
    | 7, _ => exact stepV rfl rfl (execAsgB rfl (hv 5 (by omega) _ rfl _ rfl)) ⟨s, ⟨_, rfl, rfl⟩, hS, fun _ _ => rfl⟩
    | 8, _ => exact stepV rfl rfl (execAsgB rfl (hv 6 (by omega) _ rfl _ rfl)) ⟨s, ⟨_, rfl, rfl⟩, hS, fun _ _ => rfl⟩
    | k_ + 9, h_ => exact absurd h_ (by simp)
  rintro v78 a X10 h1 h2 h3 h4 hS
  replace hS : Below X9.heap.size X9 X10 ∧ SliceN X10 v78 (trN (trF p l bs (fun _ => 0) n) l bs n ws n) (trF (trF p l bs (fun _ => 0) n) l bs ws n) ∧ (∀ l_ c_, v78 = .slice none l_ c_ → c_ = 0) := hS
  obtain ⟨bX, Fv78, Kv78⟩ := hS
  replace t0 := (h3 0 (by decide)).trans t0
  replace t1 := (h3 1 (by decide)).trans t1
  replace t2 := (h3 2 (by decide)).trans t2
  replace t7 := (h3 7 (by decide)).trans t7
  replace t8 := (h3 8 (by decide)).trans t8
  replace t9 := (h3 9 (by decide)).trans t9
  replace t10 := (h3 10 (by decide)).trans t10
  replace t11 := (h3 11 (by decide)).trans t11
  replace t12 := (h3 12 (by decide)).trans t12
  replace t13 := (h3 13 (by decide)).trans t13
  replace t14 := (h3 14 (by decide)).trans t14
  replace t15 := (h3 15 (by decide)).trans t15
  replace t16 := (h3 16 (by decide)).trans t16
  replace t17 := (h3 17 (by decide)).trans t17
  replace t18 := (h3 18 (by decide)).trans t18
  have t19 : a.eval (.tmp 19) = v78 := h4 7 _ rfl _ rfl
  have t20 : a.eval (.tmp 20) = .int .i64 ((trE (trF p l bs (fun _ => 0) n) l bs n ws n : Nat) : Int) := h4 8 _ rfl _ rfl
  replace FP := (FP.on bX)
  replace FI := (FI.on bX)
  replace FJ := (FJ.on bX)
  replace Fv26 := (Fv26.on bX)
  replace Fv34 := (Fv34.on bX)
  replace Kv34 := Kv34
  replace Fv54 := (Fv54.on bX)
  replace Fv62 := (Fv62.on bX)
  replace Kv62 := Kv62
  replace Fg70 := (Fg70.on bX)
  replace Fv71 := (Fv71.on bX)
  replace Kv71 := Kv71
  have ZX10 := bX.size
  replace BW := BW.trans (bX.mono BW.size)
  clear bX
  replace A := (⟨h1, h2.trans A.2⟩ : a.tmps.size = 139 ∧ a.defers = [])
  clear h1 h2 h3 h4
  refine wp_seq ?_
  refine wp_seq ?_
  refine wp_region_sq (σ := Unit) 139 [(0, 81), (1, 82), (2, 83), (3, 84), (4, 85), (5, 86), (6, 87), (7, 88), (8, 89), (9, 90), (10, 91), (11, 92), (12, 93), (13, 94), (14, 95), (15, 96), (16, 97), (17, 98)] (fun j_ s X => match j_ with | 0 => Below X10.heap.size X10 X | 1 => Below X10.heap.size X10 X | 2 => Below X10.heap.size X10 X | 3 => Below X10.heap.size X10 X | 4 => Below X10.heap.size X10 X | 5 => Below X10.heap.size X10 X | 6 => Below X10.heap.size X10 X | 7 => Below X10.heap.size X10 X | 8 => Below X10.heap.size X10 X | 9 => Below X10.heap.size X10 X | 10 => Below X10.heap.size X10 X | 11 => Below X10.heap.size X10 X | 12 => Below X10.heap.size X10 X | 13 => Below X10.heap.size X10 X | 14 => Below X10.heap.size X10 X | 15 => Below X10.heap.size X10 X | 16 => Below X10.heap.size X10 X | 17 => Below X10.heap.size X10 X | _ => Below X10.heap.size X10 X) (fun s => fun i_ => match i_ with | 0 => .int .i64 ((allE p l bs n : Nat) : Int) | 1 => .bool false | 2 => .bool false | 3 => .int .i64 ((allE (trF p l bs ws n) l bs n : Nat) : Int) | 4 => .bool false | 5 => .bool false | 6 => .bool false | 7 => .int .i64 ((trE (trF p l bs ws n) l bs n (fun i => (dA p l bs i : Int)) n : Nat) : Int) | 8 => .bool false | 9 => .bool false | 10 => .bool false | 11 => .int .i64 ((trE p l bs n (fun _ => 0) n : Nat) : Int) | 12 => .bool false | 13 => .bool false | 14 => .bool false | 15 => .int .i64 ((trE (trF p l bs (fun _ => 0) n) l bs n ws n : Nat) : Int) | 16 => .bool false | 17 => .bool false | _ => undef) () A.1 (by kernel_rfl) (by decide) (by decide) (Below.refl _ _) ?_ ?_
  · intro i_ hi_ s a X hf hv hn hS
    match i_, hi_ with
    | 0, _ => exact stepV rfl rfl (execMvB rfl ((hf 9 (by decide)).trans t9)) ⟨s, ⟨_, rfl, rfl⟩, hS, fun _ _ => rfl⟩
    | 1, _ => exact stepV rfl rfl (execDec (execNeE (p := allE p l bs n) (q := 0) rfl (hv 0 (by omega) _ rfl _ rfl) rfl) (decide_eq_false (by omega))) ⟨s, ⟨_, rfl, rfl⟩, hS, fun _ _ => rfl⟩
    | 2, _ => exact stepV rfl rfl (execMvB rfl (hv 1 (by omega) _ rfl _ rfl)) ⟨s, ⟨_, rfl, rfl⟩, hS, fun _ _ => rfl⟩
    | 3, _ => exact stepV rfl (wantedOf rfl (yieldedAt rfl rfl (show a.eval (.tmp 83) = .bool false from (hv 2 (by omega) _ rfl _ rfl)))) (execMvB rfl ((hf 14 (by decide)).trans t14)) ⟨s, ⟨_, rfl, rfl⟩, hS, fun _ _ => rfl⟩
    | 4, _ => exact stepV rfl (wantedOf rfl (yieldedAt rfl rfl (show a.eval (.tmp 83) = .bool false from (hv 2 (by omega) _ rfl _ rfl)))) (execDec (execNeE (p := allE (trF p l bs ws n) l bs n) (q := 0) rfl (hv 3 (by omega) _ rfl _ rfl) rfl) (decide_eq_false (by omega))) ⟨s, ⟨_, rfl, rfl⟩, hS, fun _ _ => rfl⟩
    | 5, _ => exact stepV rfl rfl (execPickF rfl (hv 2 (by omega) _ rfl _ rfl) (hv 4 (by omega) _ rfl _ rfl)) ⟨s, ⟨_, rfl, rfl⟩, hS, fun _ _ => rfl⟩
    | 6, _ => exact stepV rfl rfl (execMvB rfl (hv 5 (by omega) _ rfl _ rfl)) ⟨s, ⟨_, rfl, rfl⟩, hS, fun _ _ => rfl⟩
    | 7, _ => exact stepV rfl (wantedOf rfl (yieldedAt rfl rfl (show a.eval (.tmp 87) = .bool false from (hv 6 (by omega) _ rfl _ rfl)))) (execMvB rfl ((hf 16 (by decide)).trans t16)) ⟨s, ⟨_, rfl, rfl⟩, hS, fun _ _ => rfl⟩
    | 8, _ => exact stepV rfl (wantedOf rfl (yieldedAt rfl rfl (show a.eval (.tmp 87) = .bool false from (hv 6 (by omega) _ rfl _ rfl)))) (execDec (execNeE (p := trE (trF p l bs ws n) l bs n (fun i => (dA p l bs i : Int)) n) (q := 0) rfl (hv 7 (by omega) _ rfl _ rfl) rfl) (decide_eq_false (by omega))) ⟨s, ⟨_, rfl, rfl⟩, hS, fun _ _ => rfl⟩
    | 9, _ => exact stepV rfl rfl (execPickF rfl (hv 6 (by omega) _ rfl _ rfl) (hv 8 (by omega) _ rfl _ rfl)) ⟨s, ⟨_, rfl, rfl⟩, hS, fun _ _ => rfl⟩
    | 10, _ => exact stepV rfl rfl (execMvB rfl (hv 9 (by omega) _ rfl _ rfl)) ⟨s, ⟨_, rfl, rfl⟩, hS, fun _ _ => rfl⟩
    | 11, _ => exact stepV rfl (wantedOf rfl (yieldedAt rfl rfl (show a.eval (.tmp 91) = .bool false from (hv 10 (by omega) _ rfl _ rfl)))) (execMvB rfl ((hf 18 (by decide)).trans t18)) ⟨s, ⟨_, rfl, rfl⟩, hS, fun _ _ => rfl⟩
    | 12, _ => exact stepV rfl (wantedOf rfl (yieldedAt rfl rfl (show a.eval (.tmp 91) = .bool false from (hv 10 (by omega) _ rfl _ rfl)))) (execDec (execNeE (p := trE p l bs n (fun _ => 0) n) (q := 0) rfl (hv 11 (by omega) _ rfl _ rfl) rfl) (decide_eq_false (by omega))) ⟨s, ⟨_, rfl, rfl⟩, hS, fun _ _ => rfl⟩
    | 13, _ => exact stepV rfl rfl (execPickF rfl (hv 10 (by omega) _ rfl _ rfl) (hv 12 (by omega) _ rfl _ rfl)) ⟨s, ⟨_, rfl, rfl⟩, hS, fun _ _ => rfl⟩
    | 14, _ => exact stepV rfl rfl (execMvB rfl (hv 13 (by omega) _ rfl _ rfl)) ⟨s, ⟨_, rfl, rfl⟩, hS, fun _ _ => rfl⟩
    | 15, _ => exact stepV rfl (wantedOf rfl (yieldedAt rfl rfl (show a.eval (.tmp 95) = .bool false from (hv 14 (by omega) _ rfl _ rfl)))) (execMvB rfl ((hf 20 (by decide)).trans t20)) ⟨s, ⟨_, rfl, rfl⟩, hS, fun _ _ => rfl⟩
    | 16, _ => exact stepV rfl (wantedOf rfl (yieldedAt rfl rfl (show a.eval (.tmp 95) = .bool false from (hv 14 (by omega) _ rfl _ rfl)))) (execDec (execNeE (p := trE (trF p l bs (fun _ => 0) n) l bs n ws n) (q := 0) rfl (hv 15 (by omega) _ rfl _ rfl) rfl) (decide_eq_false (by omega))) ⟨s, ⟨_, rfl, rfl⟩, hS, fun _ _ => rfl⟩
    | 17, _ => exact stepV rfl rfl (execPickF rfl (hv 14 (by omega) _ rfl _ rfl) (hv 16 (by omega) _ rfl _ rfl)) ⟨s, ⟨_, rfl, rfl⟩, hS, fun _ _ => rfl⟩
    | k_ + 18, h_ => exact absurd h_ (by simp)
  rintro _ a X11 h1 h2 h3 h4 hS
  replace hS : Below X10.heap.size X10 X11 := hS
  have bX := hS
  clear hS
  replace t0 := (h3 0 (by decide)).trans t0
  replace t1 := (h3 1 (by decide)).trans t1
  replace t2 := (h3 2 (by decide)).trans t2
  replace t8 := (h3 8 (by decide)).trans t8
  replace t10 := (h3 10 (by decide)).trans t10
  replace t12 := (h3 12 (by decide)).trans t12
  replace t13 := (h3 13 (by decide)).trans t13
  replace t15 := (h3 15 (by decide)).trans t15
  replace t19 := (h3 19 (by decide)).trans t19
  have t98 : a.eval (.tmp 98) = .bool false := h4 17 _ rfl _ rfl
  replace FP := (FP.on bX)
  replace FI := (FI.on bX)
  replace FJ := (FJ.on bX)
  replace Fv26 := (Fv26.on bX)
  replace Fv34 := (Fv34.on bX)
  replace Kv34 := Kv34
  replace Fv54 := (Fv54.on bX)
  replace Fv62 := (Fv62.on bX)
  replace Kv62 := Kv62
  replace Fg70 := (Fg70.on bX)
  replace Fv71 := (Fv71.on bX)
  replace Kv71 := Kv71
  replace Fv78 := (Fv78.on bX)
  replace Kv78 := Kv78
  have ZX11 := bX.size
  replace BW := BW.trans (bX.mono BW.size)
  clear bX
  replace A := (⟨h1, h2.trans A.2⟩ : a.tmps.size = 139 ∧ a.defers = [])
  clear h1 h2 h3 h4
  clear t7 t9 t11 t14 t16 t17 t18 t20
  refine wp_cond_false t98 ?_
  refine wp_skip ?_
  clear t98
  rw [hAN2] at Fv54
  have Fv54b : SliceI X11 v54 n ws := Fv54.cg fun i hi => turn_dA hok hwo hi
  rw [hTN2] at Fv62
  have Fv62b : SliceN X11 v62 l p := sliceN_cg Fv62 fun j _ => turn_back hok hwo (fun i _ => rfl) j
  rw [hTN3] at Fv78
  have Fv78b : SliceN X11 v78 l (trF p l bs ws n) := sliceN_cg Fv78 fun j _ => turn_turn hok hz0 j
  clear Fv54 Fv62 Fv78 Fv26 Fv71
  obtain ⟨pa, pc, epv, -⟩ := id FP.shape
  obtain ⟨qa, qc, eqv, -⟩ := id Fv34.shape
  obtain ⟨zp, ezp⟩ : ∃ z, sliced pa k l pc 1 = z := ⟨_, rfl⟩
  obtain ⟨zq, ezq⟩ : ∃ z, sliced qa k l qc 1 = z := ⟨_, rfl⟩
  have FZp : SliceN X11 zp (l - k) (fun j => p (k + j)) := by
    have h := FP
    rw [epv] at h
    have h2 := h.sub k l hkl (Nat.le_refl _)
    rw [ezp] at h2
    exact h2
  have FZq : SliceN X11 zq (l - k) (fun j => p (k + j)) := by
    have h := Fv34
    rw [eqv] at h
    have h2 := h.sub k l hkl (Nat.le_refl _)
    rw [ezq] at h2
    exact sliceN_cg h2 fun j _ => turn_rest hok (by rw [hkA]; omega)
  rw [hK1] at t8
  rw [hK2] at t13
  refine wp_seq ?_
  refine wp_region_detA 139 [(0, 99), (1, 100), (2, 101), (3, 102), (4, 103), (5, 104), (6, 105), (7, 106), (8, 107), (9, 108), (10, 109), (11, 110), (12, 111), (13, 112), (14, 113), (15, 114), (16, 115), (17, 116), (18, 117), (19, 118), (20, 119), (21, 120), (22, 121), (23, 122), (24, 123), (25, 124), (26, 125), (27, 126), (28, 127), (29, 128), (30, 129), (31, 130), (32, 131), (33, 132), (34, 133), (35, 134), (36, 135), (37, 136), (38, 137), (39, 138), (40, 6)] (fun i_ => match i_ with | 0 => v34 | 1 => .int .i64 ((l : Nat) : Int) | 2 => pv | 3 => .int .i64 ((l : Nat) : Int) | 4 => .bool true | 5 => .bool true | 6 => v54 | 7 => wv | 8 => .bool true | 9 => .bool true | 10 => .bool true | 11 => .int .i64 ((k : Nat) : Int) | 12 => .int .i64 ((k : Nat) : Int) | 13 => .bool true | 14 => .bool true | 15 => .bool true | 16 => v62 | 17 => .string (strN (p) (l)) | 18 => pv | 19 => .string (strN (p) (l)) | 20 => .bool true | 21 => .bool true | 22 => .bool true | 23 => v78 | 24 => .string (strN (trF p l bs ws n) (l)) | 25 => v34 | 26 => .string (strN (trF p l bs ws n) (l)) | 27 => .bool true | 28 => .bool true | 29 => .bool true | 30 => v34 | 31 => .int .i64 ((k : Nat) : Int) | 32 => zq | 33 => .string (strN (fun j => p (k + j)) (l - k)) | 34 => pv | 35 => .int .i64 ((k : Nat) : Int) | 36 => zp | 37 => .string (strN (fun j => p (k + j)) (l - k)) | 38 => .bool true | 39 => .bool true | 40 => .bool true | _ => undef) (fun _ X => Below X11.heap.size X11 X) (by kernel_rfl) (by kernel_rfl) A.1 (by kernel_rfl) (by decide) (by decide) (Below.refl _ _).drew ?_ ?_
  · intro i_ hi_ l_ a X hl_ hf hdep hl2 hcl hno hT
    match i_, hi_ with
    | 0, _ => exact stepV rfl rfl (execMvB rfl ((hf 10 (by decide)).trans t10)) ⟨⟨_, rfl, rfl⟩, hT⟩
    | 1, _ => exact stepV rfl rfl (execLenV (len := l) rfl (hdep _ rfl 0 rfl _ rfl _ rfl) (shp9 (Fv34.on hT))) ⟨⟨_, rfl, rfl⟩, hT⟩
    | 2, _ => exact stepV rfl rfl (execMvB rfl ((hf 0 (by decide)).trans t0)) ⟨⟨_, rfl, rfl⟩, hT⟩
    | 3, _ => exact stepV rfl rfl (execLenV (len := l) rfl (hdep _ rfl 2 rfl _ rfl _ rfl) (shp9 (FP.on hT))) ⟨⟨_, rfl, rfl⟩, hT⟩
    | 4, _ => exact stepV rfl rfl (execDec (execEqN (p := l) (q := l) rfl (hdep _ rfl 1 rfl _ rfl _ rfl) (hdep _ rfl 3 rfl _ rfl _ rfl)) (decide_eq_true (by omega))) ⟨⟨_, rfl, rfl⟩, hT⟩
    | 5, _ => exact stepV rfl rfl (execMvB rfl (hdep _ rfl 4 rfl _ rfl _ rfl)) ⟨⟨_, rfl, rfl⟩, hT⟩
    | 6, _ => exact stepV rfl (wantedOf rfl (yieldedAt rfl rfl (show a.eval (.tmp 104) = .bool true from (hdep _ rfl 5 rfl _ rfl _ rfl)))) (execMvB rfl ((hf 12 (by decide)).trans t12)) ⟨⟨_, rfl, rfl⟩, hT⟩
    | 7, _ => exact stepV rfl (wantedOf rfl (yieldedAt rfl rfl (show a.eval (.tmp 104) = .bool true from (hdep _ rfl 5 rfl _ rfl _ rfl)))) (execMvB rfl ((hf 2 (by decide)).trans t2)) ⟨⟨_, rfl, rfl⟩, hT⟩
    | 8, _ => exact stepC rfl (wantedOf rfl (yieldedAt rfl rfl (show a.eval (.tmp 104) = .bool true from (hdep _ rfl 5 rfl _ rfl _ rfl)))) (execCall2 Try.func18 (by kernel_rfl) (by kernel_rfl) rfl (hdep _ rfl 6 rfl _ rfl _ rfl) (hdep _ rfl 7 rfl _ rfl _ rfl)) (sameI _ _ (n) _ _ X (Fv54b.on hT) (FJ.on hT) (by intro i hi; rfl) (by omega)) fun e w' hh => ⟨_, hh.1, ⟨_, rfl, rfl⟩, hT.trans (hh.2.mono hT.size)⟩
    | 9, _ => exact stepV rfl rfl (execPickT rfl (hdep _ rfl 5 rfl _ rfl _ rfl) (hdep _ rfl 8 rfl _ rfl _ rfl)) ⟨⟨_, rfl, rfl⟩, hT⟩
    | 10, _ => exact stepV rfl rfl (execMvB rfl (hdep _ rfl 9 rfl _ rfl _ rfl)) ⟨⟨_, rfl, rfl⟩, hT⟩
    | 11, _ => exact stepV rfl (wantedOf rfl (yieldedAt rfl rfl (show a.eval (.tmp 109) = .bool true from (hdep _ rfl 10 rfl _ rfl _ rfl)))) (execMvB rfl ((hf 13 (by decide)).trans t13)) ⟨⟨_, rfl, rfl⟩, hT⟩
    | 12, _ => exact stepV rfl (wantedOf rfl (yieldedAt rfl rfl (show a.eval (.tmp 109) = .bool true from (hdep _ rfl 10 rfl _ rfl _ rfl)))) (execMvB rfl ((hf 8 (by decide)).trans t8)) ⟨⟨_, rfl, rfl⟩, hT⟩
    | 13, _ => exact stepV rfl (wantedOf rfl (yieldedAt rfl rfl (show a.eval (.tmp 109) = .bool true from (hdep _ rfl 10 rfl _ rfl _ rfl)))) (execDec (execEqN (p := k) (q := k) rfl (hdep _ rfl 11 rfl _ rfl _ rfl) (hdep _ rfl 12 rfl _ rfl _ rfl)) (decide_eq_true (by omega))) ⟨⟨_, rfl, rfl⟩, hT⟩
    | 14, _ => exact stepV rfl rfl (execPickT rfl (hdep _ rfl 10 rfl _ rfl _ rfl) (hdep _ rfl 13 rfl _ rfl _ rfl)) ⟨⟨_, rfl, rfl⟩, hT⟩
    | 15, _ => exact stepV rfl rfl (execMvB rfl (hdep _ rfl 14 rfl _ rfl _ rfl)) ⟨⟨_, rfl, rfl⟩, hT⟩
    | 16, _ => exact stepV rfl (wantedOf rfl (yieldedAt rfl rfl (show a.eval (.tmp 114) = .bool true from (hdep _ rfl 15 rfl _ rfl _ rfl)))) (execMvB rfl ((hf 15 (by decide)).trans t15)) ⟨⟨_, rfl, rfl⟩, hT⟩
    | 17, _ => exact stepV rfl (wantedOf rfl (yieldedAt rfl rfl (show a.eval (.tmp 114) = .bool true from (hdep _ rfl 15 rfl _ rfl _ rfl)))) (By8.execStr rfl (hdep _ rfl 16 rfl _ rfl _ rfl) (Fv62b.on hT)) ⟨⟨_, rfl, rfl⟩, hT⟩
    | 18, _ => exact stepV rfl (wantedOf rfl (yieldedAt rfl rfl (show a.eval (.tmp 114) = .bool true from (hdep _ rfl 15 rfl _ rfl _ rfl)))) (execMvB rfl ((hf 0 (by decide)).trans t0)) ⟨⟨_, rfl, rfl⟩, hT⟩
    | 19, _ => exact stepV rfl (wantedOf rfl (yieldedAt rfl rfl (show a.eval (.tmp 114) = .bool true from (hdep _ rfl 15 rfl _ rfl _ rfl)))) (By8.execStr rfl (hdep _ rfl 18 rfl _ rfl _ rfl) (FP.on hT)) ⟨⟨_, rfl, rfl⟩, hT⟩
    | 20, _ => exact stepV rfl (wantedOf rfl (yieldedAt rfl rfl (show a.eval (.tmp 114) = .bool true from (hdep _ rfl 15 rfl _ rfl _ rfl)))) (By8.execEqlS rfl (hdep _ rfl 17 rfl _ rfl _ rfl) (hdep _ rfl 19 rfl _ rfl _ rfl)) ⟨⟨_, rfl, rfl⟩, hT⟩
    | 21, _ => exact stepV rfl rfl (execPickT rfl (hdep _ rfl 15 rfl _ rfl _ rfl) (hdep _ rfl 20 rfl _ rfl _ rfl)) ⟨⟨_, rfl, rfl⟩, hT⟩
    | 22, _ => exact stepV rfl rfl (execMvB rfl (hdep _ rfl 21 rfl _ rfl _ rfl)) ⟨⟨_, rfl, rfl⟩, hT⟩
    | 23, _ => exact stepV rfl (wantedOf rfl (yieldedAt rfl rfl (show a.eval (.tmp 121) = .bool true from (hdep _ rfl 22 rfl _ rfl _ rfl)))) (execMvB rfl ((hf 19 (by decide)).trans t19)) ⟨⟨_, rfl, rfl⟩, hT⟩
    | 24, _ => exact stepV rfl (wantedOf rfl (yieldedAt rfl rfl (show a.eval (.tmp 121) = .bool true from (hdep _ rfl 22 rfl _ rfl _ rfl)))) (By8.execStr rfl (hdep _ rfl 23 rfl _ rfl _ rfl) (Fv78b.on hT)) ⟨⟨_, rfl, rfl⟩, hT⟩
    | 25, _ => exact stepV rfl (wantedOf rfl (yieldedAt rfl rfl (show a.eval (.tmp 121) = .bool true from (hdep _ rfl 22 rfl _ rfl _ rfl)))) (execMvB rfl ((hf 10 (by decide)).trans t10)) ⟨⟨_, rfl, rfl⟩, hT⟩
    | 26, _ => exact stepV rfl (wantedOf rfl (yieldedAt rfl rfl (show a.eval (.tmp 121) = .bool true from (hdep _ rfl 22 rfl _ rfl _ rfl)))) (By8.execStr rfl (hdep _ rfl 25 rfl _ rfl _ rfl) (Fv34.on hT)) ⟨⟨_, rfl, rfl⟩, hT⟩
    | 27, _ => exact stepV rfl (wantedOf rfl (yieldedAt rfl rfl (show a.eval (.tmp 121) = .bool true from (hdep _ rfl 22 rfl _ rfl _ rfl)))) (By8.execEqlS rfl (hdep _ rfl 24 rfl _ rfl _ rfl) (hdep _ rfl 26 rfl _ rfl _ rfl)) ⟨⟨_, rfl, rfl⟩, hT⟩
    | 28, _ => exact stepV rfl rfl (execPickT rfl (hdep _ rfl 22 rfl _ rfl _ rfl) (hdep _ rfl 27 rfl _ rfl _ rfl)) ⟨⟨_, rfl, rfl⟩, hT⟩
    | 29, _ => exact stepV rfl rfl (execMvB rfl (hdep _ rfl 28 rfl _ rfl _ rfl)) ⟨⟨_, rfl, rfl⟩, hT⟩
    | 30, _ => exact stepV rfl (wantedOf rfl (yieldedAt rfl rfl (show a.eval (.tmp 128) = .bool true from (hdep _ rfl 29 rfl _ rfl _ rfl)))) (execMvB rfl ((hf 10 (by decide)).trans t10)) ⟨⟨_, rfl, rfl⟩, hT⟩
    | 31, _ => exact stepV rfl (wantedOf rfl (yieldedAt rfl rfl (show a.eval (.tmp 128) = .bool true from (hdep _ rfl 29 rfl _ rfl _ rfl)))) (execMvB rfl ((hf 8 (by decide)).trans t8)) ⟨⟨_, rfl, rfl⟩, hT⟩
    | 32, _ => exact stepV rfl (wantedOf rfl (yieldedAt rfl rfl (show a.eval (.tmp 128) = .bool true from (hdep _ rfl 29 rfl _ rfl _ rfl)))) (ezq ▸ By8.execSlL rfl ((hdep _ rfl 30 rfl _ rfl _ rfl).trans eqv) (hdep _ rfl 31 rfl _ rfl _ rfl) (By8.slice_l qa l qc k hkl X)) ⟨⟨_, rfl, rfl⟩, hT⟩
    | 33, _ => exact stepV rfl (wantedOf rfl (yieldedAt rfl rfl (show a.eval (.tmp 128) = .bool true from (hdep _ rfl 29 rfl _ rfl _ rfl)))) (By8.execStr rfl (hdep _ rfl 32 rfl _ rfl _ rfl) (FZq.on hT)) ⟨⟨_, rfl, rfl⟩, hT⟩
    | 34, _ => exact stepV rfl (wantedOf rfl (yieldedAt rfl rfl (show a.eval (.tmp 128) = .bool true from (hdep _ rfl 29 rfl _ rfl _ rfl)))) (execMvB rfl ((hf 0 (by decide)).trans t0)) ⟨⟨_, rfl, rfl⟩, hT⟩
    | 35, _ => exact stepV rfl (wantedOf rfl (yieldedAt rfl rfl (show a.eval (.tmp 128) = .bool true from (hdep _ rfl 29 rfl _ rfl _ rfl)))) (execMvB rfl ((hf 8 (by decide)).trans t8)) ⟨⟨_, rfl, rfl⟩, hT⟩
    | 36, _ => exact stepV rfl (wantedOf rfl (yieldedAt rfl rfl (show a.eval (.tmp 128) = .bool true from (hdep _ rfl 29 rfl _ rfl _ rfl)))) (ezp ▸ By8.execSlL rfl ((hdep _ rfl 34 rfl _ rfl _ rfl).trans epv) (hdep _ rfl 35 rfl _ rfl _ rfl) (By8.slice_l pa l pc k hkl X)) ⟨⟨_, rfl, rfl⟩, hT⟩
    | 37, _ => exact stepV rfl (wantedOf rfl (yieldedAt rfl rfl (show a.eval (.tmp 128) = .bool true from (hdep _ rfl 29 rfl _ rfl _ rfl)))) (By8.execStr rfl (hdep _ rfl 36 rfl _ rfl _ rfl) (FZp.on hT)) ⟨⟨_, rfl, rfl⟩, hT⟩
    | 38, _ => exact stepV rfl (wantedOf rfl (yieldedAt rfl rfl (show a.eval (.tmp 128) = .bool true from (hdep _ rfl 29 rfl _ rfl _ rfl)))) (By8.execEqlS rfl (hdep _ rfl 33 rfl _ rfl _ rfl) (hdep _ rfl 37 rfl _ rfl _ rfl)) ⟨⟨_, rfl, rfl⟩, hT⟩
    | 39, _ => exact stepV rfl rfl (execPickT rfl (hdep _ rfl 29 rfl _ rfl _ rfl) (hdep _ rfl 38 rfl _ rfl _ rfl)) ⟨⟨_, rfl, rfl⟩, hT⟩
    | 40, _ => exact stepV rfl rfl (execAsgB rfl (hdep _ rfl 39 rfl _ rfl _ rfl)) ⟨⟨_, rfl, rfl⟩, hT⟩
    | k_ + 41, h_ => exact absurd h_ (by simp)
  intro l_ a X13 h1 h2 h3 h4 hall hT
  clear hall
  have bX := hT
  clear hT
  have t6 : a.eval (.tmp 6) = .bool true := h4 (40, 6) (by decide)
  replace FP := (FP.on bX)
  replace FI := (FI.on bX)
  replace FJ := (FJ.on bX)
  replace Fv34 := (Fv34.on bX)
  replace Kv34 := Kv34
  replace Kv62 := Kv62
  replace Fg70 := (Fg70.on bX)
  replace Kv71 := Kv71
  replace Kv78 := Kv78
  replace Fv54b := (Fv54b.on bX)
  replace Fv62b := (Fv62b.on bX)
  replace Fv78b := (Fv78b.on bX)
  replace FZp := (FZp.on bX)
  replace FZq := (FZq.on bX)
  have ZX13 := bX.size
  replace BW := BW.trans (bX.mono BW.size)
  clear bX
  replace A := (⟨h1, h2.trans A.2⟩ : a.tmps.size = 139 ∧ a.defers = [])
  clear h1 h2 h3 h4
  clear t0 t1 t2 t8 t10 t12 t13 t15 t19
  refine wp_ret ?_
  refine bodyPost_ret (results_tmp rfl _ _ _) A.2 ⟨?_, BW⟩
  show Ending.returned (a.eval (.tmp 6)) = _
  rw [t6]
theorem even_any (I : Impl) (p : Nat → Nat) (l : Nat) (bs ws : Nat → Int) (n m : Nat) (pv bv wv : Value) (V : World) (hp : SliceN V pv l p) (hl : l ≤ 140737488351232) (hz : ∀ l c, pv = .slice none l c → c = 0) (hb : SliceI V bv n bs) (hn17 : n ≤ 17592186044416) (hwv : SliceI V wv m ws) (hm17 : m ≤ 17592186044416) : Calls Try.prog 6 #[pv, bv, wv] V fun e w' => e = .returned (.bool true) ∧ Below V.heap.size V w' := by
  by_cases hE : trE p l bs n ws m = 0
  · obtain ⟨-, rfl, -, -⟩ := trE_ok hE
    exact even_ok I p l bs ws _ pv bv wv V hp hl hz hb hn17 hwv hE
  · exact even_bad I p l bs ws n m pv bv wv V hp hl hz hb hn17 hwv hm17 hE
end Go.Proofs.Ytpclecbhfjalnaa.Drw
