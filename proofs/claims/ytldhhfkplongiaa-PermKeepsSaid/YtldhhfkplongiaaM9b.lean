import Derived.Test.YtldhhfkplongiaaM9a
namespace Go.Proofs.Ytldhhfkplongiaa.Prm
open Go.RowKit Gf8 Aes By8 Cel Cf Tap Drw
/- Package perm as it landed: Inverse, Apply of ints, Compose, Rank. Written by tools/mkM9b.py. -/

theorem sl_lIo (g off len cap l : Nat) (h1 : l ≤ len) (W : World) : (Instr.sliceAt 22 (.slice (some ⟨g, off, none⟩) len cap) (some (.int .i64 (l : Int))) none none).run Try.prog W = .ok (sliced (some ⟨g, off, none⟩) l len cap 1) W := by
  have e1 : (l : Int) ≤ len := by omega
  obtain ⟨i, i1, _, i3, _⟩ := infoI
  simp [Instr.sliceAt, Instr.slice, run_underlying Try.underlying22, Instr.sliceBounds, run_sliceBound, sliced, h1, sizeOf, typeInfo, i1, i3]
set_option maxRecDepth 100000 in
set_option maxHeartbeats 4000000 in
/-- The program's Inverse. -/
theorem pinverse (f : Nat → Int) (n : Nat) (v : Value) (V : World) (hv : SliceI V v n f) (hn17 : n ≤ 17592186044416) :
    Calls Try.prog 6 #[v] V fun e w' => ∃ r, e = .returned (.tuple #[r, .int .i64 ((pE f n : Nat) : Int)]) ∧ w'.ownsRow V.heap.size 3 1 r (zl (pE f n) n) (intsL (zl (pE f n) n) (fun j => (posN (gN f) j n : Int))) ∧ Below V.heap.size V w' := by
  have FI := hv
  go_enter Try.func6, Try.ntmps6
  refine wp_seq ?_
  refine wp_region_sqK 12 [(0, 2), (1, 3)] (fun i_ => match i_ with | 0 => .slice none 0 0 | 1 => .int .i64 ((0 : Nat) : Int) | _ => undef) rfl (by kernel_rfl) (by decide) (by decide) ?_ ?_
  · intro i_ hi_ a hf hv hn
    match i_, hi_ with
    | 0, _ => exact stepV rfl rfl (execAsgB rfl rfl) ⟨⟨_, rfl, rfl⟩, rfl⟩
    | 1, _ => exact stepV rfl rfl (execAsgB rfl rfl) ⟨⟨_, rfl, rfl⟩, rfl⟩
    | k_ + 2, h_ => exact absurd h_ (by simp)
  intro a h1 h2 h3 h4
  have t0 : a.eval (.tmp 0) = v := (h3 0 (by decide)).trans rfl
  have A : a.tmps.size = 12 ∧ a.defers = [] := ⟨h1, h2⟩
  have BW : Below V.heap.size V V := Below.refl _ _
  clear h1 h2 h3 h4
  have BB := BW
  refine wp_seq ?_
  refine wp_seq ?_
  refine wp_region_sq (σ := Unit) 12 [(0, 5), (1, 6), (2, 4)] (fun j_ s X => match j_ with | 0 => Below V.heap.size V X | 1 => Below V.heap.size V X | 2 => Below V.heap.size V X | _ => Below V.heap.size V X) (fun s => fun i_ => match i_ with | 0 => v | 1 => .int .i64 ((pE f n : Nat) : Int) | 2 => .int .i64 ((pE f n : Nat) : Int) | _ => undef) () A.1 (by kernel_rfl) (by decide) (by decide) (BB) ?_ ?_
  · intro i_ hi_ s a X hf hv hn hS
    match i_, hi_ with
    | 0, _ => exact stepV rfl rfl (execMvB rfl ((hf 0 (by decide)).trans t0)) ⟨s, ⟨_, rfl, rfl⟩, hS, fun _ _ => rfl⟩
    | 1, _ => exact stepC rfl rfl (execCall1 Try.func15 (by kernel_rfl) (by kernel_rfl) rfl (hv 0 (by omega) _ rfl _ rfl)) (pcheck f n _ X (FI.on hS) hn17) fun e w' hh => ⟨_, hh.1, s, ⟨_, rfl, rfl⟩, (hS).trans ((hh.2).mono (hS).size), fun _ _ => rfl⟩
    | 2, _ => exact stepV rfl rfl (execAsgB rfl (hv 1 (by omega) _ rfl _ rfl)) ⟨s, ⟨_, rfl, rfl⟩, hS, fun _ _ => rfl⟩
    | k_ + 3, h_ => exact absurd h_ (by simp)
  rintro _ a X1 h1 h2 h3 h4 hS
  clear BB
  replace hS : Below V.heap.size V X1 := hS
  have BB := hS
  clear hS
  replace t0 := (h3 0 (by decide)).trans t0
  have t4 : a.eval (.tmp 4) = .int .i64 ((pE f n : Nat) : Int) := h4 2 _ rfl _ rfl
  replace A := (⟨h1, h2.trans A.2⟩ : a.tmps.size = 12 ∧ a.defers = [])
  clear h1 h2 h3 h4
  refine wp_seq ?_
  by_cases hok : okQ f n n = true
  · refine wp_region_sq (σ := Unit) 12 [(0, 7), (1, 8)] (fun j_ s X => match j_ with | 0 => Below V.heap.size V X | 1 => Below V.heap.size V X | _ => Below V.heap.size V X) (fun s => fun i_ => match i_ with | 0 => .int .i64 ((pE f n : Nat) : Int) | 1 => .bool false | _ => undef) () A.1 (by kernel_rfl) (by decide) (by decide) (BB) ?_ ?_
    · intro i_ hi_ s a X hf hv hn hS
      match i_, hi_ with
      | 0, _ => exact stepV rfl rfl (execMvB rfl ((hf 4 (by decide)).trans t4)) ⟨s, ⟨_, rfl, rfl⟩, hS, fun _ _ => rfl⟩
      | 1, _ => exact stepV rfl rfl (execDec (execNeE (p := pE f n) (q := 0) rfl (hv 0 (by omega) _ rfl _ rfl) rfl) (decide_eq_false (by have := pE_ok hok; omega))) ⟨s, ⟨_, rfl, rfl⟩, hS, fun _ _ => rfl⟩
      | k_ + 2, h_ => exact absurd h_ (by simp)
    rintro _ a X2 h1 h2 h3 h4 hS
    clear BB
    replace hS : Below V.heap.size V X2 := hS
    have BB := hS
    clear hS
    replace t0 := (h3 0 (by decide)).trans t0
    have t8 : a.eval (.tmp 8) = .bool false := h4 1 _ rfl _ rfl
    replace A := (⟨h1, h2.trans A.2⟩ : a.tmps.size = 12 ∧ a.defers = [])
    clear h1 h2 h3 h4
    clear t4
    refine wp_cond_false t8 ?_
    refine wp_skip ?_
    clear t8
    obtain ⟨hrange, _⟩ := okQ_iff.1 hok
    refine wp_seq ?_
    refine wp_region_sq (σ := Value) 12 [(0, 10), (1, 11), (2, 2), (3, 3)] (fun j_ s X => match j_ with | 0 => Below V.heap.size V X | 1 => Below V.heap.size V X | 2 => Below V.heap.size V X ∧ (X.ownsRow V.heap.size 3 1 s (n) (intsL (n) (fun j => (posN (gN f) j n : Int)))) | 3 => Below V.heap.size V X ∧ (X.ownsRow V.heap.size 3 1 s (n) (intsL (n) (fun j => (posN (gN f) j n : Int)))) | _ => Below V.heap.size V X ∧ (X.ownsRow V.heap.size 3 1 s (n) (intsL (n) (fun j => (posN (gN f) j n : Int))))) (fun s => fun i_ => match i_ with | 0 => v | 1 => s | 2 => s | 3 => .int .i64 ((0 : Nat) : Int) | _ => undef) undef A.1 (by kernel_rfl) (by decide) (by decide) (BB) ?_ ?_
    · intro i_ hi_ s a X hf hv hn hS
      match i_, hi_ with
      | 0, _ => exact stepV rfl rfl (execMvB rfl ((hf 0 (by decide)).trans t0)) ⟨s, ⟨_, rfl, rfl⟩, hS, fun _ _ => rfl⟩
      | 1, _ =>
        refine stepC rfl rfl (execCall1 Try.func16 (by kernel_rfl) (by kernel_rfl) rfl (hv 0 (by omega) _ rfl _ rfl)) (pplaces f n _ X (FI.on hS) hn17 hrange) fun e w' hh => ?_
        obtain ⟨r_, he, hk, hb⟩ := hh
        refine ⟨_, he, r_, ⟨_, rfl, rfl⟩, ⟨(hS).trans ((hb).mono (hS).size), ownD_base hk (hS).size⟩, fun i hi => ?_⟩
        match i, hi with
        | 0, _ => rfl
        | n_ + 1, h_ => omega
      | 2, _ => exact stepV rfl rfl (execAsgB rfl (hv 1 (by omega) _ rfl _ rfl)) ⟨s, ⟨_, rfl, rfl⟩, hS, fun _ _ => rfl⟩
      | 3, _ => exact stepV rfl rfl (execAsgB rfl rfl) ⟨s, ⟨_, rfl, rfl⟩, hS, fun _ _ => rfl⟩
      | k_ + 4, h_ => exact absurd h_ (by simp)
    rintro r9 a X4 h1 h2 h3 h4 hS
    clear BB
    replace hS : Below V.heap.size V X4 ∧ (X4.ownsRow V.heap.size 3 1 r9 (n) (intsL (n) (fun j => (posN (gN f) j n : Int)))) := hS
    obtain ⟨BB, FO⟩ := hS
    have t2 : a.eval (.tmp 2) = r9 := h4 2 _ rfl _ rfl
    have t3 : a.eval (.tmp 3) = .int .i64 ((0 : Nat) : Int) := h4 3 _ rfl _ rfl
    replace A := (⟨h1, h2.trans A.2⟩ : a.tmps.size = 12 ∧ a.defers = [])
    clear h1 h2 h3 h4
    clear t0
    have hE : pE f n = 0 := pE_ok hok
    rw [hE, zl_ok]
    refine wp_ret ?_
    refine bodyPost_ret (results_tmp2 rfl _ _ _) A.2 ⟨_, ?_, FO, BB⟩
    show Ending.returned (.tuple #[a.eval (.tmp 2), a.eval (.tmp 3)]) = _
    rw [t2, t3]
  · refine wp_region_sq (σ := Unit) 12 [(0, 7), (1, 8)] (fun j_ s X => match j_ with | 0 => Below V.heap.size V X | 1 => Below V.heap.size V X | _ => Below V.heap.size V X) (fun s => fun i_ => match i_ with | 0 => .int .i64 ((pE f n : Nat) : Int) | 1 => .bool true | _ => undef) () A.1 (by kernel_rfl) (by decide) (by decide) (BB) ?_ ?_
    · intro i_ hi_ s a X hf hv hn hS
      match i_, hi_ with
      | 0, _ => exact stepV rfl rfl (execMvB rfl ((hf 4 (by decide)).trans t4)) ⟨s, ⟨_, rfl, rfl⟩, hS, fun _ _ => rfl⟩
      | 1, _ => exact stepV rfl rfl (execDec (execNeE (p := pE f n) (q := 0) rfl (hv 0 (by omega) _ rfl _ rfl) rfl) (decide_eq_true (by have := pE_no hok; omega))) ⟨s, ⟨_, rfl, rfl⟩, hS, fun _ _ => rfl⟩
      | k_ + 2, h_ => exact absurd h_ (by simp)
    rintro _ a X2 h1 h2 h3 h4 hS
    clear BB
    replace hS : Below V.heap.size V X2 := hS
    have BB := hS
    clear hS
    replace t4 := (h3 4 (by decide)).trans t4
    have t8 : a.eval (.tmp 8) = .bool true := h4 1 _ rfl _ rfl
    replace A := (⟨h1, h2.trans A.2⟩ : a.tmps.size = 12 ∧ a.defers = [])
    clear h1 h2 h3 h4
    clear t0
    refine wp_cond_true t8 ?_
    refine wp_seq ?_
    refine wp_region_sq (σ := Unit) 12 [(0, 9), (1, 2), (2, 3)] (fun j_ s X => match j_ with | 0 => Below V.heap.size V X | 1 => Below V.heap.size V X | 2 => Below V.heap.size V X | _ => Below V.heap.size V X) (fun s => fun i_ => match i_ with | 0 => .int .i64 ((pE f n : Nat) : Int) | 1 => .slice none 0 0 | 2 => .int .i64 ((pE f n : Nat) : Int) | _ => undef) () A.1 (by kernel_rfl) (by decide) (by decide) (BB) ?_ ?_
    · intro i_ hi_ s a X hf hv hn hS
      match i_, hi_ with
      | 0, _ => exact stepV rfl rfl (execMvB rfl ((hf 4 (by decide)).trans t4)) ⟨s, ⟨_, rfl, rfl⟩, hS, fun _ _ => rfl⟩
      | 1, _ => exact stepV rfl rfl (execAsgB rfl rfl) ⟨s, ⟨_, rfl, rfl⟩, hS, fun _ _ => rfl⟩
      | 2, _ => exact stepV rfl rfl (execAsgB rfl (hv 0 (by omega) _ rfl _ rfl)) ⟨s, ⟨_, rfl, rfl⟩, hS, fun _ _ => rfl⟩
      | k_ + 3, h_ => exact absurd h_ (by simp)
    rintro _ a X3 h1 h2 h3 h4 hS
    clear BB
    replace hS : Below V.heap.size V X3 := hS
    have BB := hS
    clear hS
    have t2 : a.eval (.tmp 2) = .slice none 0 0 := h4 1 _ rfl _ rfl
    have t3 : a.eval (.tmp 3) = .int .i64 ((pE f n : Nat) : Int) := h4 2 _ rfl _ rfl
    replace A := (⟨h1, h2.trans A.2⟩ : a.tmps.size = 12 ∧ a.defers = [])
    clear h1 h2 h3 h4
    clear t4
    have hE : pE f n = 110 := pE_no hok
    rw [hE] at t3
    rw [hE, zl_no (by decide)]
    refine wp_ret ?_
    repeat (first | refine ret_in ?_ | refine ret_then ?_)
    refine bodyPost_ret (results_tmp2 rfl _ _ _) A.2 ⟨_, ?_, World.ownsRow_nil _ _ _ _, BB⟩
    show Ending.returned (.tuple #[a.eval (.tmp 2), a.eval (.tmp 3)]) = _
    rw [t2, t3]
set_option maxRecDepth 100000 in
set_option maxHeartbeats 4000000 in
/-- The program's Apply, of ints. -/
theorem papply (f g : Nat → Int) (n m : Nat) (v u0 : Value) (V : World) (hv : SliceI V v n f) (hn17 : n ≤ 17592186044416) (hu : SliceI V u0 m g) :
    Calls Try.prog 7 #[v, u0] V fun e w' => ∃ r, e = .returned (.tuple #[r, .int .i64 ((apE f n m : Nat) : Int)]) ∧ w'.ownsRow V.heap.size 3 1 r (zl (apE f n m) n) (intsL (zl (apE f n m) n) (fun j => g (f j).toNat)) ∧ Below V.heap.size V w' := by
  have FI := hv
  have FJ := hu
  go_enter Try.func7, Try.ntmps7
  refine wp_seq ?_
  refine wp_region_sqK 20 [(0, 4), (1, 5)] (fun i_ => match i_ with | 0 => .slice none 0 0 | 1 => .int .i64 ((0 : Nat) : Int) | _ => undef) rfl (by kernel_rfl) (by decide) (by decide) ?_ ?_
  · intro i_ hi_ a hf hv hn
    match i_, hi_ with
    | 0, _ => exact stepV rfl rfl (execAsgB rfl rfl) ⟨⟨_, rfl, rfl⟩, rfl⟩
    | 1, _ => exact stepV rfl rfl (execAsgB rfl rfl) ⟨⟨_, rfl, rfl⟩, rfl⟩
    | k_ + 2, h_ => exact absurd h_ (by simp)
  intro a h1 h2 h3 h4
  have t0 : a.eval (.tmp 0) = v := (h3 0 (by decide)).trans rfl
  have t1 : a.eval (.tmp 1) = u0 := (h3 1 (by decide)).trans rfl
  have A : a.tmps.size = 20 ∧ a.defers = [] := ⟨h1, h2⟩
  have BW : Below V.heap.size V V := Below.refl _ _
  clear h1 h2 h3 h4
  have BB := BW
  refine wp_seq ?_
  refine wp_seq ?_
  by_cases h3 : n = m
  · refine wp_region_sq (σ := Unit) 20 [(0, 7), (1, 8), (2, 9), (3, 10), (4, 11)] (fun j_ s X => match j_ with | 0 => Below V.heap.size V X | 1 => Below V.heap.size V X | 2 => Below V.heap.size V X | 3 => Below V.heap.size V X | 4 => Below V.heap.size V X | _ => Below V.heap.size V X) (fun s => fun i_ => match i_ with | 0 => v | 1 => .int .i64 ((n : Nat) : Int) | 2 => u0 | 3 => .int .i64 ((m : Nat) : Int) | 4 => .bool false | _ => undef) () A.1 (by kernel_rfl) (by decide) (by decide) (BB) ?_ ?_
    · intro i_ hi_ s a X hf hv hn hS
      match i_, hi_ with
      | 0, _ => exact stepV rfl rfl (execMvB rfl ((hf 0 (by decide)).trans t0)) ⟨s, ⟨_, rfl, rfl⟩, hS, fun _ _ => rfl⟩
      | 1, _ => exact stepV rfl rfl (execLenI (len := n) rfl (hv 0 (by omega) _ rfl _ rfl) ((FI.on hS)).shp) ⟨s, ⟨_, rfl, rfl⟩, hS, fun _ _ => rfl⟩
      | 2, _ => exact stepV rfl rfl (execMvB rfl ((hf 1 (by decide)).trans t1)) ⟨s, ⟨_, rfl, rfl⟩, hS, fun _ _ => rfl⟩
      | 3, _ => exact stepV rfl rfl (execLenI (len := m) rfl (hv 2 (by omega) _ rfl _ rfl) ((FJ.on hS)).shp) ⟨s, ⟨_, rfl, rfl⟩, hS, fun _ _ => rfl⟩
      | 4, _ => exact stepV rfl rfl (execDec (execNeN (p := n) (q := m) rfl (hv 1 (by omega) _ rfl _ rfl) (hv 3 (by omega) _ rfl _ rfl)) (decide_eq_false (by omega))) ⟨s, ⟨_, rfl, rfl⟩, hS, fun _ _ => rfl⟩
      | k_ + 5, h_ => exact absurd h_ (by simp)
    rintro _ a X1 h1 h2 h3 h4 hS
    clear BB
    replace hS : Below V.heap.size V X1 := hS
    have BB := hS
    clear hS
    replace t0 := (h3 0 (by decide)).trans t0
    replace t1 := (h3 1 (by decide)).trans t1
    have t11 : a.eval (.tmp 11) = .bool false := h4 4 _ rfl _ rfl
    replace A := (⟨h1, h2.trans A.2⟩ : a.tmps.size = 20 ∧ a.defers = [])
    clear h1 h2 h3 h4
    refine wp_cond_false t11 ?_
    refine wp_skip ?_
    clear t11
    refine wp_seq ?_
    refine wp_seq ?_
    refine wp_region_sq (σ := Unit) 20 [(0, 12), (1, 13), (2, 6)] (fun j_ s X => match j_ with | 0 => Below V.heap.size V X | 1 => Below V.heap.size V X | 2 => Below V.heap.size V X | _ => Below V.heap.size V X) (fun s => fun i_ => match i_ with | 0 => v | 1 => .int .i64 ((pE f n : Nat) : Int) | 2 => .int .i64 ((pE f n : Nat) : Int) | _ => undef) () A.1 (by kernel_rfl) (by decide) (by decide) (BB) ?_ ?_
    · intro i_ hi_ s a X hf hv hn hS
      match i_, hi_ with
      | 0, _ => exact stepV rfl rfl (execMvB rfl ((hf 0 (by decide)).trans t0)) ⟨s, ⟨_, rfl, rfl⟩, hS, fun _ _ => rfl⟩
      | 1, _ => exact stepC rfl rfl (execCall1 Try.func15 (by kernel_rfl) (by kernel_rfl) rfl (hv 0 (by omega) _ rfl _ rfl)) (pcheck f n _ X (FI.on hS) hn17) fun e w' hh => ⟨_, hh.1, s, ⟨_, rfl, rfl⟩, (hS).trans ((hh.2).mono (hS).size), fun _ _ => rfl⟩
      | 2, _ => exact stepV rfl rfl (execAsgB rfl (hv 1 (by omega) _ rfl _ rfl)) ⟨s, ⟨_, rfl, rfl⟩, hS, fun _ _ => rfl⟩
      | k_ + 3, h_ => exact absurd h_ (by simp)
    rintro _ a X3 h1 h2 h3 h4 hS
    clear BB
    replace hS : Below V.heap.size V X3 := hS
    have BB := hS
    clear hS
    replace t0 := (h3 0 (by decide)).trans t0
    replace t1 := (h3 1 (by decide)).trans t1
    have t6 : a.eval (.tmp 6) = .int .i64 ((pE f n : Nat) : Int) := h4 2 _ rfl _ rfl
    replace A := (⟨h1, h2.trans A.2⟩ : a.tmps.size = 20 ∧ a.defers = [])
    clear h1 h2 h3 h4
    refine wp_seq ?_
    by_cases h1 : okQ f n n = true
    · refine wp_region_sq (σ := Unit) 20 [(0, 14), (1, 15)] (fun j_ s X => match j_ with | 0 => Below V.heap.size V X | 1 => Below V.heap.size V X | _ => Below V.heap.size V X) (fun s => fun i_ => match i_ with | 0 => .int .i64 ((pE f n : Nat) : Int) | 1 => .bool false | _ => undef) () A.1 (by kernel_rfl) (by decide) (by decide) (BB) ?_ ?_
      · intro i_ hi_ s a X hf hv hn hS
        match i_, hi_ with
        | 0, _ => exact stepV rfl rfl (execMvB rfl ((hf 6 (by decide)).trans t6)) ⟨s, ⟨_, rfl, rfl⟩, hS, fun _ _ => rfl⟩
        | 1, _ => exact stepV rfl rfl (execDec (execNeE (p := pE f n) (q := 0) rfl (hv 0 (by omega) _ rfl _ rfl) rfl) (decide_eq_false (by have := pE_ok h1; omega))) ⟨s, ⟨_, rfl, rfl⟩, hS, fun _ _ => rfl⟩
        | k_ + 2, h_ => exact absurd h_ (by simp)
      rintro _ a X4 h1 h2 h3 h4 hS
      clear BB
      replace hS : Below V.heap.size V X4 := hS
      have BB := hS
      clear hS
      replace t0 := (h3 0 (by decide)).trans t0
      replace t1 := (h3 1 (by decide)).trans t1
      have t15 : a.eval (.tmp 15) = .bool false := h4 1 _ rfl _ rfl
      replace A := (⟨h1, h2.trans A.2⟩ : a.tmps.size = 20 ∧ a.defers = [])
      clear h1 h2 h3 h4
      clear t6
      refine wp_cond_false t15 ?_
      refine wp_skip ?_
      clear t15
      have hfl : ∀ i, i < n → 0 ≤ f i ∧ f i < m := fun i hi => by have := (okQ_iff.1 h1).1 i hi; omega
      refine wp_seq ?_
      refine wp_region_sq (σ := Value) 20 [(0, 17), (1, 18), (2, 19), (3, 4), (4, 5)] (fun j_ s X => match j_ with | 0 => Below V.heap.size V X | 1 => Below V.heap.size V X | 2 => Below V.heap.size V X | 3 => Below V.heap.size V X ∧ (X.ownsRow V.heap.size 3 1 s (n) (intsL (n) (fun j => g (f j).toNat))) | 4 => Below V.heap.size V X ∧ (X.ownsRow V.heap.size 3 1 s (n) (intsL (n) (fun j => g (f j).toNat))) | _ => Below V.heap.size V X ∧ (X.ownsRow V.heap.size 3 1 s (n) (intsL (n) (fun j => g (f j).toNat)))) (fun s => fun i_ => match i_ with | 0 => v | 1 => u0 | 2 => s | 3 => s | 4 => .int .i64 ((0 : Nat) : Int) | _ => undef) undef A.1 (by kernel_rfl) (by decide) (by decide) (BB) ?_ ?_
      · intro i_ hi_ s a X hf hv hn hS
        match i_, hi_ with
        | 0, _ => exact stepV rfl rfl (execMvB rfl ((hf 0 (by decide)).trans t0)) ⟨s, ⟨_, rfl, rfl⟩, hS, fun _ _ => rfl⟩
        | 1, _ => exact stepV rfl rfl (execMvB rfl ((hf 1 (by decide)).trans t1)) ⟨s, ⟨_, rfl, rfl⟩, hS, fun _ _ => rfl⟩
        | 2, _ =>
          refine stepC rfl rfl (execCall2 Try.func17 (by kernel_rfl) (by kernel_rfl) rfl (hv 0 (by omega) _ rfl _ rfl) (hv 1 (by omega) _ rfl _ rfl)) (ptaken f g n m _ _ X (FI.on hS) hn17 (FJ.on hS) hfl) fun e w' hh => ?_
          obtain ⟨r_, he, hk, hb⟩ := hh
          refine ⟨_, he, r_, ⟨_, rfl, rfl⟩, ⟨(hS).trans ((hb).mono (hS).size), ownD_base hk (hS).size⟩, fun i hi => ?_⟩
          match i, hi with
          | 0, _ => rfl
          | 1, _ => rfl
          | n_ + 2, h_ => omega
        | 3, _ => exact stepV rfl rfl (execAsgB rfl (hv 2 (by omega) _ rfl _ rfl)) ⟨s, ⟨_, rfl, rfl⟩, hS, fun _ _ => rfl⟩
        | 4, _ => exact stepV rfl rfl (execAsgB rfl rfl) ⟨s, ⟨_, rfl, rfl⟩, hS, fun _ _ => rfl⟩
        | k_ + 5, h_ => exact absurd h_ (by simp)
      rintro r9 a X6 h1 h2 h3 h4 hS
      clear BB
      replace hS : Below V.heap.size V X6 ∧ (X6.ownsRow V.heap.size 3 1 r9 (n) (intsL (n) (fun j => g (f j).toNat))) := hS
      obtain ⟨BB, FO⟩ := hS
      have t4 : a.eval (.tmp 4) = r9 := h4 3 _ rfl _ rfl
      have t5 : a.eval (.tmp 5) = .int .i64 ((0 : Nat) : Int) := h4 4 _ rfl _ rfl
      replace A := (⟨h1, h2.trans A.2⟩ : a.tmps.size = 20 ∧ a.defers = [])
      clear h1 h2 h3 h4
      clear t0 t1
      have hE : apE f n m = 0 := if_pos ⟨pE_ok h1, h3⟩
      rw [hE, zl_ok]
      refine wp_ret ?_
      refine bodyPost_ret (results_tmp2 rfl _ _ _) A.2 ⟨_, ?_, FO, BB⟩
      show Ending.returned (.tuple #[a.eval (.tmp 4), a.eval (.tmp 5)]) = _
      rw [t4, t5]
    · refine wp_region_sq (σ := Unit) 20 [(0, 14), (1, 15)] (fun j_ s X => match j_ with | 0 => Below V.heap.size V X | 1 => Below V.heap.size V X | _ => Below V.heap.size V X) (fun s => fun i_ => match i_ with | 0 => .int .i64 ((pE f n : Nat) : Int) | 1 => .bool true | _ => undef) () A.1 (by kernel_rfl) (by decide) (by decide) (BB) ?_ ?_
      · intro i_ hi_ s a X hf hv hn hS
        match i_, hi_ with
        | 0, _ => exact stepV rfl rfl (execMvB rfl ((hf 6 (by decide)).trans t6)) ⟨s, ⟨_, rfl, rfl⟩, hS, fun _ _ => rfl⟩
        | 1, _ => exact stepV rfl rfl (execDec (execNeE (p := pE f n) (q := 0) rfl (hv 0 (by omega) _ rfl _ rfl) rfl) (decide_eq_true (by have := pE_no h1; omega))) ⟨s, ⟨_, rfl, rfl⟩, hS, fun _ _ => rfl⟩
        | k_ + 2, h_ => exact absurd h_ (by simp)
      rintro _ a X4 h1 h2 h3 h4 hS
      clear BB
      replace hS : Below V.heap.size V X4 := hS
      have BB := hS
      clear hS
      replace t6 := (h3 6 (by decide)).trans t6
      have t15 : a.eval (.tmp 15) = .bool true := h4 1 _ rfl _ rfl
      replace A := (⟨h1, h2.trans A.2⟩ : a.tmps.size = 20 ∧ a.defers = [])
      clear h1 h2 h3 h4
      clear t0 t1
      refine wp_cond_true t15 ?_
      refine wp_seq ?_
      refine wp_region_sq (σ := Unit) 20 [(0, 16), (1, 4), (2, 5)] (fun j_ s X => match j_ with | 0 => Below V.heap.size V X | 1 => Below V.heap.size V X | 2 => Below V.heap.size V X | _ => Below V.heap.size V X) (fun s => fun i_ => match i_ with | 0 => .int .i64 ((pE f n : Nat) : Int) | 1 => .slice none 0 0 | 2 => .int .i64 ((pE f n : Nat) : Int) | _ => undef) () A.1 (by kernel_rfl) (by decide) (by decide) (BB) ?_ ?_
      · intro i_ hi_ s a X hf hv hn hS
        match i_, hi_ with
        | 0, _ => exact stepV rfl rfl (execMvB rfl ((hf 6 (by decide)).trans t6)) ⟨s, ⟨_, rfl, rfl⟩, hS, fun _ _ => rfl⟩
        | 1, _ => exact stepV rfl rfl (execAsgB rfl rfl) ⟨s, ⟨_, rfl, rfl⟩, hS, fun _ _ => rfl⟩
        | 2, _ => exact stepV rfl rfl (execAsgB rfl (hv 0 (by omega) _ rfl _ rfl)) ⟨s, ⟨_, rfl, rfl⟩, hS, fun _ _ => rfl⟩
        | k_ + 3, h_ => exact absurd h_ (by simp)
      rintro _ a X5 h1 h2 h3 h4 hS
      clear BB
      replace hS : Below V.heap.size V X5 := hS
      have BB := hS
      clear hS
      have t4 : a.eval (.tmp 4) = .slice none 0 0 := h4 1 _ rfl _ rfl
      have t5 : a.eval (.tmp 5) = .int .i64 ((pE f n : Nat) : Int) := h4 2 _ rfl _ rfl
      replace A := (⟨h1, h2.trans A.2⟩ : a.tmps.size = 20 ∧ a.defers = [])
      clear h1 h2 h3 h4
      clear t6
      have hE : apE f n m = 110 := if_neg (fun q => by have := pE_no h1; omega)
      rw [pE_no h1] at t5
      rw [hE, zl_no (by decide)]
      refine wp_ret ?_
      repeat (first | refine ret_in ?_ | refine ret_then ?_)
      refine bodyPost_ret (results_tmp2 rfl _ _ _) A.2 ⟨_, ?_, World.ownsRow_nil _ _ _ _, BB⟩
      show Ending.returned (.tuple #[a.eval (.tmp 4), a.eval (.tmp 5)]) = _
      rw [t4, t5]
  · refine wp_region_sq (σ := Unit) 20 [(0, 7), (1, 8), (2, 9), (3, 10), (4, 11)] (fun j_ s X => match j_ with | 0 => Below V.heap.size V X | 1 => Below V.heap.size V X | 2 => Below V.heap.size V X | 3 => Below V.heap.size V X | 4 => Below V.heap.size V X | _ => Below V.heap.size V X) (fun s => fun i_ => match i_ with | 0 => v | 1 => .int .i64 ((n : Nat) : Int) | 2 => u0 | 3 => .int .i64 ((m : Nat) : Int) | 4 => .bool true | _ => undef) () A.1 (by kernel_rfl) (by decide) (by decide) (BB) ?_ ?_
    · intro i_ hi_ s a X hf hv hn hS
      match i_, hi_ with
      | 0, _ => exact stepV rfl rfl (execMvB rfl ((hf 0 (by decide)).trans t0)) ⟨s, ⟨_, rfl, rfl⟩, hS, fun _ _ => rfl⟩
      | 1, _ => exact stepV rfl rfl (execLenI (len := n) rfl (hv 0 (by omega) _ rfl _ rfl) ((FI.on hS)).shp) ⟨s, ⟨_, rfl, rfl⟩, hS, fun _ _ => rfl⟩
      | 2, _ => exact stepV rfl rfl (execMvB rfl ((hf 1 (by decide)).trans t1)) ⟨s, ⟨_, rfl, rfl⟩, hS, fun _ _ => rfl⟩
      | 3, _ => exact stepV rfl rfl (execLenI (len := m) rfl (hv 2 (by omega) _ rfl _ rfl) ((FJ.on hS)).shp) ⟨s, ⟨_, rfl, rfl⟩, hS, fun _ _ => rfl⟩
      | 4, _ => exact stepV rfl rfl (execDec (execNeN (p := n) (q := m) rfl (hv 1 (by omega) _ rfl _ rfl) (hv 3 (by omega) _ rfl _ rfl)) (decide_eq_true (by omega))) ⟨s, ⟨_, rfl, rfl⟩, hS, fun _ _ => rfl⟩
      | k_ + 5, h_ => exact absurd h_ (by simp)
    rintro _ a X1 h1 h2 h3 h4 hS
    clear BB
    replace hS : Below V.heap.size V X1 := hS
    have BB := hS
    clear hS
    replace t0 := (h3 0 (by decide)).trans t0
    replace t1 := (h3 1 (by decide)).trans t1
    have t11 : a.eval (.tmp 11) = .bool true := h4 4 _ rfl _ rfl
    replace A := (⟨h1, h2.trans A.2⟩ : a.tmps.size = 20 ∧ a.defers = [])
    clear h1 h2 h3 h4
    refine wp_cond_true t11 ?_
    refine wp_seq ?_
    refine wp_region_sq (σ := Unit) 20 [(0, 4), (1, 5)] (fun j_ s X => match j_ with | 0 => Below V.heap.size V X | 1 => Below V.heap.size V X | _ => Below V.heap.size V X) (fun s => fun i_ => match i_ with | 0 => .slice none 0 0 | 1 => .int .i64 ((110 : Nat) : Int) | _ => undef) () A.1 (by kernel_rfl) (by decide) (by decide) (BB) ?_ ?_
    · intro i_ hi_ s a X hf hv hn hS
      match i_, hi_ with
      | 0, _ => exact stepV rfl rfl (execAsgB rfl rfl) ⟨s, ⟨_, rfl, rfl⟩, hS, fun _ _ => rfl⟩
      | 1, _ => exact stepV rfl rfl (execAsgB rfl rfl) ⟨s, ⟨_, rfl, rfl⟩, hS, fun _ _ => rfl⟩
      | k_ + 2, h_ => exact absurd h_ (by simp)
    rintro _ a X2 h1 h2 h3 h4 hS
    clear BB
    replace hS : Below V.heap.size V X2 := hS
    have BB := hS
    clear hS
    have t4 : a.eval (.tmp 4) = .slice none 0 0 := h4 0 _ rfl _ rfl
    have t5 : a.eval (.tmp 5) = .int .i64 ((110 : Nat) : Int) := h4 1 _ rfl _ rfl
    replace A := (⟨h1, h2.trans A.2⟩ : a.tmps.size = 20 ∧ a.defers = [])
    clear h1 h2 h3 h4
    clear t0 t1
    have hE : apE f n m = 110 := if_neg (fun q => by omega)
    rw [hE, zl_no (by decide)]
    refine wp_ret ?_
    repeat (first | refine ret_in ?_ | refine ret_then ?_)
    refine bodyPost_ret (results_tmp2 rfl _ _ _) A.2 ⟨_, ?_, World.ownsRow_nil _ _ _ _, BB⟩
    show Ending.returned (.tuple #[a.eval (.tmp 4), a.eval (.tmp 5)]) = _
    rw [t4, t5]
set_option maxRecDepth 100000 in
set_option maxHeartbeats 4000000 in
/-- The program's Compose. -/
theorem pcompose (f g : Nat → Int) (n m : Nat) (v u0 : Value) (V : World) (hv : SliceI V v n f) (hn17 : n ≤ 17592186044416) (hu : SliceI V u0 m g) (hm17 : m ≤ 17592186044416) :
    Calls Try.prog 5 #[v, u0] V fun e w' => ∃ r, e = .returned (.tuple #[r, .int .i64 ((coE f n g m : Nat) : Int)]) ∧ w'.ownsRow V.heap.size 3 1 r (zl (coE f n g m) n) (intsL (zl (coE f n g m) n) (fun j => g (f j).toNat)) ∧ Below V.heap.size V w' := by
  have FI := hv
  have FJ := hu
  go_enter Try.func5, Try.ntmps5
  refine wp_seq ?_
  refine wp_region_sqK 17 [(0, 4), (1, 5)] (fun i_ => match i_ with | 0 => .slice none 0 0 | 1 => .int .i64 ((0 : Nat) : Int) | _ => undef) rfl (by kernel_rfl) (by decide) (by decide) ?_ ?_
  · intro i_ hi_ a hf hv hn
    match i_, hi_ with
    | 0, _ => exact stepV rfl rfl (execAsgB rfl rfl) ⟨⟨_, rfl, rfl⟩, rfl⟩
    | 1, _ => exact stepV rfl rfl (execAsgB rfl rfl) ⟨⟨_, rfl, rfl⟩, rfl⟩
    | k_ + 2, h_ => exact absurd h_ (by simp)
  intro a h1 h2 h3 h4
  have t0 : a.eval (.tmp 0) = v := (h3 0 (by decide)).trans rfl
  have t1 : a.eval (.tmp 1) = u0 := (h3 1 (by decide)).trans rfl
  have A : a.tmps.size = 17 ∧ a.defers = [] := ⟨h1, h2⟩
  have BW : Below V.heap.size V V := Below.refl _ _
  clear h1 h2 h3 h4
  have BB := BW
  refine wp_seq ?_
  refine wp_seq ?_
  refine wp_region_sq (σ := Unit) 17 [(0, 7), (1, 8), (2, 6)] (fun j_ s X => match j_ with | 0 => Below V.heap.size V X | 1 => Below V.heap.size V X | 2 => Below V.heap.size V X | _ => Below V.heap.size V X) (fun s => fun i_ => match i_ with | 0 => u0 | 1 => .int .i64 ((pE g m : Nat) : Int) | 2 => .int .i64 ((pE g m : Nat) : Int) | _ => undef) () A.1 (by kernel_rfl) (by decide) (by decide) (BB) ?_ ?_
  · intro i_ hi_ s a X hf hv hn hS
    match i_, hi_ with
    | 0, _ => exact stepV rfl rfl (execMvB rfl ((hf 1 (by decide)).trans t1)) ⟨s, ⟨_, rfl, rfl⟩, hS, fun _ _ => rfl⟩
    | 1, _ => exact stepC rfl rfl (execCall1 Try.func15 (by kernel_rfl) (by kernel_rfl) rfl (hv 0 (by omega) _ rfl _ rfl)) (pcheck g m _ X (FJ.on hS) hm17) fun e w' hh => ⟨_, hh.1, s, ⟨_, rfl, rfl⟩, (hS).trans ((hh.2).mono (hS).size), fun _ _ => rfl⟩
    | 2, _ => exact stepV rfl rfl (execAsgB rfl (hv 1 (by omega) _ rfl _ rfl)) ⟨s, ⟨_, rfl, rfl⟩, hS, fun _ _ => rfl⟩
    | k_ + 3, h_ => exact absurd h_ (by simp)
  rintro _ a X1 h1 h2 h3 h4 hS
  clear BB
  replace hS : Below V.heap.size V X1 := hS
  have BB := hS
  clear hS
  replace t0 := (h3 0 (by decide)).trans t0
  replace t1 := (h3 1 (by decide)).trans t1
  have t6 : a.eval (.tmp 6) = .int .i64 ((pE g m : Nat) : Int) := h4 2 _ rfl _ rfl
  replace A := (⟨h1, h2.trans A.2⟩ : a.tmps.size = 17 ∧ a.defers = [])
  clear h1 h2 h3 h4
  refine wp_seq ?_
  by_cases h2 : okQ g m m = true
  · refine wp_region_sq (σ := Unit) 17 [(0, 9), (1, 10)] (fun j_ s X => match j_ with | 0 => Below V.heap.size V X | 1 => Below V.heap.size V X | _ => Below V.heap.size V X) (fun s => fun i_ => match i_ with | 0 => .int .i64 ((pE g m : Nat) : Int) | 1 => .bool false | _ => undef) () A.1 (by kernel_rfl) (by decide) (by decide) (BB) ?_ ?_
    · intro i_ hi_ s a X hf hv hn hS
      match i_, hi_ with
      | 0, _ => exact stepV rfl rfl (execMvB rfl ((hf 6 (by decide)).trans t6)) ⟨s, ⟨_, rfl, rfl⟩, hS, fun _ _ => rfl⟩
      | 1, _ => exact stepV rfl rfl (execDec (execNeE (p := pE g m) (q := 0) rfl (hv 0 (by omega) _ rfl _ rfl) rfl) (decide_eq_false (by have := pE_ok h2; omega))) ⟨s, ⟨_, rfl, rfl⟩, hS, fun _ _ => rfl⟩
      | k_ + 2, h_ => exact absurd h_ (by simp)
    rintro _ a X2 h1 h2 h3 h4 hS
    clear BB
    replace hS : Below V.heap.size V X2 := hS
    have BB := hS
    clear hS
    replace t0 := (h3 0 (by decide)).trans t0
    replace t1 := (h3 1 (by decide)).trans t1
    have t10 : a.eval (.tmp 10) = .bool false := h4 1 _ rfl _ rfl
    replace A := (⟨h1, h2.trans A.2⟩ : a.tmps.size = 17 ∧ a.defers = [])
    clear h1 h2 h3 h4
    clear t6
    refine wp_cond_false t10 ?_
    refine wp_skip ?_
    clear t10
    refine wp_seq ?_
    refine wp_region_sq (σ := Value) 17 [(0, 12), (1, 13), (2, 14), (3, 15), (4, 16), (5, 4), (6, 5)] (fun j_ s X => match j_ with | 0 => Below V.heap.size V X | 1 => Below V.heap.size V X | 2 => Below V.heap.size V X | 3 => Below V.heap.size V X ∧ (X.ownsRow V.heap.size 3 1 s (zl (apE f n m) n) (intsL (zl (apE f n m) n) (fun j => g (f j).toNat))) | 4 => Below V.heap.size V X ∧ (X.ownsRow V.heap.size 3 1 s (zl (apE f n m) n) (intsL (zl (apE f n m) n) (fun j => g (f j).toNat))) | 5 => Below V.heap.size V X ∧ (X.ownsRow V.heap.size 3 1 s (zl (apE f n m) n) (intsL (zl (apE f n m) n) (fun j => g (f j).toNat))) | 6 => Below V.heap.size V X ∧ (X.ownsRow V.heap.size 3 1 s (zl (apE f n m) n) (intsL (zl (apE f n m) n) (fun j => g (f j).toNat))) | _ => Below V.heap.size V X ∧ (X.ownsRow V.heap.size 3 1 s (zl (apE f n m) n) (intsL (zl (apE f n m) n) (fun j => g (f j).toNat)))) (fun s => fun i_ => match i_ with | 0 => v | 1 => u0 | 2 => .tuple #[s, .int .i64 ((apE f n m : Nat) : Int)] | 3 => s | 4 => .int .i64 ((apE f n m : Nat) : Int) | 5 => s | 6 => .int .i64 ((apE f n m : Nat) : Int) | _ => undef) undef A.1 (by kernel_rfl) (by decide) (by decide) (BB) ?_ ?_
    · intro i_ hi_ s a X hf hv hn hS
      match i_, hi_ with
      | 0, _ => exact stepV rfl rfl (execMvB rfl ((hf 0 (by decide)).trans t0)) ⟨s, ⟨_, rfl, rfl⟩, hS, fun _ _ => rfl⟩
      | 1, _ => exact stepV rfl rfl (execMvB rfl ((hf 1 (by decide)).trans t1)) ⟨s, ⟨_, rfl, rfl⟩, hS, fun _ _ => rfl⟩
      | 2, _ =>
        refine stepC rfl rfl (execCall2 Try.func7 (by kernel_rfl) (by kernel_rfl) rfl (hv 0 (by omega) _ rfl _ rfl) (hv 1 (by omega) _ rfl _ rfl)) (papply f g n m _ _ X (FI.on hS) hn17 (FJ.on hS)) fun e w' hh => ?_
        obtain ⟨r_, he, hk, hb⟩ := hh
        refine ⟨_, he, r_, ⟨_, rfl, rfl⟩, ⟨(hS).trans ((hb).mono (hS).size), ownD_base hk (hS).size⟩, fun i hi => ?_⟩
        match i, hi with
        | 0, _ => rfl
        | 1, _ => rfl
        | n_ + 2, h_ => omega
      | 3, _ => exact stepV rfl rfl (execExtT rfl (hv 2 (by omega) _ rfl _ rfl) rfl) ⟨s, ⟨_, rfl, rfl⟩, hS, fun _ _ => rfl⟩
      | 4, _ => exact stepV rfl rfl (execExtT rfl (hv 2 (by omega) _ rfl _ rfl) rfl) ⟨s, ⟨_, rfl, rfl⟩, hS, fun _ _ => rfl⟩
      | 5, _ => exact stepV rfl rfl (execAsgB rfl (hv 3 (by omega) _ rfl _ rfl)) ⟨s, ⟨_, rfl, rfl⟩, hS, fun _ _ => rfl⟩
      | 6, _ => exact stepV rfl rfl (execAsgB rfl (hv 4 (by omega) _ rfl _ rfl)) ⟨s, ⟨_, rfl, rfl⟩, hS, fun _ _ => rfl⟩
      | k_ + 7, h_ => exact absurd h_ (by simp)
    rintro r9 a X4 h1 h2 h3 h4 hS
    clear BB
    replace hS : Below V.heap.size V X4 ∧ (X4.ownsRow V.heap.size 3 1 r9 (zl (apE f n m) n) (intsL (zl (apE f n m) n) (fun j => g (f j).toNat))) := hS
    obtain ⟨BB, FO⟩ := hS
    have t4 : a.eval (.tmp 4) = r9 := h4 5 _ rfl _ rfl
    have t5 : a.eval (.tmp 5) = .int .i64 ((apE f n m : Nat) : Int) := h4 6 _ rfl _ rfl
    replace A := (⟨h1, h2.trans A.2⟩ : a.tmps.size = 17 ∧ a.defers = [])
    clear h1 h2 h3 h4
    clear t0 t1
    have hE : coE f n g m = apE f n m := by
      have e2 := pE_ok h2
      unfold coE apE
      by_cases q : pE f n = 0 ∧ n = m
      · rw [if_pos q, if_pos ⟨q.1, e2, q.2⟩]
      · rw [if_neg q, if_neg (fun z => q ⟨z.1, z.2.2⟩)]
    rw [hE]
    refine wp_ret ?_
    refine bodyPost_ret (results_tmp2 rfl _ _ _) A.2 ⟨_, ?_, FO, BB⟩
    show Ending.returned (.tuple #[a.eval (.tmp 4), a.eval (.tmp 5)]) = _
    rw [t4, t5]
  · refine wp_region_sq (σ := Unit) 17 [(0, 9), (1, 10)] (fun j_ s X => match j_ with | 0 => Below V.heap.size V X | 1 => Below V.heap.size V X | _ => Below V.heap.size V X) (fun s => fun i_ => match i_ with | 0 => .int .i64 ((pE g m : Nat) : Int) | 1 => .bool true | _ => undef) () A.1 (by kernel_rfl) (by decide) (by decide) (BB) ?_ ?_
    · intro i_ hi_ s a X hf hv hn hS
      match i_, hi_ with
      | 0, _ => exact stepV rfl rfl (execMvB rfl ((hf 6 (by decide)).trans t6)) ⟨s, ⟨_, rfl, rfl⟩, hS, fun _ _ => rfl⟩
      | 1, _ => exact stepV rfl rfl (execDec (execNeE (p := pE g m) (q := 0) rfl (hv 0 (by omega) _ rfl _ rfl) rfl) (decide_eq_true (by have := pE_no h2; omega))) ⟨s, ⟨_, rfl, rfl⟩, hS, fun _ _ => rfl⟩
      | k_ + 2, h_ => exact absurd h_ (by simp)
    rintro _ a X2 h1 h2 h3 h4 hS
    clear BB
    replace hS : Below V.heap.size V X2 := hS
    have BB := hS
    clear hS
    replace t6 := (h3 6 (by decide)).trans t6
    have t10 : a.eval (.tmp 10) = .bool true := h4 1 _ rfl _ rfl
    replace A := (⟨h1, h2.trans A.2⟩ : a.tmps.size = 17 ∧ a.defers = [])
    clear h1 h2 h3 h4
    clear t0 t1
    refine wp_cond_true t10 ?_
    refine wp_seq ?_
    refine wp_region_sq (σ := Unit) 17 [(0, 11), (1, 4), (2, 5)] (fun j_ s X => match j_ with | 0 => Below V.heap.size V X | 1 => Below V.heap.size V X | 2 => Below V.heap.size V X | _ => Below V.heap.size V X) (fun s => fun i_ => match i_ with | 0 => .int .i64 ((pE g m : Nat) : Int) | 1 => .slice none 0 0 | 2 => .int .i64 ((pE g m : Nat) : Int) | _ => undef) () A.1 (by kernel_rfl) (by decide) (by decide) (BB) ?_ ?_
    · intro i_ hi_ s a X hf hv hn hS
      match i_, hi_ with
      | 0, _ => exact stepV rfl rfl (execMvB rfl ((hf 6 (by decide)).trans t6)) ⟨s, ⟨_, rfl, rfl⟩, hS, fun _ _ => rfl⟩
      | 1, _ => exact stepV rfl rfl (execAsgB rfl rfl) ⟨s, ⟨_, rfl, rfl⟩, hS, fun _ _ => rfl⟩
      | 2, _ => exact stepV rfl rfl (execAsgB rfl (hv 0 (by omega) _ rfl _ rfl)) ⟨s, ⟨_, rfl, rfl⟩, hS, fun _ _ => rfl⟩
      | k_ + 3, h_ => exact absurd h_ (by simp)
    rintro _ a X3 h1 h2 h3 h4 hS
    clear BB
    replace hS : Below V.heap.size V X3 := hS
    have BB := hS
    clear hS
    have t4 : a.eval (.tmp 4) = .slice none 0 0 := h4 1 _ rfl _ rfl
    have t5 : a.eval (.tmp 5) = .int .i64 ((pE g m : Nat) : Int) := h4 2 _ rfl _ rfl
    replace A := (⟨h1, h2.trans A.2⟩ : a.tmps.size = 17 ∧ a.defers = [])
    clear h1 h2 h3 h4
    clear t6
    have hE : coE f n g m = 110 := if_neg (fun q => by have := pE_no h2; omega)
    rw [pE_no h2] at t5
    rw [hE, zl_no (by decide)]
    refine wp_ret ?_
    repeat (first | refine ret_in ?_ | refine ret_then ?_)
    refine bodyPost_ret (results_tmp2 rfl _ _ _) A.2 ⟨_, ?_, World.ownsRow_nil _ _ _ _, BB⟩
    show Ending.returned (.tuple #[a.eval (.tmp 4), a.eval (.tmp 5)]) = _
    rw [t4, t5]
set_option maxRecDepth 100000 in
set_option maxHeartbeats 4000000 in
/-- The program's Rank. -/
theorem prank (f : Nat → Int) (n : Nat) (v : Value) (V : World) (hv : SliceI V v n f) (hn17 : n ≤ 17592186044416) :
    Calls Try.prog 9 #[v] V fun e w' => ∃ r, e = .returned (.tuple #[r, .int .i64 ((pE f n : Nat) : Int)]) ∧ w'.ownsRow V.heap.size 3 1 r (zl (pE f n) n) (intsL (zl (pE f n) n) (fun j => (rkD (gN f) n j : Int))) ∧ Below V.heap.size V w' := by
  obtain ⟨ia, ic, rfl, -, -, hsh⟩ := id hv.shape
  have FI := hv
  go_enter Try.func9, Try.ntmps9
  refine wp_seq ?_
  refine wp_region_sqK 34 [(0, 2), (1, 3)] (fun i_ => match i_ with | 0 => .slice none 0 0 | 1 => .int .i64 ((0 : Nat) : Int) | _ => undef) rfl (by kernel_rfl) (by decide) (by decide) ?_ ?_
  · intro i_ hi_ a hf hv hn
    match i_, hi_ with
    | 0, _ => exact stepV rfl rfl (execAsgB rfl rfl) ⟨⟨_, rfl, rfl⟩, rfl⟩
    | 1, _ => exact stepV rfl rfl (execAsgB rfl rfl) ⟨⟨_, rfl, rfl⟩, rfl⟩
    | k_ + 2, h_ => exact absurd h_ (by simp)
  intro a h1 h2 h3 h4
  have t0 : a.eval (.tmp 0) = .slice ia n ic := (h3 0 (by decide)).trans rfl
  have A : a.tmps.size = 34 ∧ a.defers = [] := ⟨h1, h2⟩
  have BW : Below V.heap.size V V := Below.refl _ _
  clear h1 h2 h3 h4
  have BB := BW
  refine wp_seq ?_
  refine wp_seq ?_
  refine wp_region_sq (σ := Unit) 34 [(0, 8), (1, 9), (2, 4)] (fun j_ s X => match j_ with | 0 => Below V.heap.size V X | 1 => Below V.heap.size V X | 2 => Below V.heap.size V X | _ => Below V.heap.size V X) (fun s => fun i_ => match i_ with | 0 => .slice ia n ic | 1 => .int .i64 ((pE f n : Nat) : Int) | 2 => .int .i64 ((pE f n : Nat) : Int) | _ => undef) () A.1 (by kernel_rfl) (by decide) (by decide) (BB) ?_ ?_
  · intro i_ hi_ s a X hf hv hn hS
    match i_, hi_ with
    | 0, _ => exact stepV rfl rfl (execMvB rfl ((hf 0 (by decide)).trans t0)) ⟨s, ⟨_, rfl, rfl⟩, hS, fun _ _ => rfl⟩
    | 1, _ => exact stepC rfl rfl (execCall1 Try.func15 (by kernel_rfl) (by kernel_rfl) rfl (hv 0 (by omega) _ rfl _ rfl)) (pcheck f n _ X (FI.on hS) hn17) fun e w' hh => ⟨_, hh.1, s, ⟨_, rfl, rfl⟩, (hS).trans ((hh.2).mono (hS).size), fun _ _ => rfl⟩
    | 2, _ => exact stepV rfl rfl (execAsgB rfl (hv 1 (by omega) _ rfl _ rfl)) ⟨s, ⟨_, rfl, rfl⟩, hS, fun _ _ => rfl⟩
    | k_ + 3, h_ => exact absurd h_ (by simp)
  rintro _ a X1 h1 h2 h3 h4 hS
  clear BB
  replace hS : Below V.heap.size V X1 := hS
  have BB := hS
  clear hS
  replace t0 := (h3 0 (by decide)).trans t0
  have t4 : a.eval (.tmp 4) = .int .i64 ((pE f n : Nat) : Int) := h4 2 _ rfl _ rfl
  replace A := (⟨h1, h2.trans A.2⟩ : a.tmps.size = 34 ∧ a.defers = [])
  clear h1 h2 h3 h4
  refine wp_seq ?_
  by_cases hok : okQ f n n = true
  · refine wp_region_sq (σ := Unit) 34 [(0, 10), (1, 11)] (fun j_ s X => match j_ with | 0 => Below V.heap.size V X | 1 => Below V.heap.size V X | _ => Below V.heap.size V X) (fun s => fun i_ => match i_ with | 0 => .int .i64 ((pE f n : Nat) : Int) | 1 => .bool false | _ => undef) () A.1 (by kernel_rfl) (by decide) (by decide) (BB) ?_ ?_
    · intro i_ hi_ s a X hf hv hn hS
      match i_, hi_ with
      | 0, _ => exact stepV rfl rfl (execMvB rfl ((hf 4 (by decide)).trans t4)) ⟨s, ⟨_, rfl, rfl⟩, hS, fun _ _ => rfl⟩
      | 1, _ => exact stepV rfl rfl (execDec (execNeE (p := pE f n) (q := 0) rfl (hv 0 (by omega) _ rfl _ rfl) rfl) (decide_eq_false (by have := pE_ok hok; omega))) ⟨s, ⟨_, rfl, rfl⟩, hS, fun _ _ => rfl⟩
      | k_ + 2, h_ => exact absurd h_ (by simp)
    rintro _ a X2 h1 h2 h3 h4 hS
    clear BB
    replace hS : Below V.heap.size V X2 := hS
    have BB := hS
    clear hS
    replace t0 := (h3 0 (by decide)).trans t0
    have t11 : a.eval (.tmp 11) = .bool false := h4 1 _ rfl _ rfl
    replace A := (⟨h1, h2.trans A.2⟩ : a.tmps.size = 34 ∧ a.defers = [])
    clear h1 h2 h3 h4
    clear t4
    refine wp_cond_false t11 ?_
    refine wp_skip ?_
    clear t11
    obtain ⟨hrange, _⟩ := okQ_iff.1 hok
    have hP := isP_of hok
    refine wp_seq ?_
    refine wp_region_sq (σ := Nat) 34 [(0, 13), (1, 14), (2, 15), (3, 5)] (fun j_ s X => match j_ with | 0 => Below V.heap.size V X | 1 => Below V.heap.size V X | 2 => Below V.heap.size V X | 3 => Below V.heap.size V X ∧ (X.ownsRow V.heap.size 3 1 (.slice (some ⟨s, 0, none⟩) n n) (n) (intsL (n) (fun j => if j < 0 then (rkD (gN f) n j : Int) else 0))) ∧ (V.heap.size ≤ s) | _ => Below V.heap.size V X ∧ (X.ownsRow V.heap.size 3 1 (.slice (some ⟨s, 0, none⟩) n n) (n) (intsL (n) (fun j => if j < 0 then (rkD (gN f) n j : Int) else 0))) ∧ (V.heap.size ≤ s)) (fun s => fun i_ => match i_ with | 0 => .slice ia n ic | 1 => .int .i64 ((n : Nat) : Int) | 2 => .slice (some ⟨s, 0, none⟩) n n | 3 => .slice (some ⟨s, 0, none⟩) n n | _ => undef) 0 A.1 (by kernel_rfl) (by decide) (by decide) (BB) ?_ ?_
    · intro i_ hi_ s a X hf hv hn hS
      match i_, hi_ with
      | 0, _ => exact stepV rfl rfl (execMvB rfl ((hf 0 (by decide)).trans t0)) ⟨s, ⟨_, rfl, rfl⟩, hS, fun _ _ => rfl⟩
      | 1, _ => exact stepV rfl rfl (execLenI (len := n) rfl (hv 0 (by omega) _ rfl _ rfl) ((FI.on hS)).shp) ⟨s, ⟨_, rfl, rfl⟩, hS, fun _ _ => rfl⟩
      | 2, _ =>
        refine stepV rfl rfl (execMkN rfl (hv 1 (by omega) _ rfl _ rfl) (hv 1 (by omega) _ rfl _ rfl) hn17) ⟨X.heap.size, ⟨_, rfl, rfl⟩, ⟨(hS).trans (((belNew X _)).mono (hS).size), ownD_base (own_mkZ X n _ hn17 (fun j_ _ => if_neg (Nat.not_lt_zero _))) (hS).size, (hS).size⟩, fun i hi => ?_⟩
        match i, hi with
        | 0, _ => rfl
        | 1, _ => rfl
        | n_ + 2, h_ => omega
      | 3, _ => exact stepV rfl rfl (execAsgB rfl (hv 2 (by omega) _ rfl _ rfl)) ⟨s, ⟨_, rfl, rfl⟩, hS, fun _ _ => rfl⟩
      | k_ + 4, h_ => exact absurd h_ (by simp)
    rintro g5 a X4 h1 h2 h3 h4 hS
    clear BB
    replace hS : Below V.heap.size V X4 ∧ (X4.ownsRow V.heap.size 3 1 (.slice (some ⟨g5, 0, none⟩) n n) (n) (intsL (n) (fun j => if j < 0 then (rkD (gN f) n j : Int) else 0))) ∧ (V.heap.size ≤ g5) := hS
    obtain ⟨BB, FO, Fg⟩ := hS
    replace t0 := (h3 0 (by decide)).trans t0
    have t5 : a.eval (.tmp 5) = .slice (some ⟨g5, 0, none⟩) n n := h4 3 _ rfl _ rfl
    replace A := (⟨h1, h2.trans A.2⟩ : a.tmps.size = 34 ∧ a.defers = [])
    clear h1 h2 h3 h4
    refine wp_seq ?_
    refine wp_seq ?_
    refine wp_region_sq (σ := Unit) 34 [(0, 16), (1, 17), (2, 18)] (fun j_ s X => match j_ with | 0 => Below V.heap.size V X ∧ (X.ownsRow V.heap.size 3 1 (.slice (some ⟨g5, 0, none⟩) n n) (n) (intsL (n) (fun j => if j < 0 then (rkD (gN f) n j : Int) else 0))) ∧ (V.heap.size ≤ g5) | 1 => Below V.heap.size V X ∧ (X.ownsRow V.heap.size 3 1 (.slice (some ⟨g5, 0, none⟩) n n) (n) (intsL (n) (fun j => if j < 0 then (rkD (gN f) n j : Int) else 0))) ∧ (V.heap.size ≤ g5) | 2 => Below V.heap.size V X ∧ (X.ownsRow V.heap.size 3 1 (.slice (some ⟨g5, 0, none⟩) n n) (n) (intsL (n) (fun j => if j < 0 then (rkD (gN f) n j : Int) else 0))) ∧ (V.heap.size ≤ g5) | _ => Below V.heap.size V X ∧ (X.ownsRow V.heap.size 3 1 (.slice (some ⟨g5, 0, none⟩) n n) (n) (intsL (n) (fun j => if j < 0 then (rkD (gN f) n j : Int) else 0))) ∧ (V.heap.size ≤ g5)) (fun s => fun i_ => match i_ with | 0 => .slice ia n ic | 1 => .int .i64 ((n : Nat) : Int) | 2 => .int .i64 ((0 : Nat) : Int) | _ => undef) () A.1 (by kernel_rfl) (by decide) (by decide) ⟨BB, FO, Fg⟩ ?_ ?_
    · intro i_ hi_ s a X hf hv hn hS
      match i_, hi_ with
      | 0, _ => exact stepV rfl rfl (execMvB rfl ((hf 0 (by decide)).trans t0)) ⟨s, ⟨_, rfl, rfl⟩, hS, fun _ _ => rfl⟩
      | 1, _ => exact stepV rfl rfl (execLenI (len := n) rfl (hv 0 (by omega) _ rfl _ rfl) ((FI.on hS.1)).shp) ⟨s, ⟨_, rfl, rfl⟩, hS, fun _ _ => rfl⟩
      | 2, _ => exact stepV rfl rfl (execMvB rfl rfl) ⟨s, ⟨_, rfl, rfl⟩, hS, fun _ _ => rfl⟩
      | k_ + 3, h_ => exact absurd h_ (by simp)
    rintro _ a X5 h1 h2 h3 h4 hS
    clear BB
    clear FO
    clear Fg
    replace hS : Below V.heap.size V X5 ∧ (X5.ownsRow V.heap.size 3 1 (.slice (some ⟨g5, 0, none⟩) n n) (n) (intsL (n) (fun j => if j < 0 then (rkD (gN f) n j : Int) else 0))) ∧ (V.heap.size ≤ g5) := hS
    obtain ⟨BB, FO, Fg⟩ := hS
    replace t0 := (h3 0 (by decide)).trans t0
    replace t5 := (h3 5 (by decide)).trans t5
    have t16 : a.eval (.tmp 16) = .slice ia n ic := h4 0 _ rfl _ rfl
    have t17 : a.eval (.tmp 17) = .int .i64 ((n : Nat) : Int) := h4 1 _ rfl _ rfl
    have t18 : a.eval (.tmp 18) = .int .i64 ((0 : Nat) : Int) := h4 2 _ rfl _ rfl
    replace A := (⟨h1, h2.trans A.2⟩ : a.tmps.size = 34 ∧ a.defers = [])
    clear h1 h2 h3 h4
    refine wp_block ?_
    refine wp_loop (fun a W => ∃ (i : Nat), i ≤ n ∧ (a.tmps.size = 34 ∧ a.defers = []) ∧ a.eval (.tmp 0) = .slice ia n ic ∧ a.eval (.tmp 5) = .slice (some ⟨g5, 0, none⟩) n n ∧ a.eval (.tmp 16) = .slice ia n ic ∧ a.eval (.tmp 17) = .int .i64 ((n : Nat) : Int) ∧ a.eval (.tmp 18) = .int .i64 ((i : Nat) : Int) ∧ Below V.heap.size V W ∧ (W.ownsRow V.heap.size 3 1 (.slice (some ⟨g5, 0, none⟩) n n) (n) (intsL (n) (fun j => if j < i then (rkD (gN f) n j : Int) else 0)))) (fun a _ => n - (intOf (a.eval (.tmp 18))).toNat) ⟨0, Nat.zero_le _, A, t0, t5, t16, t17, t18, BB, FO⟩ ?_
    clear A t0 t5 t16 t17 t18 BB FO a
    rintro a XL6 ⟨i, hi, A, t0, t5, t16, t17, t18, BB, FO⟩
    have es := t18
    refine wp_seq ?_
    refine wp_region_sq (σ := Unit) 34 [(0, 19)] (fun j_ s X => match j_ with | 0 => Below V.heap.size V X ∧ (X.ownsRow V.heap.size 3 1 (.slice (some ⟨g5, 0, none⟩) n n) (n) (intsL (n) (fun j => if j < i then (rkD (gN f) n j : Int) else 0))) | _ => Below V.heap.size V X ∧ (X.ownsRow V.heap.size 3 1 (.slice (some ⟨g5, 0, none⟩) n n) (n) (intsL (n) (fun j => if j < i then (rkD (gN f) n j : Int) else 0)))) (fun s => fun i_ => match i_ with | 0 => .bool (decide (i < n)) | _ => undef) () A.1 (by kernel_rfl) (by decide) (by decide) ⟨BB, FO⟩ ?_ ?_
    · intro i_ hi_ s a X hf hv hn hS
      match i_, hi_ with
      | 0, _ => exact stepV rfl rfl (execLtW (p := i) (q := n) rfl ((hf 18 (by decide)).trans t18) ((hf 17 (by decide)).trans t17)) ⟨s, ⟨_, rfl, rfl⟩, hS, fun _ _ => rfl⟩
      | k_ + 1, h_ => exact absurd h_ (by simp)
    rintro _ a X6 h1 h2 h3 h4 hS
    clear BB
    clear FO
    replace hS : Below V.heap.size V X6 ∧ (X6.ownsRow V.heap.size 3 1 (.slice (some ⟨g5, 0, none⟩) n n) (n) (intsL (n) (fun j => if j < i then (rkD (gN f) n j : Int) else 0))) := hS
    obtain ⟨BB, FO⟩ := hS
    replace t0 := (h3 0 (by decide)).trans t0
    replace t5 := (h3 5 (by decide)).trans t5
    replace t16 := (h3 16 (by decide)).trans t16
    replace t17 := (h3 17 (by decide)).trans t17
    replace t18 := (h3 18 (by decide)).trans t18
    have t19 : a.eval (.tmp 19) = .bool (decide (i < n)) := h4 0 _ rfl _ rfl
    replace A := (⟨h1, h2.trans A.2⟩ : a.tmps.size = 34 ∧ a.defers = [])
    clear h1 h2 h3 h4
    refine wp_seq ?_
    by_cases hlt : i < n
    · rw [decide_eq_true hlt] at t19
      refine wp_cond_true t19 ?_
      refine wp_skip ?_
      clear t19
      refine wp_seq ?_
      refine wp_block ?_
      obtain ⟨w, ew⟩ : ∃ w : Nat, f i = w := ⟨(f i).toNat, by have := hrange i hlt; omega⟩
      obtain ⟨ib, io, rfl, hib, hcell⟩ := hsh (by omega)
      have cI : ∀ k, k < n → ∀ X, Below V.heap.size V X → X.cell? ⟨ib, io + k, none⟩ = some (.int .i64 (f k)) := fun k hk X hX => by rw [cell_below hX hib]; exact hcell k hk
      have cW : ∀ X, Below V.heap.size V X → X.cell? ⟨ib, io + i, none⟩ = some (.int .i64 ((w : Nat) : Int)) := fun X hX => by rw [cI i hlt X hX, ew]
      have hcnt : ∀ X, Below V.heap.size V X → Calls Try.prog 20 #[sliced (some ⟨ib, io, none⟩) (i + 1) n ic 1, .int .i64 ((w : Nat) : Int)] X fun e w' => e = .returned (.int .i64 ((rkD (gN f) n i : Nat) : Int)) ∧ Below X.heap.size X w' := fun X hX => by
        have h_ := pcountBelow (fun t => gN f (i + 1 + t)) w (n - (i + 1)) _ X ((SliceI.sub (FI.on hX) (i + 1) n hlt (Nat.le_refl _)).cg fun j hj => by have := hrange (i + 1 + j) (by omega); show f (i + 1 + j) = (((f (i + 1 + j)).toNat : Nat) : Int); omega) (by omega)
        have e1 : gN f i = w := by show (f i).toNat = w; omega
        have e2 : rkD (gN f) n i = cnt (fun t => gN f (i + 1 + t)) (gN f i) (n - (i + 1)) := rank_count (f := gN f) hP hlt
        rw [e1] at e2
        rw [e2]
        exact h_
      refine wp_seq ?_
      refine wp_region_sq (σ := Unit) 34 [(0, 20), (1, 21), (2, 22), (3, 6), (4, 7)] (fun j_ s X => match j_ with | 0 => Below V.heap.size V X ∧ (X.ownsRow V.heap.size 3 1 (.slice (some ⟨g5, 0, none⟩) n n) (n) (intsL (n) (fun j => if j < i then (rkD (gN f) n j : Int) else 0))) | 1 => Below V.heap.size V X ∧ (X.ownsRow V.heap.size 3 1 (.slice (some ⟨g5, 0, none⟩) n n) (n) (intsL (n) (fun j => if j < i then (rkD (gN f) n j : Int) else 0))) | 2 => Below V.heap.size V X ∧ (X.ownsRow V.heap.size 3 1 (.slice (some ⟨g5, 0, none⟩) n n) (n) (intsL (n) (fun j => if j < i then (rkD (gN f) n j : Int) else 0))) | 3 => Below V.heap.size V X ∧ (X.ownsRow V.heap.size 3 1 (.slice (some ⟨g5, 0, none⟩) n n) (n) (intsL (n) (fun j => if j < i then (rkD (gN f) n j : Int) else 0))) | 4 => Below V.heap.size V X ∧ (X.ownsRow V.heap.size 3 1 (.slice (some ⟨g5, 0, none⟩) n n) (n) (intsL (n) (fun j => if j < i then (rkD (gN f) n j : Int) else 0))) | _ => Below V.heap.size V X ∧ (X.ownsRow V.heap.size 3 1 (.slice (some ⟨g5, 0, none⟩) n n) (n) (intsL (n) (fun j => if j < i then (rkD (gN f) n j : Int) else 0)))) (fun s => fun i_ => match i_ with | 0 => .int .i64 ((i : Nat) : Int) | 1 => .pointer (some ⟨ib, io + i, none⟩) | 2 => .int .i64 ((w : Nat) : Int) | 3 => .int .i64 ((i : Nat) : Int) | 4 => .int .i64 ((w : Nat) : Int) | _ => undef) () A.1 (by kernel_rfl) (by decide) (by decide) ⟨BB, FO⟩ ?_ ?_
      · intro i_ hi_ s a X hf hv hn hS
        match i_, hi_ with
        | 0, _ => exact stepV rfl rfl (execMvB rfl ((hf 18 (by decide)).trans t18)) ⟨s, ⟨_, rfl, rfl⟩, hS, fun _ _ => rfl⟩
        | 1, _ => exact stepV rfl rfl (execIdxN (k := i) rfl ((hf 16 (by decide)).trans t16) ((hf 18 (by decide)).trans t18) hlt) ⟨s, ⟨_, rfl, rfl⟩, hS, fun _ _ => rfl⟩
        | 2, _ => exact stepV rfl rfl (execLd3 rfl (hv 1 (by omega) _ rfl _ rfl) (cW X hS.1)) ⟨s, ⟨_, rfl, rfl⟩, hS, fun _ _ => rfl⟩
        | 3, _ => exact stepV rfl rfl (execAsgB rfl (hv 0 (by omega) _ rfl _ rfl)) ⟨s, ⟨_, rfl, rfl⟩, hS, fun _ _ => rfl⟩
        | 4, _ => exact stepV rfl rfl (execAsgB rfl (hv 2 (by omega) _ rfl _ rfl)) ⟨s, ⟨_, rfl, rfl⟩, hS, fun _ _ => rfl⟩
        | k_ + 5, h_ => exact absurd h_ (by simp)
      rintro _ a X7 h1 h2 h3 h4 hS
      clear BB
      clear FO
      replace hS : Below V.heap.size V X7 ∧ (X7.ownsRow V.heap.size 3 1 (.slice (some ⟨g5, 0, none⟩) n n) (n) (intsL (n) (fun j => if j < i then (rkD (gN f) n j : Int) else 0))) := hS
      obtain ⟨BB, FO⟩ := hS
      replace t0 := (h3 0 (by decide)).trans t0
      replace t5 := (h3 5 (by decide)).trans t5
      replace t16 := (h3 16 (by decide)).trans t16
      replace t17 := (h3 17 (by decide)).trans t17
      replace t18 := (h3 18 (by decide)).trans t18
      have t6 : a.eval (.tmp 6) = .int .i64 ((i : Nat) : Int) := h4 3 _ rfl _ rfl
      have t7 : a.eval (.tmp 7) = .int .i64 ((w : Nat) : Int) := h4 4 _ rfl _ rfl
      replace A := (⟨h1, h2.trans A.2⟩ : a.tmps.size = 34 ∧ a.defers = [])
      clear h1 h2 h3 h4
      refine wp_region_sq (σ := Unit) 34 [(0, 23), (1, 24), (2, 25), (3, 26), (4, 27), (5, 28), (6, 29), (7, 30), (8, 31)] (fun j_ s X => match j_ with | 0 => Below V.heap.size V X ∧ (X.ownsRow V.heap.size 3 1 (.slice (some ⟨g5, 0, none⟩) n n) (n) (intsL (n) (fun j => if j < i then (rkD (gN f) n j : Int) else 0))) | 1 => Below V.heap.size V X ∧ (X.ownsRow V.heap.size 3 1 (.slice (some ⟨g5, 0, none⟩) n n) (n) (intsL (n) (fun j => if j < i then (rkD (gN f) n j : Int) else 0))) | 2 => Below V.heap.size V X ∧ (X.ownsRow V.heap.size 3 1 (.slice (some ⟨g5, 0, none⟩) n n) (n) (intsL (n) (fun j => if j < i then (rkD (gN f) n j : Int) else 0))) | 3 => Below V.heap.size V X ∧ (X.ownsRow V.heap.size 3 1 (.slice (some ⟨g5, 0, none⟩) n n) (n) (intsL (n) (fun j => if j < i then (rkD (gN f) n j : Int) else 0))) | 4 => Below V.heap.size V X ∧ (X.ownsRow V.heap.size 3 1 (.slice (some ⟨g5, 0, none⟩) n n) (n) (intsL (n) (fun j => if j < i then (rkD (gN f) n j : Int) else 0))) | 5 => Below V.heap.size V X ∧ (X.ownsRow V.heap.size 3 1 (.slice (some ⟨g5, 0, none⟩) n n) (n) (intsL (n) (fun j => if j < i then (rkD (gN f) n j : Int) else 0))) | 6 => Below V.heap.size V X ∧ (X.ownsRow V.heap.size 3 1 (.slice (some ⟨g5, 0, none⟩) n n) (n) (intsL (n) (fun j => if j < i then (rkD (gN f) n j : Int) else 0))) | 7 => Below V.heap.size V X ∧ (X.ownsRow V.heap.size 3 1 (.slice (some ⟨g5, 0, none⟩) n n) (n) (intsL (n) (fun j => if j < i then (rkD (gN f) n j : Int) else 0))) | 8 => Below V.heap.size V X ∧ (X.ownsRow V.heap.size 3 1 (.slice (some ⟨g5, 0, none⟩) n n) (n) (intsL (n) (fun j => if j < i then (rkD (gN f) n j : Int) else 0))) | 9 => Below V.heap.size V X ∧ (X.ownsRow V.heap.size 3 1 (.slice (some ⟨g5, 0, none⟩) n n) (n) (intsL (n) (fun j => if j < i then (rkD (gN f) n j : Int) else 0))) | _ => Below V.heap.size V X ∧ (X.ownsRow V.heap.size 3 1 (.slice (some ⟨g5, 0, none⟩) n n) (n) (intsL (n) (fun j => if j < (i + 1) then (rkD (gN f) n j : Int) else 0)))) (fun s => fun i_ => match i_ with | 0 => .slice (some ⟨g5, 0, none⟩) n n | 1 => .int .i64 ((i : Nat) : Int) | 2 => .slice (some ⟨ib, io, none⟩) n ic | 3 => .int .i64 ((i : Nat) : Int) | 4 => .int .i64 ((i + 1 : Nat) : Int) | 5 => sliced (some ⟨ib, io, none⟩) (i + 1) n ic 1 | 6 => .int .i64 ((w : Nat) : Int) | 7 => .int .i64 ((rkD (gN f) n i : Nat) : Int) | 8 => .pointer (some ⟨g5, 0 + i, none⟩) | 9 => undef | _ => undef) () A.1 (by kernel_rfl) (by decide) (by decide) ⟨BB, FO⟩ ?_ ?_
      · intro i_ hi_ s a X hf hv hn hS
        match i_, hi_ with
        | 0, _ => exact stepV rfl rfl (execMvB rfl ((hf 5 (by decide)).trans t5)) ⟨s, ⟨_, rfl, rfl⟩, hS, fun _ _ => rfl⟩
        | 1, _ => exact stepV rfl rfl (execMvB rfl ((hf 6 (by decide)).trans t6)) ⟨s, ⟨_, rfl, rfl⟩, hS, fun _ _ => rfl⟩
        | 2, _ => exact stepV rfl rfl (execMvB rfl ((hf 0 (by decide)).trans t0)) ⟨s, ⟨_, rfl, rfl⟩, hS, fun _ _ => rfl⟩
        | 3, _ => exact stepV rfl rfl (execMvB rfl ((hf 6 (by decide)).trans t6)) ⟨s, ⟨_, rfl, rfl⟩, hS, fun _ _ => rfl⟩
        | 4, _ => exact stepV rfl rfl (execAd8 (p := i) (q := 1) rfl (hv 3 (by omega) _ rfl _ rfl) rfl (by omega)) ⟨s, ⟨_, rfl, rfl⟩, hS, fun _ _ => rfl⟩
        | 5, _ => exact stepV rfl rfl (execSlLg rfl (hv 2 (by omega) _ rfl _ rfl) (hv 4 (by omega) _ rfl _ rfl) (sl_lIo ib io n ic (i + 1) hlt X)) ⟨s, ⟨_, rfl, rfl⟩, hS, fun _ _ => rfl⟩
        | 6, _ => exact stepV rfl rfl (execMvB rfl ((hf 7 (by decide)).trans t7)) ⟨s, ⟨_, rfl, rfl⟩, hS, fun _ _ => rfl⟩
        | 7, _ => exact stepC rfl rfl (execCall2 Try.func20 (by kernel_rfl) (by kernel_rfl) rfl (hv 5 (by omega) _ rfl _ rfl) (hv 6 (by omega) _ rfl _ rfl)) (hcnt X hS.1) fun e w' hh => ⟨_, hh.1, s, ⟨_, rfl, rfl⟩, ⟨(hS.1).trans ((hh.2).mono (hS.1).size), (ownD_below hS.2 hh.2)⟩, fun _ _ => rfl⟩
        | 8, _ => exact stepV rfl rfl (execIdxN (k := i) rfl (hv 0 (by omega) _ rfl _ rfl) (hv 1 (by omega) _ rfl _ rfl) hlt) ⟨s, ⟨_, rfl, rfl⟩, hS, fun _ _ => rfl⟩
        | 9, _ =>
          obtain ⟨hc_, hf_⟩ := own_cellI hS.2 hlt
          refine stepS rfl rfl (execStI9 rfl (hv 8 (by omega) _ rfl _ rfl) (hv 7 (by omega) _ rfl _ rfl) hc_ hf_) ⟨s, ⟨_, rfl, rfl⟩, ⟨(hS.1).setCell Fg _, own_fill hS.2 rfl⟩, fun i hi => ?_⟩
          match i, hi with
          | 0, _ => rfl
          | 1, _ => rfl
          | 2, _ => rfl
          | 3, _ => rfl
          | 4, _ => rfl
          | 5, _ => rfl
          | 6, _ => rfl
          | 7, _ => rfl
          | 8, _ => rfl
          | n_ + 9, h_ => omega
        | k_ + 10, h_ => exact absurd h_ (by simp)
      rintro _ a X8 h1 h2 h3 h4 hS
      clear BB
      clear FO
      replace hS : Below V.heap.size V X8 ∧ (X8.ownsRow V.heap.size 3 1 (.slice (some ⟨g5, 0, none⟩) n n) (n) (intsL (n) (fun j => if j < (i + 1) then (rkD (gN f) n j : Int) else 0))) := hS
      obtain ⟨BB, FO2⟩ := hS
      replace t0 := (h3 0 (by decide)).trans t0
      replace t5 := (h3 5 (by decide)).trans t5
      replace t16 := (h3 16 (by decide)).trans t16
      replace t17 := (h3 17 (by decide)).trans t17
      replace t18 := (h3 18 (by decide)).trans t18
      replace A := (⟨h1, h2.trans A.2⟩ : a.tmps.size = 34 ∧ a.defers = [])
      clear h1 h2 h3 h4
      clear t6 t7
      refine wp_region_sq (σ := Unit) 34 [(0, 32), (1, 18)] (fun j_ s X => match j_ with | 0 => Below V.heap.size V X ∧ (X.ownsRow V.heap.size 3 1 (.slice (some ⟨g5, 0, none⟩) n n) (n) (intsL (n) (fun j => if j < (i + 1) then (rkD (gN f) n j : Int) else 0))) | 1 => Below V.heap.size V X ∧ (X.ownsRow V.heap.size 3 1 (.slice (some ⟨g5, 0, none⟩) n n) (n) (intsL (n) (fun j => if j < (i + 1) then (rkD (gN f) n j : Int) else 0))) | _ => Below V.heap.size V X ∧ (X.ownsRow V.heap.size 3 1 (.slice (some ⟨g5, 0, none⟩) n n) (n) (intsL (n) (fun j => if j < (i + 1) then (rkD (gN f) n j : Int) else 0)))) (fun s => fun i_ => match i_ with | 0 => .int .i64 ((i + 1 : Nat) : Int) | 1 => .int .i64 ((i + 1 : Nat) : Int) | _ => undef) () A.1 (by kernel_rfl) (by decide) (by decide) ⟨BB, FO2⟩ ?_ ?_
      · intro i_ hi_ s a X hf hv hn hS
        match i_, hi_ with
        | 0, _ => exact stepV rfl rfl (execAd8 (p := i) (q := 1) rfl ((hn 1 (by omega) _ rfl _ rfl).trans t18) rfl (by omega)) ⟨s, ⟨_, rfl, rfl⟩, hS, fun _ _ => rfl⟩
        | 1, _ => exact stepV rfl rfl (execMvB rfl (hv 0 (by omega) _ rfl _ rfl)) ⟨s, ⟨_, rfl, rfl⟩, hS, fun _ _ => rfl⟩
        | k_ + 2, h_ => exact absurd h_ (by simp)
      rintro _ a X9 h1 h2 h3 h4 hS
      clear BB
      clear FO2
      replace hS : Below V.heap.size V X9 ∧ (X9.ownsRow V.heap.size 3 1 (.slice (some ⟨g5, 0, none⟩) n n) (n) (intsL (n) (fun j => if j < (i + 1) then (rkD (gN f) n j : Int) else 0))) := hS
      obtain ⟨BB, FO2⟩ := hS
      replace t0 := (h3 0 (by decide)).trans t0
      replace t5 := (h3 5 (by decide)).trans t5
      replace t16 := (h3 16 (by decide)).trans t16
      replace t17 := (h3 17 (by decide)).trans t17
      replace t18 : a.eval (.tmp 18) = .int .i64 ((i + 1 : Nat) : Int) := h4 1 _ rfl _ rfl
      replace A := (⟨h1, h2.trans A.2⟩ : a.tmps.size = 34 ∧ a.defers = [])
      clear h1 h2 h3 h4
      exact ⟨⟨i + 1, hlt, A, t0, t5, t16, t17, t18, BB, FO2⟩, by show n - (intOf (a.eval (.tmp 18))).toNat < n - (intOf (Act.eval _ (.tmp 18))).toNat; rw [t18, es]; show n - (i + 1) < n - i; omega⟩
    · rw [decide_eq_false hlt] at t19
      refine wp_cond_false t19 ?_
      refine wp_exit ?_
      first | refine exit_in ?_ | refine exit_then (exit_in ?_) | refine exit_then (exit_then (exit_in ?_))
      clear t19 es
      have hin : i = n := by omega
      rw [hin] at FO
      rw [intsL_congr (g := fun j => (rkD (gN f) n j : Int)) (fun j hj => if_pos hj)] at FO
      refine wp_seq ?_
      refine wp_region_sq (σ := Unit) 34 [(0, 33), (1, 2), (2, 3)] (fun j_ s X => match j_ with | 0 => Below V.heap.size V X ∧ (X.ownsRow V.heap.size 3 1 (.slice (some ⟨g5, 0, none⟩) n n) (n) (intsL (n) (fun j => (rkD (gN f) n j : Int)))) | 1 => Below V.heap.size V X ∧ (X.ownsRow V.heap.size 3 1 (.slice (some ⟨g5, 0, none⟩) n n) (n) (intsL (n) (fun j => (rkD (gN f) n j : Int)))) | 2 => Below V.heap.size V X ∧ (X.ownsRow V.heap.size 3 1 (.slice (some ⟨g5, 0, none⟩) n n) (n) (intsL (n) (fun j => (rkD (gN f) n j : Int)))) | _ => Below V.heap.size V X ∧ (X.ownsRow V.heap.size 3 1 (.slice (some ⟨g5, 0, none⟩) n n) (n) (intsL (n) (fun j => (rkD (gN f) n j : Int))))) (fun s => fun i_ => match i_ with | 0 => .slice (some ⟨g5, 0, none⟩) n n | 1 => .slice (some ⟨g5, 0, none⟩) n n | 2 => .int .i64 ((0 : Nat) : Int) | _ => undef) () A.1 (by kernel_rfl) (by decide) (by decide) ⟨BB, FO⟩ ?_ ?_
      · intro i_ hi_ s a X hf hv hn hS
        match i_, hi_ with
        | 0, _ => exact stepV rfl rfl (execMvB rfl ((hf 5 (by decide)).trans t5)) ⟨s, ⟨_, rfl, rfl⟩, hS, fun _ _ => rfl⟩
        | 1, _ => exact stepV rfl rfl (execAsgB rfl (hv 0 (by omega) _ rfl _ rfl)) ⟨s, ⟨_, rfl, rfl⟩, hS, fun _ _ => rfl⟩
        | 2, _ => exact stepV rfl rfl (execAsgB rfl rfl) ⟨s, ⟨_, rfl, rfl⟩, hS, fun _ _ => rfl⟩
        | k_ + 3, h_ => exact absurd h_ (by simp)
      rintro _ a X10 h1 h2 h3 h4 hS
      clear BB
      clear FO
      replace hS : Below V.heap.size V X10 ∧ (X10.ownsRow V.heap.size 3 1 (.slice (some ⟨g5, 0, none⟩) n n) (n) (intsL (n) (fun j => (rkD (gN f) n j : Int)))) := hS
      obtain ⟨BB, FO⟩ := hS
      have t2 : a.eval (.tmp 2) = .slice (some ⟨g5, 0, none⟩) n n := h4 1 _ rfl _ rfl
      have t3 : a.eval (.tmp 3) = .int .i64 ((0 : Nat) : Int) := h4 2 _ rfl _ rfl
      replace A := (⟨h1, h2.trans A.2⟩ : a.tmps.size = 34 ∧ a.defers = [])
      clear h1 h2 h3 h4
      clear t0 t5 t16 t17 t18
      have hE : pE f n = 0 := pE_ok hok
      rw [hE, zl_ok]
      refine wp_ret ?_
      refine bodyPost_ret (results_tmp2 rfl _ _ _) A.2 ⟨_, ?_, FO, BB⟩
      show Ending.returned (.tuple #[a.eval (.tmp 2), a.eval (.tmp 3)]) = _
      rw [t2, t3]
  · refine wp_region_sq (σ := Unit) 34 [(0, 10), (1, 11)] (fun j_ s X => match j_ with | 0 => Below V.heap.size V X | 1 => Below V.heap.size V X | _ => Below V.heap.size V X) (fun s => fun i_ => match i_ with | 0 => .int .i64 ((pE f n : Nat) : Int) | 1 => .bool true | _ => undef) () A.1 (by kernel_rfl) (by decide) (by decide) (BB) ?_ ?_
    · intro i_ hi_ s a X hf hv hn hS
      match i_, hi_ with
      | 0, _ => exact stepV rfl rfl (execMvB rfl ((hf 4 (by decide)).trans t4)) ⟨s, ⟨_, rfl, rfl⟩, hS, fun _ _ => rfl⟩
      | 1, _ => exact stepV rfl rfl (execDec (execNeE (p := pE f n) (q := 0) rfl (hv 0 (by omega) _ rfl _ rfl) rfl) (decide_eq_true (by have := pE_no hok; omega))) ⟨s, ⟨_, rfl, rfl⟩, hS, fun _ _ => rfl⟩
      | k_ + 2, h_ => exact absurd h_ (by simp)
    rintro _ a X2 h1 h2 h3 h4 hS
    clear BB
    replace hS : Below V.heap.size V X2 := hS
    have BB := hS
    clear hS
    replace t4 := (h3 4 (by decide)).trans t4
    have t11 : a.eval (.tmp 11) = .bool true := h4 1 _ rfl _ rfl
    replace A := (⟨h1, h2.trans A.2⟩ : a.tmps.size = 34 ∧ a.defers = [])
    clear h1 h2 h3 h4
    clear t0
    refine wp_cond_true t11 ?_
    refine wp_seq ?_
    refine wp_region_sq (σ := Unit) 34 [(0, 12), (1, 2), (2, 3)] (fun j_ s X => match j_ with | 0 => Below V.heap.size V X | 1 => Below V.heap.size V X | 2 => Below V.heap.size V X | _ => Below V.heap.size V X) (fun s => fun i_ => match i_ with | 0 => .int .i64 ((pE f n : Nat) : Int) | 1 => .slice none 0 0 | 2 => .int .i64 ((pE f n : Nat) : Int) | _ => undef) () A.1 (by kernel_rfl) (by decide) (by decide) (BB) ?_ ?_
    · intro i_ hi_ s a X hf hv hn hS
      match i_, hi_ with
      | 0, _ => exact stepV rfl rfl (execMvB rfl ((hf 4 (by decide)).trans t4)) ⟨s, ⟨_, rfl, rfl⟩, hS, fun _ _ => rfl⟩
      | 1, _ => exact stepV rfl rfl (execAsgB rfl rfl) ⟨s, ⟨_, rfl, rfl⟩, hS, fun _ _ => rfl⟩
      | 2, _ => exact stepV rfl rfl (execAsgB rfl (hv 0 (by omega) _ rfl _ rfl)) ⟨s, ⟨_, rfl, rfl⟩, hS, fun _ _ => rfl⟩
      | k_ + 3, h_ => exact absurd h_ (by simp)
    rintro _ a X3 h1 h2 h3 h4 hS
    clear BB
    replace hS : Below V.heap.size V X3 := hS
    have BB := hS
    clear hS
    have t2 : a.eval (.tmp 2) = .slice none 0 0 := h4 1 _ rfl _ rfl
    have t3 : a.eval (.tmp 3) = .int .i64 ((pE f n : Nat) : Int) := h4 2 _ rfl _ rfl
    replace A := (⟨h1, h2.trans A.2⟩ : a.tmps.size = 34 ∧ a.defers = [])
    clear h1 h2 h3 h4
    clear t4
    have hE : pE f n = 110 := pE_no hok
    rw [hE] at t3
    rw [hE, zl_no (by decide)]
    refine wp_ret ?_
    repeat (first | refine ret_in ?_ | refine ret_then ?_)
    refine bodyPost_ret (results_tmp2 rfl _ _ _) A.2 ⟨_, ?_, World.ownsRow_nil _ _ _ _, BB⟩
    show Ending.returned (.tuple #[a.eval (.tmp 2), a.eval (.tmp 3)]) = _
    rw [t2, t3]
end Go.Proofs.Ytldhhfkplongiaa.Prm
