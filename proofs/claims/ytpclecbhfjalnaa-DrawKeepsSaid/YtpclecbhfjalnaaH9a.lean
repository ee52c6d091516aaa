import Derived.Test.YtpclecbhfjalnaaG9k
namespace Go.Proofs.Ytpclecbhfjalnaa.Drw
open Go.RowKit Gf8 Aes By8 Cel Cf Tap
/- The program's isBound, areBounds, areDraws, Below. Written by tools/mkH9a.py. -/

theorem top_iff (x b : Nat) (hb : 0 < b) : x < 256 - 256 % b ↔ x / b < 256 / b := by
  have h := Nat.div_add_mod 256 b
  rw [Nat.div_lt_iff_lt_mul hb, Nat.mul_comm (256 / b) b]
  omega
def plOf (W : World) (g : Nat) : Nat := match W.heap[g]? with | some (.cells c _ _) => (intOf (c.getD 1 undef)).toNat | _ => 0
theorem plOf_tp {W : World} {g : Nat} {p : Nat → Nat} {l at' : Nat} {t : TypeId} (h : W.heap[g]? = some (.cells (tpC p l at') t)) : plOf W g = at' := by
  unfold plOf
  rw [h]
  rfl
def bV (p : Nat → Nat) (l i : Nat) : Nat := if i < l then p i else 0
def bL (l i : Nat) : Nat := if i < l then l else 0
def bN (l i : Nat) : Nat := if i < l then i + 1 else 0
def bE (l i : Nat) : Nat := if i < l then 0 else 3
set_option maxRecDepth 20000 in
theorem isBound_yes (b : Int) (V : World) (h : ¬ bad b) :
    Calls Try.prog 22 #[.int .i64 b] V fun e w' => e = .returned (.bool true) ∧ Below V.heap.size V w' := by
  have h1 : 1 ≤ b := by unfold bad at h; omega
  have h2 : b ≤ 256 := by unfold bad at h; omega
  clear h
  go_enter Try.func22, Try.ntmps22
  go_wp2
  refine bodyPost_ret (results_tmp rfl _ _ _) rfl ⟨rfl, Below.refl _ _⟩
set_option maxRecDepth 20000 in
theorem isBound_no (b : Int) (V : World) (h : bad b) :
    Calls Try.prog 22 #[.int .i64 b] V fun e w' => e = .returned (.bool false) ∧ Below V.heap.size V w' := by
  by_cases h1 : 1 ≤ b
  · have h2 : ¬ b ≤ 256 := by unfold bad at h; omega
    clear h
    go_enter Try.func22, Try.ntmps22
    go_wp2
    refine bodyPost_ret (results_tmp rfl _ _ _) rfl ⟨rfl, Below.refl _ _⟩
  · clear h
    go_enter Try.func22, Try.ntmps22
    go_wp2
    refine bodyPost_ret (results_tmp rfl _ _ _) rfl ⟨rfl, Below.refl _ _⟩
set_option maxRecDepth 100000 in
set_option maxHeartbeats 4000000 in
theorem areBounds_any (f : Nat → Int) (n : Nat) (v : Value) (V : World) (hv : SliceI V v n f) (hn : n ≤ 17592186044416) :
    Calls Try.prog 25 #[v] V fun e w' => e = .returned (.bool (!anyB f n)) ∧ Below V.heap.size V w' := by
  obtain ⟨ia, ic, rfl, -, -, hsh⟩ := id hv.shape
  have FI := hv
  go_enter Try.func25, Try.ntmps25
  refine wp_seq ?_
  refine wp_region_sqK 15 [(0, 2)] (fun i_ => match i_ with | 0 => .bool false | _ => undef) rfl (by kernel_rfl) (by decide) (by decide) ?_ ?_
  · intro i_ hi_ a hf hv hn
    match i_, hi_ with
    | 0, _ => exact stepV rfl rfl (execAsgB rfl rfl) ⟨⟨_, rfl, rfl⟩, rfl⟩
    | k_ + 1, h_ => exact absurd h_ (by simp)
  intro a h1 h2 h3 h4
  have t0 : a.eval (.tmp 0) = .slice ia n ic := (h3 0 (by decide)).trans rfl
  have A : a.tmps.size = 15 ∧ a.defers = [] := ⟨h1, h2⟩
  have BW : Below V.heap.size V V := Below.refl _ _
  clear h1 h2 h3 h4
  have BB := BW
  refine wp_seq ?_
  refine wp_seq ?_
  refine wp_region_sq (σ := Unit) 15 [(0, 5), (1, 6), (2, 7)] (fun j_ s X => match j_ with | 0 => Below V.heap.size V X | 1 => Below V.heap.size V X | 2 => Below V.heap.size V X | _ => Below V.heap.size V X) (fun s => fun i_ => match i_ with | 0 => .slice ia n ic | 1 => .int .i64 ((n : Nat) : Int) | 2 => .int .i64 ((0 : Nat) : Int) | _ => undef) () A.1 (by kernel_rfl) (by decide) (by decide) (BB) ?_ ?_
  · intro i_ hi_ s a X hf hv hn hS
    match i_, hi_ with
    | 0, _ => exact stepV rfl rfl (execMvB rfl ((hf 0 (by decide)).trans t0)) ⟨s, ⟨_, rfl, rfl⟩, hS, fun _ _ => rfl⟩
    | 1, _ => exact stepV rfl rfl (execLenI (len := n) rfl (hv 0 (by omega) _ rfl _ rfl) ((FI.on hS)).shp) ⟨s, ⟨_, rfl, rfl⟩, hS, fun _ _ => rfl⟩
    | 2, _ => exact stepV rfl rfl (execMvB rfl rfl) ⟨s, ⟨_, rfl, rfl⟩, hS, fun _ _ => rfl⟩
    | k_ + 3, h_ => exact absurd h_ (by simp)
  rintro _ a X1 h1 h2 h3 h4 hS
  clear BB
  replace hS : Below V.heap.size V X1 := hS
  have BB := hS
  clear hS
  have t5 : a.eval (.tmp 5) = .slice ia n ic := h4 0 _ rfl _ rfl
  have t6 : a.eval (.tmp 6) = .int .i64 ((n : Nat) : Int) := h4 1 _ rfl _ rfl
  have t7 : a.eval (.tmp 7) = .int .i64 ((0 : Nat) : Int) := h4 2 _ rfl _ rfl
  replace A := (⟨h1, h2.trans A.2⟩ : a.tmps.size = 15 ∧ a.defers = [])
  clear h1 h2 h3 h4
  clear t0
  refine wp_block ?_
  refine wp_loop (fun a W => ∃ i : Nat, i ≤ n ∧ anyB f i = false ∧ (a.tmps.size = 15 ∧ a.defers = []) ∧ a.eval (.tmp 5) = .slice ia n ic ∧ a.eval (.tmp 6) = .int .i64 ((n : Nat) : Int) ∧ a.eval (.tmp 7) = .int .i64 ((i : Nat) : Int) ∧ Below V.heap.size V W) (fun a _ => n - (intOf (a.eval (.tmp 7))).toNat) ⟨0, Nat.zero_le _, rfl, A, t5, t6, t7, BB⟩ ?_
  clear A t5 t6 t7 BB a
  rintro a XL ⟨i, hi, hno, A, t5, t6, t7, BB⟩
  have e7 := t7
  refine wp_seq ?_
  refine wp_region_sq (σ := Unit) 15 [(0, 8)] (fun j_ s X => match j_ with | 0 => Below V.heap.size V X | _ => Below V.heap.size V X) (fun s => fun i_ => match i_ with | 0 => .bool (decide (i < n)) | _ => undef) () A.1 (by kernel_rfl) (by decide) (by decide) (BB) ?_ ?_
  · intro i_ hi_ s a X hf hv hn hS
    match i_, hi_ with
    | 0, _ => exact stepV rfl rfl (execLtW (p := i) (q := n) rfl ((hf 7 (by decide)).trans t7) ((hf 6 (by decide)).trans t6)) ⟨s, ⟨_, rfl, rfl⟩, hS, fun _ _ => rfl⟩
    | k_ + 1, h_ => exact absurd h_ (by simp)
  rintro _ a X2 h1 h2 h3 h4 hS
  clear BB
  replace hS : Below V.heap.size V X2 := hS
  have BB := hS
  clear hS
  replace t5 := (h3 5 (by decide)).trans t5
  replace t6 := (h3 6 (by decide)).trans t6
  replace t7 := (h3 7 (by decide)).trans t7
  have t8 : a.eval (.tmp 8) = .bool (decide (i < n)) := h4 0 _ rfl _ rfl
  replace A := (⟨h1, h2.trans A.2⟩ : a.tmps.size = 15 ∧ a.defers = [])
  clear h1 h2 h3 h4
  refine wp_seq ?_
  by_cases hlt : i < n
  · rw [decide_eq_true hlt] at t8
    refine wp_cond_true t8 ?_
    refine wp_skip ?_
    clear t8
    obtain ⟨ib, io, rfl, hib, hcell⟩ := hsh (by omega)
    have cI : ∀ X, Below V.heap.size V X → X.cell? ⟨ib, io + i, none⟩ = some (.int .i64 (f i)) := fun X hX => by rw [cell_below hX hib]; exact hcell i hlt
    refine wp_seq ?_
    refine wp_block ?_
    refine wp_seq ?_
    refine wp_region_sq (σ := Unit) 15 [(0, 9), (1, 10), (2, 4)] (fun j_ s X => match j_ with | 0 => Below V.heap.size V X | 1 => Below V.heap.size V X | 2 => Below V.heap.size V X | _ => Below V.heap.size V X) (fun s => fun i_ => match i_ with | 0 => .pointer (some ⟨ib, io + i, none⟩) | 1 => .int .i64 (f i) | 2 => .int .i64 (f i) | _ => undef) () A.1 (by kernel_rfl) (by decide) (by decide) (BB) ?_ ?_
    · intro i_ hi_ s a X hf hv hn hS
      match i_, hi_ with
      | 0, _ => exact stepV rfl rfl (execIdxN (k := i) rfl ((hf 5 (by decide)).trans t5) ((hf 7 (by decide)).trans t7) hlt) ⟨s, ⟨_, rfl, rfl⟩, hS, fun _ _ => rfl⟩
      | 1, _ => exact stepV rfl rfl (execLd3 rfl (hv 0 (by omega) _ rfl _ rfl) (cI X hS)) ⟨s, ⟨_, rfl, rfl⟩, hS, fun _ _ => rfl⟩
      | 2, _ => exact stepV rfl rfl (execAsgB rfl (hv 1 (by omega) _ rfl _ rfl)) ⟨s, ⟨_, rfl, rfl⟩, hS, fun _ _ => rfl⟩
      | k_ + 3, h_ => exact absurd h_ (by simp)
    rintro _ a X3 h1 h2 h3 h4 hS
    clear BB
    replace hS : Below V.heap.size V X3 := hS
    have BB := hS
    clear hS
    replace t5 := (h3 5 (by decide)).trans t5
    replace t6 := (h3 6 (by decide)).trans t6
    replace t7 := (h3 7 (by decide)).trans t7
    have t4 : a.eval (.tmp 4) = .int .i64 (f i) := h4 2 _ rfl _ rfl
    replace A := (⟨h1, h2.trans A.2⟩ : a.tmps.size = 15 ∧ a.defers = [])
    clear h1 h2 h3 h4
    by_cases hbd : bad (f i)
    · refine wp_seq ?_
      refine wp_region_sq (σ := Unit) 15 [(0, 11), (1, 12), (2, 13)] (fun j_ s X => match j_ with | 0 => Below V.heap.size V X | 1 => Below V.heap.size V X | 2 => Below V.heap.size V X | _ => Below V.heap.size V X) (fun s => fun i_ => match i_ with | 0 => .int .i64 (f i) | 1 => .bool false | 2 => .bool true | _ => undef) () A.1 (by kernel_rfl) (by decide) (by decide) (BB) ?_ ?_
      · intro i_ hi_ s a X hf hv hn hS
        match i_, hi_ with
        | 0, _ => exact stepV rfl rfl (execMvB rfl ((hf 4 (by decide)).trans t4)) ⟨s, ⟨_, rfl, rfl⟩, hS, fun _ _ => rfl⟩
        | 1, _ => exact stepC rfl rfl (execCall1 Try.func22 (by kernel_rfl) (by kernel_rfl) rfl (hv 0 (by omega) _ rfl _ rfl)) (isBound_no (f i) X hbd) fun e w' hh => ⟨_, hh.1, s, ⟨_, rfl, rfl⟩, (hS).trans ((hh.2).mono (hS).size), fun _ _ => rfl⟩
        | 2, _ => exact stepV rfl rfl (execNot8 rfl (hv 1 (by omega) _ rfl _ rfl)) ⟨s, ⟨_, rfl, rfl⟩, hS, fun _ _ => rfl⟩
        | k_ + 3, h_ => exact absurd h_ (by simp)
      rintro _ a X4 h1 h2 h3 h4 hS
      clear BB
      replace hS : Below V.heap.size V X4 := hS
      have BB := hS
      clear hS
      replace t5 := (h3 5 (by decide)).trans t5
      replace t6 := (h3 6 (by decide)).trans t6
      replace t7 := (h3 7 (by decide)).trans t7
      have t13 : a.eval (.tmp 13) = .bool true := h4 2 _ rfl _ rfl
      replace A := (⟨h1, h2.trans A.2⟩ : a.tmps.size = 15 ∧ a.defers = [])
      clear h1 h2 h3 h4
      clear t4
      refine wp_cond_true t13 ?_
      refine wp_seq ?_
      refine wp_region_sq (σ := Unit) 15 [(0, 2)] (fun j_ s X => match j_ with | 0 => Below V.heap.size V X | _ => Below V.heap.size V X) (fun s => fun i_ => match i_ with | 0 => .bool false | _ => undef) () A.1 (by kernel_rfl) (by decide) (by decide) (BB) ?_ ?_
      · intro i_ hi_ s a X hf hv hn hS
        match i_, hi_ with
        | 0, _ => exact stepV rfl rfl (execAsgB rfl rfl) ⟨s, ⟨_, rfl, rfl⟩, hS, fun _ _ => rfl⟩
        | k_ + 1, h_ => exact absurd h_ (by simp)
      rintro _ a X5 h1 h2 h3 h4 hS
      clear BB
      replace hS : Below V.heap.size V X5 := hS
      have BB := hS
      clear hS
      have t2 : a.eval (.tmp 2) = .bool false := h4 0 _ rfl _ rfl
      replace A := (⟨h1, h2.trans A.2⟩ : a.tmps.size = 15 ∧ a.defers = [])
      clear h1 h2 h3 h4
      clear t5 t6 t7 t13
      have hy : anyB f n = true := anyB_yes hlt hbd
      rw [hy]
      refine wp_ret ?_
      repeat (first | refine ret_in ?_ | refine ret_then ?_)
      refine bodyPost_ret (results_tmp rfl _ _ _) A.2 ⟨?_, BB⟩
      show Ending.returned (a.eval (.tmp 2)) = _
      rw [t2]
      rfl
    · refine wp_seq ?_
      refine wp_region_sq (σ := Unit) 15 [(0, 11), (1, 12), (2, 13)] (fun j_ s X => match j_ with | 0 => Below V.heap.size V X | 1 => Below V.heap.size V X | 2 => Below V.heap.size V X | _ => Below V.heap.size V X) (fun s => fun i_ => match i_ with | 0 => .int .i64 (f i) | 1 => .bool true | 2 => .bool false | _ => undef) () A.1 (by kernel_rfl) (by decide) (by decide) (BB) ?_ ?_
      · intro i_ hi_ s a X hf hv hn hS
        match i_, hi_ with
        | 0, _ => exact stepV rfl rfl (execMvB rfl ((hf 4 (by decide)).trans t4)) ⟨s, ⟨_, rfl, rfl⟩, hS, fun _ _ => rfl⟩
        | 1, _ => exact stepC rfl rfl (execCall1 Try.func22 (by kernel_rfl) (by kernel_rfl) rfl (hv 0 (by omega) _ rfl _ rfl)) (isBound_yes (f i) X hbd) fun e w' hh => ⟨_, hh.1, s, ⟨_, rfl, rfl⟩, (hS).trans ((hh.2).mono (hS).size), fun _ _ => rfl⟩
        | 2, _ => exact stepV rfl rfl (execNot8 rfl (hv 1 (by omega) _ rfl _ rfl)) ⟨s, ⟨_, rfl, rfl⟩, hS, fun _ _ => rfl⟩
        | k_ + 3, h_ => exact absurd h_ (by simp)
      rintro _ a X4 h1 h2 h3 h4 hS
      clear BB
      replace hS : Below V.heap.size V X4 := hS
      have BB := hS
      clear hS
      replace t5 := (h3 5 (by decide)).trans t5
      replace t6 := (h3 6 (by decide)).trans t6
      replace t7 := (h3 7 (by decide)).trans t7
      have t13 : a.eval (.tmp 13) = .bool false := h4 2 _ rfl _ rfl
      replace A := (⟨h1, h2.trans A.2⟩ : a.tmps.size = 15 ∧ a.defers = [])
      clear h1 h2 h3 h4
      clear t4
      refine wp_cond_false t13 ?_
      refine wp_skip ?_
      clear t13
      refine wp_region_sq (σ := Unit) 15 [(0, 14), (1, 7)] (fun j_ s X => match j_ with | 0 => Below V.heap.size V X | 1 => Below V.heap.size V X | _ => Below V.heap.size V X) (fun s => fun i_ => match i_ with | 0 => .int .i64 ((i + 1 : Nat) : Int) | 1 => .int .i64 ((i + 1 : Nat) : Int) | _ => undef) () A.1 (by kernel_rfl) (by decide) (by decide) (BB) ?_ ?_
      · intro i_ hi_ s a X hf hv hn hS
        match i_, hi_ with
        | 0, _ => exact stepV rfl rfl (execAd8 (p := i) (q := 1) rfl ((hn 1 (by omega) _ rfl _ rfl).trans t7) rfl (by omega)) ⟨s, ⟨_, rfl, rfl⟩, hS, fun _ _ => rfl⟩
        | 1, _ => exact stepV rfl rfl (execMvB rfl (hv 0 (by omega) _ rfl _ rfl)) ⟨s, ⟨_, rfl, rfl⟩, hS, fun _ _ => rfl⟩
        | k_ + 2, h_ => exact absurd h_ (by simp)
      rintro _ a X6 h1 h2 h3 h4 hS
      clear BB
      replace hS : Below V.heap.size V X6 := hS
      have BB := hS
      clear hS
      replace t5 := (h3 5 (by decide)).trans t5
      replace t6 := (h3 6 (by decide)).trans t6
      replace t7 : a.eval (.tmp 7) = .int .i64 ((i + 1 : Nat) : Int) := h4 1 _ rfl _ rfl
      replace A := (⟨h1, h2.trans A.2⟩ : a.tmps.size = 15 ∧ a.defers = [])
      clear h1 h2 h3 h4
      exact ⟨⟨i + 1, hlt, by simp only [anyB, hno, Bool.false_or, decide_eq_false_iff_not]; exact hbd, A, t5, t6, t7, BB⟩, by show n - (intOf (a.eval (.tmp 7))).toNat < n - (intOf (Act.eval _ (.tmp 7))).toNat; rw [t7, e7]; show n - (i + 1) < n - i; omega⟩
  · rw [decide_eq_false hlt] at t8
    refine wp_cond_false t8 ?_
    refine wp_exit ?_
    first | refine exit_in ?_ | refine exit_then (exit_in ?_) | refine exit_then (exit_then (exit_in ?_))
    clear t8
    have hin : i = n := by omega
    rw [hin] at hno
    rw [hno]
    refine wp_seq ?_
    refine wp_region_sq (σ := Unit) 15 [(0, 2)] (fun j_ s X => match j_ with | 0 => Below V.heap.size V X | _ => Below V.heap.size V X) (fun s => fun i_ => match i_ with | 0 => .bool true | _ => undef) () A.1 (by kernel_rfl) (by decide) (by decide) (BB) ?_ ?_
    · intro i_ hi_ s a X hf hv hn hS
      match i_, hi_ with
      | 0, _ => exact stepV rfl rfl (execAsgB rfl rfl) ⟨s, ⟨_, rfl, rfl⟩, hS, fun _ _ => rfl⟩
      | k_ + 1, h_ => exact absurd h_ (by simp)
    rintro _ a X7 h1 h2 h3 h4 hS
    clear BB
    replace hS : Below V.heap.size V X7 := hS
    have BB := hS
    clear hS
    have t2 : a.eval (.tmp 2) = .bool true := h4 0 _ rfl _ rfl
    replace A := (⟨h1, h2.trans A.2⟩ : a.tmps.size = 15 ∧ a.defers = [])
    clear h1 h2 h3 h4
    clear t5 t6 t7
    refine wp_ret ?_
    repeat (first | refine ret_in ?_ | refine ret_then ?_)
    refine bodyPost_ret (results_tmp rfl _ _ _) A.2 ⟨?_, BB⟩
    show Ending.returned (a.eval (.tmp 2)) = _
    rw [t2]
    rfl
set_option maxRecDepth 100000 in
set_option maxHeartbeats 4000000 in
theorem areDraws_any (ws bs : Nat → Int) (m n : Nat) (wv bv : Value) (V : World) (hwv : SliceI V wv m ws) (hm17 : m ≤ 17592186044416) (hb : SliceI V bv n bs) (hn17 : n ≤ 17592186044416) :
    Calls Try.prog 26 #[wv, bv] V fun e w' => e = .returned (.bool (decide (m = n) && !anyW bs ws m)) ∧ Below V.heap.size V w' := by
  obtain ⟨ia, ic, rfl, -, -, hsh⟩ := id hb.shape
  obtain ⟨ja, jc, rfl, -, -, hsj⟩ := id hwv.shape
  have FI := hb
  have FJ := hwv
  go_enter Try.func26, Try.ntmps26
  refine wp_seq ?_
  refine wp_region_sqK 30 [(0, 4)] (fun i_ => match i_ with | 0 => .bool false | _ => undef) rfl (by kernel_rfl) (by decide) (by decide) ?_ ?_
  · intro i_ hi_ a hf hv hn
    match i_, hi_ with
    | 0, _ => exact stepV rfl rfl (execAsgB rfl rfl) ⟨⟨_, rfl, rfl⟩, rfl⟩
    | k_ + 1, h_ => exact absurd h_ (by simp)
  intro a h1 h2 h3 h4
  have t0 : a.eval (.tmp 0) = .slice ja m jc := (h3 0 (by decide)).trans rfl
  have t1 : a.eval (.tmp 1) = .slice ia n ic := (h3 1 (by decide)).trans rfl
  have A : a.tmps.size = 30 ∧ a.defers = [] := ⟨h1, h2⟩
  have BW : Below V.heap.size V V := Below.refl _ _
  clear h1 h2 h3 h4
  have BB := BW
  refine wp_seq ?_
  refine wp_seq ?_
  refine wp_region_sq (σ := Unit) 30 [(0, 7), (1, 8), (2, 9), (3, 10), (4, 11)] (fun j_ s X => match j_ with | 0 => Below V.heap.size V X | 1 => Below V.heap.size V X | 2 => Below V.heap.size V X | 3 => Below V.heap.size V X | 4 => Below V.heap.size V X | _ => Below V.heap.size V X) (fun s => fun i_ => match i_ with | 0 => .slice ja m jc | 1 => .int .i64 ((m : Nat) : Int) | 2 => .slice ia n ic | 3 => .int .i64 ((n : Nat) : Int) | 4 => .bool (decide (m ≠ n)) | _ => undef) () A.1 (by kernel_rfl) (by decide) (by decide) (BB) ?_ ?_
  · intro i_ hi_ s a X hf hv hn hS
    match i_, hi_ with
    | 0, _ => exact stepV rfl rfl (execMvB rfl ((hf 0 (by decide)).trans t0)) ⟨s, ⟨_, rfl, rfl⟩, hS, fun _ _ => rfl⟩
    | 1, _ => exact stepV rfl rfl (execLenI (len := m) rfl (hv 0 (by omega) _ rfl _ rfl) ((FJ.on hS)).shp) ⟨s, ⟨_, rfl, rfl⟩, hS, fun _ _ => rfl⟩
    | 2, _ => exact stepV rfl rfl (execMvB rfl ((hf 1 (by decide)).trans t1)) ⟨s, ⟨_, rfl, rfl⟩, hS, fun _ _ => rfl⟩
    | 3, _ => exact stepV rfl rfl (execLenI (len := n) rfl (hv 2 (by omega) _ rfl _ rfl) ((FI.on hS)).shp) ⟨s, ⟨_, rfl, rfl⟩, hS, fun _ _ => rfl⟩
    | 4, _ => exact stepV rfl rfl (execNeN (p := m) (q := n) rfl (hv 1 (by omega) _ rfl _ rfl) (hv 3 (by omega) _ rfl _ rfl)) ⟨s, ⟨_, rfl, rfl⟩, hS, fun _ _ => rfl⟩
    | k_ + 5, h_ => exact absurd h_ (by simp)
  rintro _ a X1 h1 h2 h3 h4 hS
  clear BB
  replace hS : Below V.heap.size V X1 := hS
  have BB := hS
  clear hS
  replace t0 := (h3 0 (by decide)).trans t0
  replace t1 := (h3 1 (by decide)).trans t1
  have t11 : a.eval (.tmp 11) = .bool (decide (m ≠ n)) := h4 4 _ rfl _ rfl
  replace A := (⟨h1, h2.trans A.2⟩ : a.tmps.size = 30 ∧ a.defers = [])
  clear h1 h2 h3 h4
  by_cases hmn : m = n
  · rw [decide_eq_false (fun q => q hmn)] at t11
    refine wp_cond_false t11 ?_
    refine wp_skip ?_
    clear t11
    rw [decide_eq_true hmn, Bool.true_and]
    subst hmn
    refine wp_seq ?_
    refine wp_seq ?_
    refine wp_region_sq (σ := Unit) 30 [(0, 12), (1, 13), (2, 14)] (fun j_ s X => match j_ with | 0 => Below V.heap.size V X | 1 => Below V.heap.size V X | 2 => Below V.heap.size V X | _ => Below V.heap.size V X) (fun s => fun i_ => match i_ with | 0 => .slice ja m jc | 1 => .int .i64 ((m : Nat) : Int) | 2 => .int .i64 ((0 : Nat) : Int) | _ => undef) () A.1 (by kernel_rfl) (by decide) (by decide) (BB) ?_ ?_
    · intro i_ hi_ s a X hf hv hn hS
      match i_, hi_ with
      | 0, _ => exact stepV rfl rfl (execMvB rfl ((hf 0 (by decide)).trans t0)) ⟨s, ⟨_, rfl, rfl⟩, hS, fun _ _ => rfl⟩
      | 1, _ => exact stepV rfl rfl (execLenI (len := m) rfl (hv 0 (by omega) _ rfl _ rfl) ((FJ.on hS)).shp) ⟨s, ⟨_, rfl, rfl⟩, hS, fun _ _ => rfl⟩
      | 2, _ => exact stepV rfl rfl (execMvB rfl rfl) ⟨s, ⟨_, rfl, rfl⟩, hS, fun _ _ => rfl⟩
      | k_ + 3, h_ => exact absurd h_ (by simp)
    rintro _ a X3 h1 h2 h3 h4 hS
    clear BB
    replace hS : Below V.heap.size V X3 := hS
    have BB := hS
    clear hS
    replace t1 := (h3 1 (by decide)).trans t1
    have t12 : a.eval (.tmp 12) = .slice ja m jc := h4 0 _ rfl _ rfl
    have t13 : a.eval (.tmp 13) = .int .i64 ((m : Nat) : Int) := h4 1 _ rfl _ rfl
    have t14 : a.eval (.tmp 14) = .int .i64 ((0 : Nat) : Int) := h4 2 _ rfl _ rfl
    replace A := (⟨h1, h2.trans A.2⟩ : a.tmps.size = 30 ∧ a.defers = [])
    clear h1 h2 h3 h4
    clear t0
    refine wp_block ?_
    refine wp_loop (fun a W => ∃ i : Nat, i ≤ m ∧ anyW bs ws i = false ∧ (a.tmps.size = 30 ∧ a.defers = []) ∧ a.eval (.tmp 1) = .slice ia m ic ∧ a.eval (.tmp 12) = .slice ja m jc ∧ a.eval (.tmp 13) = .int .i64 ((m : Nat) : Int) ∧ a.eval (.tmp 14) = .int .i64 ((i : Nat) : Int) ∧ Below V.heap.size V W) (fun a _ => m - (intOf (a.eval (.tmp 14))).toNat) ⟨0, Nat.zero_le _, rfl, A, t1, t12, t13, t14, BB⟩ ?_
    clear A t1 t12 t13 t14 BB a
    rintro a XL ⟨i, hi, hnw, A, t1, t12, t13, t14, BB⟩
    have e14 := t14
    refine wp_seq ?_
    refine wp_region_sq (σ := Unit) 30 [(0, 15)] (fun j_ s X => match j_ with | 0 => Below V.heap.size V X | _ => Below V.heap.size V X) (fun s => fun i_ => match i_ with | 0 => .bool (decide (i < m)) | _ => undef) () A.1 (by kernel_rfl) (by decide) (by decide) (BB) ?_ ?_
    · intro i_ hi_ s a X hf hv hn hS
      match i_, hi_ with
      | 0, _ => exact stepV rfl rfl (execLtW (p := i) (q := m) rfl ((hf 14 (by decide)).trans t14) ((hf 13 (by decide)).trans t13)) ⟨s, ⟨_, rfl, rfl⟩, hS, fun _ _ => rfl⟩
      | k_ + 1, h_ => exact absurd h_ (by simp)
    rintro _ a X4 h1 h2 h3 h4 hS
    clear BB
    replace hS : Below V.heap.size V X4 := hS
    have BB := hS
    clear hS
    replace t1 := (h3 1 (by decide)).trans t1
    replace t12 := (h3 12 (by decide)).trans t12
    replace t13 := (h3 13 (by decide)).trans t13
    replace t14 := (h3 14 (by decide)).trans t14
    have t15 : a.eval (.tmp 15) = .bool (decide (i < m)) := h4 0 _ rfl _ rfl
    replace A := (⟨h1, h2.trans A.2⟩ : a.tmps.size = 30 ∧ a.defers = [])
    clear h1 h2 h3 h4
    refine wp_seq ?_
    by_cases hlt : i < m
    · rw [decide_eq_true hlt] at t15
      refine wp_cond_true t15 ?_
      refine wp_skip ?_
      clear t15
      obtain ⟨ib, io, rfl, hib, hcell⟩ := hsh (by omega)
      obtain ⟨jb, jo, rfl, hjb, hcelj⟩ := hsj (by omega)
      have cI : ∀ X, Below V.heap.size V X → X.cell? ⟨ib, io + i, none⟩ = some (.int .i64 (bs i)) := fun X hX => by rw [cell_below hX hib]; exact hcell i hlt
      have cJ : ∀ X, Below V.heap.size V X → X.cell? ⟨jb, jo + i, none⟩ = some (.int .i64 (ws i)) := fun X hX => by rw [cell_below hX hjb]; exact hcelj i hlt
      refine wp_seq ?_
      refine wp_block ?_
      refine wp_seq ?_
      refine wp_region_sq (σ := Unit) 30 [(0, 16), (1, 17), (2, 18), (3, 5), (4, 6)] (fun j_ s X => match j_ with | 0 => Below V.heap.size V X | 1 => Below V.heap.size V X | 2 => Below V.heap.size V X | 3 => Below V.heap.size V X | 4 => Below V.heap.size V X | _ => Below V.heap.size V X) (fun s => fun i_ => match i_ with | 0 => .int .i64 ((i : Nat) : Int) | 1 => .pointer (some ⟨jb, jo + i, none⟩) | 2 => .int .i64 (ws i) | 3 => .int .i64 ((i : Nat) : Int) | 4 => .int .i64 (ws i) | _ => undef) () A.1 (by kernel_rfl) (by decide) (by decide) (BB) ?_ ?_
      · intro i_ hi_ s a X hf hv hn hS
        match i_, hi_ with
        | 0, _ => exact stepV rfl rfl (execMvB rfl ((hf 14 (by decide)).trans t14)) ⟨s, ⟨_, rfl, rfl⟩, hS, fun _ _ => rfl⟩
        | 1, _ => exact stepV rfl rfl (execIdxN (k := i) rfl ((hf 12 (by decide)).trans t12) ((hf 14 (by decide)).trans t14) hlt) ⟨s, ⟨_, rfl, rfl⟩, hS, fun _ _ => rfl⟩
        | 2, _ => exact stepV rfl rfl (execLd3 rfl (hv 1 (by omega) _ rfl _ rfl) (cJ X hS)) ⟨s, ⟨_, rfl, rfl⟩, hS, fun _ _ => rfl⟩
        | 3, _ => exact stepV rfl rfl (execAsgB rfl (hv 0 (by omega) _ rfl _ rfl)) ⟨s, ⟨_, rfl, rfl⟩, hS, fun _ _ => rfl⟩
        | 4, _ => exact stepV rfl rfl (execAsgB rfl (hv 2 (by omega) _ rfl _ rfl)) ⟨s, ⟨_, rfl, rfl⟩, hS, fun _ _ => rfl⟩
        | k_ + 5, h_ => exact absurd h_ (by simp)
      rintro _ a X5 h1 h2 h3 h4 hS
      clear BB
      replace hS : Below V.heap.size V X5 := hS
      have BB := hS
      clear hS
      replace t1 := (h3 1 (by decide)).trans t1
      replace t12 := (h3 12 (by decide)).trans t12
      replace t13 := (h3 13 (by decide)).trans t13
      replace t14 := (h3 14 (by decide)).trans t14
      have t5 : a.eval (.tmp 5) = .int .i64 ((i : Nat) : Int) := h4 3 _ rfl _ rfl
      have t6 : a.eval (.tmp 6) = .int .i64 (ws i) := h4 4 _ rfl _ rfl
      replace A := (⟨h1, h2.trans A.2⟩ : a.tmps.size = 30 ∧ a.defers = [])
      clear h1 h2 h3 h4
      by_cases h1 : ws i < 0
      · refine wp_seq ?_
        refine wp_region_sq (σ := Unit) 30 [(0, 19), (1, 20), (2, 21), (3, 22), (4, 23), (5, 24), (6, 25), (7, 26), (8, 27), (9, 28)] (fun j_ s X => match j_ with | 0 => Below V.heap.size V X | 1 => Below V.heap.size V X | 2 => Below V.heap.size V X | 3 => Below V.heap.size V X | 4 => Below V.heap.size V X | 5 => Below V.heap.size V X | 6 => Below V.heap.size V X | 7 => Below V.heap.size V X | 8 => Below V.heap.size V X | 9 => Below V.heap.size V X | _ => Below V.heap.size V X) (fun s => fun i_ => match i_ with | 0 => .int .i64 (ws i) | 1 => .bool true | 2 => .bool true | 3 => undef | 4 => undef | 5 => undef | 6 => undef | 7 => undef | 8 => undef | 9 => .bool true | _ => undef) () A.1 (by kernel_rfl) (by decide) (by decide) (BB) ?_ ?_
        · intro i_ hi_ s a X hf hv hn hS
          match i_, hi_ with
          | 0, _ => exact stepV rfl rfl (execMvB rfl ((hf 6 (by decide)).trans t6)) ⟨s, ⟨_, rfl, rfl⟩, hS, fun _ _ => rfl⟩
          | 1, _ => exact stepV rfl rfl (execLtCt (p := (ws i)) (q := 0) rfl (hv 0 (by omega) _ rfl _ rfl) (by exact h1)) ⟨s, ⟨_, rfl, rfl⟩, hS, fun _ _ => rfl⟩
          | 2, _ => exact stepV rfl rfl (execMvB rfl (hv 1 (by omega) _ rfl _ rfl)) ⟨s, ⟨_, rfl, rfl⟩, hS, fun _ _ => rfl⟩
          | 3, _ => exact stepU rfl (unwantedOf rfl (yieldedAt rfl rfl (show a.eval (.tmp 21) = .bool (!false) from (hv 2 (by omega) _ rfl _ rfl)))) ⟨s, ⟨_, rfl, rfl⟩, hS, fun _ _ => rfl⟩
          | 4, _ => exact stepU rfl (unwantedOf rfl (yieldedAt rfl rfl (show a.eval (.tmp 21) = .bool (!false) from (hv 2 (by omega) _ rfl _ rfl)))) ⟨s, ⟨_, rfl, rfl⟩, hS, fun _ _ => rfl⟩
          | 5, _ => exact stepU rfl (unwantedOf rfl (yieldedAt rfl rfl (show a.eval (.tmp 21) = .bool (!false) from (hv 2 (by omega) _ rfl _ rfl)))) ⟨s, ⟨_, rfl, rfl⟩, hS, fun _ _ => rfl⟩
          | 6, _ => exact stepU rfl (unwantedOf rfl (yieldedAt rfl rfl (show a.eval (.tmp 21) = .bool (!false) from (hv 2 (by omega) _ rfl _ rfl)))) ⟨s, ⟨_, rfl, rfl⟩, hS, fun _ _ => rfl⟩
          | 7, _ => exact stepU rfl (unwantedOf rfl (yieldedAt rfl rfl (show a.eval (.tmp 21) = .bool (!false) from (hv 2 (by omega) _ rfl _ rfl)))) ⟨s, ⟨_, rfl, rfl⟩, hS, fun _ _ => rfl⟩
          | 8, _ => exact stepU rfl (unwantedOf rfl (yieldedAt rfl rfl (show a.eval (.tmp 21) = .bool (!false) from (hv 2 (by omega) _ rfl _ rfl)))) ⟨s, ⟨_, rfl, rfl⟩, hS, fun _ _ => rfl⟩
          | 9, _ => exact stepV rfl rfl (execPickT rfl (hv 2 (by omega) _ rfl _ rfl) rfl) ⟨s, ⟨_, rfl, rfl⟩, hS, fun _ _ => rfl⟩
          | k_ + 10, h_ => exact absurd h_ (by simp)
        rintro _ a X6 h1 h2 h3 h4 hS
        clear BB
        replace hS : Below V.heap.size V X6 := hS
        have BB := hS
        clear hS
        replace t1 := (h3 1 (by decide)).trans t1
        replace t12 := (h3 12 (by decide)).trans t12
        replace t13 := (h3 13 (by decide)).trans t13
        replace t14 := (h3 14 (by decide)).trans t14
        have t28 : a.eval (.tmp 28) = .bool true := h4 9 _ rfl _ rfl
        replace A := (⟨h1, h2.trans A.2⟩ : a.tmps.size = 30 ∧ a.defers = [])
        clear h1 h2 h3 h4
        clear t5 t6
        refine wp_cond_true t28 ?_
        refine wp_seq ?_
        refine wp_region_sq (σ := Unit) 30 [(0, 4)] (fun j_ s X => match j_ with | 0 => Below V.heap.size V X | _ => Below V.heap.size V X) (fun s => fun i_ => match i_ with | 0 => .bool false | _ => undef) () A.1 (by kernel_rfl) (by decide) (by decide) (BB) ?_ ?_
        · intro i_ hi_ s a X hf hv hn hS
          match i_, hi_ with
          | 0, _ => exact stepV rfl rfl (execAsgB rfl rfl) ⟨s, ⟨_, rfl, rfl⟩, hS, fun _ _ => rfl⟩
          | k_ + 1, h_ => exact absurd h_ (by simp)
        rintro _ a X7 h1 h2 h3 h4 hS
        clear BB
        replace hS : Below V.heap.size V X7 := hS
        have BB := hS
        clear hS
        have t4 : a.eval (.tmp 4) = .bool false := h4 0 _ rfl _ rfl
        replace A := (⟨h1, h2.trans A.2⟩ : a.tmps.size = 30 ∧ a.defers = [])
        clear h1 h2 h3 h4
        clear t1 t12 t13 t14 t28
        have hyw : anyW bs ws m = true := anyW_yes hlt (Or.inl h1)
        rw [hyw]
        refine wp_ret ?_
        repeat (first | refine ret_in ?_ | refine ret_then ?_)
        refine bodyPost_ret (results_tmp rfl _ _ _) A.2 ⟨?_, BB⟩
        show Ending.returned (a.eval (.tmp 4)) = _
        rw [t4]
        rfl
      · by_cases h2 : bs i ≤ ws i
        · refine wp_seq ?_
          refine wp_region_sq (σ := Unit) 30 [(0, 19), (1, 20), (2, 21), (3, 22), (4, 23), (5, 24), (6, 25), (7, 26), (8, 27), (9, 28)] (fun j_ s X => match j_ with | 0 => Below V.heap.size V X | 1 => Below V.heap.size V X | 2 => Below V.heap.size V X | 3 => Below V.heap.size V X | 4 => Below V.heap.size V X | 5 => Below V.heap.size V X | 6 => Below V.heap.size V X | 7 => Below V.heap.size V X | 8 => Below V.heap.size V X | 9 => Below V.heap.size V X | _ => Below V.heap.size V X) (fun s => fun i_ => match i_ with | 0 => .int .i64 (ws i) | 1 => .bool false | 2 => .bool false | 3 => .int .i64 (ws i) | 4 => .slice (some ⟨ib, io, none⟩) m ic | 5 => .int .i64 ((i : Nat) : Int) | 6 => .pointer (some ⟨ib, io + i, none⟩) | 7 => .int .i64 (bs i) | 8 => .bool true | 9 => .bool true | _ => undef) () A.1 (by kernel_rfl) (by decide) (by decide) (BB) ?_ ?_
          · intro i_ hi_ s a X hf hv hn hS
            match i_, hi_ with
            | 0, _ => exact stepV rfl rfl (execMvB rfl ((hf 6 (by decide)).trans t6)) ⟨s, ⟨_, rfl, rfl⟩, hS, fun _ _ => rfl⟩
            | 1, _ => exact stepV rfl rfl (execLtCf (p := (ws i)) (q := 0) rfl (hv 0 (by omega) _ rfl _ rfl) (by exact h1)) ⟨s, ⟨_, rfl, rfl⟩, hS, fun _ _ => rfl⟩
            | 2, _ => exact stepV rfl rfl (execMvB rfl (hv 1 (by omega) _ rfl _ rfl)) ⟨s, ⟨_, rfl, rfl⟩, hS, fun _ _ => rfl⟩
            | 3, _ => exact stepV rfl (wantedOf rfl (yieldedAt rfl rfl (show a.eval (.tmp 21) = .bool false from (hv 2 (by omega) _ rfl _ rfl)))) (execMvB rfl ((hf 6 (by decide)).trans t6)) ⟨s, ⟨_, rfl, rfl⟩, hS, fun _ _ => rfl⟩
            | 4, _ => exact stepV rfl (wantedOf rfl (yieldedAt rfl rfl (show a.eval (.tmp 21) = .bool false from (hv 2 (by omega) _ rfl _ rfl)))) (execMvB rfl ((hf 1 (by decide)).trans t1)) ⟨s, ⟨_, rfl, rfl⟩, hS, fun _ _ => rfl⟩
            | 5, _ => exact stepV rfl (wantedOf rfl (yieldedAt rfl rfl (show a.eval (.tmp 21) = .bool false from (hv 2 (by omega) _ rfl _ rfl)))) (execMvB rfl ((hf 5 (by decide)).trans t5)) ⟨s, ⟨_, rfl, rfl⟩, hS, fun _ _ => rfl⟩
            | 6, _ => exact stepV rfl (wantedOf rfl (yieldedAt rfl rfl (show a.eval (.tmp 21) = .bool false from (hv 2 (by omega) _ rfl _ rfl)))) (execIdxN (k := i) rfl (hv 4 (by omega) _ rfl _ rfl) (hv 5 (by omega) _ rfl _ rfl) hlt) ⟨s, ⟨_, rfl, rfl⟩, hS, fun _ _ => rfl⟩
            | 7, _ => exact stepV rfl (wantedOf rfl (yieldedAt rfl rfl (show a.eval (.tmp 21) = .bool false from (hv 2 (by omega) _ rfl _ rfl)))) (execLd3 rfl (hv 6 (by omega) _ rfl _ rfl) (cI X hS)) ⟨s, ⟨_, rfl, rfl⟩, hS, fun _ _ => rfl⟩
            | 8, _ => exact stepV rfl (wantedOf rfl (yieldedAt rfl rfl (show a.eval (.tmp 21) = .bool false from (hv 2 (by omega) _ rfl _ rfl)))) (execGeIt rfl (hv 3 (by omega) _ rfl _ rfl) (hv 7 (by omega) _ rfl _ rfl) h2) ⟨s, ⟨_, rfl, rfl⟩, hS, fun _ _ => rfl⟩
            | 9, _ => exact stepV rfl rfl (execPickF rfl (hv 2 (by omega) _ rfl _ rfl) (hv 8 (by omega) _ rfl _ rfl)) ⟨s, ⟨_, rfl, rfl⟩, hS, fun _ _ => rfl⟩
            | k_ + 10, h_ => exact absurd h_ (by simp)
          rintro _ a X6 h1 h2 h3 h4 hS
          clear BB
          replace hS : Below V.heap.size V X6 := hS
          have BB := hS
          clear hS
          replace t1 := (h3 1 (by decide)).trans t1
          replace t12 := (h3 12 (by decide)).trans t12
          replace t13 := (h3 13 (by decide)).trans t13
          replace t14 := (h3 14 (by decide)).trans t14
          have t28 : a.eval (.tmp 28) = .bool true := h4 9 _ rfl _ rfl
          replace A := (⟨h1, h2.trans A.2⟩ : a.tmps.size = 30 ∧ a.defers = [])
          clear h1 h2 h3 h4
          clear t5 t6
          refine wp_cond_true t28 ?_
          refine wp_seq ?_
          refine wp_region_sq (σ := Unit) 30 [(0, 4)] (fun j_ s X => match j_ with | 0 => Below V.heap.size V X | _ => Below V.heap.size V X) (fun s => fun i_ => match i_ with | 0 => .bool false | _ => undef) () A.1 (by kernel_rfl) (by decide) (by decide) (BB) ?_ ?_
          · intro i_ hi_ s a X hf hv hn hS
            match i_, hi_ with
            | 0, _ => exact stepV rfl rfl (execAsgB rfl rfl) ⟨s, ⟨_, rfl, rfl⟩, hS, fun _ _ => rfl⟩
            | k_ + 1, h_ => exact absurd h_ (by simp)
          rintro _ a X7 h1 h2 h3 h4 hS
          clear BB
          replace hS : Below V.heap.size V X7 := hS
          have BB := hS
          clear hS
          have t4 : a.eval (.tmp 4) = .bool false := h4 0 _ rfl _ rfl
          replace A := (⟨h1, h2.trans A.2⟩ : a.tmps.size = 30 ∧ a.defers = [])
          clear h1 h2 h3 h4
          clear t1 t12 t13 t14 t28
          have hyw : anyW bs ws m = true := anyW_yes hlt (Or.inr h2)
          rw [hyw]
          refine wp_ret ?_
          repeat (first | refine ret_in ?_ | refine ret_then ?_)
          refine bodyPost_ret (results_tmp rfl _ _ _) A.2 ⟨?_, BB⟩
          show Ending.returned (a.eval (.tmp 4)) = _
          rw [t4]
          rfl
        · refine wp_seq ?_
          refine wp_region_sq (σ := Unit) 30 [(0, 19), (1, 20), (2, 21), (3, 22), (4, 23), (5, 24), (6, 25), (7, 26), (8, 27), (9, 28)] (fun j_ s X => match j_ with | 0 => Below V.heap.size V X | 1 => Below V.heap.size V X | 2 => Below V.heap.size V X | 3 => Below V.heap.size V X | 4 => Below V.heap.size V X | 5 => Below V.heap.size V X | 6 => Below V.heap.size V X | 7 => Below V.heap.size V X | 8 => Below V.heap.size V X | 9 => Below V.heap.size V X | _ => Below V.heap.size V X) (fun s => fun i_ => match i_ with | 0 => .int .i64 (ws i) | 1 => .bool false | 2 => .bool false | 3 => .int .i64 (ws i) | 4 => .slice (some ⟨ib, io, none⟩) m ic | 5 => .int .i64 ((i : Nat) : Int) | 6 => .pointer (some ⟨ib, io + i, none⟩) | 7 => .int .i64 (bs i) | 8 => .bool false | 9 => .bool false | _ => undef) () A.1 (by kernel_rfl) (by decide) (by decide) (BB) ?_ ?_
          · intro i_ hi_ s a X hf hv hn hS
            match i_, hi_ with
            | 0, _ => exact stepV rfl rfl (execMvB rfl ((hf 6 (by decide)).trans t6)) ⟨s, ⟨_, rfl, rfl⟩, hS, fun _ _ => rfl⟩
            | 1, _ => exact stepV rfl rfl (execLtCf (p := (ws i)) (q := 0) rfl (hv 0 (by omega) _ rfl _ rfl) (by exact h1)) ⟨s, ⟨_, rfl, rfl⟩, hS, fun _ _ => rfl⟩
            | 2, _ => exact stepV rfl rfl (execMvB rfl (hv 1 (by omega) _ rfl _ rfl)) ⟨s, ⟨_, rfl, rfl⟩, hS, fun _ _ => rfl⟩
            | 3, _ => exact stepV rfl (wantedOf rfl (yieldedAt rfl rfl (show a.eval (.tmp 21) = .bool false from (hv 2 (by omega) _ rfl _ rfl)))) (execMvB rfl ((hf 6 (by decide)).trans t6)) ⟨s, ⟨_, rfl, rfl⟩, hS, fun _ _ => rfl⟩
            | 4, _ => exact stepV rfl (wantedOf rfl (yieldedAt rfl rfl (show a.eval (.tmp 21) = .bool false from (hv 2 (by omega) _ rfl _ rfl)))) (execMvB rfl ((hf 1 (by decide)).trans t1)) ⟨s, ⟨_, rfl, rfl⟩, hS, fun _ _ => rfl⟩
            | 5, _ => exact stepV rfl (wantedOf rfl (yieldedAt rfl rfl (show a.eval (.tmp 21) = .bool false from (hv 2 (by omega) _ rfl _ rfl)))) (execMvB rfl ((hf 5 (by decide)).trans t5)) ⟨s, ⟨_, rfl, rfl⟩, hS, fun _ _ => rfl⟩
            | 6, _ => exact stepV rfl (wantedOf rfl (yieldedAt rfl rfl (show a.eval (.tmp 21) = .bool false from (hv 2 (by omega) _ rfl _ rfl)))) (execIdxN (k := i) rfl (hv 4 (by omega) _ rfl _ rfl) (hv 5 (by omega) _ rfl _ rfl) hlt) ⟨s, ⟨_, rfl, rfl⟩, hS, fun _ _ => rfl⟩
            | 7, _ => exact stepV rfl (wantedOf rfl (yieldedAt rfl rfl (show a.eval (.tmp 21) = .bool false from (hv 2 (by omega) _ rfl _ rfl)))) (execLd3 rfl (hv 6 (by omega) _ rfl _ rfl) (cI X hS)) ⟨s, ⟨_, rfl, rfl⟩, hS, fun _ _ => rfl⟩
            | 8, _ => exact stepV rfl (wantedOf rfl (yieldedAt rfl rfl (show a.eval (.tmp 21) = .bool false from (hv 2 (by omega) _ rfl _ rfl)))) (execGeIf rfl (hv 3 (by omega) _ rfl _ rfl) (hv 7 (by omega) _ rfl _ rfl) h2) ⟨s, ⟨_, rfl, rfl⟩, hS, fun _ _ => rfl⟩
            | 9, _ => exact stepV rfl rfl (execPickF rfl (hv 2 (by omega) _ rfl _ rfl) (hv 8 (by omega) _ rfl _ rfl)) ⟨s, ⟨_, rfl, rfl⟩, hS, fun _ _ => rfl⟩
            | k_ + 10, h_ => exact absurd h_ (by simp)
          rintro _ a X6 h1 h2 h3 h4 hS
          clear BB
          replace hS : Below V.heap.size V X6 := hS
          have BB := hS
          clear hS
          replace t1 := (h3 1 (by decide)).trans t1
          replace t12 := (h3 12 (by decide)).trans t12
          replace t13 := (h3 13 (by decide)).trans t13
          replace t14 := (h3 14 (by decide)).trans t14
          have t28 : a.eval (.tmp 28) = .bool false := h4 9 _ rfl _ rfl
          replace A := (⟨h1, h2.trans A.2⟩ : a.tmps.size = 30 ∧ a.defers = [])
          clear h1 h2 h3 h4
          clear t5 t6
          refine wp_cond_false t28 ?_
          refine wp_skip ?_
          clear t28
          refine wp_region_sq (σ := Unit) 30 [(0, 29), (1, 14)] (fun j_ s X => match j_ with | 0 => Below V.heap.size V X | 1 => Below V.heap.size V X | _ => Below V.heap.size V X) (fun s => fun i_ => match i_ with | 0 => .int .i64 ((i + 1 : Nat) : Int) | 1 => .int .i64 ((i + 1 : Nat) : Int) | _ => undef) () A.1 (by kernel_rfl) (by decide) (by decide) (BB) ?_ ?_
          · intro i_ hi_ s a X hf hv hn hS
            match i_, hi_ with
            | 0, _ => exact stepV rfl rfl (execAd8 (p := i) (q := 1) rfl ((hn 1 (by omega) _ rfl _ rfl).trans t14) rfl (by omega)) ⟨s, ⟨_, rfl, rfl⟩, hS, fun _ _ => rfl⟩
            | 1, _ => exact stepV rfl rfl (execMvB rfl (hv 0 (by omega) _ rfl _ rfl)) ⟨s, ⟨_, rfl, rfl⟩, hS, fun _ _ => rfl⟩
            | k_ + 2, h_ => exact absurd h_ (by simp)
          rintro _ a X8 h1 h2 h3 h4 hS
          clear BB
          replace hS : Below V.heap.size V X8 := hS
          have BB := hS
          clear hS
          replace t1 := (h3 1 (by decide)).trans t1
          replace t12 := (h3 12 (by decide)).trans t12
          replace t13 := (h3 13 (by decide)).trans t13
          replace t14 : a.eval (.tmp 14) = .int .i64 ((i + 1 : Nat) : Int) := h4 1 _ rfl _ rfl
          replace A := (⟨h1, h2.trans A.2⟩ : a.tmps.size = 30 ∧ a.defers = [])
          clear h1 h2 h3 h4
          exact ⟨⟨i + 1, hlt, by simp only [anyW, hnw, Bool.false_or, decide_eq_false_iff_not]; omega, A, t1, t12, t13, t14, BB⟩, by show m - (intOf (a.eval (.tmp 14))).toNat < m - (intOf (Act.eval _ (.tmp 14))).toNat; rw [t14, e14]; show m - (i + 1) < m - i; omega⟩
    · rw [decide_eq_false hlt] at t15
      refine wp_cond_false t15 ?_
      refine wp_exit ?_
      first | refine exit_in ?_ | refine exit_then (exit_in ?_) | refine exit_then (exit_then (exit_in ?_))
      clear t15
      have hin : i = m := by omega
      rw [hin] at hnw
      rw [hnw]
      refine wp_seq ?_
      refine wp_region_sq (σ := Unit) 30 [(0, 4)] (fun j_ s X => match j_ with | 0 => Below V.heap.size V X | _ => Below V.heap.size V X) (fun s => fun i_ => match i_ with | 0 => .bool true | _ => undef) () A.1 (by kernel_rfl) (by decide) (by decide) (BB) ?_ ?_
      · intro i_ hi_ s a X hf hv hn hS
        match i_, hi_ with
        | 0, _ => exact stepV rfl rfl (execAsgB rfl rfl) ⟨s, ⟨_, rfl, rfl⟩, hS, fun _ _ => rfl⟩
        | k_ + 1, h_ => exact absurd h_ (by simp)
      rintro _ a X9 h1 h2 h3 h4 hS
      clear BB
      replace hS : Below V.heap.size V X9 := hS
      have BB := hS
      clear hS
      have t4 : a.eval (.tmp 4) = .bool true := h4 0 _ rfl _ rfl
      replace A := (⟨h1, h2.trans A.2⟩ : a.tmps.size = 30 ∧ a.defers = [])
      clear h1 h2 h3 h4
      clear t1 t12 t13 t14
      refine wp_ret ?_
      repeat (first | refine ret_in ?_ | refine ret_then ?_)
      refine bodyPost_ret (results_tmp rfl _ _ _) A.2 ⟨?_, BB⟩
      show Ending.returned (a.eval (.tmp 4)) = _
      rw [t4]
      rfl
  · rw [decide_eq_true hmn] at t11
    refine wp_cond_true t11 ?_
    refine wp_seq ?_
    refine wp_region_sq (σ := Unit) 30 [(0, 4)] (fun j_ s X => match j_ with | 0 => Below V.heap.size V X | _ => Below V.heap.size V X) (fun s => fun i_ => match i_ with | 0 => .bool false | _ => undef) () A.1 (by kernel_rfl) (by decide) (by decide) (BB) ?_ ?_
    · intro i_ hi_ s a X hf hv hn hS
      match i_, hi_ with
      | 0, _ => exact stepV rfl rfl (execAsgB rfl rfl) ⟨s, ⟨_, rfl, rfl⟩, hS, fun _ _ => rfl⟩
      | k_ + 1, h_ => exact absurd h_ (by simp)
    rintro _ a X2 h1 h2 h3 h4 hS
    clear BB
    replace hS : Below V.heap.size V X2 := hS
    have BB := hS
    clear hS
    have t4 : a.eval (.tmp 4) = .bool false := h4 0 _ rfl _ rfl
    replace A := (⟨h1, h2.trans A.2⟩ : a.tmps.size = 30 ∧ a.defers = [])
    clear h1 h2 h3 h4
    clear t0 t1
    rw [decide_eq_false hmn]
    refine wp_ret ?_
    repeat (first | refine ret_in ?_ | refine ret_then ?_)
    refine bodyPost_ret (results_tmp rfl _ _ _) A.2 ⟨?_, BB⟩
    show Ending.returned (a.eval (.tmp 4)) = _
    rw [t4]
    rfl
end Go.Proofs.Ytpclecbhfjalnaa.Drw
