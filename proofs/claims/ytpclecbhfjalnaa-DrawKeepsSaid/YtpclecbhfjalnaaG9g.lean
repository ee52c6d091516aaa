import Derived.Test.YtpclecbhfjalnaaG9f
namespace Go.Proofs.Ytpclecbhfjalnaa.Drw
open Go.RowKit Gf8 Aes By8 Cel Cf Tap
/- The law's same. Written by tools/mkG9g.py. -/

set_option maxRecDepth 100000 in
set_option maxHeartbeats 4000000 in
theorem sameI (f g : Nat → Int) (n : Nat) (v u : Value) (V : World) (hv : SliceI V v n f) (hu : SliceI V u n g) (he : ∀ i, i < n → f i = g i) (hn17 : n ≤ 17592186044416) :
    Calls Try.prog 18 #[v, u] V fun e w' => e = .returned (.bool true) ∧ Below V.heap.size V w' := by
  obtain ⟨ia, ic, rfl, -, -, hsh⟩ := id hv.shape
  obtain ⟨ja, jc, rfl, -, -, hsj⟩ := id hu.shape
  have FI := hv
  have FJ := hu
  go_enter Try.func18, Try.ntmps18
  refine wp_seq ?_
  refine wp_region_sqK 26 [(0, 4)] (fun i_ => match i_ with | 0 => .bool false | _ => undef) rfl (by kernel_rfl) (by decide) (by decide) ?_ ?_
  · intro i_ hi_ a hf hv hn
    match i_, hi_ with
    | 0, _ => exact stepV rfl rfl (execAsgB rfl rfl) ⟨⟨_, rfl, rfl⟩, rfl⟩
    | k_ + 1, h_ => exact absurd h_ (by simp)
  intro a h1 h2 h3 h4
  have t0 : a.eval (.tmp 0) = .slice ia n ic := (h3 0 (by decide)).trans rfl
  have t1 : a.eval (.tmp 1) = .slice ja n jc := (h3 1 (by decide)).trans rfl
  have A : a.tmps.size = 26 ∧ a.defers = [] := ⟨h1, h2⟩
  have BW : Below V.heap.size V V := Below.refl _ _
  clear h1 h2 h3 h4
  have BB := BW
  refine wp_seq ?_
  refine wp_seq ?_
  refine wp_region_sq (σ := Unit) 26 [(0, 6), (1, 7), (2, 8), (3, 9), (4, 10)] (fun j_ s X => match j_ with | 0 => Below V.heap.size V X | 1 => Below V.heap.size V X | 2 => Below V.heap.size V X | 3 => Below V.heap.size V X | 4 => Below V.heap.size V X | _ => Below V.heap.size V X) (fun s => fun i_ => match i_ with | 0 => .slice ia n ic | 1 => .int .i64 ((n : Nat) : Int) | 2 => .slice ja n jc | 3 => .int .i64 ((n : Nat) : Int) | 4 => .bool false | _ => undef) () A.1 (by kernel_rfl) (by decide) (by decide) (BB) ?_ ?_
  · intro i_ hi_ s a X hf hv hn hS
    match i_, hi_ with
    | 0, _ => exact stepV rfl rfl (execMvB rfl ((hf 0 (by decide)).trans t0)) ⟨s, ⟨_, rfl, rfl⟩, hS, fun _ _ => rfl⟩
    | 1, _ => exact stepV rfl rfl (execLenI (len := n) rfl (hv 0 (by omega) _ rfl _ rfl) ((FI.on hS)).shp) ⟨s, ⟨_, rfl, rfl⟩, hS, fun _ _ => rfl⟩
    | 2, _ => exact stepV rfl rfl (execMvB rfl ((hf 1 (by decide)).trans t1)) ⟨s, ⟨_, rfl, rfl⟩, hS, fun _ _ => rfl⟩
    | 3, _ => exact stepV rfl rfl (execLenI (len := n) rfl (hv 2 (by omega) _ rfl _ rfl) ((FJ.on hS)).shp) ⟨s, ⟨_, rfl, rfl⟩, hS, fun _ _ => rfl⟩
    | 4, _ => exact stepV rfl rfl (execDec (execNeN (p := n) (q := n) rfl (hv 1 (by omega) _ rfl _ rfl) (hv 3 (by omega) _ rfl _ rfl)) (decide_eq_false (by omega))) ⟨s, ⟨_, rfl, rfl⟩, hS, fun _ _ => rfl⟩
    | k_ + 5, h_ => exact absurd h_ (by simp)
  rintro _ a X1 h1 h2 h3 h4 hS
  clear BB
  replace hS : Below V.heap.size V X1 := hS
  have BB := hS
  clear hS
  replace t0 := (h3 0 (by decide)).trans t0
  replace t1 := (h3 1 (by decide)).trans t1
  have t10 : a.eval (.tmp 10) = .bool false := h4 4 _ rfl _ rfl
  replace A := (⟨h1, h2.trans A.2⟩ : a.tmps.size = 26 ∧ a.defers = [])
  clear h1 h2 h3 h4
  refine wp_cond_false t10 ?_
  refine wp_skip ?_
  clear t10
  refine wp_seq ?_
  refine wp_seq ?_
  refine wp_region_sq (σ := Unit) 26 [(0, 5)] (fun j_ s X => match j_ with | 0 => Below V.heap.size V X | _ => Below V.heap.size V X) (fun s => fun i_ => match i_ with | 0 => .int .i64 ((0 : Nat) : Int) | _ => undef) () A.1 (by kernel_rfl) (by decide) (by decide) (BB) ?_ ?_
  · intro i_ hi_ s a X hf hv hn hS
    match i_, hi_ with
    | 0, _ => exact stepV rfl rfl (execAsgB rfl rfl) ⟨s, ⟨_, rfl, rfl⟩, hS, fun _ _ => rfl⟩
    | k_ + 1, h_ => exact absurd h_ (by simp)
  rintro _ a X3 h1 h2 h3 h4 hS
  clear BB
  replace hS : Below V.heap.size V X3 := hS
  have BB := hS
  clear hS
  replace t0 := (h3 0 (by decide)).trans t0
  replace t1 := (h3 1 (by decide)).trans t1
  have t5 : a.eval (.tmp 5) = .int .i64 ((0 : Nat) : Int) := h4 0 _ rfl _ rfl
  replace A := (⟨h1, h2.trans A.2⟩ : a.tmps.size = 26 ∧ a.defers = [])
  clear h1 h2 h3 h4
  refine wp_block ?_
  refine wp_loop (fun a W => ∃ i : Nat, i ≤ n ∧ (a.tmps.size = 26 ∧ a.defers = []) ∧ a.eval (.tmp 0) = .slice ia n ic ∧ a.eval (.tmp 1) = .slice ja n jc ∧ a.eval (.tmp 5) = .int .i64 ((i : Nat) : Int) ∧ Below V.heap.size V W) (fun a _ => n - (intOf (a.eval (.tmp 5))).toNat) ⟨0, Nat.zero_le _, A, t0, t1, t5, BB⟩ ?_
  clear A t0 t1 t5 BB a
  rintro a XL ⟨i, hi, A, t0, t1, t5, BB⟩
  have e5 := t5
  refine wp_seq ?_
  refine wp_seq ?_
  refine wp_region_sq (σ := Unit) 26 [(0, 11), (1, 12), (2, 13), (3, 14)] (fun j_ s X => match j_ with | 0 => Below V.heap.size V X | 1 => Below V.heap.size V X | 2 => Below V.heap.size V X | 3 => Below V.heap.size V X | _ => Below V.heap.size V X) (fun s => fun i_ => match i_ with | 0 => .int .i64 ((i : Nat) : Int) | 1 => .slice ia n ic | 2 => .int .i64 ((n : Nat) : Int) | 3 => .bool (decide (i < n)) | _ => undef) () A.1 (by kernel_rfl) (by decide) (by decide) (BB) ?_ ?_
  · intro i_ hi_ s a X hf hv hn hS
    match i_, hi_ with
    | 0, _ => exact stepV rfl rfl (execMvB rfl ((hf 5 (by decide)).trans t5)) ⟨s, ⟨_, rfl, rfl⟩, hS, fun _ _ => rfl⟩
    | 1, _ => exact stepV rfl rfl (execMvB rfl ((hf 0 (by decide)).trans t0)) ⟨s, ⟨_, rfl, rfl⟩, hS, fun _ _ => rfl⟩
    | 2, _ => exact stepV rfl rfl (execLenI (len := n) rfl (hv 1 (by omega) _ rfl _ rfl) ((FI.on hS)).shp) ⟨s, ⟨_, rfl, rfl⟩, hS, fun _ _ => rfl⟩
    | 3, _ => exact stepV rfl rfl (execLtW (p := i) (q := n) rfl (hv 0 (by omega) _ rfl _ rfl) (hv 2 (by omega) _ rfl _ rfl)) ⟨s, ⟨_, rfl, rfl⟩, hS, fun _ _ => rfl⟩
    | k_ + 4, h_ => exact absurd h_ (by simp)
  rintro _ a X4 h1 h2 h3 h4 hS
  clear BB
  replace hS : Below V.heap.size V X4 := hS
  have BB := hS
  clear hS
  replace t0 := (h3 0 (by decide)).trans t0
  replace t1 := (h3 1 (by decide)).trans t1
  replace t5 := (h3 5 (by decide)).trans t5
  have t14 : a.eval (.tmp 14) = .bool (decide (i < n)) := h4 3 _ rfl _ rfl
  replace A := (⟨h1, h2.trans A.2⟩ : a.tmps.size = 26 ∧ a.defers = [])
  clear h1 h2 h3 h4
  by_cases hlt : i < n
  · rw [decide_eq_true hlt] at t14
    refine wp_cond_true t14 ?_
    refine wp_skip ?_
    clear t14
    obtain ⟨ib, io, rfl, hib, hcell⟩ := hsh (by omega)
    obtain ⟨jb, jo, rfl, hjb, hcelj⟩ := hsj (by omega)
    have cI : ∀ X, Below V.heap.size V X → X.cell? ⟨ib, io + i, none⟩ = some (.int .i64 (f i)) := fun X hX => by rw [cell_below hX hib]; exact hcell i hlt
    have cJ : ∀ X, Below V.heap.size V X → X.cell? ⟨jb, jo + i, none⟩ = some (.int .i64 (f i)) := fun X hX => by rw [cell_below hX hjb, he i hlt]; exact hcelj i hlt
    refine wp_seq ?_
    refine wp_block ?_
    refine wp_seq ?_
    refine wp_region_detA 26 [(0, 17), (1, 18), (2, 19), (3, 20), (4, 21), (5, 22), (6, 23), (7, 24), (8, 25)] (fun i_ => match i_ with | 0 => .slice (some ⟨ib, io, none⟩) n ic | 1 => .int .i64 ((i : Nat) : Int) | 2 => .pointer (some ⟨ib, io + i, none⟩) | 3 => .int .i64 (f i) | 4 => .slice (some ⟨jb, jo, none⟩) n jc | 5 => .int .i64 ((i : Nat) : Int) | 6 => .pointer (some ⟨jb, jo + i, none⟩) | 7 => .int .i64 (f i) | 8 => .bool false | _ => undef) (fun _ X => Below V.heap.size V X) (by kernel_rfl) (by kernel_rfl) A.1 (by kernel_rfl) (by decide) (by decide) BB.drew ?_ ?_
    · intro i_ hi_ l_ a X hl_ hf hdep hl2 hcl hno hT
      match i_, hi_ with
      | 0, _ => exact stepV rfl rfl (execMvB rfl ((hf 0 (by decide)).trans t0)) ⟨⟨_, rfl, rfl⟩, hT⟩
      | 1, _ => exact stepV rfl rfl (execMvB rfl ((hf 5 (by decide)).trans t5)) ⟨⟨_, rfl, rfl⟩, hT⟩
      | 2, _ => exact stepV rfl rfl (execIdxN (k := i) rfl (hdep _ rfl 0 rfl _ rfl _ rfl) (hdep _ rfl 1 rfl _ rfl _ rfl) hlt) ⟨⟨_, rfl, rfl⟩, hT⟩
      | 3, _ => exact stepV rfl rfl (execLd3 rfl (hdep _ rfl 2 rfl _ rfl _ rfl) (cI X hT)) ⟨⟨_, rfl, rfl⟩, hT⟩
      | 4, _ => exact stepV rfl rfl (execMvB rfl ((hf 1 (by decide)).trans t1)) ⟨⟨_, rfl, rfl⟩, hT⟩
      | 5, _ => exact stepV rfl rfl (execMvB rfl ((hf 5 (by decide)).trans t5)) ⟨⟨_, rfl, rfl⟩, hT⟩
      | 6, _ => exact stepV rfl rfl (execIdxN (k := i) rfl (hdep _ rfl 4 rfl _ rfl _ rfl) (hdep _ rfl 5 rfl _ rfl _ rfl) hlt) ⟨⟨_, rfl, rfl⟩, hT⟩
      | 7, _ => exact stepV rfl rfl (execLd3 rfl (hdep _ rfl 6 rfl _ rfl _ rfl) (cJ X hT)) ⟨⟨_, rfl, rfl⟩, hT⟩
      | 8, _ => exact stepV rfl rfl (execNeI rfl (hdep _ rfl 3 rfl _ rfl _ rfl) (hdep _ rfl 7 rfl _ rfl _ rfl)) ⟨⟨_, rfl, rfl⟩, hT⟩
      | k_ + 9, h_ => exact absurd h_ (by simp)
    intro l_ a X6 h1 h2 h3 h4 hall hT
    clear hall
    clear BB
    have BB := hT
    clear hT
    replace t0 := (h3 0 (by decide)).trans t0
    replace t1 := (h3 1 (by decide)).trans t1
    replace t5 := (h3 5 (by decide)).trans t5
    have t25 : a.eval (.tmp 25) = .bool false := h4 (8, 25) (by decide)
    replace A := (⟨h1, h2.trans A.2⟩ : a.tmps.size = 26 ∧ a.defers = [])
    clear h1 h2 h3 h4
    refine wp_cond_false t25 ?_
    refine wp_skip ?_
    clear t25
    refine wp_region_sq (σ := Unit) 26 [(0, 15), (1, 16), (2, 5)] (fun j_ s X => match j_ with | 0 => Below V.heap.size V X | 1 => Below V.heap.size V X | 2 => Below V.heap.size V X | _ => Below V.heap.size V X) (fun s => fun i_ => match i_ with | 0 => .int .i64 ((i : Nat) : Int) | 1 => .int .i64 ((i + 1 : Nat) : Int) | 2 => .int .i64 ((i + 1 : Nat) : Int) | _ => undef) () A.1 (by kernel_rfl) (by decide) (by decide) (BB) ?_ ?_
    · intro i_ hi_ s a X hf hv hn hS
      match i_, hi_ with
      | 0, _ => exact stepV rfl rfl (execMvB rfl ((hn 2 (by omega) _ rfl _ rfl).trans t5)) ⟨s, ⟨_, rfl, rfl⟩, hS, fun _ _ => rfl⟩
      | 1, _ => exact stepV rfl rfl (execAd8 (p := i) (q := 1) rfl (hv 0 (by omega) _ rfl _ rfl) rfl (by omega)) ⟨s, ⟨_, rfl, rfl⟩, hS, fun _ _ => rfl⟩
      | 2, _ => exact stepV rfl rfl (execAsgB rfl (hv 1 (by omega) _ rfl _ rfl)) ⟨s, ⟨_, rfl, rfl⟩, hS, fun _ _ => rfl⟩
      | k_ + 3, h_ => exact absurd h_ (by simp)
    rintro _ a X5 h1 h2 h3 h4 hS
    clear BB
    replace hS : Below V.heap.size V X5 := hS
    have BB := hS
    clear hS
    replace t0 := (h3 0 (by decide)).trans t0
    replace t1 := (h3 1 (by decide)).trans t1
    replace t5 : a.eval (.tmp 5) = .int .i64 ((i + 1 : Nat) : Int) := h4 2 _ rfl _ rfl
    replace A := (⟨h1, h2.trans A.2⟩ : a.tmps.size = 26 ∧ a.defers = [])
    clear h1 h2 h3 h4
    exact ⟨⟨i + 1, hlt, A, t0, t1, t5, BB⟩, by show n - (intOf (a.eval (.tmp 5))).toNat < n - (intOf (Act.eval _ (.tmp 5))).toNat; rw [t5, e5]; show n - (i + 1) < n - i; omega⟩
  · rw [decide_eq_false hlt] at t14
    refine wp_cond_false t14 ?_
    refine wp_exit ?_
    first | refine exit_in ?_ | refine exit_then (exit_in ?_) | refine exit_then (exit_then (exit_in ?_))
    clear t14
    refine wp_seq ?_
    refine wp_region_sq (σ := Unit) 26 [(0, 4)] (fun j_ s X => match j_ with | 0 => Below V.heap.size V X | _ => Below V.heap.size V X) (fun s => fun i_ => match i_ with | 0 => .bool true | _ => undef) () A.1 (by kernel_rfl) (by decide) (by decide) (BB) ?_ ?_
    · intro i_ hi_ s a X hf hv hn hS
      match i_, hi_ with
      | 0, _ => exact stepV rfl rfl (execAsgB rfl rfl) ⟨s, ⟨_, rfl, rfl⟩, hS, fun _ _ => rfl⟩
      | k_ + 1, h_ => exact absurd h_ (by simp)
    rintro _ a X8 h1 h2 h3 h4 hS
    clear BB
    replace hS : Below V.heap.size V X8 := hS
    have BB := hS
    clear hS
    have t4 : a.eval (.tmp 4) = .bool true := h4 0 _ rfl _ rfl
    replace A := (⟨h1, h2.trans A.2⟩ : a.tmps.size = 26 ∧ a.defers = [])
    clear h1 h2 h3 h4
    clear t0 t1 t5
    refine wp_ret ?_
    repeat (first | refine ret_in ?_ | refine ret_then ?_)
    refine bodyPost_ret (results_tmp rfl _ _ _) A.2 ⟨?_, BB⟩
    show Ending.returned (a.eval (.tmp 4)) = _
    rw [t4]
end Go.Proofs.Ytpclecbhfjalnaa.Drw
