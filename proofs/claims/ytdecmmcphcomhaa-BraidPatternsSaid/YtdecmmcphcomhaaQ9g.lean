import Derived.Test.YtdecmmcphcomhaaQ9f
namespace Go.Proofs.Ytdecmmcphcomhaa.Brd
open Go.RowKit Gf8 Aes By8 Cel Cf Tap Drw Prm
/- Stage 12's reference: Sizes, total. Written by tools/mkQ9g.py. -/

/-- The first k are sizes. -/
def okS (s : Nat → Int) : Nat → Bool
  | 0 => true
  | k + 1 => okS s k && decide (0 ≤ s k ∧ s k ≤ 256 - (sumN (gN s) k : Int))
theorem okS_iff {s : Nat → Int} : ∀ {k}, okS s k = true ↔ ∀ j, j < k → 0 ≤ s j ∧ s j ≤ 256 - (sumN (gN s) j : Int)
  | 0 => ⟨fun _ j hj => absurd hj (Nat.not_lt_zero _), fun _ => rfl⟩
  | k + 1 => by
    unfold okS
    rw [Bool.and_eq_true, decide_eq_true_eq, okS_iff]
    refine ⟨fun h j hj => ?_, fun h => ⟨fun j hj => h j (by omega), h k (by omega)⟩⟩
    by_cases e : j = k
    · subst e; exact h.2
    · exact h.1 j (by omega)
theorem okS_succ {s : Nat → Int} {i : Nat} (h : okS s i = true) (e : 0 ≤ s i ∧ s i ≤ 256 - (sumN (gN s) i : Int)) : okS s (i + 1) = true := by
  show (okS s i && decide (0 ≤ s i ∧ s i ≤ 256 - (sumN (gN s) i : Int))) = true
  rw [h, decide_eq_true e]
  rfl
theorem okS_bad {s : Nat → Int} {i n : Nat} (hi : i < n) (e : ¬ (0 ≤ s i ∧ s i ≤ 256 - (sumN (gN s) i : Int))) : ¬ okS s n = true := fun q => e (okS_iff.1 q i hi)
/-- The sizes' total; -1 where they are none. -/
def toT (s : Nat → Int) (J : Nat) : Int := if (1 ≤ J ∧ J ≤ 64) ∧ okS s J = true then (sumN (gN s) J : Int) else -1
set_option maxRecDepth 100000 in
set_option maxHeartbeats 4000000 in
/-- The reference's total. -/
theorem rtotal (sf : Nat → Int) (J : Nat) (v : Value) (V : World) (hv : SliceI V v J sf) (hJ17 : J ≤ 17592186044416) :
    Calls Try.prog 29 #[v] V fun e w' => e = .returned (.int .i64 (toT sf J)) ∧ Below V.heap.size V w' := by
  obtain ⟨ia, ic, rfl, -, -, hsh⟩ := id hv.shape
  have FI := hv
  go_enter Try.func29, Try.ntmps29
  refine wp_seq ?_
  refine wp_region_sqK 40 [(0, 2)] (fun i_ => match i_ with | 0 => .int .i64 ((0 : Nat) : Int) | _ => undef) rfl (by kernel_rfl) (by decide) (by decide) ?_ ?_
  · intro i_ hi_ a hf hv hn
    match i_, hi_ with
    | 0, _ => exact stepV rfl rfl (execAsgB rfl rfl) ⟨⟨_, rfl, rfl⟩, rfl⟩
    | k_ + 1, h_ => exact absurd h_ (by simp)
  intro a h1 h2 h3 h4
  have t0 : a.eval (.tmp 0) = .slice ia J ic := (h3 0 (by decide)).trans rfl
  have A : a.tmps.size = 40 ∧ a.defers = [] := ⟨h1, h2⟩
  have BW : Below V.heap.size V V := Below.refl _ _
  clear h1 h2 h3 h4
  have BB := BW
  refine wp_seq ?_
  refine wp_seq ?_
  by_cases ha : J < 1
  · refine wp_region_sq (σ := Unit) 40 [(0, 5), (1, 6), (2, 7), (3, 8), (4, 9), (5, 10), (6, 11), (7, 12)] (fun j_ s X => match j_ with | 0 => Below V.heap.size V X | 1 => Below V.heap.size V X | 2 => Below V.heap.size V X | 3 => Below V.heap.size V X | 4 => Below V.heap.size V X | 5 => Below V.heap.size V X | 6 => Below V.heap.size V X | 7 => Below V.heap.size V X | _ => Below V.heap.size V X) (fun s => fun i_ => match i_ with | 0 => .slice ia J ic | 1 => .int .i64 ((J : Nat) : Int) | 2 => .bool true | 3 => .bool true | 4 => undef | 5 => undef | 6 => undef | 7 => .bool true | _ => undef) () A.1 (by kernel_rfl) (by decide) (by decide) (BB) ?_ ?_
    · intro i_ hi_ s a X hf hv hn hS
      match i_, hi_ with
      | 0, _ => exact stepV rfl rfl (execMvB rfl ((hf 0 (by decide)).trans t0)) ⟨s, ⟨_, rfl, rfl⟩, hS, fun _ _ => rfl⟩
      | 1, _ => exact stepV rfl rfl (execLenI (len := J) rfl (hv 0 (by omega) _ rfl _ rfl) ((FI.on hS)).shp) ⟨s, ⟨_, rfl, rfl⟩, hS, fun _ _ => rfl⟩
      | 2, _ => exact stepV rfl rfl (execDec (execLtW (p := J) (q := 1) rfl (hv 1 (by omega) _ rfl _ rfl) rfl) (decide_eq_true (by omega))) ⟨s, ⟨_, rfl, rfl⟩, hS, fun _ _ => rfl⟩
      | 3, _ => exact stepV rfl rfl (execMvB rfl (hv 2 (by omega) _ rfl _ rfl)) ⟨s, ⟨_, rfl, rfl⟩, hS, fun _ _ => rfl⟩
      | 4, _ => exact stepU rfl (unwantedOf rfl (yieldedAt rfl rfl (show a.eval (.tmp 8) = .bool (!false) from (hv 3 (by omega) _ rfl _ rfl)))) ⟨s, ⟨_, rfl, rfl⟩, hS, fun _ _ => rfl⟩
      | 5, _ => exact stepU rfl (unwantedOf rfl (yieldedAt rfl rfl (show a.eval (.tmp 8) = .bool (!false) from (hv 3 (by omega) _ rfl _ rfl)))) ⟨s, ⟨_, rfl, rfl⟩, hS, fun _ _ => rfl⟩
      | 6, _ => exact stepU rfl (unwantedOf rfl (yieldedAt rfl rfl (show a.eval (.tmp 8) = .bool (!false) from (hv 3 (by omega) _ rfl _ rfl)))) ⟨s, ⟨_, rfl, rfl⟩, hS, fun _ _ => rfl⟩
      | 7, _ => exact stepV rfl rfl (execPickT rfl (hv 3 (by omega) _ rfl _ rfl) rfl) ⟨s, ⟨_, rfl, rfl⟩, hS, fun _ _ => rfl⟩
      | k_ + 8, h_ => exact absurd h_ (by simp)
    rintro _ a X1 h1 h2 h3 h4 hS
    clear BB
    replace hS : Below V.heap.size V X1 := hS
    have BB := hS
    clear hS
    replace t0 := (h3 0 (by decide)).trans t0
    have t12 : a.eval (.tmp 12) = .bool true := h4 7 _ rfl _ rfl
    replace A := (⟨h1, h2.trans A.2⟩ : a.tmps.size = 40 ∧ a.defers = [])
    clear h1 h2 h3 h4
    refine wp_cond_true t12 ?_
    refine wp_seq ?_
    refine wp_region_sq (σ := Unit) 40 [(0, 2)] (fun j_ s X => match j_ with | 0 => Below V.heap.size V X | _ => Below V.heap.size V X) (fun s => fun i_ => match i_ with | 0 => .int .i64 (-1) | _ => undef) () A.1 (by kernel_rfl) (by decide) (by decide) (BB) ?_ ?_
    · intro i_ hi_ s a X hf hv hn hS
      match i_, hi_ with
      | 0, _ => exact stepV rfl rfl (execAsgB rfl rfl) ⟨s, ⟨_, rfl, rfl⟩, hS, fun _ _ => rfl⟩
      | k_ + 1, h_ => exact absurd h_ (by simp)
    rintro _ a X2 h1 h2 h3 h4 hS
    clear BB
    replace hS : Below V.heap.size V X2 := hS
    have BB := hS
    clear hS
    have t2 : a.eval (.tmp 2) = .int .i64 (-1) := h4 0 _ rfl _ rfl
    replace A := (⟨h1, h2.trans A.2⟩ : a.tmps.size = 40 ∧ a.defers = [])
    clear h1 h2 h3 h4
    clear t0
    have hE : toT sf J = -1 := if_neg (fun q => by omega)
    rw [hE]
    refine wp_ret ?_
    repeat (first | refine ret_in ?_ | refine ret_then ?_)
    refine bodyPost_ret (results_tmp rfl _ _ _) A.2 ⟨?_, BB⟩
    show Ending.returned (a.eval (.tmp 2)) = _
    rw [t2]
  · by_cases hb : 64 < J
    · refine wp_region_sq (σ := Unit) 40 [(0, 5), (1, 6), (2, 7), (3, 8), (4, 9), (5, 10), (6, 11), (7, 12)] (fun j_ s X => match j_ with | 0 => Below V.heap.size V X | 1 => Below V.heap.size V X | 2 => Below V.heap.size V X | 3 => Below V.heap.size V X | 4 => Below V.heap.size V X | 5 => Below V.heap.size V X | 6 => Below V.heap.size V X | 7 => Below V.heap.size V X | _ => Below V.heap.size V X) (fun s => fun i_ => match i_ with | 0 => .slice ia J ic | 1 => .int .i64 ((J : Nat) : Int) | 2 => .bool false | 3 => .bool false | 4 => .slice ia J ic | 5 => .int .i64 ((J : Nat) : Int) | 6 => .bool true | 7 => .bool true | _ => undef) () A.1 (by kernel_rfl) (by decide) (by decide) (BB) ?_ ?_
      · intro i_ hi_ s a X hf hv hn hS
        match i_, hi_ with
        | 0, _ => exact stepV rfl rfl (execMvB rfl ((hf 0 (by decide)).trans t0)) ⟨s, ⟨_, rfl, rfl⟩, hS, fun _ _ => rfl⟩
        | 1, _ => exact stepV rfl rfl (execLenI (len := J) rfl (hv 0 (by omega) _ rfl _ rfl) ((FI.on hS)).shp) ⟨s, ⟨_, rfl, rfl⟩, hS, fun _ _ => rfl⟩
        | 2, _ => exact stepV rfl rfl (execDec (execLtW (p := J) (q := 1) rfl (hv 1 (by omega) _ rfl _ rfl) rfl) (decide_eq_false (by omega))) ⟨s, ⟨_, rfl, rfl⟩, hS, fun _ _ => rfl⟩
        | 3, _ => exact stepV rfl rfl (execMvB rfl (hv 2 (by omega) _ rfl _ rfl)) ⟨s, ⟨_, rfl, rfl⟩, hS, fun _ _ => rfl⟩
        | 4, _ => exact stepV rfl (wantedOf rfl (yieldedAt rfl rfl (show a.eval (.tmp 8) = .bool false from (hv 3 (by omega) _ rfl _ rfl)))) (execMvB rfl ((hf 0 (by decide)).trans t0)) ⟨s, ⟨_, rfl, rfl⟩, hS, fun _ _ => rfl⟩
        | 5, _ => exact stepV rfl (wantedOf rfl (yieldedAt rfl rfl (show a.eval (.tmp 8) = .bool false from (hv 3 (by omega) _ rfl _ rfl)))) (execLenI (len := J) rfl (hv 4 (by omega) _ rfl _ rfl) ((FI.on hS)).shp) ⟨s, ⟨_, rfl, rfl⟩, hS, fun _ _ => rfl⟩
        | 6, _ => exact stepV rfl (wantedOf rfl (yieldedAt rfl rfl (show a.eval (.tmp 8) = .bool false from (hv 3 (by omega) _ rfl _ rfl)))) (execDec (execGtN (p := J) (q := 64) rfl (hv 5 (by omega) _ rfl _ rfl) rfl) (decide_eq_true (by omega))) ⟨s, ⟨_, rfl, rfl⟩, hS, fun _ _ => rfl⟩
        | 7, _ => exact stepV rfl rfl (execPickF rfl (hv 3 (by omega) _ rfl _ rfl) (hv 6 (by omega) _ rfl _ rfl)) ⟨s, ⟨_, rfl, rfl⟩, hS, fun _ _ => rfl⟩
        | k_ + 8, h_ => exact absurd h_ (by simp)
      rintro _ a X1 h1 h2 h3 h4 hS
      clear BB
      replace hS : Below V.heap.size V X1 := hS
      have BB := hS
      clear hS
      replace t0 := (h3 0 (by decide)).trans t0
      have t12 : a.eval (.tmp 12) = .bool true := h4 7 _ rfl _ rfl
      replace A := (⟨h1, h2.trans A.2⟩ : a.tmps.size = 40 ∧ a.defers = [])
      clear h1 h2 h3 h4
      refine wp_cond_true t12 ?_
      refine wp_seq ?_
      refine wp_region_sq (σ := Unit) 40 [(0, 2)] (fun j_ s X => match j_ with | 0 => Below V.heap.size V X | _ => Below V.heap.size V X) (fun s => fun i_ => match i_ with | 0 => .int .i64 (-1) | _ => undef) () A.1 (by kernel_rfl) (by decide) (by decide) (BB) ?_ ?_
      · intro i_ hi_ s a X hf hv hn hS
        match i_, hi_ with
        | 0, _ => exact stepV rfl rfl (execAsgB rfl rfl) ⟨s, ⟨_, rfl, rfl⟩, hS, fun _ _ => rfl⟩
        | k_ + 1, h_ => exact absurd h_ (by simp)
      rintro _ a X2 h1 h2 h3 h4 hS
      clear BB
      replace hS : Below V.heap.size V X2 := hS
      have BB := hS
      clear hS
      have t2 : a.eval (.tmp 2) = .int .i64 (-1) := h4 0 _ rfl _ rfl
      replace A := (⟨h1, h2.trans A.2⟩ : a.tmps.size = 40 ∧ a.defers = [])
      clear h1 h2 h3 h4
      clear t0
      have hE : toT sf J = -1 := if_neg (fun q => by omega)
      rw [hE]
      refine wp_ret ?_
      repeat (first | refine ret_in ?_ | refine ret_then ?_)
      refine bodyPost_ret (results_tmp rfl _ _ _) A.2 ⟨?_, BB⟩
      show Ending.returned (a.eval (.tmp 2)) = _
      rw [t2]
    · refine wp_region_sq (σ := Unit) 40 [(0, 5), (1, 6), (2, 7), (3, 8), (4, 9), (5, 10), (6, 11), (7, 12)] (fun j_ s X => match j_ with | 0 => Below V.heap.size V X | 1 => Below V.heap.size V X | 2 => Below V.heap.size V X | 3 => Below V.heap.size V X | 4 => Below V.heap.size V X | 5 => Below V.heap.size V X | 6 => Below V.heap.size V X | 7 => Below V.heap.size V X | _ => Below V.heap.size V X) (fun s => fun i_ => match i_ with | 0 => .slice ia J ic | 1 => .int .i64 ((J : Nat) : Int) | 2 => .bool false | 3 => .bool false | 4 => .slice ia J ic | 5 => .int .i64 ((J : Nat) : Int) | 6 => .bool false | 7 => .bool false | _ => undef) () A.1 (by kernel_rfl) (by decide) (by decide) (BB) ?_ ?_
      · intro i_ hi_ s a X hf hv hn hS
        match i_, hi_ with
        | 0, _ => exact stepV rfl rfl (execMvB rfl ((hf 0 (by decide)).trans t0)) ⟨s, ⟨_, rfl, rfl⟩, hS, fun _ _ => rfl⟩
        | 1, _ => exact stepV rfl rfl (execLenI (len := J) rfl (hv 0 (by omega) _ rfl _ rfl) ((FI.on hS)).shp) ⟨s, ⟨_, rfl, rfl⟩, hS, fun _ _ => rfl⟩
        | 2, _ => exact stepV rfl rfl (execDec (execLtW (p := J) (q := 1) rfl (hv 1 (by omega) _ rfl _ rfl) rfl) (decide_eq_false (by omega))) ⟨s, ⟨_, rfl, rfl⟩, hS, fun _ _ => rfl⟩
        | 3, _ => exact stepV rfl rfl (execMvB rfl (hv 2 (by omega) _ rfl _ rfl)) ⟨s, ⟨_, rfl, rfl⟩, hS, fun _ _ => rfl⟩
        | 4, _ => exact stepV rfl (wantedOf rfl (yieldedAt rfl rfl (show a.eval (.tmp 8) = .bool false from (hv 3 (by omega) _ rfl _ rfl)))) (execMvB rfl ((hf 0 (by decide)).trans t0)) ⟨s, ⟨_, rfl, rfl⟩, hS, fun _ _ => rfl⟩
        | 5, _ => exact stepV rfl (wantedOf rfl (yieldedAt rfl rfl (show a.eval (.tmp 8) = .bool false from (hv 3 (by omega) _ rfl _ rfl)))) (execLenI (len := J) rfl (hv 4 (by omega) _ rfl _ rfl) ((FI.on hS)).shp) ⟨s, ⟨_, rfl, rfl⟩, hS, fun _ _ => rfl⟩
        | 6, _ => exact stepV rfl (wantedOf rfl (yieldedAt rfl rfl (show a.eval (.tmp 8) = .bool false from (hv 3 (by omega) _ rfl _ rfl)))) (execDec (execGtN (p := J) (q := 64) rfl (hv 5 (by omega) _ rfl _ rfl) rfl) (decide_eq_false (by omega))) ⟨s, ⟨_, rfl, rfl⟩, hS, fun _ _ => rfl⟩
        | 7, _ => exact stepV rfl rfl (execPickF rfl (hv 3 (by omega) _ rfl _ rfl) (hv 6 (by omega) _ rfl _ rfl)) ⟨s, ⟨_, rfl, rfl⟩, hS, fun _ _ => rfl⟩
        | k_ + 8, h_ => exact absurd h_ (by simp)
      rintro _ a X1 h1 h2 h3 h4 hS
      clear BB
      replace hS : Below V.heap.size V X1 := hS
      have BB := hS
      clear hS
      replace t0 := (h3 0 (by decide)).trans t0
      have t12 : a.eval (.tmp 12) = .bool false := h4 7 _ rfl _ rfl
      replace A := (⟨h1, h2.trans A.2⟩ : a.tmps.size = 40 ∧ a.defers = [])
      clear h1 h2 h3 h4
      refine wp_cond_false t12 ?_
      refine wp_skip ?_
      clear t12
      refine wp_seq ?_
      refine wp_region_sq (σ := Unit) 40 [(0, 3)] (fun j_ s X => match j_ with | 0 => Below V.heap.size V X | _ => Below V.heap.size V X) (fun s => fun i_ => match i_ with | 0 => .int .i64 ((0 : Nat) : Int) | _ => undef) () A.1 (by kernel_rfl) (by decide) (by decide) (BB) ?_ ?_
      · intro i_ hi_ s a X hf hv hn hS
        match i_, hi_ with
        | 0, _ => exact stepV rfl rfl (execAsgB rfl rfl) ⟨s, ⟨_, rfl, rfl⟩, hS, fun _ _ => rfl⟩
        | k_ + 1, h_ => exact absurd h_ (by simp)
      rintro _ a X3 h1 h2 h3 h4 hS
      clear BB
      replace hS : Below V.heap.size V X3 := hS
      have BB := hS
      clear hS
      replace t0 := (h3 0 (by decide)).trans t0
      have t3 : a.eval (.tmp 3) = .int .i64 ((0 : Nat) : Int) := h4 0 _ rfl _ rfl
      replace A := (⟨h1, h2.trans A.2⟩ : a.tmps.size = 40 ∧ a.defers = [])
      clear h1 h2 h3 h4
      refine wp_seq ?_
      refine wp_seq ?_
      refine wp_region_sq (σ := Unit) 40 [(0, 4)] (fun j_ s X => match j_ with | 0 => Below V.heap.size V X | _ => Below V.heap.size V X) (fun s => fun i_ => match i_ with | 0 => .int .i64 ((0 : Nat) : Int) | _ => undef) () A.1 (by kernel_rfl) (by decide) (by decide) (BB) ?_ ?_
      · intro i_ hi_ s a X hf hv hn hS
        match i_, hi_ with
        | 0, _ => exact stepV rfl rfl (execAsgB rfl rfl) ⟨s, ⟨_, rfl, rfl⟩, hS, fun _ _ => rfl⟩
        | k_ + 1, h_ => exact absurd h_ (by simp)
      rintro _ a X4 h1 h2 h3 h4 hS
      clear BB
      replace hS : Below V.heap.size V X4 := hS
      have BB := hS
      clear hS
      replace t0 := (h3 0 (by decide)).trans t0
      replace t3 := (h3 3 (by decide)).trans t3
      have t4 : a.eval (.tmp 4) = .int .i64 ((0 : Nat) : Int) := h4 0 _ rfl _ rfl
      replace A := (⟨h1, h2.trans A.2⟩ : a.tmps.size = 40 ∧ a.defers = [])
      clear h1 h2 h3 h4
      refine wp_block ?_
      refine wp_loop (fun a W => ∃ (i : Nat), i ≤ J ∧ (okS sf i = true) ∧ (sumN (gN sf) i ≤ 256) ∧ (a.tmps.size = 40 ∧ a.defers = []) ∧ a.eval (.tmp 0) = .slice ia J ic ∧ a.eval (.tmp 3) = .int .i64 ((sumN (gN sf) i : Nat) : Int) ∧ a.eval (.tmp 4) = .int .i64 ((i : Nat) : Int) ∧ Below V.heap.size V W) (fun a _ => J - (intOf (a.eval (.tmp 4))).toNat) ⟨0, Nat.zero_le _, rfl, Nat.zero_le _, A, t0, t3, t4, BB⟩ ?_
      clear A t0 t3 t4 BB a
      rintro a XL5 ⟨i, hi, hok, h256, A, t0, t3, t4, BB⟩
      have esi := t4
      refine wp_seq ?_
      refine wp_seq ?_
      refine wp_region_sq (σ := Unit) 40 [(0, 13), (1, 14), (2, 15), (3, 16)] (fun j_ s X => match j_ with | 0 => Below V.heap.size V X | 1 => Below V.heap.size V X | 2 => Below V.heap.size V X | 3 => Below V.heap.size V X | _ => Below V.heap.size V X) (fun s => fun i_ => match i_ with | 0 => .int .i64 ((i : Nat) : Int) | 1 => .slice ia J ic | 2 => .int .i64 ((J : Nat) : Int) | 3 => .bool (decide (i < J)) | _ => undef) () A.1 (by kernel_rfl) (by decide) (by decide) (BB) ?_ ?_
      · intro i_ hi_ s a X hf hv hn hS
        match i_, hi_ with
        | 0, _ => exact stepV rfl rfl (execMvB rfl ((hf 4 (by decide)).trans t4)) ⟨s, ⟨_, rfl, rfl⟩, hS, fun _ _ => rfl⟩
        | 1, _ => exact stepV rfl rfl (execMvB rfl ((hf 0 (by decide)).trans t0)) ⟨s, ⟨_, rfl, rfl⟩, hS, fun _ _ => rfl⟩
        | 2, _ => exact stepV rfl rfl (execLenI (len := J) rfl (hv 1 (by omega) _ rfl _ rfl) ((FI.on hS)).shp) ⟨s, ⟨_, rfl, rfl⟩, hS, fun _ _ => rfl⟩
        | 3, _ => exact stepV rfl rfl (execLtW (p := i) (q := J) rfl (hv 0 (by omega) _ rfl _ rfl) (hv 2 (by omega) _ rfl _ rfl)) ⟨s, ⟨_, rfl, rfl⟩, hS, fun _ _ => rfl⟩
        | k_ + 4, h_ => exact absurd h_ (by simp)
      rintro _ a X5 h1 h2 h3 h4 hS
      clear BB
      replace hS : Below V.heap.size V X5 := hS
      have BB := hS
      clear hS
      replace t0 := (h3 0 (by decide)).trans t0
      replace t3 := (h3 3 (by decide)).trans t3
      replace t4 := (h3 4 (by decide)).trans t4
      have t16 : a.eval (.tmp 16) = .bool (decide (i < J)) := h4 3 _ rfl _ rfl
      replace A := (⟨h1, h2.trans A.2⟩ : a.tmps.size = 40 ∧ a.defers = [])
      clear h1 h2 h3 h4
      by_cases lti : i < J
      · rw [decide_eq_true lti] at t16
        refine wp_cond_true t16 ?_
        refine wp_skip ?_
        clear t16
        refine wp_seq ?_
        refine wp_block ?_
        obtain ⟨ib, io, rfl, hib, hcell⟩ := hsh (by omega)
        have cI : ∀ k, k < J → ∀ X, Below V.heap.size V X → X.cell? ⟨ib, io + k, none⟩ = some (.int .i64 (sf k)) := fun k hk X hX => by rw [cell_below hX hib]; exact hcell k hk
        by_cases h1 : sf i < 0
        · refine wp_seq ?_
          refine wp_seq ?_
          refine wp_region_sq (σ := Unit) 40 [(0, 19), (1, 20), (2, 21), (3, 22), (4, 23), (5, 24), (6, 25), (7, 26), (8, 27), (9, 28), (10, 29), (11, 30), (12, 31), (13, 32)] (fun j_ s X => match j_ with | 0 => Below V.heap.size V X | 1 => Below V.heap.size V X | 2 => Below V.heap.size V X | 3 => Below V.heap.size V X | 4 => Below V.heap.size V X | 5 => Below V.heap.size V X | 6 => Below V.heap.size V X | 7 => Below V.heap.size V X | 8 => Below V.heap.size V X | 9 => Below V.heap.size V X | 10 => Below V.heap.size V X | 11 => Below V.heap.size V X | 12 => Below V.heap.size V X | 13 => Below V.heap.size V X | _ => Below V.heap.size V X) (fun s => fun i_ => match i_ with | 0 => .slice (some ⟨ib, io, none⟩) J ic | 1 => .int .i64 ((i : Nat) : Int) | 2 => .pointer (some ⟨ib, io + i, none⟩) | 3 => .int .i64 (sf i) | 4 => .bool true | 5 => .bool true | 6 => undef | 7 => undef | 8 => undef | 9 => undef | 10 => undef | 11 => undef | 12 => undef | 13 => .bool true | _ => undef) () A.1 (by kernel_rfl) (by decide) (by decide) (BB) ?_ ?_
          · intro i_ hi_ s a X hf hv hn hS
            match i_, hi_ with
            | 0, _ => exact stepV rfl rfl (execMvB rfl ((hf 0 (by decide)).trans t0)) ⟨s, ⟨_, rfl, rfl⟩, hS, fun _ _ => rfl⟩
            | 1, _ => exact stepV rfl rfl (execMvB rfl ((hf 4 (by decide)).trans t4)) ⟨s, ⟨_, rfl, rfl⟩, hS, fun _ _ => rfl⟩
            | 2, _ => exact stepV rfl rfl (execIdxN (k := i) rfl (hv 0 (by omega) _ rfl _ rfl) (hv 1 (by omega) _ rfl _ rfl) lti) ⟨s, ⟨_, rfl, rfl⟩, hS, fun _ _ => rfl⟩
            | 3, _ => exact stepV rfl rfl (execLd3 rfl (hv 2 (by omega) _ rfl _ rfl) (cI i lti X hS)) ⟨s, ⟨_, rfl, rfl⟩, hS, fun _ _ => rfl⟩
            | 4, _ => exact stepV rfl rfl (execLtCt (p := (sf i)) (q := 0) rfl (hv 3 (by omega) _ rfl _ rfl) (by exact h1)) ⟨s, ⟨_, rfl, rfl⟩, hS, fun _ _ => rfl⟩
            | 5, _ => exact stepV rfl rfl (execMvB rfl (hv 4 (by omega) _ rfl _ rfl)) ⟨s, ⟨_, rfl, rfl⟩, hS, fun _ _ => rfl⟩
            | 6, _ => exact stepU rfl (unwantedOf rfl (yieldedAt rfl rfl (show a.eval (.tmp 24) = .bool (!false) from (hv 5 (by omega) _ rfl _ rfl)))) ⟨s, ⟨_, rfl, rfl⟩, hS, fun _ _ => rfl⟩
            | 7, _ => exact stepU rfl (unwantedOf rfl (yieldedAt rfl rfl (show a.eval (.tmp 24) = .bool (!false) from (hv 5 (by omega) _ rfl _ rfl)))) ⟨s, ⟨_, rfl, rfl⟩, hS, fun _ _ => rfl⟩
            | 8, _ => exact stepU rfl (unwantedOf rfl (yieldedAt rfl rfl (show a.eval (.tmp 24) = .bool (!false) from (hv 5 (by omega) _ rfl _ rfl)))) ⟨s, ⟨_, rfl, rfl⟩, hS, fun _ _ => rfl⟩
            | 9, _ => exact stepU rfl (unwantedOf rfl (yieldedAt rfl rfl (show a.eval (.tmp 24) = .bool (!false) from (hv 5 (by omega) _ rfl _ rfl)))) ⟨s, ⟨_, rfl, rfl⟩, hS, fun _ _ => rfl⟩
            | 10, _ => exact stepU rfl (unwantedOf rfl (yieldedAt rfl rfl (show a.eval (.tmp 24) = .bool (!false) from (hv 5 (by omega) _ rfl _ rfl)))) ⟨s, ⟨_, rfl, rfl⟩, hS, fun _ _ => rfl⟩
            | 11, _ => exact stepU rfl (unwantedOf rfl (yieldedAt rfl rfl (show a.eval (.tmp 24) = .bool (!false) from (hv 5 (by omega) _ rfl _ rfl)))) ⟨s, ⟨_, rfl, rfl⟩, hS, fun _ _ => rfl⟩
            | 12, _ => exact stepU rfl (unwantedOf rfl (yieldedAt rfl rfl (show a.eval (.tmp 24) = .bool (!false) from (hv 5 (by omega) _ rfl _ rfl)))) ⟨s, ⟨_, rfl, rfl⟩, hS, fun _ _ => rfl⟩
            | 13, _ => exact stepV rfl rfl (execPickT rfl (hv 5 (by omega) _ rfl _ rfl) rfl) ⟨s, ⟨_, rfl, rfl⟩, hS, fun _ _ => rfl⟩
            | k_ + 14, h_ => exact absurd h_ (by simp)
          rintro _ a X7 h1 h2 h3 h4 hS
          clear BB
          replace hS : Below V.heap.size V X7 := hS
          have BB := hS
          clear hS
          replace t0 := (h3 0 (by decide)).trans t0
          replace t3 := (h3 3 (by decide)).trans t3
          replace t4 := (h3 4 (by decide)).trans t4
          have t32 : a.eval (.tmp 32) = .bool true := h4 13 _ rfl _ rfl
          replace A := (⟨h1, h2.trans A.2⟩ : a.tmps.size = 40 ∧ a.defers = [])
          clear h1 h2 h3 h4
          refine wp_cond_true t32 ?_
          refine wp_seq ?_
          refine wp_region_sq (σ := Unit) 40 [(0, 2)] (fun j_ s X => match j_ with | 0 => Below V.heap.size V X | _ => Below V.heap.size V X) (fun s => fun i_ => match i_ with | 0 => .int .i64 (-1) | _ => undef) () A.1 (by kernel_rfl) (by decide) (by decide) (BB) ?_ ?_
          · intro i_ hi_ s a X hf hv hn hS
            match i_, hi_ with
            | 0, _ => exact stepV rfl rfl (execAsgB rfl rfl) ⟨s, ⟨_, rfl, rfl⟩, hS, fun _ _ => rfl⟩
            | k_ + 1, h_ => exact absurd h_ (by simp)
          rintro _ a X8 h1 h2 h3 h4 hS
          clear BB
          replace hS : Below V.heap.size V X8 := hS
          have BB := hS
          clear hS
          have t2 : a.eval (.tmp 2) = .int .i64 (-1) := h4 0 _ rfl _ rfl
          replace A := (⟨h1, h2.trans A.2⟩ : a.tmps.size = 40 ∧ a.defers = [])
          clear h1 h2 h3 h4
          clear t0 t3 t4
          have hE : toT sf J = -1 := if_neg (fun q => okS_bad lti (by omega) q.2)
          rw [hE]
          refine wp_ret ?_
          repeat (first | refine ret_in ?_ | refine ret_then ?_)
          refine bodyPost_ret (results_tmp rfl _ _ _) A.2 ⟨?_, BB⟩
          show Ending.returned (a.eval (.tmp 2)) = _
          rw [t2]
        · by_cases h2 : 256 - (sumN (gN sf) i : Int) < sf i
          · obtain ⟨w, ew⟩ : ∃ w : Nat, sf i = w := ⟨(sf i).toNat, by omega⟩
            have cW : ∀ X, Below V.heap.size V X → X.cell? ⟨ib, io + i, none⟩ = some (.int .i64 ((w : Nat) : Int)) := fun X hX => by rw [cI i lti X hX, ew]
            refine wp_seq ?_
            refine wp_seq ?_
            refine wp_region_sq (σ := Unit) 40 [(0, 19), (1, 20), (2, 21), (3, 22), (4, 23), (5, 24), (6, 25), (7, 26), (8, 27), (9, 28), (10, 29), (11, 30), (12, 31), (13, 32)] (fun j_ s X => match j_ with | 0 => Below V.heap.size V X | 1 => Below V.heap.size V X | 2 => Below V.heap.size V X | 3 => Below V.heap.size V X | 4 => Below V.heap.size V X | 5 => Below V.heap.size V X | 6 => Below V.heap.size V X | 7 => Below V.heap.size V X | 8 => Below V.heap.size V X | 9 => Below V.heap.size V X | 10 => Below V.heap.size V X | 11 => Below V.heap.size V X | 12 => Below V.heap.size V X | 13 => Below V.heap.size V X | _ => Below V.heap.size V X) (fun s => fun i_ => match i_ with | 0 => .slice (some ⟨ib, io, none⟩) J ic | 1 => .int .i64 ((i : Nat) : Int) | 2 => .pointer (some ⟨ib, io + i, none⟩) | 3 => .int .i64 ((w : Nat) : Int) | 4 => .bool false | 5 => .bool false | 6 => .slice (some ⟨ib, io, none⟩) J ic | 7 => .int .i64 ((i : Nat) : Int) | 8 => .pointer (some ⟨ib, io + i, none⟩) | 9 => .int .i64 ((w : Nat) : Int) | 10 => .int .i64 ((sumN (gN sf) i : Nat) : Int) | 11 => .int .i64 ((256 - sumN (gN sf) i : Nat) : Int) | 12 => .bool true | 13 => .bool true | _ => undef) () A.1 (by kernel_rfl) (by decide) (by decide) (BB) ?_ ?_
            · intro i_ hi_ s a X hf hv hn hS
              match i_, hi_ with
              | 0, _ => exact stepV rfl rfl (execMvB rfl ((hf 0 (by decide)).trans t0)) ⟨s, ⟨_, rfl, rfl⟩, hS, fun _ _ => rfl⟩
              | 1, _ => exact stepV rfl rfl (execMvB rfl ((hf 4 (by decide)).trans t4)) ⟨s, ⟨_, rfl, rfl⟩, hS, fun _ _ => rfl⟩
              | 2, _ => exact stepV rfl rfl (execIdxN (k := i) rfl (hv 0 (by omega) _ rfl _ rfl) (hv 1 (by omega) _ rfl _ rfl) lti) ⟨s, ⟨_, rfl, rfl⟩, hS, fun _ _ => rfl⟩
              | 3, _ => exact stepV rfl rfl (execLd3 rfl (hv 2 (by omega) _ rfl _ rfl) (cW X hS)) ⟨s, ⟨_, rfl, rfl⟩, hS, fun _ _ => rfl⟩
              | 4, _ => exact stepV rfl rfl (execDec (execLtW (p := w) (q := 0) rfl (hv 3 (by omega) _ rfl _ rfl) rfl) (decide_eq_false (by omega))) ⟨s, ⟨_, rfl, rfl⟩, hS, fun _ _ => rfl⟩
              | 5, _ => exact stepV rfl rfl (execMvB rfl (hv 4 (by omega) _ rfl _ rfl)) ⟨s, ⟨_, rfl, rfl⟩, hS, fun _ _ => rfl⟩
              | 6, _ => exact stepV rfl (wantedOf rfl (yieldedAt rfl rfl (show a.eval (.tmp 24) = .bool false from (hv 5 (by omega) _ rfl _ rfl)))) (execMvB rfl ((hf 0 (by decide)).trans t0)) ⟨s, ⟨_, rfl, rfl⟩, hS, fun _ _ => rfl⟩
              | 7, _ => exact stepV rfl (wantedOf rfl (yieldedAt rfl rfl (show a.eval (.tmp 24) = .bool false from (hv 5 (by omega) _ rfl _ rfl)))) (execMvB rfl ((hf 4 (by decide)).trans t4)) ⟨s, ⟨_, rfl, rfl⟩, hS, fun _ _ => rfl⟩
              | 8, _ => exact stepV rfl (wantedOf rfl (yieldedAt rfl rfl (show a.eval (.tmp 24) = .bool false from (hv 5 (by omega) _ rfl _ rfl)))) (execIdxN (k := i) rfl (hv 6 (by omega) _ rfl _ rfl) (hv 7 (by omega) _ rfl _ rfl) lti) ⟨s, ⟨_, rfl, rfl⟩, hS, fun _ _ => rfl⟩
              | 9, _ => exact stepV rfl (wantedOf rfl (yieldedAt rfl rfl (show a.eval (.tmp 24) = .bool false from (hv 5 (by omega) _ rfl _ rfl)))) (execLd3 rfl (hv 8 (by omega) _ rfl _ rfl) (cW X hS)) ⟨s, ⟨_, rfl, rfl⟩, hS, fun _ _ => rfl⟩
              | 10, _ => exact stepV rfl (wantedOf rfl (yieldedAt rfl rfl (show a.eval (.tmp 24) = .bool false from (hv 5 (by omega) _ rfl _ rfl)))) (execMvB rfl ((hf 3 (by decide)).trans t3)) ⟨s, ⟨_, rfl, rfl⟩, hS, fun _ _ => rfl⟩
              | 11, _ => exact stepV rfl (wantedOf rfl (yieldedAt rfl rfl (show a.eval (.tmp 24) = .bool false from (hv 5 (by omega) _ rfl _ rfl)))) (By8.execSubI (p := 256) (q := sumN (gN sf) i) rfl rfl (hv 10 (by omega) _ rfl _ rfl) (by omega) (by omega)) ⟨s, ⟨_, rfl, rfl⟩, hS, fun _ _ => rfl⟩
              | 12, _ => exact stepV rfl (wantedOf rfl (yieldedAt rfl rfl (show a.eval (.tmp 24) = .bool false from (hv 5 (by omega) _ rfl _ rfl)))) (execDec (execGtN (p := w) (q := 256 - sumN (gN sf) i) rfl (hv 9 (by omega) _ rfl _ rfl) (hv 11 (by omega) _ rfl _ rfl)) (decide_eq_true (by omega))) ⟨s, ⟨_, rfl, rfl⟩, hS, fun _ _ => rfl⟩
              | 13, _ => exact stepV rfl rfl (execPickF rfl (hv 5 (by omega) _ rfl _ rfl) (hv 12 (by omega) _ rfl _ rfl)) ⟨s, ⟨_, rfl, rfl⟩, hS, fun _ _ => rfl⟩
              | k_ + 14, h_ => exact absurd h_ (by simp)
            rintro _ a X7 h1 h2 h3 h4 hS
            clear BB
            replace hS : Below V.heap.size V X7 := hS
            have BB := hS
            clear hS
            replace t0 := (h3 0 (by decide)).trans t0
            replace t3 := (h3 3 (by decide)).trans t3
            replace t4 := (h3 4 (by decide)).trans t4
            have t32 : a.eval (.tmp 32) = .bool true := h4 13 _ rfl _ rfl
            replace A := (⟨h1, h2.trans A.2⟩ : a.tmps.size = 40 ∧ a.defers = [])
            clear h1 h2 h3 h4
            refine wp_cond_true t32 ?_
            refine wp_seq ?_
            refine wp_region_sq (σ := Unit) 40 [(0, 2)] (fun j_ s X => match j_ with | 0 => Below V.heap.size V X | _ => Below V.heap.size V X) (fun s => fun i_ => match i_ with | 0 => .int .i64 (-1) | _ => undef) () A.1 (by kernel_rfl) (by decide) (by decide) (BB) ?_ ?_
            · intro i_ hi_ s a X hf hv hn hS
              match i_, hi_ with
              | 0, _ => exact stepV rfl rfl (execAsgB rfl rfl) ⟨s, ⟨_, rfl, rfl⟩, hS, fun _ _ => rfl⟩
              | k_ + 1, h_ => exact absurd h_ (by simp)
            rintro _ a X8 h1 h2 h3 h4 hS
            clear BB
            replace hS : Below V.heap.size V X8 := hS
            have BB := hS
            clear hS
            have t2 : a.eval (.tmp 2) = .int .i64 (-1) := h4 0 _ rfl _ rfl
            replace A := (⟨h1, h2.trans A.2⟩ : a.tmps.size = 40 ∧ a.defers = [])
            clear h1 h2 h3 h4
            clear t0 t3 t4
            have hE : toT sf J = -1 := if_neg (fun q => okS_bad lti (by omega) q.2)
            rw [hE]
            refine wp_ret ?_
            repeat (first | refine ret_in ?_ | refine ret_then ?_)
            refine bodyPost_ret (results_tmp rfl _ _ _) A.2 ⟨?_, BB⟩
            show Ending.returned (a.eval (.tmp 2)) = _
            rw [t2]
          · obtain ⟨w, ew⟩ : ∃ w : Nat, sf i = w := ⟨(sf i).toNat, by omega⟩
            have cW : ∀ X, Below V.heap.size V X → X.cell? ⟨ib, io + i, none⟩ = some (.int .i64 ((w : Nat) : Int)) := fun X hX => by rw [cI i lti X hX, ew]
            refine wp_seq ?_
            refine wp_seq ?_
            refine wp_region_sq (σ := Unit) 40 [(0, 19), (1, 20), (2, 21), (3, 22), (4, 23), (5, 24), (6, 25), (7, 26), (8, 27), (9, 28), (10, 29), (11, 30), (12, 31), (13, 32)] (fun j_ s X => match j_ with | 0 => Below V.heap.size V X | 1 => Below V.heap.size V X | 2 => Below V.heap.size V X | 3 => Below V.heap.size V X | 4 => Below V.heap.size V X | 5 => Below V.heap.size V X | 6 => Below V.heap.size V X | 7 => Below V.heap.size V X | 8 => Below V.heap.size V X | 9 => Below V.heap.size V X | 10 => Below V.heap.size V X | 11 => Below V.heap.size V X | 12 => Below V.heap.size V X | 13 => Below V.heap.size V X | _ => Below V.heap.size V X) (fun s => fun i_ => match i_ with | 0 => .slice (some ⟨ib, io, none⟩) J ic | 1 => .int .i64 ((i : Nat) : Int) | 2 => .pointer (some ⟨ib, io + i, none⟩) | 3 => .int .i64 ((w : Nat) : Int) | 4 => .bool false | 5 => .bool false | 6 => .slice (some ⟨ib, io, none⟩) J ic | 7 => .int .i64 ((i : Nat) : Int) | 8 => .pointer (some ⟨ib, io + i, none⟩) | 9 => .int .i64 ((w : Nat) : Int) | 10 => .int .i64 ((sumN (gN sf) i : Nat) : Int) | 11 => .int .i64 ((256 - sumN (gN sf) i : Nat) : Int) | 12 => .bool false | 13 => .bool false | _ => undef) () A.1 (by kernel_rfl) (by decide) (by decide) (BB) ?_ ?_
            · intro i_ hi_ s a X hf hv hn hS
              match i_, hi_ with
              | 0, _ => exact stepV rfl rfl (execMvB rfl ((hf 0 (by decide)).trans t0)) ⟨s, ⟨_, rfl, rfl⟩, hS, fun _ _ => rfl⟩
              | 1, _ => exact stepV rfl rfl (execMvB rfl ((hf 4 (by decide)).trans t4)) ⟨s, ⟨_, rfl, rfl⟩, hS, fun _ _ => rfl⟩
              | 2, _ => exact stepV rfl rfl (execIdxN (k := i) rfl (hv 0 (by omega) _ rfl _ rfl) (hv 1 (by omega) _ rfl _ rfl) lti) ⟨s, ⟨_, rfl, rfl⟩, hS, fun _ _ => rfl⟩
              | 3, _ => exact stepV rfl rfl (execLd3 rfl (hv 2 (by omega) _ rfl _ rfl) (cW X hS)) ⟨s, ⟨_, rfl, rfl⟩, hS, fun _ _ => rfl⟩
              | 4, _ => exact stepV rfl rfl (execDec (execLtW (p := w) (q := 0) rfl (hv 3 (by omega) _ rfl _ rfl) rfl) (decide_eq_false (by omega))) ⟨s, ⟨_, rfl, rfl⟩, hS, fun _ _ => rfl⟩
              | 5, _ => exact stepV rfl rfl (execMvB rfl (hv 4 (by omega) _ rfl _ rfl)) ⟨s, ⟨_, rfl, rfl⟩, hS, fun _ _ => rfl⟩
              | 6, _ => exact stepV rfl (wantedOf rfl (yieldedAt rfl rfl (show a.eval (.tmp 24) = .bool false from (hv 5 (by omega) _ rfl _ rfl)))) (execMvB rfl ((hf 0 (by decide)).trans t0)) ⟨s, ⟨_, rfl, rfl⟩, hS, fun _ _ => rfl⟩
              | 7, _ => exact stepV rfl (wantedOf rfl (yieldedAt rfl rfl (show a.eval (.tmp 24) = .bool false from (hv 5 (by omega) _ rfl _ rfl)))) (execMvB rfl ((hf 4 (by decide)).trans t4)) ⟨s, ⟨_, rfl, rfl⟩, hS, fun _ _ => rfl⟩
              | 8, _ => exact stepV rfl (wantedOf rfl (yieldedAt rfl rfl (show a.eval (.tmp 24) = .bool false from (hv 5 (by omega) _ rfl _ rfl)))) (execIdxN (k := i) rfl (hv 6 (by omega) _ rfl _ rfl) (hv 7 (by omega) _ rfl _ rfl) lti) ⟨s, ⟨_, rfl, rfl⟩, hS, fun _ _ => rfl⟩
              | 9, _ => exact stepV rfl (wantedOf rfl (yieldedAt rfl rfl (show a.eval (.tmp 24) = .bool false from (hv 5 (by omega) _ rfl _ rfl)))) (execLd3 rfl (hv 8 (by omega) _ rfl _ rfl) (cW X hS)) ⟨s, ⟨_, rfl, rfl⟩, hS, fun _ _ => rfl⟩
              | 10, _ => exact stepV rfl (wantedOf rfl (yieldedAt rfl rfl (show a.eval (.tmp 24) = .bool false from (hv 5 (by omega) _ rfl _ rfl)))) (execMvB rfl ((hf 3 (by decide)).trans t3)) ⟨s, ⟨_, rfl, rfl⟩, hS, fun _ _ => rfl⟩
              | 11, _ => exact stepV rfl (wantedOf rfl (yieldedAt rfl rfl (show a.eval (.tmp 24) = .bool false from (hv 5 (by omega) _ rfl _ rfl)))) (By8.execSubI (p := 256) (q := sumN (gN sf) i) rfl rfl (hv 10 (by omega) _ rfl _ rfl) (by omega) (by omega)) ⟨s, ⟨_, rfl, rfl⟩, hS, fun _ _ => rfl⟩
              | 12, _ => exact stepV rfl (wantedOf rfl (yieldedAt rfl rfl (show a.eval (.tmp 24) = .bool false from (hv 5 (by omega) _ rfl _ rfl)))) (execDec (execGtN (p := w) (q := 256 - sumN (gN sf) i) rfl (hv 9 (by omega) _ rfl _ rfl) (hv 11 (by omega) _ rfl _ rfl)) (decide_eq_false (by omega))) ⟨s, ⟨_, rfl, rfl⟩, hS, fun _ _ => rfl⟩
              | 13, _ => exact stepV rfl rfl (execPickF rfl (hv 5 (by omega) _ rfl _ rfl) (hv 12 (by omega) _ rfl _ rfl)) ⟨s, ⟨_, rfl, rfl⟩, hS, fun _ _ => rfl⟩
              | k_ + 14, h_ => exact absurd h_ (by simp)
            rintro _ a X7 h1 h2 h3 h4 hS
            clear BB
            replace hS : Below V.heap.size V X7 := hS
            have BB := hS
            clear hS
            replace t0 := (h3 0 (by decide)).trans t0
            replace t3 := (h3 3 (by decide)).trans t3
            replace t4 := (h3 4 (by decide)).trans t4
            have t32 : a.eval (.tmp 32) = .bool false := h4 13 _ rfl _ rfl
            replace A := (⟨h1, h2.trans A.2⟩ : a.tmps.size = 40 ∧ a.defers = [])
            clear h1 h2 h3 h4
            refine wp_cond_false t32 ?_
            refine wp_skip ?_
            clear t32
            refine wp_region_sq (σ := Unit) 40 [(0, 33), (1, 34), (2, 35), (3, 36), (4, 37), (5, 38), (6, 3)] (fun j_ s X => match j_ with | 0 => Below V.heap.size V X | 1 => Below V.heap.size V X | 2 => Below V.heap.size V X | 3 => Below V.heap.size V X | 4 => Below V.heap.size V X | 5 => Below V.heap.size V X | 6 => Below V.heap.size V X | _ => Below V.heap.size V X) (fun s => fun i_ => match i_ with | 0 => .int .i64 ((sumN (gN sf) i : Nat) : Int) | 1 => .slice (some ⟨ib, io, none⟩) J ic | 2 => .int .i64 ((i : Nat) : Int) | 3 => .pointer (some ⟨ib, io + i, none⟩) | 4 => .int .i64 ((w : Nat) : Int) | 5 => .int .i64 ((sumN (gN sf) i + w : Nat) : Int) | 6 => .int .i64 ((sumN (gN sf) i + w : Nat) : Int) | _ => undef) () A.1 (by kernel_rfl) (by decide) (by decide) (BB) ?_ ?_
            · intro i_ hi_ s a X hf hv hn hS
              match i_, hi_ with
              | 0, _ => exact stepV rfl rfl (execMvB rfl ((hn 6 (by omega) _ rfl _ rfl).trans t3)) ⟨s, ⟨_, rfl, rfl⟩, hS, fun _ _ => rfl⟩
              | 1, _ => exact stepV rfl rfl (execMvB rfl ((hf 0 (by decide)).trans t0)) ⟨s, ⟨_, rfl, rfl⟩, hS, fun _ _ => rfl⟩
              | 2, _ => exact stepV rfl rfl (execMvB rfl ((hf 4 (by decide)).trans t4)) ⟨s, ⟨_, rfl, rfl⟩, hS, fun _ _ => rfl⟩
              | 3, _ => exact stepV rfl rfl (execIdxN (k := i) rfl (hv 1 (by omega) _ rfl _ rfl) (hv 2 (by omega) _ rfl _ rfl) lti) ⟨s, ⟨_, rfl, rfl⟩, hS, fun _ _ => rfl⟩
              | 4, _ => exact stepV rfl rfl (execLd3 rfl (hv 3 (by omega) _ rfl _ rfl) (cW X hS)) ⟨s, ⟨_, rfl, rfl⟩, hS, fun _ _ => rfl⟩
              | 5, _ => exact stepV rfl rfl (execAd8 (p := sumN (gN sf) i) (q := w) rfl (hv 0 (by omega) _ rfl _ rfl) (hv 4 (by omega) _ rfl _ rfl) (by omega)) ⟨s, ⟨_, rfl, rfl⟩, hS, fun _ _ => rfl⟩
              | 6, _ => exact stepV rfl rfl (execAsgB rfl (hv 5 (by omega) _ rfl _ rfl)) ⟨s, ⟨_, rfl, rfl⟩, hS, fun _ _ => rfl⟩
              | k_ + 7, h_ => exact absurd h_ (by simp)
            rintro _ a X9 h1 h2 h3 h4 hS
            clear BB
            replace hS : Below V.heap.size V X9 := hS
            have BB := hS
            clear hS
            replace t0 := (h3 0 (by decide)).trans t0
            replace t3 : a.eval (.tmp 3) = .int .i64 ((sumN (gN sf) i + w : Nat) : Int) := h4 6 _ rfl _ rfl
            replace t4 := (h3 4 (by decide)).trans t4
            replace A := (⟨h1, h2.trans A.2⟩ : a.tmps.size = 40 ∧ a.defers = [])
            clear h1 h2 h3 h4
            have e3 : sumN (gN sf) i + w = sumN (gN sf) (i + 1) := by show _ = sumN (gN sf) i + (sf i).toNat; omega
            rw [e3] at t3
            refine wp_region_sq (σ := Unit) 40 [(0, 17), (1, 18), (2, 4)] (fun j_ s X => match j_ with | 0 => Below V.heap.size V X | 1 => Below V.heap.size V X | 2 => Below V.heap.size V X | _ => Below V.heap.size V X) (fun s => fun i_ => match i_ with | 0 => .int .i64 ((i : Nat) : Int) | 1 => .int .i64 ((i + 1 : Nat) : Int) | 2 => .int .i64 ((i + 1 : Nat) : Int) | _ => undef) () A.1 (by kernel_rfl) (by decide) (by decide) (BB) ?_ ?_
            · intro i_ hi_ s a X hf hv hn hS
              match i_, hi_ with
              | 0, _ => exact stepV rfl rfl (execMvB rfl ((hn 2 (by omega) _ rfl _ rfl).trans t4)) ⟨s, ⟨_, rfl, rfl⟩, hS, fun _ _ => rfl⟩
              | 1, _ => exact stepV rfl rfl (execAd8 (p := i) (q := 1) rfl (hv 0 (by omega) _ rfl _ rfl) rfl (by omega)) ⟨s, ⟨_, rfl, rfl⟩, hS, fun _ _ => rfl⟩
              | 2, _ => exact stepV rfl rfl (execAsgB rfl (hv 1 (by omega) _ rfl _ rfl)) ⟨s, ⟨_, rfl, rfl⟩, hS, fun _ _ => rfl⟩
              | k_ + 3, h_ => exact absurd h_ (by simp)
            rintro _ a X6 h1 h2 h3 h4 hS
            clear BB
            replace hS : Below V.heap.size V X6 := hS
            have BB := hS
            clear hS
            replace t0 := (h3 0 (by decide)).trans t0
            replace t3 := (h3 3 (by decide)).trans t3
            replace t4 : a.eval (.tmp 4) = .int .i64 ((i + 1 : Nat) : Int) := h4 2 _ rfl _ rfl
            replace A := (⟨h1, h2.trans A.2⟩ : a.tmps.size = 40 ∧ a.defers = [])
            clear h1 h2 h3 h4
            exact ⟨⟨i + 1, lti, okS_succ hok (by omega), by rw [← e3]; omega, A, t0, t3, t4, BB⟩, by show J - (intOf (a.eval (.tmp 4))).toNat < J - (intOf (Act.eval _ (.tmp 4))).toNat; rw [t4, esi]; show J - (i + 1) < J - i; omega⟩
      · rw [decide_eq_false lti] at t16
        refine wp_cond_false t16 ?_
        refine wp_exit ?_
        first | refine exit_in ?_ | refine exit_then (exit_in ?_) | refine exit_then (exit_then (exit_in ?_))
        clear t16 esi
        obtain rfl : i = J := by omega
        have hE : toT sf i = (sumN (gN sf) i : Int) := if_pos ⟨⟨by omega, by omega⟩, hok⟩
        rw [hE]
        clear t0 t4
        refine wp_seq ?_
        refine wp_region_sq (σ := Unit) 40 [(0, 39), (1, 2)] (fun j_ s X => match j_ with | 0 => Below V.heap.size V X | 1 => Below V.heap.size V X | _ => Below V.heap.size V X) (fun s => fun i_ => match i_ with | 0 => .int .i64 ((sumN (gN sf) i : Nat) : Int) | 1 => .int .i64 ((sumN (gN sf) i : Nat) : Int) | _ => undef) () A.1 (by kernel_rfl) (by decide) (by decide) (BB) ?_ ?_
        · intro i_ hi_ s a X hf hv hn hS
          match i_, hi_ with
          | 0, _ => exact stepV rfl rfl (execMvB rfl ((hf 3 (by decide)).trans t3)) ⟨s, ⟨_, rfl, rfl⟩, hS, fun _ _ => rfl⟩
          | 1, _ => exact stepV rfl rfl (execAsgB rfl (hv 0 (by omega) _ rfl _ rfl)) ⟨s, ⟨_, rfl, rfl⟩, hS, fun _ _ => rfl⟩
          | k_ + 2, h_ => exact absurd h_ (by simp)
        rintro _ a X10 h1 h2 h3 h4 hS
        clear BB
        replace hS : Below V.heap.size V X10 := hS
        have BB := hS
        clear hS
        have t2 : a.eval (.tmp 2) = .int .i64 ((sumN (gN sf) i : Nat) : Int) := h4 1 _ rfl _ rfl
        replace A := (⟨h1, h2.trans A.2⟩ : a.tmps.size = 40 ∧ a.defers = [])
        clear h1 h2 h3 h4
        clear t3
        refine wp_ret ?_
        repeat (first | refine ret_in ?_ | refine ret_then ?_)
        refine bodyPost_ret (results_tmp rfl _ _ _) A.2 ⟨?_, BB⟩
        show Ending.returned (a.eval (.tmp 2)) = _
        rw [t2]
end Go.Proofs.Ytdecmmcphcomhaa.Brd
