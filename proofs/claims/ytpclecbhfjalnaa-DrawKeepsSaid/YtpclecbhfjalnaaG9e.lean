import Derived.Test.YtpclecbhfjalnaaG9d
import Derived.Test.YtpclecbhfjalnaaV9o
namespace Go.Proofs.Ytpclecbhfjalnaa.Drw
open Go.RowKit Gf8 Aes By8 Cel Cf Tap
/- The reference's wrong and Below. Written by tools/mkG9e.py. -/

set_option maxRecDepth 100000 in
set_option maxHeartbeats 4000000 in
theorem wrong_any (f : Nat → Int) (n : Nat) (v : Value) (V : World) (hv : SliceI V v n f) (hn : n ≤ 17592186044416) :
    Calls Try.prog 24 #[v] V fun e w' => e = .returned (.bool (anyB f n)) ∧ Below V.heap.size V w' := by
  obtain ⟨ia, ic, rfl, -, -, hsh⟩ := id hv.shape
  have FI := hv
  go_enter Try.func24, Try.ntmps24
  refine wp_seq ?_
  refine wp_region_sqK 22 [(0, 2)] (fun i_ => match i_ with | 0 => .bool false | _ => undef) rfl (by kernel_rfl) (by decide) (by decide) ?_ ?_
  · intro i_ hi_ a hf hv hn
    match i_, hi_ with
    | 0, _ => exact stepV rfl rfl (execAsgB rfl rfl) ⟨⟨_, rfl, rfl⟩, rfl⟩
    | k_ + 1, h_ => exact absurd h_ (by simp)
  intro a h1 h2 h3 h4
  have t0 : a.eval (.tmp 0) = .slice ia n ic := (h3 0 (by decide)).trans rfl
  have A : a.tmps.size = 22 ∧ a.defers = [] := ⟨h1, h2⟩
  have BW : Below V.heap.size V V := Below.refl _ _
  clear h1 h2 h3 h4
  have BB := BW
  refine wp_seq ?_
  refine wp_seq ?_
  refine wp_region_sq (σ := Unit) 22 [(0, 3)] (fun j_ s X => match j_ with | 0 => Below V.heap.size V X | _ => Below V.heap.size V X) (fun s => fun i_ => match i_ with | 0 => .int .i64 ((0 : Nat) : Int) | _ => undef) () A.1 (by kernel_rfl) (by decide) (by decide) (BB) ?_ ?_
  · intro i_ hi_ s a X hf hv hn hS
    match i_, hi_ with
    | 0, _ => exact stepV rfl rfl (execAsgB rfl rfl) ⟨s, ⟨_, rfl, rfl⟩, hS, fun _ _ => rfl⟩
    | k_ + 1, h_ => exact absurd h_ (by simp)
  rintro _ a X1 h1 h2 h3 h4 hS
  clear BB
  replace hS : Below V.heap.size V X1 := hS
  have BB := hS
  clear hS
  replace t0 := (h3 0 (by decide)).trans t0
  have t3 : a.eval (.tmp 3) = .int .i64 ((0 : Nat) : Int) := h4 0 _ rfl _ rfl
  replace A := (⟨h1, h2.trans A.2⟩ : a.tmps.size = 22 ∧ a.defers = [])
  clear h1 h2 h3 h4
  refine wp_block ?_
  refine wp_loop (fun a W => ∃ i : Nat, i ≤ n ∧ anyB f i = false ∧ (a.tmps.size = 22 ∧ a.defers = []) ∧ a.eval (.tmp 0) = .slice ia n ic ∧ a.eval (.tmp 3) = .int .i64 ((i : Nat) : Int) ∧ Below V.heap.size V W) (fun a _ => n - (intOf (a.eval (.tmp 3))).toNat) ⟨0, Nat.zero_le _, rfl, A, t0, t3, BB⟩ ?_
  clear A t0 t3 BB a
  rintro a XL ⟨i, hi, hno, A, t0, t3, BB⟩
  have e3 := t3
  refine wp_seq ?_
  refine wp_seq ?_
  refine wp_region_sq (σ := Unit) 22 [(0, 4), (1, 5), (2, 6), (3, 7)] (fun j_ s X => match j_ with | 0 => Below V.heap.size V X | 1 => Below V.heap.size V X | 2 => Below V.heap.size V X | 3 => Below V.heap.size V X | _ => Below V.heap.size V X) (fun s => fun i_ => match i_ with | 0 => .int .i64 ((i : Nat) : Int) | 1 => .slice ia n ic | 2 => .int .i64 ((n : Nat) : Int) | 3 => .bool (decide (i < n)) | _ => undef) () A.1 (by kernel_rfl) (by decide) (by decide) (BB) ?_ ?_
  · intro i_ hi_ s a X hf hv hn hS
    match i_, hi_ with
    | 0, _ => exact stepV rfl rfl (execMvB rfl ((hf 3 (by decide)).trans t3)) ⟨s, ⟨_, rfl, rfl⟩, hS, fun _ _ => rfl⟩
    | 1, _ => exact stepV rfl rfl (execMvB rfl ((hf 0 (by decide)).trans t0)) ⟨s, ⟨_, rfl, rfl⟩, hS, fun _ _ => rfl⟩
    | 2, _ => exact stepV rfl rfl (execLenI (len := n) rfl (hv 1 (by omega) _ rfl _ rfl) ((FI.on hS)).shp) ⟨s, ⟨_, rfl, rfl⟩, hS, fun _ _ => rfl⟩
    | 3, _ => exact stepV rfl rfl (execLtW (p := i) (q := n) rfl (hv 0 (by omega) _ rfl _ rfl) (hv 2 (by omega) _ rfl _ rfl)) ⟨s, ⟨_, rfl, rfl⟩, hS, fun _ _ => rfl⟩
    | k_ + 4, h_ => exact absurd h_ (by simp)
  rintro _ a X2 h1 h2 h3 h4 hS
  clear BB
  replace hS : Below V.heap.size V X2 := hS
  have BB := hS
  clear hS
  replace t0 := (h3 0 (by decide)).trans t0
  replace t3 := (h3 3 (by decide)).trans t3
  have t7 : a.eval (.tmp 7) = .bool (decide (i < n)) := h4 3 _ rfl _ rfl
  replace A := (⟨h1, h2.trans A.2⟩ : a.tmps.size = 22 ∧ a.defers = [])
  clear h1 h2 h3 h4
  by_cases hlt : i < n
  · rw [decide_eq_true hlt] at t7
    refine wp_cond_true t7 ?_
    refine wp_skip ?_
    clear t7
    obtain ⟨ib, io, rfl, hib, hcell⟩ := hsh (by omega)
    have cI : ∀ X, Below V.heap.size V X → X.cell? ⟨ib, io + i, none⟩ = some (.int .i64 (f i)) := fun X hX => by rw [cell_below hX hib]; exact hcell i hlt
    refine wp_seq ?_
    refine wp_block ?_
    by_cases h1 : f i < 1
    · refine wp_seq ?_
      refine wp_region_sq (σ := Unit) 22 [(0, 10), (1, 11), (2, 12), (3, 13), (4, 14), (5, 15), (6, 16), (7, 17), (8, 18), (9, 19), (10, 20), (11, 21)] (fun j_ s X => match j_ with | 0 => Below V.heap.size V X | 1 => Below V.heap.size V X | 2 => Below V.heap.size V X | 3 => Below V.heap.size V X | 4 => Below V.heap.size V X | 5 => Below V.heap.size V X | 6 => Below V.heap.size V X | 7 => Below V.heap.size V X | 8 => Below V.heap.size V X | 9 => Below V.heap.size V X | 10 => Below V.heap.size V X | 11 => Below V.heap.size V X | _ => Below V.heap.size V X) (fun s => fun i_ => match i_ with | 0 => .slice (some ⟨ib, io, none⟩) n ic | 1 => .int .i64 ((i : Nat) : Int) | 2 => .pointer (some ⟨ib, io + i, none⟩) | 3 => .int .i64 (f i) | 4 => .bool true | 5 => .bool true | 6 => undef | 7 => undef | 8 => undef | 9 => undef | 10 => undef | 11 => .bool true | _ => undef) () A.1 (by kernel_rfl) (by decide) (by decide) (BB) ?_ ?_
      · intro i_ hi_ s a X hf hv hn hS
        match i_, hi_ with
        | 0, _ => exact stepV rfl rfl (execMvB rfl ((hf 0 (by decide)).trans t0)) ⟨s, ⟨_, rfl, rfl⟩, hS, fun _ _ => rfl⟩
        | 1, _ => exact stepV rfl rfl (execMvB rfl ((hf 3 (by decide)).trans t3)) ⟨s, ⟨_, rfl, rfl⟩, hS, fun _ _ => rfl⟩
        | 2, _ => exact stepV rfl rfl (execIdxN (k := i) rfl (hv 0 (by omega) _ rfl _ rfl) (hv 1 (by omega) _ rfl _ rfl) hlt) ⟨s, ⟨_, rfl, rfl⟩, hS, fun _ _ => rfl⟩
        | 3, _ => exact stepV rfl rfl (execLd3 rfl (hv 2 (by omega) _ rfl _ rfl) (cI X hS)) ⟨s, ⟨_, rfl, rfl⟩, hS, fun _ _ => rfl⟩
        | 4, _ => exact stepV rfl rfl (execLtCt (p := (f i)) (q := 1) rfl (hv 3 (by omega) _ rfl _ rfl) (by exact h1)) ⟨s, ⟨_, rfl, rfl⟩, hS, fun _ _ => rfl⟩
        | 5, _ => exact stepV rfl rfl (execMvB rfl (hv 4 (by omega) _ rfl _ rfl)) ⟨s, ⟨_, rfl, rfl⟩, hS, fun _ _ => rfl⟩
        | 6, _ => exact stepU rfl (unwantedOf rfl (yieldedAt rfl rfl (show a.eval (.tmp 15) = .bool (!false) from (hv 5 (by omega) _ rfl _ rfl)))) ⟨s, ⟨_, rfl, rfl⟩, hS, fun _ _ => rfl⟩
        | 7, _ => exact stepU rfl (unwantedOf rfl (yieldedAt rfl rfl (show a.eval (.tmp 15) = .bool (!false) from (hv 5 (by omega) _ rfl _ rfl)))) ⟨s, ⟨_, rfl, rfl⟩, hS, fun _ _ => rfl⟩
        | 8, _ => exact stepU rfl (unwantedOf rfl (yieldedAt rfl rfl (show a.eval (.tmp 15) = .bool (!false) from (hv 5 (by omega) _ rfl _ rfl)))) ⟨s, ⟨_, rfl, rfl⟩, hS, fun _ _ => rfl⟩
        | 9, _ => exact stepU rfl (unwantedOf rfl (yieldedAt rfl rfl (show a.eval (.tmp 15) = .bool (!false) from (hv 5 (by omega) _ rfl _ rfl)))) ⟨s, ⟨_, rfl, rfl⟩, hS, fun _ _ => rfl⟩
        | 10, _ => exact stepU rfl (unwantedOf rfl (yieldedAt rfl rfl (show a.eval (.tmp 15) = .bool (!false) from (hv 5 (by omega) _ rfl _ rfl)))) ⟨s, ⟨_, rfl, rfl⟩, hS, fun _ _ => rfl⟩
        | 11, _ => exact stepV rfl rfl (execPickT rfl (hv 5 (by omega) _ rfl _ rfl) rfl) ⟨s, ⟨_, rfl, rfl⟩, hS, fun _ _ => rfl⟩
        | k_ + 12, h_ => exact absurd h_ (by simp)
      rintro _ a X4 h1 h2 h3 h4 hS
      clear BB
      replace hS : Below V.heap.size V X4 := hS
      have BB := hS
      clear hS
      replace t0 := (h3 0 (by decide)).trans t0
      replace t3 := (h3 3 (by decide)).trans t3
      have t21 : a.eval (.tmp 21) = .bool true := h4 11 _ rfl _ rfl
      replace A := (⟨h1, h2.trans A.2⟩ : a.tmps.size = 22 ∧ a.defers = [])
      clear h1 h2 h3 h4
      refine wp_cond_true t21 ?_
      refine wp_seq ?_
      refine wp_region_sq (σ := Unit) 22 [(0, 2)] (fun j_ s X => match j_ with | 0 => Below V.heap.size V X | _ => Below V.heap.size V X) (fun s => fun i_ => match i_ with | 0 => .bool true | _ => undef) () A.1 (by kernel_rfl) (by decide) (by decide) (BB) ?_ ?_
      · intro i_ hi_ s a X hf hv hn hS
        match i_, hi_ with
        | 0, _ => exact stepV rfl rfl (execAsgB rfl rfl) ⟨s, ⟨_, rfl, rfl⟩, hS, fun _ _ => rfl⟩
        | k_ + 1, h_ => exact absurd h_ (by simp)
      rintro _ a X5 h1 h2 h3 h4 hS
      clear BB
      replace hS : Below V.heap.size V X5 := hS
      have BB := hS
      clear hS
      have t2 : a.eval (.tmp 2) = .bool true := h4 0 _ rfl _ rfl
      replace A := (⟨h1, h2.trans A.2⟩ : a.tmps.size = 22 ∧ a.defers = [])
      clear h1 h2 h3 h4
      clear t0 t3 t21
      have hy : anyB f n = true := anyB_yes hlt (Or.inl h1)
      rw [hy]
      refine wp_ret ?_
      repeat (first | refine ret_in ?_ | refine ret_then ?_)
      refine bodyPost_ret (results_tmp rfl _ _ _) A.2 ⟨?_, BB⟩
      show Ending.returned (a.eval (.tmp 2)) = _
      rw [t2]
    · by_cases h2 : 256 < f i
      · refine wp_seq ?_
        refine wp_region_sq (σ := Unit) 22 [(0, 10), (1, 11), (2, 12), (3, 13), (4, 14), (5, 15), (6, 16), (7, 17), (8, 18), (9, 19), (10, 20), (11, 21)] (fun j_ s X => match j_ with | 0 => Below V.heap.size V X | 1 => Below V.heap.size V X | 2 => Below V.heap.size V X | 3 => Below V.heap.size V X | 4 => Below V.heap.size V X | 5 => Below V.heap.size V X | 6 => Below V.heap.size V X | 7 => Below V.heap.size V X | 8 => Below V.heap.size V X | 9 => Below V.heap.size V X | 10 => Below V.heap.size V X | 11 => Below V.heap.size V X | _ => Below V.heap.size V X) (fun s => fun i_ => match i_ with | 0 => .slice (some ⟨ib, io, none⟩) n ic | 1 => .int .i64 ((i : Nat) : Int) | 2 => .pointer (some ⟨ib, io + i, none⟩) | 3 => .int .i64 (f i) | 4 => .bool false | 5 => .bool false | 6 => .slice (some ⟨ib, io, none⟩) n ic | 7 => .int .i64 ((i : Nat) : Int) | 8 => .pointer (some ⟨ib, io + i, none⟩) | 9 => .int .i64 (f i) | 10 => .bool true | 11 => .bool true | _ => undef) () A.1 (by kernel_rfl) (by decide) (by decide) (BB) ?_ ?_
        · intro i_ hi_ s a X hf hv hn hS
          match i_, hi_ with
          | 0, _ => exact stepV rfl rfl (execMvB rfl ((hf 0 (by decide)).trans t0)) ⟨s, ⟨_, rfl, rfl⟩, hS, fun _ _ => rfl⟩
          | 1, _ => exact stepV rfl rfl (execMvB rfl ((hf 3 (by decide)).trans t3)) ⟨s, ⟨_, rfl, rfl⟩, hS, fun _ _ => rfl⟩
          | 2, _ => exact stepV rfl rfl (execIdxN (k := i) rfl (hv 0 (by omega) _ rfl _ rfl) (hv 1 (by omega) _ rfl _ rfl) hlt) ⟨s, ⟨_, rfl, rfl⟩, hS, fun _ _ => rfl⟩
          | 3, _ => exact stepV rfl rfl (execLd3 rfl (hv 2 (by omega) _ rfl _ rfl) (cI X hS)) ⟨s, ⟨_, rfl, rfl⟩, hS, fun _ _ => rfl⟩
          | 4, _ => exact stepV rfl rfl (execLtCf (p := (f i)) (q := 1) rfl (hv 3 (by omega) _ rfl _ rfl) (by exact h1)) ⟨s, ⟨_, rfl, rfl⟩, hS, fun _ _ => rfl⟩
          | 5, _ => exact stepV rfl rfl (execMvB rfl (hv 4 (by omega) _ rfl _ rfl)) ⟨s, ⟨_, rfl, rfl⟩, hS, fun _ _ => rfl⟩
          | 6, _ => exact stepV rfl (wantedOf rfl (yieldedAt rfl rfl (show a.eval (.tmp 15) = .bool false from (hv 5 (by omega) _ rfl _ rfl)))) (execMvB rfl ((hf 0 (by decide)).trans t0)) ⟨s, ⟨_, rfl, rfl⟩, hS, fun _ _ => rfl⟩
          | 7, _ => exact stepV rfl (wantedOf rfl (yieldedAt rfl rfl (show a.eval (.tmp 15) = .bool false from (hv 5 (by omega) _ rfl _ rfl)))) (execMvB rfl ((hf 3 (by decide)).trans t3)) ⟨s, ⟨_, rfl, rfl⟩, hS, fun _ _ => rfl⟩
          | 8, _ => exact stepV rfl (wantedOf rfl (yieldedAt rfl rfl (show a.eval (.tmp 15) = .bool false from (hv 5 (by omega) _ rfl _ rfl)))) (execIdxN (k := i) rfl (hv 6 (by omega) _ rfl _ rfl) (hv 7 (by omega) _ rfl _ rfl) hlt) ⟨s, ⟨_, rfl, rfl⟩, hS, fun _ _ => rfl⟩
          | 9, _ => exact stepV rfl (wantedOf rfl (yieldedAt rfl rfl (show a.eval (.tmp 15) = .bool false from (hv 5 (by omega) _ rfl _ rfl)))) (execLd3 rfl (hv 8 (by omega) _ rfl _ rfl) (cI X hS)) ⟨s, ⟨_, rfl, rfl⟩, hS, fun _ _ => rfl⟩
          | 10, _ => exact stepV rfl (wantedOf rfl (yieldedAt rfl rfl (show a.eval (.tmp 15) = .bool false from (hv 5 (by omega) _ rfl _ rfl)))) (execGtCt (p := (f i)) (q := 256) rfl (hv 9 (by omega) _ rfl _ rfl) (by exact h2)) ⟨s, ⟨_, rfl, rfl⟩, hS, fun _ _ => rfl⟩
          | 11, _ => exact stepV rfl rfl (execPickF rfl (hv 5 (by omega) _ rfl _ rfl) (hv 10 (by omega) _ rfl _ rfl)) ⟨s, ⟨_, rfl, rfl⟩, hS, fun _ _ => rfl⟩
          | k_ + 12, h_ => exact absurd h_ (by simp)
        rintro _ a X4 h1 h2 h3 h4 hS
        clear BB
        replace hS : Below V.heap.size V X4 := hS
        have BB := hS
        clear hS
        replace t0 := (h3 0 (by decide)).trans t0
        replace t3 := (h3 3 (by decide)).trans t3
        have t21 : a.eval (.tmp 21) = .bool true := h4 11 _ rfl _ rfl
        replace A := (⟨h1, h2.trans A.2⟩ : a.tmps.size = 22 ∧ a.defers = [])
        clear h1 h2 h3 h4
        refine wp_cond_true t21 ?_
        refine wp_seq ?_
        refine wp_region_sq (σ := Unit) 22 [(0, 2)] (fun j_ s X => match j_ with | 0 => Below V.heap.size V X | _ => Below V.heap.size V X) (fun s => fun i_ => match i_ with | 0 => .bool true | _ => undef) () A.1 (by kernel_rfl) (by decide) (by decide) (BB) ?_ ?_
        · intro i_ hi_ s a X hf hv hn hS
          match i_, hi_ with
          | 0, _ => exact stepV rfl rfl (execAsgB rfl rfl) ⟨s, ⟨_, rfl, rfl⟩, hS, fun _ _ => rfl⟩
          | k_ + 1, h_ => exact absurd h_ (by simp)
        rintro _ a X5 h1 h2 h3 h4 hS
        clear BB
        replace hS : Below V.heap.size V X5 := hS
        have BB := hS
        clear hS
        have t2 : a.eval (.tmp 2) = .bool true := h4 0 _ rfl _ rfl
        replace A := (⟨h1, h2.trans A.2⟩ : a.tmps.size = 22 ∧ a.defers = [])
        clear h1 h2 h3 h4
        clear t0 t3 t21
        have hy : anyB f n = true := anyB_yes hlt (Or.inr h2)
        rw [hy]
        refine wp_ret ?_
        repeat (first | refine ret_in ?_ | refine ret_then ?_)
        refine bodyPost_ret (results_tmp rfl _ _ _) A.2 ⟨?_, BB⟩
        show Ending.returned (a.eval (.tmp 2)) = _
        rw [t2]
      · refine wp_seq ?_
        refine wp_region_sq (σ := Unit) 22 [(0, 10), (1, 11), (2, 12), (3, 13), (4, 14), (5, 15), (6, 16), (7, 17), (8, 18), (9, 19), (10, 20), (11, 21)] (fun j_ s X => match j_ with | 0 => Below V.heap.size V X | 1 => Below V.heap.size V X | 2 => Below V.heap.size V X | 3 => Below V.heap.size V X | 4 => Below V.heap.size V X | 5 => Below V.heap.size V X | 6 => Below V.heap.size V X | 7 => Below V.heap.size V X | 8 => Below V.heap.size V X | 9 => Below V.heap.size V X | 10 => Below V.heap.size V X | 11 => Below V.heap.size V X | _ => Below V.heap.size V X) (fun s => fun i_ => match i_ with | 0 => .slice (some ⟨ib, io, none⟩) n ic | 1 => .int .i64 ((i : Nat) : Int) | 2 => .pointer (some ⟨ib, io + i, none⟩) | 3 => .int .i64 (f i) | 4 => .bool false | 5 => .bool false | 6 => .slice (some ⟨ib, io, none⟩) n ic | 7 => .int .i64 ((i : Nat) : Int) | 8 => .pointer (some ⟨ib, io + i, none⟩) | 9 => .int .i64 (f i) | 10 => .bool false | 11 => .bool false | _ => undef) () A.1 (by kernel_rfl) (by decide) (by decide) (BB) ?_ ?_
        · intro i_ hi_ s a X hf hv hn hS
          match i_, hi_ with
          | 0, _ => exact stepV rfl rfl (execMvB rfl ((hf 0 (by decide)).trans t0)) ⟨s, ⟨_, rfl, rfl⟩, hS, fun _ _ => rfl⟩
          | 1, _ => exact stepV rfl rfl (execMvB rfl ((hf 3 (by decide)).trans t3)) ⟨s, ⟨_, rfl, rfl⟩, hS, fun _ _ => rfl⟩
          | 2, _ => exact stepV rfl rfl (execIdxN (k := i) rfl (hv 0 (by omega) _ rfl _ rfl) (hv 1 (by omega) _ rfl _ rfl) hlt) ⟨s, ⟨_, rfl, rfl⟩, hS, fun _ _ => rfl⟩
          | 3, _ => exact stepV rfl rfl (execLd3 rfl (hv 2 (by omega) _ rfl _ rfl) (cI X hS)) ⟨s, ⟨_, rfl, rfl⟩, hS, fun _ _ => rfl⟩
          | 4, _ => exact stepV rfl rfl (execLtCf (p := (f i)) (q := 1) rfl (hv 3 (by omega) _ rfl _ rfl) (by exact h1)) ⟨s, ⟨_, rfl, rfl⟩, hS, fun _ _ => rfl⟩
          | 5, _ => exact stepV rfl rfl (execMvB rfl (hv 4 (by omega) _ rfl _ rfl)) ⟨s, ⟨_, rfl, rfl⟩, hS, fun _ _ => rfl⟩
          | 6, _ => exact stepV rfl (wantedOf rfl (yieldedAt rfl rfl (show a.eval (.tmp 15) = .bool false from (hv 5 (by omega) _ rfl _ rfl)))) (execMvB rfl ((hf 0 (by decide)).trans t0)) ⟨s, ⟨_, rfl, rfl⟩, hS, fun _ _ => rfl⟩
          | 7, _ => exact stepV rfl (wantedOf rfl (yieldedAt rfl rfl (show a.eval (.tmp 15) = .bool false from (hv 5 (by omega) _ rfl _ rfl)))) (execMvB rfl ((hf 3 (by decide)).trans t3)) ⟨s, ⟨_, rfl, rfl⟩, hS, fun _ _ => rfl⟩
          | 8, _ => exact stepV rfl (wantedOf rfl (yieldedAt rfl rfl (show a.eval (.tmp 15) = .bool false from (hv 5 (by omega) _ rfl _ rfl)))) (execIdxN (k := i) rfl (hv 6 (by omega) _ rfl _ rfl) (hv 7 (by omega) _ rfl _ rfl) hlt) ⟨s, ⟨_, rfl, rfl⟩, hS, fun _ _ => rfl⟩
          | 9, _ => exact stepV rfl (wantedOf rfl (yieldedAt rfl rfl (show a.eval (.tmp 15) = .bool false from (hv 5 (by omega) _ rfl _ rfl)))) (execLd3 rfl (hv 8 (by omega) _ rfl _ rfl) (cI X hS)) ⟨s, ⟨_, rfl, rfl⟩, hS, fun _ _ => rfl⟩
          | 10, _ => exact stepV rfl (wantedOf rfl (yieldedAt rfl rfl (show a.eval (.tmp 15) = .bool false from (hv 5 (by omega) _ rfl _ rfl)))) (execGtCf (p := (f i)) (q := 256) rfl (hv 9 (by omega) _ rfl _ rfl) (by exact h2)) ⟨s, ⟨_, rfl, rfl⟩, hS, fun _ _ => rfl⟩
          | 11, _ => exact stepV rfl rfl (execPickF rfl (hv 5 (by omega) _ rfl _ rfl) (hv 10 (by omega) _ rfl _ rfl)) ⟨s, ⟨_, rfl, rfl⟩, hS, fun _ _ => rfl⟩
          | k_ + 12, h_ => exact absurd h_ (by simp)
        rintro _ a X4 h1 h2 h3 h4 hS
        clear BB
        replace hS : Below V.heap.size V X4 := hS
        have BB := hS
        clear hS
        replace t0 := (h3 0 (by decide)).trans t0
        replace t3 := (h3 3 (by decide)).trans t3
        have t21 : a.eval (.tmp 21) = .bool false := h4 11 _ rfl _ rfl
        replace A := (⟨h1, h2.trans A.2⟩ : a.tmps.size = 22 ∧ a.defers = [])
        clear h1 h2 h3 h4
        refine wp_cond_false t21 ?_
        refine wp_skip ?_
        clear t21
        refine wp_region_sq (σ := Unit) 22 [(0, 8), (1, 9), (2, 3)] (fun j_ s X => match j_ with | 0 => Below V.heap.size V X | 1 => Below V.heap.size V X | 2 => Below V.heap.size V X | _ => Below V.heap.size V X) (fun s => fun i_ => match i_ with | 0 => .int .i64 ((i : Nat) : Int) | 1 => .int .i64 ((i + 1 : Nat) : Int) | 2 => .int .i64 ((i + 1 : Nat) : Int) | _ => undef) () A.1 (by kernel_rfl) (by decide) (by decide) (BB) ?_ ?_
        · intro i_ hi_ s a X hf hv hn hS
          match i_, hi_ with
          | 0, _ => exact stepV rfl rfl (execMvB rfl ((hn 2 (by omega) _ rfl _ rfl).trans t3)) ⟨s, ⟨_, rfl, rfl⟩, hS, fun _ _ => rfl⟩
          | 1, _ => exact stepV rfl rfl (execAd8 (p := i) (q := 1) rfl (hv 0 (by omega) _ rfl _ rfl) rfl (by omega)) ⟨s, ⟨_, rfl, rfl⟩, hS, fun _ _ => rfl⟩
          | 2, _ => exact stepV rfl rfl (execAsgB rfl (hv 1 (by omega) _ rfl _ rfl)) ⟨s, ⟨_, rfl, rfl⟩, hS, fun _ _ => rfl⟩
          | k_ + 3, h_ => exact absurd h_ (by simp)
        rintro _ a X3 h1 h2 h3 h4 hS
        clear BB
        replace hS : Below V.heap.size V X3 := hS
        have BB := hS
        clear hS
        replace t0 := (h3 0 (by decide)).trans t0
        replace t3 : a.eval (.tmp 3) = .int .i64 ((i + 1 : Nat) : Int) := h4 2 _ rfl _ rfl
        replace A := (⟨h1, h2.trans A.2⟩ : a.tmps.size = 22 ∧ a.defers = [])
        clear h1 h2 h3 h4
        exact ⟨⟨i + 1, hlt, by simp only [anyB, hno, Bool.false_or, decide_eq_false_iff_not]; unfold bad; omega, A, t0, t3, BB⟩, by show n - (intOf (a.eval (.tmp 3))).toNat < n - (intOf (Act.eval _ (.tmp 3))).toNat; rw [t3, e3]; show n - (i + 1) < n - i; omega⟩
  · rw [decide_eq_false hlt] at t7
    refine wp_cond_false t7 ?_
    refine wp_exit ?_
    first | refine exit_in ?_ | refine exit_then (exit_in ?_) | refine exit_then (exit_then (exit_in ?_))
    clear t7
    have hin : i = n := by omega
    rw [hin] at hno
    rw [hno]
    refine wp_seq ?_
    refine wp_region_sq (σ := Unit) 22 [(0, 2)] (fun j_ s X => match j_ with | 0 => Below V.heap.size V X | _ => Below V.heap.size V X) (fun s => fun i_ => match i_ with | 0 => .bool false | _ => undef) () A.1 (by kernel_rfl) (by decide) (by decide) (BB) ?_ ?_
    · intro i_ hi_ s a X hf hv hn hS
      match i_, hi_ with
      | 0, _ => exact stepV rfl rfl (execAsgB rfl rfl) ⟨s, ⟨_, rfl, rfl⟩, hS, fun _ _ => rfl⟩
      | k_ + 1, h_ => exact absurd h_ (by simp)
    rintro _ a X6 h1 h2 h3 h4 hS
    clear BB
    replace hS : Below V.heap.size V X6 := hS
    have BB := hS
    clear hS
    have t2 : a.eval (.tmp 2) = .bool false := h4 0 _ rfl _ rfl
    replace A := (⟨h1, h2.trans A.2⟩ : a.tmps.size = 22 ∧ a.defers = [])
    clear h1 h2 h3 h4
    clear t0 t3
    refine wp_ret ?_
    repeat (first | refine ret_in ?_ | refine ret_then ?_)
    refine bodyPost_ret (results_tmp rfl _ _ _) A.2 ⟨?_, BB⟩
    show Ending.returned (a.eval (.tmp 2)) = _
    rw [t2]
set_option maxRecDepth 100000 in
set_option maxHeartbeats 4000000 in
theorem rbelow_ok (p : Nat → Nat) (l at' b : Nat) (v : Value) (V : World) (hv : SliceN V v l p) (hl : l ≤ 140737488351232) (hat : at' ≤ l) (hb2 : 2 ≤ b) (hb : b ≤ 256) :
    Calls Try.prog 12 #[v, .int .i64 ((at' : Nat) : Int), .int .i64 ((b : Nat) : Int)] V fun e w' => e = .returned (.tuple #[.int .i64 ((dV p l at' (b : Int) : Nat) : Int), .int .i64 ((dN p l at' (b : Int) : Nat) : Int), .int .i64 ((dE p l at' (b : Int) : Nat) : Int)]) ∧ Below V.heap.size V w' := by
  obtain ⟨pa, pc, rfl, -, -, hsh⟩ := id hv.shape
  have hp := hv.bytes
  go_enter Try.func12, Try.ntmps12
  refine wp_seq ?_
  refine wp_region_sqK 41 [(0, 6), (1, 7), (2, 8)] (fun i_ => match i_ with | 0 => .int .i64 ((0 : Nat) : Int) | 1 => .int .i64 ((0 : Nat) : Int) | 2 => .int .i64 ((0 : Nat) : Int) | _ => undef) rfl (by kernel_rfl) (by decide) (by decide) ?_ ?_
  · intro i_ hi_ a hf hv hn
    match i_, hi_ with
    | 0, _ => exact stepV rfl rfl (execAsgB rfl rfl) ⟨⟨_, rfl, rfl⟩, rfl⟩
    | 1, _ => exact stepV rfl rfl (execAsgB rfl rfl) ⟨⟨_, rfl, rfl⟩, rfl⟩
    | 2, _ => exact stepV rfl rfl (execAsgB rfl rfl) ⟨⟨_, rfl, rfl⟩, rfl⟩
    | k_ + 3, h_ => exact absurd h_ (by simp)
  intro a h1 h2 h3 h4
  have t0 : a.eval (.tmp 0) = .slice pa l pc := (h3 0 (by decide)).trans rfl
  have t1 : a.eval (.tmp 1) = .int .i64 ((at' : Nat) : Int) := (h3 1 (by decide)).trans rfl
  have t2 : a.eval (.tmp 2) = .int .i64 ((b : Nat) : Int) := (h3 2 (by decide)).trans rfl
  have A : a.tmps.size = 41 ∧ a.defers = [] := ⟨h1, h2⟩
  have BW : Below V.heap.size V V := Below.refl _ _
  clear h1 h2 h3 h4
  have BB := BW
  refine wp_seq ?_
  refine wp_seq ?_
  refine wp_region_sq (σ := Unit) 41 [(0, 10), (1, 11), (2, 12), (3, 13), (4, 14), (5, 15)] (fun j_ s X => match j_ with | 0 => Below V.heap.size V X | 1 => Below V.heap.size V X | 2 => Below V.heap.size V X | 3 => Below V.heap.size V X | 4 => Below V.heap.size V X | 5 => Below V.heap.size V X | _ => Below V.heap.size V X) (fun s => fun i_ => match i_ with | 0 => .int .i64 ((b : Nat) : Int) | 1 => .bool false | 2 => .bool false | 3 => .int .i64 ((b : Nat) : Int) | 4 => .bool false | 5 => .bool false | _ => undef) () A.1 (by kernel_rfl) (by decide) (by decide) (BB) ?_ ?_
  · intro i_ hi_ s a X hf hv hn hS
    match i_, hi_ with
    | 0, _ => exact stepV rfl rfl (execMvB rfl ((hf 2 (by decide)).trans t2)) ⟨s, ⟨_, rfl, rfl⟩, hS, fun _ _ => rfl⟩
    | 1, _ => exact stepV rfl rfl (execDec (execLtW (p := b) (q := 1) rfl (hv 0 (by omega) _ rfl _ rfl) rfl) (decide_eq_false (by omega))) ⟨s, ⟨_, rfl, rfl⟩, hS, fun _ _ => rfl⟩
    | 2, _ => exact stepV rfl rfl (execMvB rfl (hv 1 (by omega) _ rfl _ rfl)) ⟨s, ⟨_, rfl, rfl⟩, hS, fun _ _ => rfl⟩
    | 3, _ => exact stepV rfl (wantedOf rfl (yieldedAt rfl rfl (show a.eval (.tmp 12) = .bool false from (hv 2 (by omega) _ rfl _ rfl)))) (execMvB rfl ((hf 2 (by decide)).trans t2)) ⟨s, ⟨_, rfl, rfl⟩, hS, fun _ _ => rfl⟩
    | 4, _ => exact stepV rfl (wantedOf rfl (yieldedAt rfl rfl (show a.eval (.tmp 12) = .bool false from (hv 2 (by omega) _ rfl _ rfl)))) (execDec (execGtN (p := b) (q := 256) rfl (hv 3 (by omega) _ rfl _ rfl) rfl) (decide_eq_false (by omega))) ⟨s, ⟨_, rfl, rfl⟩, hS, fun _ _ => rfl⟩
    | 5, _ => exact stepV rfl rfl (execPickF rfl (hv 2 (by omega) _ rfl _ rfl) (hv 4 (by omega) _ rfl _ rfl)) ⟨s, ⟨_, rfl, rfl⟩, hS, fun _ _ => rfl⟩
    | k_ + 6, h_ => exact absurd h_ (by simp)
  rintro _ a X1 h1 h2 h3 h4 hS
  clear BB
  replace hS : Below V.heap.size V X1 := hS
  have BB := hS
  clear hS
  replace t0 := (h3 0 (by decide)).trans t0
  replace t1 := (h3 1 (by decide)).trans t1
  replace t2 := (h3 2 (by decide)).trans t2
  have t15 : a.eval (.tmp 15) = .bool false := h4 5 _ rfl _ rfl
  replace A := (⟨h1, h2.trans A.2⟩ : a.tmps.size = 41 ∧ a.defers = [])
  clear h1 h2 h3 h4
  refine wp_cond_false t15 ?_
  refine wp_skip ?_
  clear t15
  refine wp_seq ?_
  refine wp_seq ?_
  refine wp_region_sq (σ := Unit) 41 [(0, 16), (1, 17)] (fun j_ s X => match j_ with | 0 => Below V.heap.size V X | 1 => Below V.heap.size V X | _ => Below V.heap.size V X) (fun s => fun i_ => match i_ with | 0 => .int .i64 ((b : Nat) : Int) | 1 => .bool false | _ => undef) () A.1 (by kernel_rfl) (by decide) (by decide) (BB) ?_ ?_
  · intro i_ hi_ s a X hf hv hn hS
    match i_, hi_ with
    | 0, _ => exact stepV rfl rfl (execMvB rfl ((hf 2 (by decide)).trans t2)) ⟨s, ⟨_, rfl, rfl⟩, hS, fun _ _ => rfl⟩
    | 1, _ => exact stepV rfl rfl (execDec (execEqN (p := b) (q := 1) rfl (hv 0 (by omega) _ rfl _ rfl) rfl) (decide_eq_false (by omega))) ⟨s, ⟨_, rfl, rfl⟩, hS, fun _ _ => rfl⟩
    | k_ + 2, h_ => exact absurd h_ (by simp)
  rintro _ a X3 h1 h2 h3 h4 hS
  clear BB
  replace hS : Below V.heap.size V X3 := hS
  have BB := hS
  clear hS
  replace t0 := (h3 0 (by decide)).trans t0
  replace t1 := (h3 1 (by decide)).trans t1
  replace t2 := (h3 2 (by decide)).trans t2
  have t17 : a.eval (.tmp 17) = .bool false := h4 1 _ rfl _ rfl
  replace A := (⟨h1, h2.trans A.2⟩ : a.tmps.size = 41 ∧ a.defers = [])
  clear h1 h2 h3 h4
  refine wp_cond_false t17 ?_
  refine wp_skip ?_
  clear t17
  refine wp_seq ?_
  refine wp_block ?_
  refine wp_loop (fun a W => ∃ i : Nat, at' ≤ i ∧ i ≤ l ∧ scan p b (l - i) i = scan p b (l - at') at' ∧ (a.tmps.size = 41 ∧ a.defers = []) ∧ a.eval (.tmp 0) = .slice pa l pc ∧ a.eval (.tmp 1) = .int .i64 ((i : Nat) : Int) ∧ a.eval (.tmp 2) = .int .i64 ((b : Nat) : Int) ∧ Below V.heap.size V W) (fun a _ => l - (intOf (a.eval (.tmp 1))).toNat) ⟨at', Nat.le_refl _, hat, rfl, A, t0, t1, t2, BB⟩ ?_
  clear A t0 t1 t2 BB a
  rintro a XL ⟨i, hai, hil, hsc, A, t0, t1, t2, BB⟩
  have e1 := t1
  refine wp_seq ?_
  refine wp_seq ?_
  refine wp_region_sq (σ := Unit) 41 [(0, 19), (1, 20), (2, 21), (3, 22)] (fun j_ s X => match j_ with | 0 => Below V.heap.size V X | 1 => Below V.heap.size V X | 2 => Below V.heap.size V X | 3 => Below V.heap.size V X | _ => Below V.heap.size V X) (fun s => fun i_ => match i_ with | 0 => .int .i64 ((i : Nat) : Int) | 1 => .slice pa l pc | 2 => .int .i64 ((l : Nat) : Int) | 3 => .bool (decide (i < l)) | _ => undef) () A.1 (by kernel_rfl) (by decide) (by decide) (BB) ?_ ?_
  · intro i_ hi_ s a X hf hv hn hS
    match i_, hi_ with
    | 0, _ => exact stepV rfl rfl (execMvB rfl ((hf 1 (by decide)).trans t1)) ⟨s, ⟨_, rfl, rfl⟩, hS, fun _ _ => rfl⟩
    | 1, _ => exact stepV rfl rfl (execMvB rfl ((hf 0 (by decide)).trans t0)) ⟨s, ⟨_, rfl, rfl⟩, hS, fun _ _ => rfl⟩
    | 2, _ => exact stepV rfl rfl (execLenV (len := l) rfl (hv 1 (by omega) _ rfl _ rfl) ⟨_, _, rfl⟩) ⟨s, ⟨_, rfl, rfl⟩, hS, fun _ _ => rfl⟩
    | 3, _ => exact stepV rfl rfl (execLtW (p := i) (q := l) rfl (hv 0 (by omega) _ rfl _ rfl) (hv 2 (by omega) _ rfl _ rfl)) ⟨s, ⟨_, rfl, rfl⟩, hS, fun _ _ => rfl⟩
    | k_ + 4, h_ => exact absurd h_ (by simp)
  rintro _ a X5 h1 h2 h3 h4 hS
  clear BB
  replace hS : Below V.heap.size V X5 := hS
  have BB := hS
  clear hS
  replace t0 := (h3 0 (by decide)).trans t0
  replace t1 := (h3 1 (by decide)).trans t1
  replace t2 := (h3 2 (by decide)).trans t2
  have t22 : a.eval (.tmp 22) = .bool (decide (i < l)) := h4 3 _ rfl _ rfl
  replace A := (⟨h1, h2.trans A.2⟩ : a.tmps.size = 41 ∧ a.defers = [])
  clear h1 h2 h3 h4
  by_cases hlt : i < l
  · rw [decide_eq_true hlt] at t22
    refine wp_cond_true t22 ?_
    refine wp_skip ?_
    clear t22
    obtain ⟨pb, po, rfl, hpb, hcell⟩ := hsh (by omega)
    have cI : ∀ X, Below V.heap.size V X → X.cell? ⟨pb, po + i, none⟩ = some (.int .u8 ((p i : Nat) : Int)) := fun X hX => by rw [cell_below hX hpb]; exact hcell i hlt
    have hpi := hp i hlt
    have hstep : scan p b (l - i) i = if p i / b < 256 / b then i else scan p b (l - (i + 1)) (i + 1) := by rw [show l - i = (l - (i + 1)) + 1 by omega]; rfl
    refine wp_seq ?_
    refine wp_block ?_
    refine wp_seq ?_
    refine wp_region_sq (σ := Unit) 41 [(0, 25), (1, 26), (2, 27), (3, 28), (4, 29), (5, 9)] (fun j_ s X => match j_ with | 0 => Below V.heap.size V X | 1 => Below V.heap.size V X | 2 => Below V.heap.size V X | 3 => Below V.heap.size V X | 4 => Below V.heap.size V X | 5 => Below V.heap.size V X | _ => Below V.heap.size V X) (fun s => fun i_ => match i_ with | 0 => .slice (some ⟨pb, po, none⟩) l pc | 1 => .int .i64 ((i : Nat) : Int) | 2 => .pointer (some ⟨pb, po + i, none⟩) | 3 => .int .u8 ((p i : Nat) : Int) | 4 => .int .i64 ((p i : Nat) : Int) | 5 => .int .i64 ((p i : Nat) : Int) | _ => undef) () A.1 (by kernel_rfl) (by decide) (by decide) (BB) ?_ ?_
    · intro i_ hi_ s a X hf hv hn hS
      match i_, hi_ with
      | 0, _ => exact stepV rfl rfl (execMvB rfl ((hf 0 (by decide)).trans t0)) ⟨s, ⟨_, rfl, rfl⟩, hS, fun _ _ => rfl⟩
      | 1, _ => exact stepV rfl rfl (execMvB rfl ((hf 1 (by decide)).trans t1)) ⟨s, ⟨_, rfl, rfl⟩, hS, fun _ _ => rfl⟩
      | 2, _ => exact stepV rfl rfl (execIdxB9 (k := i) rfl (hv 0 (by omega) _ rfl _ rfl) (hv 1 (by omega) _ rfl _ rfl) hlt) ⟨s, ⟨_, rfl, rfl⟩, hS, fun _ _ => rfl⟩
      | 3, _ => exact stepV rfl rfl (execLdB rfl (hv 2 (by omega) _ rfl _ rfl) (cI X hS)) ⟨s, ⟨_, rfl, rfl⟩, hS, fun _ _ => rfl⟩
      | 4, _ => exact stepV rfl rfl (execCv53 rfl (hv 3 (by omega) _ rfl _ rfl) hpi) ⟨s, ⟨_, rfl, rfl⟩, hS, fun _ _ => rfl⟩
      | 5, _ => exact stepV rfl rfl (execAsgB rfl (hv 4 (by omega) _ rfl _ rfl)) ⟨s, ⟨_, rfl, rfl⟩, hS, fun _ _ => rfl⟩
      | k_ + 6, h_ => exact absurd h_ (by simp)
    rintro _ a X7 h1 h2 h3 h4 hS
    clear BB
    replace hS : Below V.heap.size V X7 := hS
    have BB := hS
    clear hS
    replace t0 := (h3 0 (by decide)).trans t0
    replace t1 := (h3 1 (by decide)).trans t1
    replace t2 := (h3 2 (by decide)).trans t2
    have t9 : a.eval (.tmp 9) = .int .i64 ((p i : Nat) : Int) := h4 5 _ rfl _ rfl
    replace A := (⟨h1, h2.trans A.2⟩ : a.tmps.size = 41 ∧ a.defers = [])
    clear h1 h2 h3 h4
    refine wp_seq ?_
    refine wp_region_detA 41 [(0, 30), (1, 31), (2, 32), (3, 33), (4, 34), (5, 35)] (fun i_ => match i_ with | 0 => .int .i64 ((p i : Nat) : Int) | 1 => .int .i64 ((b : Nat) : Int) | 2 => .int .i64 (((p i) / b : Nat) : Int) | 3 => .int .i64 ((b : Nat) : Int) | 4 => .int .i64 ((256 / b : Nat) : Int) | 5 => .bool (decide ((p i) / b < 256 / b)) | _ => undef) (fun _ X => Below V.heap.size V X) (by kernel_rfl) (by kernel_rfl) A.1 (by kernel_rfl) (by decide) (by decide) BB.drew ?_ ?_
    · intro i_ hi_ l_ a X hl_ hf hdep hl2 hcl hno hT
      match i_, hi_ with
      | 0, _ => exact stepV rfl rfl (execMvB rfl ((hf 9 (by decide)).trans t9)) ⟨⟨_, rfl, rfl⟩, hT⟩
      | 1, _ => exact stepV rfl rfl (execMvB rfl ((hf 2 (by decide)).trans t2)) ⟨⟨_, rfl, rfl⟩, hT⟩
      | 2, _ => exact stepV rfl rfl (execQuoD (p := p i) (q := b) rfl (hdep _ rfl 0 rfl _ rfl _ rfl) (hdep _ rfl 1 rfl _ rfl _ rfl) (by omega) (by omega)) ⟨⟨_, rfl, rfl⟩, hT⟩
      | 3, _ => exact stepV rfl rfl (execMvB rfl ((hf 2 (by decide)).trans t2)) ⟨⟨_, rfl, rfl⟩, hT⟩
      | 4, _ => exact stepV rfl rfl (execQuoD (p := 256) (q := b) rfl rfl (hdep _ rfl 3 rfl _ rfl _ rfl) (by omega) (by omega)) ⟨⟨_, rfl, rfl⟩, hT⟩
      | 5, _ => exact stepV rfl rfl (execLtW (p := (p i) / b) (q := 256 / b) rfl (hdep _ rfl 2 rfl _ rfl _ rfl) (hdep _ rfl 4 rfl _ rfl _ rfl)) ⟨⟨_, rfl, rfl⟩, hT⟩
      | k_ + 6, h_ => exact absurd h_ (by simp)
    intro l_ a X8 h1 h2 h3 h4 hall hT
    clear hall
    clear BB
    have BB := hT
    clear hT
    replace t0 := (h3 0 (by decide)).trans t0
    replace t1 := (h3 1 (by decide)).trans t1
    replace t2 := (h3 2 (by decide)).trans t2
    replace t9 := (h3 9 (by decide)).trans t9
    have t35 : a.eval (.tmp 35) = .bool (decide ((p i) / b < 256 / b)) := h4 (5, 35) (by decide)
    replace A := (⟨h1, h2.trans A.2⟩ : a.tmps.size = 41 ∧ a.defers = [])
    clear h1 h2 h3 h4
    by_cases hq : p i / b < 256 / b
    · rw [decide_eq_true hq] at t35
      refine wp_cond_true t35 ?_
      clear t35
      rw [if_pos hq] at hstep
      refine wp_seq ?_
      refine wp_region_sq (σ := Unit) 41 [(0, 36), (1, 37), (2, 38), (3, 39), (4, 40), (5, 6), (6, 7), (7, 8)] (fun j_ s X => match j_ with | 0 => Below V.heap.size V X | 1 => Below V.heap.size V X | 2 => Below V.heap.size V X | 3 => Below V.heap.size V X | 4 => Below V.heap.size V X | 5 => Below V.heap.size V X | 6 => Below V.heap.size V X | 7 => Below V.heap.size V X | _ => Below V.heap.size V X) (fun s => fun i_ => match i_ with | 0 => .int .i64 ((p i : Nat) : Int) | 1 => .int .i64 ((b : Nat) : Int) | 2 => .int .i64 (((p i) % b : Nat) : Int) | 3 => .int .i64 ((i : Nat) : Int) | 4 => .int .i64 ((i + 1 : Nat) : Int) | 5 => .int .i64 (((p i) % b : Nat) : Int) | 6 => .int .i64 ((i + 1 : Nat) : Int) | 7 => .int .i64 ((0 : Nat) : Int) | _ => undef) () A.1 (by kernel_rfl) (by decide) (by decide) (BB) ?_ ?_
      · intro i_ hi_ s a X hf hv hn hS
        match i_, hi_ with
        | 0, _ => exact stepV rfl rfl (execMvB rfl ((hf 9 (by decide)).trans t9)) ⟨s, ⟨_, rfl, rfl⟩, hS, fun _ _ => rfl⟩
        | 1, _ => exact stepV rfl rfl (execMvB rfl ((hf 2 (by decide)).trans t2)) ⟨s, ⟨_, rfl, rfl⟩, hS, fun _ _ => rfl⟩
        | 2, _ => exact stepV rfl rfl (Aes.execRemI (p := p i) (q := b) rfl (hv 0 (by omega) _ rfl _ rfl) (hv 1 (by omega) _ rfl _ rfl) (by omega)) ⟨s, ⟨_, rfl, rfl⟩, hS, fun _ _ => rfl⟩
        | 3, _ => exact stepV rfl rfl (execMvB rfl ((hf 1 (by decide)).trans t1)) ⟨s, ⟨_, rfl, rfl⟩, hS, fun _ _ => rfl⟩
        | 4, _ => exact stepV rfl rfl (execAd8 (p := i) (q := 1) rfl (hv 3 (by omega) _ rfl _ rfl) rfl (by omega)) ⟨s, ⟨_, rfl, rfl⟩, hS, fun _ _ => rfl⟩
        | 5, _ => exact stepV rfl rfl (execAsgB rfl (hv 2 (by omega) _ rfl _ rfl)) ⟨s, ⟨_, rfl, rfl⟩, hS, fun _ _ => rfl⟩
        | 6, _ => exact stepV rfl rfl (execAsgB rfl (hv 4 (by omega) _ rfl _ rfl)) ⟨s, ⟨_, rfl, rfl⟩, hS, fun _ _ => rfl⟩
        | 7, _ => exact stepV rfl rfl (execAsgB rfl rfl) ⟨s, ⟨_, rfl, rfl⟩, hS, fun _ _ => rfl⟩
        | k_ + 8, h_ => exact absurd h_ (by simp)
      rintro _ a X9 h1 h2 h3 h4 hS
      clear BB
      replace hS : Below V.heap.size V X9 := hS
      have BB := hS
      clear hS
      have t6 : a.eval (.tmp 6) = .int .i64 (((p i) % b : Nat) : Int) := h4 5 _ rfl _ rfl
      have t7 : a.eval (.tmp 7) = .int .i64 ((i + 1 : Nat) : Int) := h4 6 _ rfl _ rfl
      have t8 : a.eval (.tmp 8) = .int .i64 ((0 : Nat) : Int) := h4 7 _ rfl _ rfl
      replace A := (⟨h1, h2.trans A.2⟩ : a.tmps.size = 41 ∧ a.defers = [])
      clear h1 h2 h3 h4
      clear t0 t1 t2 t9
      have hS : dS p l at' (b : Int) = i := by show scan p (b : Int).toNat (l - at') at' = i; rw [Int.toNat_natCast, ← hsc, hstep]
      have hE : dE p l at' (b : Int) = 0 := by unfold dE; rw [if_neg (by omega), if_neg (by omega), hS, if_pos hlt]
      have hV : dV p l at' (b : Int) = p i % b := by unfold dV; rw [if_pos ⟨hE, by omega⟩, hS, Int.toNat_natCast]
      have hN : dN p l at' (b : Int) = i + 1 := by unfold dN; rw [if_pos hE, if_neg (by omega), hS]
      rw [hE, hV, hN]
      refine wp_ret ?_
      repeat (first | refine ret_in ?_ | refine ret_then ?_)
      refine bodyPost_ret (results_tmp3 rfl _ _ _) A.2 ⟨?_, BB⟩
      show Ending.returned (.tuple #[a.eval (.tmp 6), a.eval (.tmp 7), a.eval (.tmp 8)]) = _
      rw [t6, t7, t8]
    · rw [decide_eq_false hq] at t35
      refine wp_cond_false t35 ?_
      refine wp_skip ?_
      clear t35
      rw [if_neg hq] at hstep
      refine wp_region_sq (σ := Unit) 41 [(0, 23), (1, 24), (2, 1)] (fun j_ s X => match j_ with | 0 => Below V.heap.size V X | 1 => Below V.heap.size V X | 2 => Below V.heap.size V X | _ => Below V.heap.size V X) (fun s => fun i_ => match i_ with | 0 => .int .i64 ((i : Nat) : Int) | 1 => .int .i64 ((i + 1 : Nat) : Int) | 2 => .int .i64 ((i + 1 : Nat) : Int) | _ => undef) () A.1 (by kernel_rfl) (by decide) (by decide) (BB) ?_ ?_
      · intro i_ hi_ s a X hf hv hn hS
        match i_, hi_ with
        | 0, _ => exact stepV rfl rfl (execMvB rfl ((hn 2 (by omega) _ rfl _ rfl).trans t1)) ⟨s, ⟨_, rfl, rfl⟩, hS, fun _ _ => rfl⟩
        | 1, _ => exact stepV rfl rfl (execAd8 (p := i) (q := 1) rfl (hv 0 (by omega) _ rfl _ rfl) rfl (by omega)) ⟨s, ⟨_, rfl, rfl⟩, hS, fun _ _ => rfl⟩
        | 2, _ => exact stepV rfl rfl (execAsgB rfl (hv 1 (by omega) _ rfl _ rfl)) ⟨s, ⟨_, rfl, rfl⟩, hS, fun _ _ => rfl⟩
        | k_ + 3, h_ => exact absurd h_ (by simp)
      rintro _ a X6 h1 h2 h3 h4 hS
      clear BB
      replace hS : Below V.heap.size V X6 := hS
      have BB := hS
      clear hS
      replace t0 := (h3 0 (by decide)).trans t0
      replace t1 : a.eval (.tmp 1) = .int .i64 ((i + 1 : Nat) : Int) := h4 2 _ rfl _ rfl
      replace t2 := (h3 2 (by decide)).trans t2
      replace A := (⟨h1, h2.trans A.2⟩ : a.tmps.size = 41 ∧ a.defers = [])
      clear h1 h2 h3 h4
      clear t9
      exact ⟨⟨i + 1, by omega, hlt, by rw [← hstep, hsc], A, t0, t1, t2, BB⟩, by show l - (intOf (a.eval (.tmp 1))).toNat < l - (intOf (Act.eval _ (.tmp 1))).toNat; rw [t1, e1]; show l - (i + 1) < l - i; omega⟩
  · rw [decide_eq_false hlt] at t22
    refine wp_cond_false t22 ?_
    refine wp_exit ?_
    first | refine exit_in ?_ | refine exit_then (exit_in ?_) | refine exit_then (exit_then (exit_in ?_))
    clear t22
    have hS : dS p l at' (b : Int) = l := by
      show scan p (b : Int).toNat (l - at') at' = l
      rw [Int.toNat_natCast, ← hsc, show l - i = 0 by omega]
      show i = l
      omega
    have hE : dE p l at' (b : Int) = 3 := by unfold dE; rw [if_neg (by omega), if_neg (by omega), hS, if_neg (Nat.lt_irrefl _)]
    have hV : dV p l at' (b : Int) = 0 := by unfold dV; rw [if_neg (fun q => by rw [hE] at q; omega)]
    have hN : dN p l at' (b : Int) = 0 := by unfold dN; rw [if_neg (by rw [hE]; decide)]
    rw [hE, hV, hN]
    refine wp_seq ?_
    refine wp_region_sq (σ := Unit) 41 [(0, 6), (1, 7), (2, 8)] (fun j_ s X => match j_ with | 0 => Below V.heap.size V X | 1 => Below V.heap.size V X | 2 => Below V.heap.size V X | _ => Below V.heap.size V X) (fun s => fun i_ => match i_ with | 0 => .int .i64 ((0 : Nat) : Int) | 1 => .int .i64 ((0 : Nat) : Int) | 2 => .int .i64 ((3 : Nat) : Int) | _ => undef) () A.1 (by kernel_rfl) (by decide) (by decide) (BB) ?_ ?_
    · intro i_ hi_ s a X hf hv hn hS
      match i_, hi_ with
      | 0, _ => exact stepV rfl rfl (execAsgB rfl rfl) ⟨s, ⟨_, rfl, rfl⟩, hS, fun _ _ => rfl⟩
      | 1, _ => exact stepV rfl rfl (execAsgB rfl rfl) ⟨s, ⟨_, rfl, rfl⟩, hS, fun _ _ => rfl⟩
      | 2, _ => exact stepV rfl rfl (execAsgB rfl rfl) ⟨s, ⟨_, rfl, rfl⟩, hS, fun _ _ => rfl⟩
      | k_ + 3, h_ => exact absurd h_ (by simp)
    rintro _ a X10 h1 h2 h3 h4 hS
    clear BB
    replace hS : Below V.heap.size V X10 := hS
    have BB := hS
    clear hS
    have t6 : a.eval (.tmp 6) = .int .i64 ((0 : Nat) : Int) := h4 0 _ rfl _ rfl
    have t7 : a.eval (.tmp 7) = .int .i64 ((0 : Nat) : Int) := h4 1 _ rfl _ rfl
    have t8 : a.eval (.tmp 8) = .int .i64 ((3 : Nat) : Int) := h4 2 _ rfl _ rfl
    replace A := (⟨h1, h2.trans A.2⟩ : a.tmps.size = 41 ∧ a.defers = [])
    clear h1 h2 h3 h4
    clear t0 t1 t2
    refine wp_ret ?_
    refine bodyPost_ret (results_tmp3 rfl _ _ _) A.2 ⟨?_, BB⟩
    show Ending.returned (.tuple #[a.eval (.tmp 6), a.eval (.tmp 7), a.eval (.tmp 8)]) = _
    rw [t6, t7, t8]
set_option maxRecDepth 20000 in
/-- The reference's Below. -/
theorem rbelow_any (p : Nat → Nat) (l at' : Nat) (b : Int) (v : Value) (V : World) (hv : SliceN V v l p) (hl : l ≤ 140737488351232) (hat : at' ≤ l) :
    Calls Try.prog 12 #[v, .int .i64 ((at' : Nat) : Int), .int .i64 b] V fun e w' => e = .returned (.tuple #[.int .i64 ((dV p l at' b : Nat) : Int), .int .i64 ((dN p l at' b : Nat) : Int), .int .i64 ((dE p l at' b : Nat) : Int)]) ∧ Below V.heap.size V w' := by
  by_cases h1 : b < 1
  · have hE : dE p l at' b = 2 := if_pos (Or.inl h1)
    have hV : dV p l at' b = 0 := by unfold dV; rw [if_neg (fun q => by rw [hE] at q; omega)]
    have hN : dN p l at' b = 0 := by unfold dN; rw [if_neg (by rw [hE]; decide)]
    rw [hE, hV, hN]
    clear hE hV hN hv hl hat
    go_enter Try.func12, Try.ntmps12
    go_wp2
    refine bodyPost_ret (results_tmp3 rfl _ _ _) rfl ⟨rfl, Below.refl _ _⟩
  · by_cases h2 : 256 < b
    · have hE : dE p l at' b = 2 := if_pos (Or.inr h2)
      have hV : dV p l at' b = 0 := by unfold dV; rw [if_neg (fun q => by rw [hE] at q; omega)]
      have hN : dN p l at' b = 0 := by unfold dN; rw [if_neg (by rw [hE]; decide)]
      rw [hE, hV, hN]
      have i2 : b > 256 := h2
      clear hE hV hN hv hl hat h2
      go_enter Try.func12, Try.ntmps12
      go_wp2
      refine bodyPost_ret (results_tmp3 rfl _ _ _) rfl ⟨rfl, Below.refl _ _⟩
    · by_cases h3 : b = 1
      · subst h3
        have hE : dE p l at' 1 = 0 := by unfold dE; rw [if_neg (by omega), if_pos rfl]
        have hV : dV p l at' 1 = 0 := by unfold dV; rw [if_neg (fun q => q.2 rfl)]
        have hN : dN p l at' 1 = at' := by unfold dN; rw [if_pos hE, if_pos rfl]
        rw [hE, hV, hN]
        clear hE hV hN hv hl hat h1 h2
        go_enter Try.func12, Try.ntmps12
        go_wp2
        refine bodyPost_ret (results_tmp3 rfl _ _ _) rfl ⟨rfl, Below.refl _ _⟩
      · obtain ⟨c, rfl⟩ : ∃ c : Nat, b = c := ⟨b.toNat, by omega⟩
        exact rbelow_ok p l at' c v V hv hl hat (by omega) (by omega)
end Go.Proofs.Ytpclecbhfjalnaa.Drw
