import Derived.Test.YthiakjmjpchckaaP9e
namespace Go.Proofs.Ythiakjmjpchckaa.Prm
open Go.RowKit Gf8 Aes By8 Cel Cf Tap Drw
/- Stage 11's reference: Unrank; From of any number. Written by tools/mkP9f.py. -/

def unE (d : Nat → Int) (n : Nat) : Nat := if fitQ d n n = true then 0 else 110
theorem ul_lt {d : Nat → Nat} {n i j : Nat} (hi : i ≤ n) (hd : ∀ k, k < i → d k < n - k) (hj : j < n - i) : ul d i j < n := by
  obtain ⟨k, hk, e⟩ := ul_sub (n := n) (d := d) (i := 0) (j := i) (Nat.zero_le _) hi hd ⟨j, hj, rfl⟩
  rw [← e]
  exact hk
theorem ul_next (d : Nat → Nat) (w i j : Nat) (hg : d i = w) : catI w (fun j => (ul d i j : Int)) (fun j_1 => (fun j => (ul d i j : Int)) (w + 1 + j_1)) j = (ul d (i + 1) j : Int) := by
  show _ = ((rem (ul d i) (d i) j : Nat) : Int)
  rw [hg]
  by_cases q : j < w
  · rw [catI_lo q, rem_lo q]
  · unfold catI
    rw [if_neg q, rem_hi (by omega)]
    show ((ul d i (w + 1 + (j - w)) : Nat) : Int) = _
    rw [show w + 1 + (j - w) = j + 1 by omega]
set_option maxRecDepth 100000 in
set_option maxHeartbeats 4000000 in
/-- The reference's Unrank. -/
theorem runrank (d : Nat → Int) (n : Nat) (v : Value) (V : World) (hv : SliceI V v n d) (hn17 : n ≤ 17592186044416) :
    Calls Try.prog 19 #[v] V fun e w' => ∃ r, e = .returned (.tuple #[r, .int .i64 ((unE d n : Nat) : Int)]) ∧ w'.ownsRow V.heap.size 3 1 r (zl (unE d n) n) (intsL (zl (unE d n) n) (fun j => (unr (gN d) j : Int))) ∧ Below V.heap.size V w' := by
  obtain ⟨ia, ic, rfl, -, -, hsh⟩ := id hv.shape
  have FI := hv
  go_enter Try.func19, Try.ntmps19
  refine wp_seq ?_
  refine wp_region_sqK 62 [(0, 2), (1, 3)] (fun i_ => match i_ with | 0 => .slice none 0 0 | 1 => .int .i64 ((0 : Nat) : Int) | _ => undef) rfl (by kernel_rfl) (by decide) (by decide) ?_ ?_
  · intro i_ hi_ a hf hv hn
    match i_, hi_ with
    | 0, _ => exact stepV rfl rfl (execAsgB rfl rfl) ⟨⟨_, rfl, rfl⟩, rfl⟩
    | 1, _ => exact stepV rfl rfl (execAsgB rfl rfl) ⟨⟨_, rfl, rfl⟩, rfl⟩
    | k_ + 2, h_ => exact absurd h_ (by simp)
  intro a h1 h2 h3 h4
  have t0 : a.eval (.tmp 0) = .slice ia n ic := (h3 0 (by decide)).trans rfl
  have A : a.tmps.size = 62 ∧ a.defers = [] := ⟨h1, h2⟩
  have BW : Below V.heap.size V V := Below.refl _ _
  clear h1 h2 h3 h4
  have BB := BW
  refine wp_seq ?_
  refine wp_region_sq (σ := Unit) 62 [(0, 10), (1, 11), (2, 4)] (fun j_ s X => match j_ with | 0 => Below V.heap.size V X | 1 => Below V.heap.size V X | 2 => Below V.heap.size V X | _ => Below V.heap.size V X) (fun s => fun i_ => match i_ with | 0 => .slice ia n ic | 1 => .int .i64 ((n : Nat) : Int) | 2 => .int .i64 ((n : Nat) : Int) | _ => undef) () A.1 (by kernel_rfl) (by decide) (by decide) (BB) ?_ ?_
  · intro i_ hi_ s a X hf hv hn hS
    match i_, hi_ with
    | 0, _ => exact stepV rfl rfl (execMvB rfl ((hf 0 (by decide)).trans t0)) ⟨s, ⟨_, rfl, rfl⟩, hS, fun _ _ => rfl⟩
    | 1, _ => exact stepV rfl rfl (execLenI (len := n) rfl (hv 0 (by omega) _ rfl _ rfl) ((FI.on hS)).shp) ⟨s, ⟨_, rfl, rfl⟩, hS, fun _ _ => rfl⟩
    | 2, _ => exact stepV rfl rfl (execAsgB rfl (hv 1 (by omega) _ rfl _ rfl)) ⟨s, ⟨_, rfl, rfl⟩, hS, fun _ _ => rfl⟩
    | k_ + 3, h_ => exact absurd h_ (by simp)
  rintro _ a X1 h1 h2 h3 h4 hS
  clear BB
  replace hS : Below V.heap.size V X1 := hS
  have BB := hS
  clear hS
  replace t0 := (h3 0 (by decide)).trans t0
  have t4 : a.eval (.tmp 4) = .int .i64 ((n : Nat) : Int) := h4 2 _ rfl _ rfl
  replace A := (⟨h1, h2.trans A.2⟩ : a.tmps.size = 62 ∧ a.defers = [])
  clear h1 h2 h3 h4
  refine wp_seq ?_
  refine wp_seq ?_
  refine wp_region_sq (σ := Unit) 62 [(0, 5)] (fun j_ s X => match j_ with | 0 => Below V.heap.size V X | _ => Below V.heap.size V X) (fun s => fun i_ => match i_ with | 0 => .int .i64 ((0 : Nat) : Int) | _ => undef) () A.1 (by kernel_rfl) (by decide) (by decide) (BB) ?_ ?_
  · intro i_ hi_ s a X hf hv hn hS
    match i_, hi_ with
    | 0, _ => exact stepV rfl rfl (execAsgB rfl rfl) ⟨s, ⟨_, rfl, rfl⟩, hS, fun _ _ => rfl⟩
    | k_ + 1, h_ => exact absurd h_ (by simp)
  rintro _ a X2 h1 h2 h3 h4 hS
  clear BB
  replace hS : Below V.heap.size V X2 := hS
  have BB := hS
  clear hS
  replace t0 := (h3 0 (by decide)).trans t0
  replace t4 := (h3 4 (by decide)).trans t4
  have t5 : a.eval (.tmp 5) = .int .i64 ((0 : Nat) : Int) := h4 0 _ rfl _ rfl
  replace A := (⟨h1, h2.trans A.2⟩ : a.tmps.size = 62 ∧ a.defers = [])
  clear h1 h2 h3 h4
  refine wp_block ?_
  refine wp_loop (fun a W => ∃ (i : Nat), i ≤ n ∧ (fitQ d n i = true) ∧ (a.tmps.size = 62 ∧ a.defers = []) ∧ a.eval (.tmp 0) = .slice ia n ic ∧ a.eval (.tmp 4) = .int .i64 ((n : Nat) : Int) ∧ a.eval (.tmp 5) = .int .i64 ((i : Nat) : Int) ∧ Below V.heap.size V W) (fun a _ => n - (intOf (a.eval (.tmp 5))).toNat) ⟨0, Nat.zero_le _, rfl, A, t0, t4, t5, BB⟩ ?_
  clear A t0 t4 t5 BB a
  rintro a XL3 ⟨i, hi, hok, A, t0, t4, t5, BB⟩
  have es := t5
  refine wp_seq ?_
  refine wp_seq ?_
  refine wp_region_sq (σ := Unit) 62 [(0, 12), (1, 13), (2, 14)] (fun j_ s X => match j_ with | 0 => Below V.heap.size V X | 1 => Below V.heap.size V X | 2 => Below V.heap.size V X | _ => Below V.heap.size V X) (fun s => fun i_ => match i_ with | 0 => .int .i64 ((i : Nat) : Int) | 1 => .int .i64 ((n : Nat) : Int) | 2 => .bool (decide (i < n)) | _ => undef) () A.1 (by kernel_rfl) (by decide) (by decide) (BB) ?_ ?_
  · intro i_ hi_ s a X hf hv hn hS
    match i_, hi_ with
    | 0, _ => exact stepV rfl rfl (execMvB rfl ((hf 5 (by decide)).trans t5)) ⟨s, ⟨_, rfl, rfl⟩, hS, fun _ _ => rfl⟩
    | 1, _ => exact stepV rfl rfl (execMvB rfl ((hf 4 (by decide)).trans t4)) ⟨s, ⟨_, rfl, rfl⟩, hS, fun _ _ => rfl⟩
    | 2, _ => exact stepV rfl rfl (execLtW (p := i) (q := n) rfl (hv 0 (by omega) _ rfl _ rfl) (hv 1 (by omega) _ rfl _ rfl)) ⟨s, ⟨_, rfl, rfl⟩, hS, fun _ _ => rfl⟩
    | k_ + 3, h_ => exact absurd h_ (by simp)
  rintro _ a X3 h1 h2 h3 h4 hS
  clear BB
  replace hS : Below V.heap.size V X3 := hS
  have BB := hS
  clear hS
  replace t0 := (h3 0 (by decide)).trans t0
  replace t4 := (h3 4 (by decide)).trans t4
  replace t5 := (h3 5 (by decide)).trans t5
  have t14 : a.eval (.tmp 14) = .bool (decide (i < n)) := h4 2 _ rfl _ rfl
  replace A := (⟨h1, h2.trans A.2⟩ : a.tmps.size = 62 ∧ a.defers = [])
  clear h1 h2 h3 h4
  by_cases hlt : i < n
  · rw [decide_eq_true hlt] at t14
    refine wp_cond_true t14 ?_
    refine wp_skip ?_
    clear t14
    refine wp_seq ?_
    refine wp_block ?_
    obtain ⟨ib, io, rfl, hib, hcell⟩ := hsh (by omega)
    have cI : ∀ k, k < n → ∀ X, Below V.heap.size V X → X.cell? ⟨ib, io + k, none⟩ = some (.int .i64 (d k)) := fun k hk X hX => by rw [cell_below hX hib]; exact hcell k hk
    by_cases h1 : d i < 0
    · refine wp_seq ?_
      refine wp_region_sq (σ := Unit) 62 [(0, 17), (1, 18), (2, 19), (3, 20), (4, 21), (5, 22), (6, 23), (7, 24), (8, 25), (9, 26), (10, 27), (11, 28), (12, 29), (13, 30), (14, 31), (15, 32)] (fun j_ s X => match j_ with | 0 => Below V.heap.size V X | 1 => Below V.heap.size V X | 2 => Below V.heap.size V X | 3 => Below V.heap.size V X | 4 => Below V.heap.size V X | 5 => Below V.heap.size V X | 6 => Below V.heap.size V X | 7 => Below V.heap.size V X | 8 => Below V.heap.size V X | 9 => Below V.heap.size V X | 10 => Below V.heap.size V X | 11 => Below V.heap.size V X | 12 => Below V.heap.size V X | 13 => Below V.heap.size V X | 14 => Below V.heap.size V X | 15 => Below V.heap.size V X | _ => Below V.heap.size V X) (fun s => fun i_ => match i_ with | 0 => .slice (some ⟨ib, io, none⟩) n ic | 1 => .int .i64 ((i : Nat) : Int) | 2 => .pointer (some ⟨ib, io + i, none⟩) | 3 => .int .i64 (d i) | 4 => .bool true | 5 => .bool true | 6 => undef | 7 => undef | 8 => undef | 9 => undef | 10 => undef | 11 => undef | 12 => undef | 13 => undef | 14 => undef | 15 => .bool true | _ => undef) () A.1 (by kernel_rfl) (by decide) (by decide) (BB) ?_ ?_
      · intro i_ hi_ s a X hf hv hn hS
        match i_, hi_ with
        | 0, _ => exact stepV rfl rfl (execMvB rfl ((hf 0 (by decide)).trans t0)) ⟨s, ⟨_, rfl, rfl⟩, hS, fun _ _ => rfl⟩
        | 1, _ => exact stepV rfl rfl (execMvB rfl ((hf 5 (by decide)).trans t5)) ⟨s, ⟨_, rfl, rfl⟩, hS, fun _ _ => rfl⟩
        | 2, _ => exact stepV rfl rfl (execIdxN (k := i) rfl (hv 0 (by omega) _ rfl _ rfl) (hv 1 (by omega) _ rfl _ rfl) hlt) ⟨s, ⟨_, rfl, rfl⟩, hS, fun _ _ => rfl⟩
        | 3, _ => exact stepV rfl rfl (execLd3 rfl (hv 2 (by omega) _ rfl _ rfl) (cI i hlt X hS)) ⟨s, ⟨_, rfl, rfl⟩, hS, fun _ _ => rfl⟩
        | 4, _ => exact stepV rfl rfl (execLtCt (p := (d i)) (q := 0) rfl (hv 3 (by omega) _ rfl _ rfl) (by exact h1)) ⟨s, ⟨_, rfl, rfl⟩, hS, fun _ _ => rfl⟩
        | 5, _ => exact stepV rfl rfl (execMvB rfl (hv 4 (by omega) _ rfl _ rfl)) ⟨s, ⟨_, rfl, rfl⟩, hS, fun _ _ => rfl⟩
        | 6, _ => exact stepU rfl (unwantedOf rfl (yieldedAt rfl rfl (show a.eval (.tmp 22) = .bool (!false) from (hv 5 (by omega) _ rfl _ rfl)))) ⟨s, ⟨_, rfl, rfl⟩, hS, fun _ _ => rfl⟩
        | 7, _ => exact stepU rfl (unwantedOf rfl (yieldedAt rfl rfl (show a.eval (.tmp 22) = .bool (!false) from (hv 5 (by omega) _ rfl _ rfl)))) ⟨s, ⟨_, rfl, rfl⟩, hS, fun _ _ => rfl⟩
        | 8, _ => exact stepU rfl (unwantedOf rfl (yieldedAt rfl rfl (show a.eval (.tmp 22) = .bool (!false) from (hv 5 (by omega) _ rfl _ rfl)))) ⟨s, ⟨_, rfl, rfl⟩, hS, fun _ _ => rfl⟩
        | 9, _ => exact stepU rfl (unwantedOf rfl (yieldedAt rfl rfl (show a.eval (.tmp 22) = .bool (!false) from (hv 5 (by omega) _ rfl _ rfl)))) ⟨s, ⟨_, rfl, rfl⟩, hS, fun _ _ => rfl⟩
        | 10, _ => exact stepU rfl (unwantedOf rfl (yieldedAt rfl rfl (show a.eval (.tmp 22) = .bool (!false) from (hv 5 (by omega) _ rfl _ rfl)))) ⟨s, ⟨_, rfl, rfl⟩, hS, fun _ _ => rfl⟩
        | 11, _ => exact stepU rfl (unwantedOf rfl (yieldedAt rfl rfl (show a.eval (.tmp 22) = .bool (!false) from (hv 5 (by omega) _ rfl _ rfl)))) ⟨s, ⟨_, rfl, rfl⟩, hS, fun _ _ => rfl⟩
        | 12, _ => exact stepU rfl (unwantedOf rfl (yieldedAt rfl rfl (show a.eval (.tmp 22) = .bool (!false) from (hv 5 (by omega) _ rfl _ rfl)))) ⟨s, ⟨_, rfl, rfl⟩, hS, fun _ _ => rfl⟩
        | 13, _ => exact stepU rfl (unwantedOf rfl (yieldedAt rfl rfl (show a.eval (.tmp 22) = .bool (!false) from (hv 5 (by omega) _ rfl _ rfl)))) ⟨s, ⟨_, rfl, rfl⟩, hS, fun _ _ => rfl⟩
        | 14, _ => exact stepU rfl (unwantedOf rfl (yieldedAt rfl rfl (show a.eval (.tmp 22) = .bool (!false) from (hv 5 (by omega) _ rfl _ rfl)))) ⟨s, ⟨_, rfl, rfl⟩, hS, fun _ _ => rfl⟩
        | 15, _ => exact stepV rfl rfl (execPickT rfl (hv 5 (by omega) _ rfl _ rfl) rfl) ⟨s, ⟨_, rfl, rfl⟩, hS, fun _ _ => rfl⟩
        | k_ + 16, h_ => exact absurd h_ (by simp)
      rintro _ a X5 h1 h2 h3 h4 hS
      clear BB
      replace hS : Below V.heap.size V X5 := hS
      have BB := hS
      clear hS
      replace t0 := (h3 0 (by decide)).trans t0
      replace t4 := (h3 4 (by decide)).trans t4
      replace t5 := (h3 5 (by decide)).trans t5
      have t32 : a.eval (.tmp 32) = .bool true := h4 15 _ rfl _ rfl
      replace A := (⟨h1, h2.trans A.2⟩ : a.tmps.size = 62 ∧ a.defers = [])
      clear h1 h2 h3 h4
      refine wp_cond_true t32 ?_
      refine wp_seq ?_
      refine wp_region_sq (σ := Unit) 62 [(0, 2), (1, 3)] (fun j_ s X => match j_ with | 0 => Below V.heap.size V X | 1 => Below V.heap.size V X | _ => Below V.heap.size V X) (fun s => fun i_ => match i_ with | 0 => .slice none 0 0 | 1 => .int .i64 ((110 : Nat) : Int) | _ => undef) () A.1 (by kernel_rfl) (by decide) (by decide) (BB) ?_ ?_
      · intro i_ hi_ s a X hf hv hn hS
        match i_, hi_ with
        | 0, _ => exact stepV rfl rfl (execAsgB rfl rfl) ⟨s, ⟨_, rfl, rfl⟩, hS, fun _ _ => rfl⟩
        | 1, _ => exact stepV rfl rfl (execAsgB rfl rfl) ⟨s, ⟨_, rfl, rfl⟩, hS, fun _ _ => rfl⟩
        | k_ + 2, h_ => exact absurd h_ (by simp)
      rintro _ a X6 h1 h2 h3 h4 hS
      clear BB
      replace hS : Below V.heap.size V X6 := hS
      have BB := hS
      clear hS
      have t2 : a.eval (.tmp 2) = .slice none 0 0 := h4 0 _ rfl _ rfl
      have t3 : a.eval (.tmp 3) = .int .i64 ((110 : Nat) : Int) := h4 1 _ rfl _ rfl
      replace A := (⟨h1, h2.trans A.2⟩ : a.tmps.size = 62 ∧ a.defers = [])
      clear h1 h2 h3 h4
      clear t0 t4 t5
      have hy : fitQ d n n = false := fitQ_bad hlt (by omega)
      have hE : unE d n = 110 := if_neg (by rw [hy]; decide)
      rw [hE, zl_no (by decide)]
      refine wp_ret ?_
      repeat (first | refine ret_in ?_ | refine ret_then ?_)
      refine bodyPost_ret (results_tmp2 rfl _ _ _) A.2 ⟨_, ?_, World.ownsRow_nil _ _ _ _, BB⟩
      show Ending.returned (.tuple #[a.eval (.tmp 2), a.eval (.tmp 3)]) = _
      rw [t2, t3]
    · by_cases h2 : (n : Int) - i ≤ d i
      · obtain ⟨w, ew⟩ : ∃ w : Nat, d i = w := ⟨(d i).toNat, by omega⟩
        have cW : ∀ X, Below V.heap.size V X → X.cell? ⟨ib, io + i, none⟩ = some (.int .i64 ((w : Nat) : Int)) := fun X hX => by rw [cI i hlt X hX, ew]
        refine wp_seq ?_
        refine wp_region_sq (σ := Unit) 62 [(0, 17), (1, 18), (2, 19), (3, 20), (4, 21), (5, 22), (6, 23), (7, 24), (8, 25), (9, 26), (10, 27), (11, 28), (12, 29), (13, 30), (14, 31), (15, 32)] (fun j_ s X => match j_ with | 0 => Below V.heap.size V X | 1 => Below V.heap.size V X | 2 => Below V.heap.size V X | 3 => Below V.heap.size V X | 4 => Below V.heap.size V X | 5 => Below V.heap.size V X | 6 => Below V.heap.size V X | 7 => Below V.heap.size V X | 8 => Below V.heap.size V X | 9 => Below V.heap.size V X | 10 => Below V.heap.size V X | 11 => Below V.heap.size V X | 12 => Below V.heap.size V X | 13 => Below V.heap.size V X | 14 => Below V.heap.size V X | 15 => Below V.heap.size V X | _ => Below V.heap.size V X) (fun s => fun i_ => match i_ with | 0 => .slice (some ⟨ib, io, none⟩) n ic | 1 => .int .i64 ((i : Nat) : Int) | 2 => .pointer (some ⟨ib, io + i, none⟩) | 3 => .int .i64 ((w : Nat) : Int) | 4 => .bool false | 5 => .bool false | 6 => .slice (some ⟨ib, io, none⟩) n ic | 7 => .int .i64 ((i : Nat) : Int) | 8 => .pointer (some ⟨ib, io + i, none⟩) | 9 => .int .i64 ((w : Nat) : Int) | 10 => .int .i64 ((n : Nat) : Int) | 11 => .int .i64 ((n - 1 : Nat) : Int) | 12 => .int .i64 ((i : Nat) : Int) | 13 => .int .i64 ((n - 1 - i : Nat) : Int) | 14 => .bool true | 15 => .bool true | _ => undef) () A.1 (by kernel_rfl) (by decide) (by decide) (BB) ?_ ?_
        · intro i_ hi_ s a X hf hv hn hS
          match i_, hi_ with
          | 0, _ => exact stepV rfl rfl (execMvB rfl ((hf 0 (by decide)).trans t0)) ⟨s, ⟨_, rfl, rfl⟩, hS, fun _ _ => rfl⟩
          | 1, _ => exact stepV rfl rfl (execMvB rfl ((hf 5 (by decide)).trans t5)) ⟨s, ⟨_, rfl, rfl⟩, hS, fun _ _ => rfl⟩
          | 2, _ => exact stepV rfl rfl (execIdxN (k := i) rfl (hv 0 (by omega) _ rfl _ rfl) (hv 1 (by omega) _ rfl _ rfl) hlt) ⟨s, ⟨_, rfl, rfl⟩, hS, fun _ _ => rfl⟩
          | 3, _ => exact stepV rfl rfl (execLd3 rfl (hv 2 (by omega) _ rfl _ rfl) (cW X hS)) ⟨s, ⟨_, rfl, rfl⟩, hS, fun _ _ => rfl⟩
          | 4, _ => exact stepV rfl rfl (execDec (execLtW (p := w) (q := 0) rfl (hv 3 (by omega) _ rfl _ rfl) rfl) (decide_eq_false (by omega))) ⟨s, ⟨_, rfl, rfl⟩, hS, fun _ _ => rfl⟩
          | 5, _ => exact stepV rfl rfl (execMvB rfl (hv 4 (by omega) _ rfl _ rfl)) ⟨s, ⟨_, rfl, rfl⟩, hS, fun _ _ => rfl⟩
          | 6, _ => exact stepV rfl (wantedOf rfl (yieldedAt rfl rfl (show a.eval (.tmp 22) = .bool false from (hv 5 (by omega) _ rfl _ rfl)))) (execMvB rfl ((hf 0 (by decide)).trans t0)) ⟨s, ⟨_, rfl, rfl⟩, hS, fun _ _ => rfl⟩
          | 7, _ => exact stepV rfl (wantedOf rfl (yieldedAt rfl rfl (show a.eval (.tmp 22) = .bool false from (hv 5 (by omega) _ rfl _ rfl)))) (execMvB rfl ((hf 5 (by decide)).trans t5)) ⟨s, ⟨_, rfl, rfl⟩, hS, fun _ _ => rfl⟩
          | 8, _ => exact stepV rfl (wantedOf rfl (yieldedAt rfl rfl (show a.eval (.tmp 22) = .bool false from (hv 5 (by omega) _ rfl _ rfl)))) (execIdxN (k := i) rfl (hv 6 (by omega) _ rfl _ rfl) (hv 7 (by omega) _ rfl _ rfl) hlt) ⟨s, ⟨_, rfl, rfl⟩, hS, fun _ _ => rfl⟩
          | 9, _ => exact stepV rfl (wantedOf rfl (yieldedAt rfl rfl (show a.eval (.tmp 22) = .bool false from (hv 5 (by omega) _ rfl _ rfl)))) (execLd3 rfl (hv 8 (by omega) _ rfl _ rfl) (cW X hS)) ⟨s, ⟨_, rfl, rfl⟩, hS, fun _ _ => rfl⟩
          | 10, _ => exact stepV rfl (wantedOf rfl (yieldedAt rfl rfl (show a.eval (.tmp 22) = .bool false from (hv 5 (by omega) _ rfl _ rfl)))) (execMvB rfl ((hf 4 (by decide)).trans t4)) ⟨s, ⟨_, rfl, rfl⟩, hS, fun _ _ => rfl⟩
          | 11, _ => exact stepV rfl (wantedOf rfl (yieldedAt rfl rfl (show a.eval (.tmp 22) = .bool false from (hv 5 (by omega) _ rfl _ rfl)))) (By8.execSubI (p := n) (q := 1) rfl (hv 10 (by omega) _ rfl _ rfl) rfl (by omega) (by omega)) ⟨s, ⟨_, rfl, rfl⟩, hS, fun _ _ => rfl⟩
          | 12, _ => exact stepV rfl (wantedOf rfl (yieldedAt rfl rfl (show a.eval (.tmp 22) = .bool false from (hv 5 (by omega) _ rfl _ rfl)))) (execMvB rfl ((hf 5 (by decide)).trans t5)) ⟨s, ⟨_, rfl, rfl⟩, hS, fun _ _ => rfl⟩
          | 13, _ => exact stepV rfl (wantedOf rfl (yieldedAt rfl rfl (show a.eval (.tmp 22) = .bool false from (hv 5 (by omega) _ rfl _ rfl)))) (By8.execSubI (p := n - 1) (q := i) rfl (hv 11 (by omega) _ rfl _ rfl) (hv 12 (by omega) _ rfl _ rfl) (by omega) (by omega)) ⟨s, ⟨_, rfl, rfl⟩, hS, fun _ _ => rfl⟩
          | 14, _ => exact stepV rfl (wantedOf rfl (yieldedAt rfl rfl (show a.eval (.tmp 22) = .bool false from (hv 5 (by omega) _ rfl _ rfl)))) (execDec (execGtN (p := w) (q := n - 1 - i) rfl (hv 9 (by omega) _ rfl _ rfl) (hv 13 (by omega) _ rfl _ rfl)) (decide_eq_true (by omega))) ⟨s, ⟨_, rfl, rfl⟩, hS, fun _ _ => rfl⟩
          | 15, _ => exact stepV rfl rfl (execPickF rfl (hv 5 (by omega) _ rfl _ rfl) (hv 14 (by omega) _ rfl _ rfl)) ⟨s, ⟨_, rfl, rfl⟩, hS, fun _ _ => rfl⟩
          | k_ + 16, h_ => exact absurd h_ (by simp)
        rintro _ a X5 h1 h2 h3 h4 hS
        clear BB
        replace hS : Below V.heap.size V X5 := hS
        have BB := hS
        clear hS
        replace t0 := (h3 0 (by decide)).trans t0
        replace t4 := (h3 4 (by decide)).trans t4
        replace t5 := (h3 5 (by decide)).trans t5
        have t32 : a.eval (.tmp 32) = .bool true := h4 15 _ rfl _ rfl
        replace A := (⟨h1, h2.trans A.2⟩ : a.tmps.size = 62 ∧ a.defers = [])
        clear h1 h2 h3 h4
        refine wp_cond_true t32 ?_
        refine wp_seq ?_
        refine wp_region_sq (σ := Unit) 62 [(0, 2), (1, 3)] (fun j_ s X => match j_ with | 0 => Below V.heap.size V X | 1 => Below V.heap.size V X | _ => Below V.heap.size V X) (fun s => fun i_ => match i_ with | 0 => .slice none 0 0 | 1 => .int .i64 ((110 : Nat) : Int) | _ => undef) () A.1 (by kernel_rfl) (by decide) (by decide) (BB) ?_ ?_
        · intro i_ hi_ s a X hf hv hn hS
          match i_, hi_ with
          | 0, _ => exact stepV rfl rfl (execAsgB rfl rfl) ⟨s, ⟨_, rfl, rfl⟩, hS, fun _ _ => rfl⟩
          | 1, _ => exact stepV rfl rfl (execAsgB rfl rfl) ⟨s, ⟨_, rfl, rfl⟩, hS, fun _ _ => rfl⟩
          | k_ + 2, h_ => exact absurd h_ (by simp)
        rintro _ a X6 h1 h2 h3 h4 hS
        clear BB
        replace hS : Below V.heap.size V X6 := hS
        have BB := hS
        clear hS
        have t2 : a.eval (.tmp 2) = .slice none 0 0 := h4 0 _ rfl _ rfl
        have t3 : a.eval (.tmp 3) = .int .i64 ((110 : Nat) : Int) := h4 1 _ rfl _ rfl
        replace A := (⟨h1, h2.trans A.2⟩ : a.tmps.size = 62 ∧ a.defers = [])
        clear h1 h2 h3 h4
        clear t0 t4 t5
        have hy : fitQ d n n = false := fitQ_bad hlt (by omega)
        have hE : unE d n = 110 := if_neg (by rw [hy]; decide)
        rw [hE, zl_no (by decide)]
        refine wp_ret ?_
        repeat (first | refine ret_in ?_ | refine ret_then ?_)
        refine bodyPost_ret (results_tmp2 rfl _ _ _) A.2 ⟨_, ?_, World.ownsRow_nil _ _ _ _, BB⟩
        show Ending.returned (.tuple #[a.eval (.tmp 2), a.eval (.tmp 3)]) = _
        rw [t2, t3]
      · obtain ⟨w, ew⟩ : ∃ w : Nat, d i = w := ⟨(d i).toNat, by omega⟩
        have cW : ∀ X, Below V.heap.size V X → X.cell? ⟨ib, io + i, none⟩ = some (.int .i64 ((w : Nat) : Int)) := fun X hX => by rw [cI i hlt X hX, ew]
        refine wp_seq ?_
        refine wp_region_sq (σ := Unit) 62 [(0, 17), (1, 18), (2, 19), (3, 20), (4, 21), (5, 22), (6, 23), (7, 24), (8, 25), (9, 26), (10, 27), (11, 28), (12, 29), (13, 30), (14, 31), (15, 32)] (fun j_ s X => match j_ with | 0 => Below V.heap.size V X | 1 => Below V.heap.size V X | 2 => Below V.heap.size V X | 3 => Below V.heap.size V X | 4 => Below V.heap.size V X | 5 => Below V.heap.size V X | 6 => Below V.heap.size V X | 7 => Below V.heap.size V X | 8 => Below V.heap.size V X | 9 => Below V.heap.size V X | 10 => Below V.heap.size V X | 11 => Below V.heap.size V X | 12 => Below V.heap.size V X | 13 => Below V.heap.size V X | 14 => Below V.heap.size V X | 15 => Below V.heap.size V X | _ => Below V.heap.size V X) (fun s => fun i_ => match i_ with | 0 => .slice (some ⟨ib, io, none⟩) n ic | 1 => .int .i64 ((i : Nat) : Int) | 2 => .pointer (some ⟨ib, io + i, none⟩) | 3 => .int .i64 ((w : Nat) : Int) | 4 => .bool false | 5 => .bool false | 6 => .slice (some ⟨ib, io, none⟩) n ic | 7 => .int .i64 ((i : Nat) : Int) | 8 => .pointer (some ⟨ib, io + i, none⟩) | 9 => .int .i64 ((w : Nat) : Int) | 10 => .int .i64 ((n : Nat) : Int) | 11 => .int .i64 ((n - 1 : Nat) : Int) | 12 => .int .i64 ((i : Nat) : Int) | 13 => .int .i64 ((n - 1 - i : Nat) : Int) | 14 => .bool false | 15 => .bool false | _ => undef) () A.1 (by kernel_rfl) (by decide) (by decide) (BB) ?_ ?_
        · intro i_ hi_ s a X hf hv hn hS
          match i_, hi_ with
          | 0, _ => exact stepV rfl rfl (execMvB rfl ((hf 0 (by decide)).trans t0)) ⟨s, ⟨_, rfl, rfl⟩, hS, fun _ _ => rfl⟩
          | 1, _ => exact stepV rfl rfl (execMvB rfl ((hf 5 (by decide)).trans t5)) ⟨s, ⟨_, rfl, rfl⟩, hS, fun _ _ => rfl⟩
          | 2, _ => exact stepV rfl rfl (execIdxN (k := i) rfl (hv 0 (by omega) _ rfl _ rfl) (hv 1 (by omega) _ rfl _ rfl) hlt) ⟨s, ⟨_, rfl, rfl⟩, hS, fun _ _ => rfl⟩
          | 3, _ => exact stepV rfl rfl (execLd3 rfl (hv 2 (by omega) _ rfl _ rfl) (cW X hS)) ⟨s, ⟨_, rfl, rfl⟩, hS, fun _ _ => rfl⟩
          | 4, _ => exact stepV rfl rfl (execDec (execLtW (p := w) (q := 0) rfl (hv 3 (by omega) _ rfl _ rfl) rfl) (decide_eq_false (by omega))) ⟨s, ⟨_, rfl, rfl⟩, hS, fun _ _ => rfl⟩
          | 5, _ => exact stepV rfl rfl (execMvB rfl (hv 4 (by omega) _ rfl _ rfl)) ⟨s, ⟨_, rfl, rfl⟩, hS, fun _ _ => rfl⟩
          | 6, _ => exact stepV rfl (wantedOf rfl (yieldedAt rfl rfl (show a.eval (.tmp 22) = .bool false from (hv 5 (by omega) _ rfl _ rfl)))) (execMvB rfl ((hf 0 (by decide)).trans t0)) ⟨s, ⟨_, rfl, rfl⟩, hS, fun _ _ => rfl⟩
          | 7, _ => exact stepV rfl (wantedOf rfl (yieldedAt rfl rfl (show a.eval (.tmp 22) = .bool false from (hv 5 (by omega) _ rfl _ rfl)))) (execMvB rfl ((hf 5 (by decide)).trans t5)) ⟨s, ⟨_, rfl, rfl⟩, hS, fun _ _ => rfl⟩
          | 8, _ => exact stepV rfl (wantedOf rfl (yieldedAt rfl rfl (show a.eval (.tmp 22) = .bool false from (hv 5 (by omega) _ rfl _ rfl)))) (execIdxN (k := i) rfl (hv 6 (by omega) _ rfl _ rfl) (hv 7 (by omega) _ rfl _ rfl) hlt) ⟨s, ⟨_, rfl, rfl⟩, hS, fun _ _ => rfl⟩
          | 9, _ => exact stepV rfl (wantedOf rfl (yieldedAt rfl rfl (show a.eval (.tmp 22) = .bool false from (hv 5 (by omega) _ rfl _ rfl)))) (execLd3 rfl (hv 8 (by omega) _ rfl _ rfl) (cW X hS)) ⟨s, ⟨_, rfl, rfl⟩, hS, fun _ _ => rfl⟩
          | 10, _ => exact stepV rfl (wantedOf rfl (yieldedAt rfl rfl (show a.eval (.tmp 22) = .bool false from (hv 5 (by omega) _ rfl _ rfl)))) (execMvB rfl ((hf 4 (by decide)).trans t4)) ⟨s, ⟨_, rfl, rfl⟩, hS, fun _ _ => rfl⟩
          | 11, _ => exact stepV rfl (wantedOf rfl (yieldedAt rfl rfl (show a.eval (.tmp 22) = .bool false from (hv 5 (by omega) _ rfl _ rfl)))) (By8.execSubI (p := n) (q := 1) rfl (hv 10 (by omega) _ rfl _ rfl) rfl (by omega) (by omega)) ⟨s, ⟨_, rfl, rfl⟩, hS, fun _ _ => rfl⟩
          | 12, _ => exact stepV rfl (wantedOf rfl (yieldedAt rfl rfl (show a.eval (.tmp 22) = .bool false from (hv 5 (by omega) _ rfl _ rfl)))) (execMvB rfl ((hf 5 (by decide)).trans t5)) ⟨s, ⟨_, rfl, rfl⟩, hS, fun _ _ => rfl⟩
          | 13, _ => exact stepV rfl (wantedOf rfl (yieldedAt rfl rfl (show a.eval (.tmp 22) = .bool false from (hv 5 (by omega) _ rfl _ rfl)))) (By8.execSubI (p := n - 1) (q := i) rfl (hv 11 (by omega) _ rfl _ rfl) (hv 12 (by omega) _ rfl _ rfl) (by omega) (by omega)) ⟨s, ⟨_, rfl, rfl⟩, hS, fun _ _ => rfl⟩
          | 14, _ => exact stepV rfl (wantedOf rfl (yieldedAt rfl rfl (show a.eval (.tmp 22) = .bool false from (hv 5 (by omega) _ rfl _ rfl)))) (execDec (execGtN (p := w) (q := n - 1 - i) rfl (hv 9 (by omega) _ rfl _ rfl) (hv 13 (by omega) _ rfl _ rfl)) (decide_eq_false (by omega))) ⟨s, ⟨_, rfl, rfl⟩, hS, fun _ _ => rfl⟩
          | 15, _ => exact stepV rfl rfl (execPickF rfl (hv 5 (by omega) _ rfl _ rfl) (hv 14 (by omega) _ rfl _ rfl)) ⟨s, ⟨_, rfl, rfl⟩, hS, fun _ _ => rfl⟩
          | k_ + 16, h_ => exact absurd h_ (by simp)
        rintro _ a X5 h1 h2 h3 h4 hS
        clear BB
        replace hS : Below V.heap.size V X5 := hS
        have BB := hS
        clear hS
        replace t0 := (h3 0 (by decide)).trans t0
        replace t4 := (h3 4 (by decide)).trans t4
        replace t5 := (h3 5 (by decide)).trans t5
        have t32 : a.eval (.tmp 32) = .bool false := h4 15 _ rfl _ rfl
        replace A := (⟨h1, h2.trans A.2⟩ : a.tmps.size = 62 ∧ a.defers = [])
        clear h1 h2 h3 h4
        refine wp_cond_false t32 ?_
        refine wp_skip ?_
        clear t32
        refine wp_region_sq (σ := Unit) 62 [(0, 15), (1, 16), (2, 5)] (fun j_ s X => match j_ with | 0 => Below V.heap.size V X | 1 => Below V.heap.size V X | 2 => Below V.heap.size V X | _ => Below V.heap.size V X) (fun s => fun i_ => match i_ with | 0 => .int .i64 ((i : Nat) : Int) | 1 => .int .i64 ((i + 1 : Nat) : Int) | 2 => .int .i64 ((i + 1 : Nat) : Int) | _ => undef) () A.1 (by kernel_rfl) (by decide) (by decide) (BB) ?_ ?_
        · intro i_ hi_ s a X hf hv hn hS
          match i_, hi_ with
          | 0, _ => exact stepV rfl rfl (execMvB rfl ((hn 2 (by omega) _ rfl _ rfl).trans t5)) ⟨s, ⟨_, rfl, rfl⟩, hS, fun _ _ => rfl⟩
          | 1, _ => exact stepV rfl rfl (execAd8 (p := i) (q := 1) rfl (hv 0 (by omega) _ rfl _ rfl) rfl (by omega)) ⟨s, ⟨_, rfl, rfl⟩, hS, fun _ _ => rfl⟩
          | 2, _ => exact stepV rfl rfl (execAsgB rfl (hv 1 (by omega) _ rfl _ rfl)) ⟨s, ⟨_, rfl, rfl⟩, hS, fun _ _ => rfl⟩
          | k_ + 3, h_ => exact absurd h_ (by simp)
        rintro _ a X4 h1 h2 h3 h4 hS
        clear BB
        replace hS : Below V.heap.size V X4 := hS
        have BB := hS
        clear hS
        replace t0 := (h3 0 (by decide)).trans t0
        replace t4 := (h3 4 (by decide)).trans t4
        replace t5 : a.eval (.tmp 5) = .int .i64 ((i + 1 : Nat) : Int) := h4 2 _ rfl _ rfl
        replace A := (⟨h1, h2.trans A.2⟩ : a.tmps.size = 62 ∧ a.defers = [])
        clear h1 h2 h3 h4
        exact ⟨⟨i + 1, hlt, fitQ_succ hok (by omega), A, t0, t4, t5, BB⟩, by show n - (intOf (a.eval (.tmp 5))).toNat < n - (intOf (Act.eval _ (.tmp 5))).toNat; rw [t5, es]; show n - (i + 1) < n - i; omega⟩
  · rw [decide_eq_false hlt] at t14
    refine wp_cond_false t14 ?_
    refine wp_exit ?_
    first | refine exit_in ?_ | refine exit_then (exit_in ?_) | refine exit_then (exit_then (exit_in ?_))
    clear t14 es
    have hin : i = n := by omega
    rw [hin] at hok
    clear hlt hi hin t5
    clear i
    have hd := fitQ_iff.1 hok
    refine wp_seq ?_
    refine wp_region_sq (σ := Value) 62 [(0, 33), (1, 34), (2, 6)] (fun j_ s X => match j_ with | 0 => Below V.heap.size V X | 1 => Below V.heap.size V X | 2 => Below V.heap.size V X ∧ (X.ownsRow V.heap.size 3 1 s (n) (intsL (n) (fun j => (j : Int)))) | _ => Below V.heap.size V X ∧ (X.ownsRow V.heap.size 3 1 s (n) (intsL (n) (fun j => (j : Int))))) (fun s => fun i_ => match i_ with | 0 => .int .i64 ((n : Nat) : Int) | 1 => s | 2 => s | _ => undef) undef A.1 (by kernel_rfl) (by decide) (by decide) (BB) ?_ ?_
    · intro i_ hi_ s a X hf hv hn hS
      match i_, hi_ with
      | 0, _ => exact stepV rfl rfl (execMvB rfl ((hf 4 (by decide)).trans t4)) ⟨s, ⟨_, rfl, rfl⟩, hS, fun _ _ => rfl⟩
      | 1, _ =>
        refine stepC rfl rfl (execCall1 Try.func23 (by kernel_rfl) (by kernel_rfl) rfl (hv 0 (by omega) _ rfl _ rfl)) (rident (n : Int) X (by omega)) fun e w' hh => ?_
        obtain ⟨r_, he, hk, hb⟩ := hh
        rw [Int.toNat_natCast] at hk
        refine ⟨_, he, r_, ⟨_, rfl, rfl⟩, ⟨(hS).trans ((hb).mono (hS).size), ownD_base hk (hS).size⟩, fun i hi => ?_⟩
        match i, hi with
        | 0, _ => rfl
        | n_ + 1, h_ => omega
      | 2, _ => exact stepV rfl rfl (execAsgB rfl (hv 1 (by omega) _ rfl _ rfl)) ⟨s, ⟨_, rfl, rfl⟩, hS, fun _ _ => rfl⟩
      | k_ + 3, h_ => exact absurd h_ (by simp)
    rintro v34 a X7 h1 h2 h3 h4 hS
    clear BB
    replace hS : Below V.heap.size V X7 ∧ (X7.ownsRow V.heap.size 3 1 v34 (n) (intsL (n) (fun j => (j : Int)))) := hS
    obtain ⟨BB, FL⟩ := hS
    replace t0 := (h3 0 (by decide)).trans t0
    replace t4 := (h3 4 (by decide)).trans t4
    have t6 : a.eval (.tmp 6) = v34 := h4 2 _ rfl _ rfl
    replace A := (⟨h1, h2.trans A.2⟩ : a.tmps.size = 62 ∧ a.defers = [])
    clear h1 h2 h3 h4
    refine wp_seq ?_
    refine wp_region_sq (σ := Unit) 62 [(0, 7)] (fun j_ s X => match j_ with | 0 => Below V.heap.size V X ∧ (X.ownsRow V.heap.size 3 1 v34 (n) (intsL (n) (fun j => (j : Int)))) | _ => Below V.heap.size V X ∧ (X.ownsRow V.heap.size 3 1 v34 (n) (intsL (n) (fun j => (j : Int))))) (fun s => fun i_ => match i_ with | 0 => .slice none 0 0 | _ => undef) () A.1 (by kernel_rfl) (by decide) (by decide) ⟨BB, FL⟩ ?_ ?_
    · intro i_ hi_ s a X hf hv hn hS
      match i_, hi_ with
      | 0, _ => exact stepV rfl rfl (execAsgB rfl rfl) ⟨s, ⟨_, rfl, rfl⟩, hS, fun _ _ => rfl⟩
      | k_ + 1, h_ => exact absurd h_ (by simp)
    rintro _ a X8 h1 h2 h3 h4 hS
    clear BB
    clear FL
    replace hS : Below V.heap.size V X8 ∧ (X8.ownsRow V.heap.size 3 1 v34 (n) (intsL (n) (fun j => (j : Int)))) := hS
    obtain ⟨BB, FL⟩ := hS
    replace t0 := (h3 0 (by decide)).trans t0
    replace t4 := (h3 4 (by decide)).trans t4
    replace t6 := (h3 6 (by decide)).trans t6
    have t7 : a.eval (.tmp 7) = .slice none 0 0 := h4 0 _ rfl _ rfl
    replace A := (⟨h1, h2.trans A.2⟩ : a.tmps.size = 62 ∧ a.defers = [])
    clear h1 h2 h3 h4
    have FT : Two V X8 (.slice none 0 0) 0 (fun j => (unr (gN d) j : Int)) v34 (n - 0) (fun j => (ul (gN d) 0 j : Int)) := ⟨World.ownsRow_nil _ _ _ _, FL, fun k e => by cases e⟩
    clear FL
    refine wp_seq ?_
    refine wp_seq ?_
    refine wp_region_sq (σ := Unit) 62 [(0, 8)] (fun j_ s X => match j_ with | 0 => Below V.heap.size V X ∧ (Two V X (.slice none 0 0) (0) (fun j => (unr (gN d) j : Int)) v34 (n - 0) (fun j => (ul (gN d) 0 j : Int))) | _ => Below V.heap.size V X ∧ (Two V X (.slice none 0 0) (0) (fun j => (unr (gN d) j : Int)) v34 (n - 0) (fun j => (ul (gN d) 0 j : Int)))) (fun s => fun i_ => match i_ with | 0 => .int .i64 ((0 : Nat) : Int) | _ => undef) () A.1 (by kernel_rfl) (by decide) (by decide) ⟨BB, FT⟩ ?_ ?_
    · intro i_ hi_ s a X hf hv hn hS
      match i_, hi_ with
      | 0, _ => exact stepV rfl rfl (execAsgB rfl rfl) ⟨s, ⟨_, rfl, rfl⟩, hS, fun _ _ => rfl⟩
      | k_ + 1, h_ => exact absurd h_ (by simp)
    rintro _ a X9 h1 h2 h3 h4 hS
    clear BB
    clear FT
    replace hS : Below V.heap.size V X9 ∧ (Two V X9 (.slice none 0 0) (0) (fun j => (unr (gN d) j : Int)) v34 (n - 0) (fun j => (ul (gN d) 0 j : Int))) := hS
    obtain ⟨BB, FT⟩ := hS
    replace t0 := (h3 0 (by decide)).trans t0
    replace t4 := (h3 4 (by decide)).trans t4
    replace t6 := (h3 6 (by decide)).trans t6
    replace t7 := (h3 7 (by decide)).trans t7
    have t8 : a.eval (.tmp 8) = .int .i64 ((0 : Nat) : Int) := h4 0 _ rfl _ rfl
    replace A := (⟨h1, h2.trans A.2⟩ : a.tmps.size = 62 ∧ a.defers = [])
    clear h1 h2 h3 h4
    refine wp_block ?_
    refine wp_loop (fun a W => ∃ (i : Nat) (u : Value) (lv : Value), i ≤ n ∧ (a.tmps.size = 62 ∧ a.defers = []) ∧ a.eval (.tmp 0) = .slice ia n ic ∧ a.eval (.tmp 4) = .int .i64 ((n : Nat) : Int) ∧ a.eval (.tmp 6) = lv ∧ a.eval (.tmp 7) = u ∧ a.eval (.tmp 8) = .int .i64 ((i : Nat) : Int) ∧ Below V.heap.size V W ∧ (Two V W u (i) (fun j => (unr (gN d) j : Int)) lv (n - i) (fun j => (ul (gN d) i j : Int)))) (fun a _ => n - (intOf (a.eval (.tmp 8))).toNat) ⟨0, _, _, Nat.zero_le _, A, t0, t4, t6, t7, t8, BB, FT⟩ ?_
    clear A t0 t4 t6 t7 t8 BB FT a
    rintro a XL10 ⟨i, u, lv, hi, A, t0, t4, t6, t7, t8, BB, FT⟩
    have es := t8
    refine wp_seq ?_
    refine wp_seq ?_
    refine wp_region_sq (σ := Unit) 62 [(0, 35), (1, 36), (2, 37)] (fun j_ s X => match j_ with | 0 => Below V.heap.size V X ∧ (Two V X u (i) (fun j => (unr (gN d) j : Int)) lv (n - i) (fun j => (ul (gN d) i j : Int))) | 1 => Below V.heap.size V X ∧ (Two V X u (i) (fun j => (unr (gN d) j : Int)) lv (n - i) (fun j => (ul (gN d) i j : Int))) | 2 => Below V.heap.size V X ∧ (Two V X u (i) (fun j => (unr (gN d) j : Int)) lv (n - i) (fun j => (ul (gN d) i j : Int))) | _ => Below V.heap.size V X ∧ (Two V X u (i) (fun j => (unr (gN d) j : Int)) lv (n - i) (fun j => (ul (gN d) i j : Int)))) (fun s => fun i_ => match i_ with | 0 => .int .i64 ((i : Nat) : Int) | 1 => .int .i64 ((n : Nat) : Int) | 2 => .bool (decide (i < n)) | _ => undef) () A.1 (by kernel_rfl) (by decide) (by decide) ⟨BB, FT⟩ ?_ ?_
    · intro i_ hi_ s a X hf hv hn hS
      match i_, hi_ with
      | 0, _ => exact stepV rfl rfl (execMvB rfl ((hf 8 (by decide)).trans t8)) ⟨s, ⟨_, rfl, rfl⟩, hS, fun _ _ => rfl⟩
      | 1, _ => exact stepV rfl rfl (execMvB rfl ((hf 4 (by decide)).trans t4)) ⟨s, ⟨_, rfl, rfl⟩, hS, fun _ _ => rfl⟩
      | 2, _ => exact stepV rfl rfl (execLtW (p := i) (q := n) rfl (hv 0 (by omega) _ rfl _ rfl) (hv 1 (by omega) _ rfl _ rfl)) ⟨s, ⟨_, rfl, rfl⟩, hS, fun _ _ => rfl⟩
      | k_ + 3, h_ => exact absurd h_ (by simp)
    rintro _ a X10 h1 h2 h3 h4 hS
    clear BB
    clear FT
    replace hS : Below V.heap.size V X10 ∧ (Two V X10 u (i) (fun j => (unr (gN d) j : Int)) lv (n - i) (fun j => (ul (gN d) i j : Int))) := hS
    obtain ⟨BB, FT⟩ := hS
    replace t0 := (h3 0 (by decide)).trans t0
    replace t4 := (h3 4 (by decide)).trans t4
    replace t6 := (h3 6 (by decide)).trans t6
    replace t7 := (h3 7 (by decide)).trans t7
    replace t8 := (h3 8 (by decide)).trans t8
    have t37 : a.eval (.tmp 37) = .bool (decide (i < n)) := h4 2 _ rfl _ rfl
    replace A := (⟨h1, h2.trans A.2⟩ : a.tmps.size = 62 ∧ a.defers = [])
    clear h1 h2 h3 h4
    by_cases hlt : i < n
    · rw [decide_eq_true hlt] at t37
      refine wp_cond_true t37 ?_
      refine wp_skip ?_
      clear t37
      refine wp_seq ?_
      refine wp_block ?_
      have hdi := hd i hlt
      obtain ⟨w, ew⟩ : ∃ w : Nat, d i = w := ⟨(d i).toNat, by omega⟩
      have hkl : w < n - i := by omega
      have hg : gN d i = w := by show (d i).toNat = w; omega
      have hun : unr (gN d) i = ul (gN d) i w := by unfold unr; rw [hg]
      have hdg : ∀ k, k < n → gN d k < n - k := fun k hk => by have := hd k hk; show (d k).toNat < n - k; omega
      have hfit : ∀ j, j < n - i → -9223372036854775808 ≤ (fun j => (ul (gN d) i j : Int)) j ∧ (fun j => (ul (gN d) i j : Int)) j < 9223372036854775808 := fun j hj => by have := ul_lt (d := gN d) (n := n) (i := i) (j := j) (by omega) (fun k hk => hdg k (by omega)) hj; show -9223372036854775808 ≤ ((ul (gN d) i j : Nat) : Int) ∧ ((ul (gN d) i j : Nat) : Int) < 9223372036854775808; omega
      obtain ⟨ib, io, rfl, hib, hcell⟩ := hsh (by omega)
      have cI : ∀ k, k < n → ∀ X, Below V.heap.size V X → X.cell? ⟨ib, io + k, none⟩ = some (.int .i64 (d k)) := fun k hk X hX => by rw [cell_below hX hib]; exact hcell k hk
      have cW : ∀ X, Below V.heap.size V X → X.cell? ⟨ib, io + i, none⟩ = some (.int .i64 ((w : Nat) : Int)) := fun X hX => by rw [cI i hlt X hX, ew]
      obtain ⟨gl, cl, rfl, _, _⟩ := ownL_some9 FT.rl (by omega)
      have hcl := own_cap FT.rl
      refine wp_seq ?_
      refine wp_region_sq (σ := Unit) 62 [(0, 40), (1, 41), (2, 42), (3, 43), (4, 9)] (fun j_ s X => match j_ with | 0 => Below V.heap.size V X ∧ (Two V X u (i) (fun j => (unr (gN d) j : Int)) (.slice (some ⟨gl, 0, none⟩) (n - i) cl) (n - i) (fun j => (ul (gN d) i j : Int))) | 1 => Below V.heap.size V X ∧ (Two V X u (i) (fun j => (unr (gN d) j : Int)) (.slice (some ⟨gl, 0, none⟩) (n - i) cl) (n - i) (fun j => (ul (gN d) i j : Int))) | 2 => Below V.heap.size V X ∧ (Two V X u (i) (fun j => (unr (gN d) j : Int)) (.slice (some ⟨gl, 0, none⟩) (n - i) cl) (n - i) (fun j => (ul (gN d) i j : Int))) | 3 => Below V.heap.size V X ∧ (Two V X u (i) (fun j => (unr (gN d) j : Int)) (.slice (some ⟨gl, 0, none⟩) (n - i) cl) (n - i) (fun j => (ul (gN d) i j : Int))) | 4 => Below V.heap.size V X ∧ (Two V X u (i) (fun j => (unr (gN d) j : Int)) (.slice (some ⟨gl, 0, none⟩) (n - i) cl) (n - i) (fun j => (ul (gN d) i j : Int))) | _ => Below V.heap.size V X ∧ (Two V X u (i) (fun j => (unr (gN d) j : Int)) (.slice (some ⟨gl, 0, none⟩) (n - i) cl) (n - i) (fun j => (ul (gN d) i j : Int)))) (fun s => fun i_ => match i_ with | 0 => .slice (some ⟨ib, io, none⟩) n ic | 1 => .int .i64 ((i : Nat) : Int) | 2 => .pointer (some ⟨ib, io + i, none⟩) | 3 => .int .i64 ((w : Nat) : Int) | 4 => .int .i64 ((w : Nat) : Int) | _ => undef) () A.1 (by kernel_rfl) (by decide) (by decide) ⟨BB, FT⟩ ?_ ?_
      · intro i_ hi_ s a X hf hv hn hS
        match i_, hi_ with
        | 0, _ => exact stepV rfl rfl (execMvB rfl ((hf 0 (by decide)).trans t0)) ⟨s, ⟨_, rfl, rfl⟩, hS, fun _ _ => rfl⟩
        | 1, _ => exact stepV rfl rfl (execMvB rfl ((hf 8 (by decide)).trans t8)) ⟨s, ⟨_, rfl, rfl⟩, hS, fun _ _ => rfl⟩
        | 2, _ => exact stepV rfl rfl (execIdxN (k := i) rfl (hv 0 (by omega) _ rfl _ rfl) (hv 1 (by omega) _ rfl _ rfl) hlt) ⟨s, ⟨_, rfl, rfl⟩, hS, fun _ _ => rfl⟩
        | 3, _ => exact stepV rfl rfl (execLd3 rfl (hv 2 (by omega) _ rfl _ rfl) (cW X hS.1)) ⟨s, ⟨_, rfl, rfl⟩, hS, fun _ _ => rfl⟩
        | 4, _ => exact stepV rfl rfl (execAsgB rfl (hv 3 (by omega) _ rfl _ rfl)) ⟨s, ⟨_, rfl, rfl⟩, hS, fun _ _ => rfl⟩
        | k_ + 5, h_ => exact absurd h_ (by simp)
      rintro _ a X12 h1 h2 h3 h4 hS
      clear BB
      clear FT
      replace hS : Below V.heap.size V X12 ∧ (Two V X12 u (i) (fun j => (unr (gN d) j : Int)) (.slice (some ⟨gl, 0, none⟩) (n - i) cl) (n - i) (fun j => (ul (gN d) i j : Int))) := hS
      obtain ⟨BB, FT⟩ := hS
      replace t0 := (h3 0 (by decide)).trans t0
      replace t4 := (h3 4 (by decide)).trans t4
      replace t6 := (h3 6 (by decide)).trans t6
      replace t7 := (h3 7 (by decide)).trans t7
      replace t8 := (h3 8 (by decide)).trans t8
      have t9 : a.eval (.tmp 9) = .int .i64 ((w : Nat) : Int) := h4 4 _ rfl _ rfl
      replace A := (⟨h1, h2.trans A.2⟩ : a.tmps.size = 62 ∧ a.defers = [])
      clear h1 h2 h3 h4
      refine wp_seq ?_
      refine wp_region_sq (σ := Nat × Value) 62 [(0, 44), (1, 45), (2, 46), (3, 47), (4, 48), (5, 49), (6, 50), (7, 7)] (fun j_ s X => match j_ with | 0 => Below V.heap.size V X ∧ (Two V X u (i) (fun j => (unr (gN d) j : Int)) (.slice (some ⟨gl, 0, none⟩) (n - i) cl) (n - i) (fun j => (ul (gN d) i j : Int))) | 1 => Below V.heap.size V X ∧ (Two V X u (i) (fun j => (unr (gN d) j : Int)) (.slice (some ⟨gl, 0, none⟩) (n - i) cl) (n - i) (fun j => (ul (gN d) i j : Int))) | 2 => Below V.heap.size V X ∧ (Two V X u (i) (fun j => (unr (gN d) j : Int)) (.slice (some ⟨gl, 0, none⟩) (n - i) cl) (n - i) (fun j => (ul (gN d) i j : Int))) | 3 => Below V.heap.size V X ∧ (Two V X u (i) (fun j => (unr (gN d) j : Int)) (.slice (some ⟨gl, 0, none⟩) (n - i) cl) (n - i) (fun j => (ul (gN d) i j : Int))) | 4 => Below V.heap.size V X ∧ (Two V X u (i) (fun j => (unr (gN d) j : Int)) (.slice (some ⟨gl, 0, none⟩) (n - i) cl) (n - i) (fun j => (ul (gN d) i j : Int))) | 5 => Below V.heap.size V X ∧ (Two V X u (i) (fun j => (unr (gN d) j : Int)) (.slice (some ⟨gl, 0, none⟩) (n - i) cl) (n - i) (fun j => (ul (gN d) i j : Int))) | 6 => Below V.heap.size V X ∧ (Two V X u (i) (fun j => (unr (gN d) j : Int)) (.slice (some ⟨gl, 0, none⟩) (n - i) cl) (n - i) (fun j => (ul (gN d) i j : Int))) ∧ (X.heap[s.1]? = some (.cells #[.int .i64 (((unr (gN d) i : Nat) : Int))] 3)) | 7 => Below V.heap.size V X ∧ (Two V X s.2 (i + 1) (fun j => (unr (gN d) j : Int)) (.slice (some ⟨gl, 0, none⟩) (n - i) cl) (n - i) (fun j => (ul (gN d) i j : Int))) | _ => Below V.heap.size V X ∧ (Two V X s.2 (i + 1) (fun j => (unr (gN d) j : Int)) (.slice (some ⟨gl, 0, none⟩) (n - i) cl) (n - i) (fun j => (ul (gN d) i j : Int)))) (fun s => fun i_ => match i_ with | 0 => u | 1 => .slice (some ⟨gl, 0, none⟩) (n - i) cl | 2 => .int .i64 ((w : Nat) : Int) | 3 => .pointer (some ⟨gl, 0 + w, none⟩) | 4 => .int .i64 ((unr (gN d) i : Nat) : Int) | 5 => .slice (some ⟨s.1, 0, none⟩) 1 1 | 6 => s.2 | 7 => s.2 | _ => undef) (0, undef) A.1 (by kernel_rfl) (by decide) (by decide) ⟨BB, FT⟩ ?_ ?_
      · intro i_ hi_ s a X hf hv hn hS
        match i_, hi_ with
        | 0, _ => exact stepV rfl rfl (execMvB rfl ((hn 7 (by omega) _ rfl _ rfl).trans t7)) ⟨s, ⟨_, rfl, rfl⟩, hS, fun _ _ => rfl⟩
        | 1, _ => exact stepV rfl rfl (execMvB rfl ((hf 6 (by decide)).trans t6)) ⟨s, ⟨_, rfl, rfl⟩, hS, fun _ _ => rfl⟩
        | 2, _ => exact stepV rfl rfl (execMvB rfl ((hf 9 (by decide)).trans t9)) ⟨s, ⟨_, rfl, rfl⟩, hS, fun _ _ => rfl⟩
        | 3, _ => exact stepV rfl rfl (execIdxN (k := w) rfl (hv 1 (by omega) _ rfl _ rfl) (hv 2 (by omega) _ rfl _ rfl) hkl) ⟨s, ⟨_, rfl, rfl⟩, hS, fun _ _ => rfl⟩
        | 4, _ => exact stepV rfl rfl (execLd3 rfl (hv 3 (by omega) _ rfl _ rfl) (by rw [(own_cellI hS.2.rl hkl).1, hun])) ⟨s, ⟨_, rfl, rfl⟩, hS, fun _ _ => rfl⟩
        | 5, _ =>
          refine stepV rfl rfl (execBsI (z := ((unr (gN d) i : Nat) : Int)) rfl (hv 4 (by omega) _ rfl _ rfl)) ⟨(X.heap.size, s.2), ⟨_, rfl, rfl⟩, ⟨(hS.1).trans (((belNew X _)).mono (hS.1).size), (hS.2.on (belNew X _)), heapNew X _⟩, fun i hi => ?_⟩
          match i, hi with
          | 0, _ => rfl
          | 1, _ => rfl
          | 2, _ => rfl
          | 3, _ => rfl
          | 4, _ => rfl
          | n_ + 5, h_ => omega
        | 6, _ =>
          refine stepAppU rfl rfl rfl (hv 0 (by omega) _ rfl _ rfl) (hv 5 (by omega) _ rfl _ rfl) hS.2.1 hS.2.2 (by omega) (hS.1).size fun v' W' t' gr => ⟨(s.1, v'), ⟨_, rfl, rfl⟩, ⟨(hS.1).grown gr (hS.1).size (fun k hk => (hS.2.1.ru.lt k hk).1), t'⟩, fun i hi => ?_⟩
          match i, hi with
          | 0, _ => rfl
          | 1, _ => rfl
          | 2, _ => rfl
          | 3, _ => rfl
          | 4, _ => rfl
          | 5, _ => rfl
          | n_ + 6, h_ => omega
        | 7, _ => exact stepV rfl rfl (execAsgB rfl (hv 6 (by omega) _ rfl _ rfl)) ⟨s, ⟨_, rfl, rfl⟩, hS, fun _ _ => rfl⟩
        | k_ + 8, h_ => exact absurd h_ (by simp)
      rintro ⟨g49, v50⟩ a X13 h1 h2 h3 h4 hS
      clear BB
      clear FT
      replace hS : Below V.heap.size V X13 ∧ (Two V X13 v50 (i + 1) (fun j => (unr (gN d) j : Int)) (.slice (some ⟨gl, 0, none⟩) (n - i) cl) (n - i) (fun j => (ul (gN d) i j : Int))) := hS
      obtain ⟨BB, FT2⟩ := hS
      replace t0 := (h3 0 (by decide)).trans t0
      replace t4 := (h3 4 (by decide)).trans t4
      replace t6 := (h3 6 (by decide)).trans t6
      replace t7 : a.eval (.tmp 7) = v50 := h4 7 _ rfl _ rfl
      replace t8 := (h3 8 (by decide)).trans t8
      replace t9 := (h3 9 (by decide)).trans t9
      replace A := (⟨h1, h2.trans A.2⟩ : a.tmps.size = 62 ∧ a.defers = [])
      clear h1 h2 h3 h4
      refine wp_region_stB (σ := Nat × Nat × Value × Value) 62 [(0, 51), (1, 52), (2, 53), (3, 54), (4, 55), (5, 56), (6, 57), (7, 58), (8, 59), (9, 60), (10, 6)] (fun l_ s X => Below V.heap.size V X ∧ (l_ 9 = false → (Two V X v50 (i + 1) (fun j => (unr (gN d) j : Int)) (.slice (some ⟨gl, 0, none⟩) (n - i) cl) (n - i) (fun j => (ul (gN d) i j : Int)))) ∧ (l_ 0 = true → l_ 4 = false → (X.ownsRow s.2.1 3 1 (.slice (some ⟨s.1, 0, none⟩) 0 0) 0 (intsL 0 (fun _ => 0)))) ∧ (l_ 0 = true → (∀ k, v50.ownBlock = some k → k < s.2.1)) ∧ (l_ 0 = true → (∀ k, (Value.slice (some ⟨gl, 0, none⟩) (n - i) cl).ownBlock = some k → k < s.2.1)) ∧ (l_ 0 = true → (V.heap.size ≤ s.2.1)) ∧ (l_ 0 = true → l_ 9 = false → (s.2.1 ≤ X.heap.size)) ∧ (l_ 4 = true → l_ 9 = false → (X.ownsRow s.2.1 3 1 s.2.2.1 (w) (intsL (w) (fun j => (ul (gN d) i j : Int))))) ∧ (l_ 9 = true → (Two V X v50 (i + 1) (fun j => (unr (gN d) j : Int)) s.2.2.2 (n - (i + 1)) (fun j => (ul (gN d) (i + 1) j : Int))))) (fun s => fun i_ => match i_ with | 0 => .slice (some ⟨s.1, 0, none⟩) 0 0 | 1 => .slice (some ⟨gl, 0, none⟩) (n - i) cl | 2 => .int .i64 ((w : Nat) : Int) | 3 => .slice (some ⟨gl, 0, none⟩) (w) cl | 4 => s.2.2.1 | 5 => .slice (some ⟨gl, 0, none⟩) (n - i) cl | 6 => .int .i64 ((w : Nat) : Int) | 7 => .int .i64 ((w + 1 : Nat) : Int) | 8 => sliced (some ⟨gl, 0, none⟩) (w + 1) (n - i) cl 1 | 9 => s.2.2.2 | 10 => s.2.2.2 | _ => undef) (0, 0, undef, undef) (by kernel_rfl) (by kernel_rfl) A.1 (by kernel_rfl) (by decide) (by decide) ⟨(BB.drew), (fun _ => (FT2.on (Below.refl _ _).drew)), (fun q0_ q1_ => by cases q0_), (fun q0_ => by cases q0_), (fun q0_ => by cases q0_), (fun q0_ => by cases q0_), (fun q0_ q1_ => by cases q0_), (fun q0_ q1_ => by cases q0_), (fun q0_ => by cases q0_)⟩ ?_ ?_
      · intro i_ hi_ l_ s a X hl_ hf hdep hl2 hcl hno hT
        have up : ∀ j x, x ≠ j → updB l_ j x = l_ x := fun j x hj => by unfold updB; simp [hj]
        match i_, hi_ with
        | 0, _ =>
          refine stepV rfl rfl (execBs0I rfl) ⟨(X.heap.size, X.heap.size, s.2.2.1, s.2.2.2), ⟨_, rfl, rfl⟩, ⟨hT.1.trans (((belNew X _)).mono hT.1.size), (fun q0_ => ((hT.2.1 (by rw [up 0 9 (by decide)] at q0_; exact q0_)).on (belNew X _))), (fun _q0_ _q1_ => own_noneI X _), (fun _q0_ => fun k e => ((hT.2.1 (by cases hq_ : l_ 9 with | false => rfl | true => exact absurd (hl_.symm.trans (hcl 4 _ rfl (hcl 9 _ rfl hq_ 4 rfl) 0 rfl)) (by decide))).ru.lt k e).2), (fun _q0_ => fun k e => ((hT.2.1 (by cases hq_ : l_ 9 with | false => rfl | true => exact absurd (hl_.symm.trans (hcl 4 _ rfl (hcl 9 _ rfl hq_ 4 rfl) 0 rfl)) (by decide))).rl.lt k e).2), (fun _q0_ => (hT.1).size), (fun _q0_ _q1_ => (belNew X _).size), (fun q0_ q1_ => absurd (hl_.symm.trans (hcl 4 _ rfl ((up 0 4 (by decide)).symm.trans q0_) 0 rfl)) (by decide)), (fun q0_ => absurd (hl_.symm.trans (hcl 4 _ rfl (hcl 9 _ rfl ((up 0 9 (by decide)).symm.trans q0_) 4 rfl) 0 rfl)) (by decide))⟩, fun i hi hli => ?_⟩
          match i, hi with
          | 0, _ => exact absurd (hl_.symm.trans hli) (by decide)
          | 1, _ => rfl
          | 2, _ => rfl
          | 3, _ => rfl
          | 4, _ => rfl
          | 5, _ => rfl
          | 6, _ => rfl
          | 7, _ => rfl
          | 8, _ => rfl
          | 9, _ => rfl
          | 10, _ => rfl
          | k_ + 11, h_ => exact absurd h_ (by simp)
        | 1, _ => exact stepV rfl rfl (execMvB rfl ((hno 10 _ rfl _ rfl (by cases hq_ : l_ 10 with | false => rfl | true => exact absurd (hl_.symm.trans (hcl 10 _ rfl hq_ 1 rfl)) (by decide))).trans t6)) ⟨s, ⟨_, rfl, rfl⟩, ⟨hT.1, (fun q0_ => (hT.2.1 (by rw [up 1 9 (by decide)] at q0_; exact q0_))), (fun q0_ q1_ => (hT.2.2.1 (by rw [up 1 0 (by decide)] at q0_; exact q0_) (by rw [up 1 4 (by decide)] at q1_; exact q1_))), (fun q0_ => (hT.2.2.2.1 (by rw [up 1 0 (by decide)] at q0_; exact q0_))), (fun q0_ => (hT.2.2.2.2.1 (by rw [up 1 0 (by decide)] at q0_; exact q0_))), (fun q0_ => (hT.2.2.2.2.2.1 (by rw [up 1 0 (by decide)] at q0_; exact q0_))), (fun q0_ q1_ => (hT.2.2.2.2.2.2.1 (by rw [up 1 0 (by decide)] at q0_; exact q0_) (by rw [up 1 9 (by decide)] at q1_; exact q1_))), (fun q0_ q1_ => absurd (hl_.symm.trans (hcl 3 _ rfl (hcl 4 _ rfl ((up 1 4 (by decide)).symm.trans q0_) 3 rfl) 1 rfl)) (by decide)), (fun q0_ => absurd (hl_.symm.trans (hcl 3 _ rfl (hcl 4 _ rfl (hcl 9 _ rfl ((up 1 9 (by decide)).symm.trans q0_) 4 rfl) 3 rfl) 1 rfl)) (by decide))⟩, fun _ _ _ => rfl⟩
        | 2, _ => exact stepV rfl rfl (execMvB rfl ((hf 9 (by decide)).trans t9)) ⟨s, ⟨_, rfl, rfl⟩, ⟨hT.1, (fun q0_ => (hT.2.1 (by rw [up 2 9 (by decide)] at q0_; exact q0_))), (fun q0_ q1_ => (hT.2.2.1 (by rw [up 2 0 (by decide)] at q0_; exact q0_) (by rw [up 2 4 (by decide)] at q1_; exact q1_))), (fun q0_ => (hT.2.2.2.1 (by rw [up 2 0 (by decide)] at q0_; exact q0_))), (fun q0_ => (hT.2.2.2.2.1 (by rw [up 2 0 (by decide)] at q0_; exact q0_))), (fun q0_ => (hT.2.2.2.2.2.1 (by rw [up 2 0 (by decide)] at q0_; exact q0_))), (fun q0_ q1_ => (hT.2.2.2.2.2.2.1 (by rw [up 2 0 (by decide)] at q0_; exact q0_) (by rw [up 2 9 (by decide)] at q1_; exact q1_))), (fun q0_ q1_ => absurd (hl_.symm.trans (hcl 3 _ rfl (hcl 4 _ rfl ((up 2 4 (by decide)).symm.trans q0_) 3 rfl) 2 rfl)) (by decide)), (fun q0_ => absurd (hl_.symm.trans (hcl 3 _ rfl (hcl 4 _ rfl (hcl 9 _ rfl ((up 2 9 (by decide)).symm.trans q0_) 4 rfl) 3 rfl) 2 rfl)) (by decide))⟩, fun _ _ _ => rfl⟩
        | 3, _ => exact stepV rfl rfl (By8.execSlH rfl (hdep _ rfl 1 rfl _ rfl _ rfl) (hdep _ rfl 2 rfl _ rfl _ rfl) (sl_hI gl _ cl _ (by omega) X)) ⟨s, ⟨_, rfl, rfl⟩, ⟨hT.1, (fun q0_ => (hT.2.1 (by rw [up 3 9 (by decide)] at q0_; exact q0_))), (fun q0_ q1_ => (hT.2.2.1 (by rw [up 3 0 (by decide)] at q0_; exact q0_) (by rw [up 3 4 (by decide)] at q1_; exact q1_))), (fun q0_ => (hT.2.2.2.1 (by rw [up 3 0 (by decide)] at q0_; exact q0_))), (fun q0_ => (hT.2.2.2.2.1 (by rw [up 3 0 (by decide)] at q0_; exact q0_))), (fun q0_ => (hT.2.2.2.2.2.1 (by rw [up 3 0 (by decide)] at q0_; exact q0_))), (fun q0_ q1_ => (hT.2.2.2.2.2.2.1 (by rw [up 3 0 (by decide)] at q0_; exact q0_) (by rw [up 3 9 (by decide)] at q1_; exact q1_))), (fun q0_ q1_ => absurd (hl_.symm.trans (hcl 4 _ rfl ((up 3 4 (by decide)).symm.trans q0_) 3 rfl)) (by decide)), (fun q0_ => absurd (hl_.symm.trans (hcl 4 _ rfl (hcl 9 _ rfl ((up 3 9 (by decide)).symm.trans q0_) 4 rfl) 3 rfl)) (by decide))⟩, fun _ _ _ => rfl⟩
        | 4, _ =>
          refine stepAppIs (f := fun _ => 0) (g := fun j => (ul (gN d) i j : Int)) rfl rfl rfl (hdep _ rfl 0 rfl _ rfl _ rfl) (hdep _ rfl 3 rfl _ rfl _ rfl) (hT.2.2.1 (hl2 _ rfl 0 rfl) hl_) ((hT.2.1 (by cases hq_ : l_ 9 with | false => rfl | true => exact absurd (hl_.symm.trans (hcl 9 _ rfl hq_ 4 rfl)) (by decide))).lo hfit hkl) (fun l c e => by cases e) (by omega) (hT.2.2.2.2.2.2.1 (hl2 _ rfl 0 rfl) (by cases hq_ : l_ 9 with | false => rfl | true => exact absurd (hl_.symm.trans (hcl 9 _ rfl hq_ 4 rfl)) (by decide))) fun v' W' own' gr => ⟨(s.1, s.2.1, v', s.2.2.2), ⟨_, rfl, rfl⟩, ⟨(hT.1).grown gr (hT.1).size (fun k hk => Nat.le_trans (hT.2.2.2.2.2.1 (hl2 _ rfl 0 rfl)) ((hT.2.2.1 (hl2 _ rfl 0 rfl) hl_).lt k hk).1), (fun q0_ => ((hT.2.1 (by rw [up 4 9 (by decide)] at q0_; exact q0_)).over (hT.2.2.2.1 (hl2 _ rfl 0 rfl)) (hT.2.2.2.2.1 (hl2 _ rfl 0 rfl)) (hT.2.2.1 (hl2 _ rfl 0 rfl) hl_) gr)), (fun q0_ q1_ => absurd q1_ (by unfold updB; simp)), (fun q0_ => (hT.2.2.2.1 (by rw [up 4 0 (by decide)] at q0_; exact q0_))), (fun q0_ => (hT.2.2.2.2.1 (by rw [up 4 0 (by decide)] at q0_; exact q0_))), (fun q0_ => (hT.2.2.2.2.2.1 (by rw [up 4 0 (by decide)] at q0_; exact q0_))), (fun q0_ q1_ => (Nat.le_trans (hT.2.2.2.2.2.2.1 (by rw [up 4 0 (by decide)] at q0_; exact q0_) (by rw [up 4 9 (by decide)] at q1_; exact q1_)) gr.size)), (fun _q0_ _q1_ => own_cat0 own'), (fun q0_ => absurd (hl_.symm.trans (hcl 9 _ rfl ((up 4 9 (by decide)).symm.trans q0_) 4 rfl)) (by decide))⟩, fun i hi hli => ?_⟩
          match i, hi with
          | 0, _ => rfl
          | 1, _ => rfl
          | 2, _ => rfl
          | 3, _ => rfl
          | 4, _ => exact absurd (hl_.symm.trans hli) (by decide)
          | 5, _ => rfl
          | 6, _ => rfl
          | 7, _ => rfl
          | 8, _ => rfl
          | 9, _ => rfl
          | 10, _ => rfl
          | k_ + 11, h_ => exact absurd h_ (by simp)
        | 5, _ => exact stepV rfl rfl (execMvB rfl ((hno 10 _ rfl _ rfl (by cases hq_ : l_ 10 with | false => rfl | true => exact absurd (hl_.symm.trans (hcl 10 _ rfl hq_ 5 rfl)) (by decide))).trans t6)) ⟨s, ⟨_, rfl, rfl⟩, ⟨hT.1, (fun q0_ => (hT.2.1 (by rw [up 5 9 (by decide)] at q0_; exact q0_))), (fun q0_ q1_ => (hT.2.2.1 (by rw [up 5 0 (by decide)] at q0_; exact q0_) (by rw [up 5 4 (by decide)] at q1_; exact q1_))), (fun q0_ => (hT.2.2.2.1 (by rw [up 5 0 (by decide)] at q0_; exact q0_))), (fun q0_ => (hT.2.2.2.2.1 (by rw [up 5 0 (by decide)] at q0_; exact q0_))), (fun q0_ => (hT.2.2.2.2.2.1 (by rw [up 5 0 (by decide)] at q0_; exact q0_))), (fun q0_ q1_ => (hT.2.2.2.2.2.2.1 (by rw [up 5 0 (by decide)] at q0_; exact q0_) (by rw [up 5 9 (by decide)] at q1_; exact q1_))), (fun q0_ q1_ => (hT.2.2.2.2.2.2.2.1 (by rw [up 5 4 (by decide)] at q0_; exact q0_) (by rw [up 5 9 (by decide)] at q1_; exact q1_))), (fun q0_ => absurd (hl_.symm.trans (hcl 8 _ rfl (hcl 9 _ rfl ((up 5 9 (by decide)).symm.trans q0_) 8 rfl) 5 rfl)) (by decide))⟩, fun _ _ _ => rfl⟩
        | 6, _ => exact stepV rfl rfl (execMvB rfl ((hf 9 (by decide)).trans t9)) ⟨s, ⟨_, rfl, rfl⟩, ⟨hT.1, (fun q0_ => (hT.2.1 (by rw [up 6 9 (by decide)] at q0_; exact q0_))), (fun q0_ q1_ => (hT.2.2.1 (by rw [up 6 0 (by decide)] at q0_; exact q0_) (by rw [up 6 4 (by decide)] at q1_; exact q1_))), (fun q0_ => (hT.2.2.2.1 (by rw [up 6 0 (by decide)] at q0_; exact q0_))), (fun q0_ => (hT.2.2.2.2.1 (by rw [up 6 0 (by decide)] at q0_; exact q0_))), (fun q0_ => (hT.2.2.2.2.2.1 (by rw [up 6 0 (by decide)] at q0_; exact q0_))), (fun q0_ q1_ => (hT.2.2.2.2.2.2.1 (by rw [up 6 0 (by decide)] at q0_; exact q0_) (by rw [up 6 9 (by decide)] at q1_; exact q1_))), (fun q0_ q1_ => (hT.2.2.2.2.2.2.2.1 (by rw [up 6 4 (by decide)] at q0_; exact q0_) (by rw [up 6 9 (by decide)] at q1_; exact q1_))), (fun q0_ => absurd (hl_.symm.trans (hcl 7 _ rfl (hcl 8 _ rfl (hcl 9 _ rfl ((up 6 9 (by decide)).symm.trans q0_) 8 rfl) 7 rfl) 6 rfl)) (by decide))⟩, fun _ _ _ => rfl⟩
        | 7, _ => exact stepV rfl rfl (execAd8 (p := w) (q := 1) rfl (hdep _ rfl 6 rfl _ rfl _ rfl) rfl (by omega)) ⟨s, ⟨_, rfl, rfl⟩, ⟨hT.1, (fun q0_ => (hT.2.1 (by rw [up 7 9 (by decide)] at q0_; exact q0_))), (fun q0_ q1_ => (hT.2.2.1 (by rw [up 7 0 (by decide)] at q0_; exact q0_) (by rw [up 7 4 (by decide)] at q1_; exact q1_))), (fun q0_ => (hT.2.2.2.1 (by rw [up 7 0 (by decide)] at q0_; exact q0_))), (fun q0_ => (hT.2.2.2.2.1 (by rw [up 7 0 (by decide)] at q0_; exact q0_))), (fun q0_ => (hT.2.2.2.2.2.1 (by rw [up 7 0 (by decide)] at q0_; exact q0_))), (fun q0_ q1_ => (hT.2.2.2.2.2.2.1 (by rw [up 7 0 (by decide)] at q0_; exact q0_) (by rw [up 7 9 (by decide)] at q1_; exact q1_))), (fun q0_ q1_ => (hT.2.2.2.2.2.2.2.1 (by rw [up 7 4 (by decide)] at q0_; exact q0_) (by rw [up 7 9 (by decide)] at q1_; exact q1_))), (fun q0_ => absurd (hl_.symm.trans (hcl 8 _ rfl (hcl 9 _ rfl ((up 7 9 (by decide)).symm.trans q0_) 8 rfl) 7 rfl)) (by decide))⟩, fun _ _ _ => rfl⟩
        | 8, _ => exact stepV rfl rfl (execSlLg rfl (hdep _ rfl 5 rfl _ rfl _ rfl) (hdep _ rfl 7 rfl _ rfl _ rfl) (sl_lI gl _ cl _ hkl X)) ⟨s, ⟨_, rfl, rfl⟩, ⟨hT.1, (fun q0_ => (hT.2.1 (by rw [up 8 9 (by decide)] at q0_; exact q0_))), (fun q0_ q1_ => (hT.2.2.1 (by rw [up 8 0 (by decide)] at q0_; exact q0_) (by rw [up 8 4 (by decide)] at q1_; exact q1_))), (fun q0_ => (hT.2.2.2.1 (by rw [up 8 0 (by decide)] at q0_; exact q0_))), (fun q0_ => (hT.2.2.2.2.1 (by rw [up 8 0 (by decide)] at q0_; exact q0_))), (fun q0_ => (hT.2.2.2.2.2.1 (by rw [up 8 0 (by decide)] at q0_; exact q0_))), (fun q0_ q1_ => (hT.2.2.2.2.2.2.1 (by rw [up 8 0 (by decide)] at q0_; exact q0_) (by rw [up 8 9 (by decide)] at q1_; exact q1_))), (fun q0_ q1_ => (hT.2.2.2.2.2.2.2.1 (by rw [up 8 4 (by decide)] at q0_; exact q0_) (by rw [up 8 9 (by decide)] at q1_; exact q1_))), (fun q0_ => absurd (hl_.symm.trans (hcl 9 _ rfl ((up 8 9 (by decide)).symm.trans q0_) 8 rfl)) (by decide))⟩, fun _ _ _ => rfl⟩
        | 9, _ =>
          refine stepAppIs (f := fun j => (ul (gN d) i j : Int)) (g := fun j => (fun j => (ul (gN d) i j : Int)) (w + 1 + j)) rfl rfl rfl (hdep _ rfl 4 rfl _ rfl _ rfl) (hdep _ rfl 8 rfl _ rfl _ rfl) (hT.2.2.2.2.2.2.2.1 (hl2 _ rfl 4 rfl) hl_) ((hT.2.1 hl_).hi hfit hkl) (fun l c e => sl_no e) (by omega) (hT.2.2.2.2.2.2.1 (hcl 4 _ rfl (hl2 _ rfl 4 rfl) 0 rfl) hl_) fun v' W' own' gr => ⟨(s.1, s.2.1, s.2.2.1, v'), ⟨_, rfl, rfl⟩, ⟨(hT.1).grown gr (hT.1).size (fun k hk => Nat.le_trans (hT.2.2.2.2.2.1 (hcl 4 _ rfl (hl2 _ rfl 4 rfl) 0 rfl)) ((hT.2.2.2.2.2.2.2.1 (hl2 _ rfl 4 rfl) hl_).lt k hk).1), (fun q0_ => absurd q0_ (by unfold updB; simp)), (fun q0_ q1_ => absurd (q1_.symm.trans ((up 9 4 (by decide)).trans (hl2 _ rfl 4 rfl))) (by decide)), (fun q0_ => (hT.2.2.2.1 (by rw [up 9 0 (by decide)] at q0_; exact q0_))), (fun q0_ => (hT.2.2.2.2.1 (by rw [up 9 0 (by decide)] at q0_; exact q0_))), (fun q0_ => (hT.2.2.2.2.2.1 (by rw [up 9 0 (by decide)] at q0_; exact q0_))), (fun q0_ q1_ => absurd q1_ (by unfold updB; simp)), (fun q0_ q1_ => absurd q1_ (by unfold updB; simp)), (fun _q0_ => ((hT.2.1 hl_).over (hT.2.2.2.1 (hcl 4 _ rfl (hl2 _ rfl 4 rfl) 0 rfl)) (hT.2.2.2.2.1 (hcl 4 _ rfl (hl2 _ rfl 4 rfl) 0 rfl)) (hT.2.2.2.2.2.2.2.1 (hl2 _ rfl 4 rfl) hl_) gr).new (hT.2.2.2.1 (hcl 4 _ rfl (hl2 _ rfl 4 rfl) 0 rfl)) own' (hT.2.2.2.2.2.1 (hcl 4 _ rfl (hl2 _ rfl 4 rfl) 0 rfl)) (by omega) (fun j _ => ul_next _ _ _ _ hg))⟩, fun i hi hli => ?_⟩
          match i, hi with
          | 0, _ => rfl
          | 1, _ => rfl
          | 2, _ => rfl
          | 3, _ => rfl
          | 4, _ => rfl
          | 5, _ => rfl
          | 6, _ => rfl
          | 7, _ => rfl
          | 8, _ => rfl
          | 9, _ => exact absurd (hl_.symm.trans hli) (by decide)
          | 10, _ => exact absurd (hl_.symm.trans (hcl 10 _ rfl hli 9 rfl)) (by decide)
          | k_ + 11, h_ => exact absurd h_ (by simp)
        | 10, _ => exact stepV rfl rfl (execAsgB rfl (hdep _ rfl 9 rfl _ rfl _ rfl)) ⟨s, ⟨_, rfl, rfl⟩, ⟨hT.1, (fun q0_ => absurd (q0_.symm.trans ((up 10 9 (by decide)).trans (hl2 _ rfl 9 rfl))) (by decide)), (fun q0_ q1_ => absurd (q1_.symm.trans ((up 10 4 (by decide)).trans (hl2 _ rfl 4 rfl))) (by decide)), (fun q0_ => (hT.2.2.2.1 (by rw [up 10 0 (by decide)] at q0_; exact q0_))), (fun q0_ => (hT.2.2.2.2.1 (by rw [up 10 0 (by decide)] at q0_; exact q0_))), (fun q0_ => (hT.2.2.2.2.2.1 (by rw [up 10 0 (by decide)] at q0_; exact q0_))), (fun q0_ q1_ => absurd (q1_.symm.trans ((up 10 9 (by decide)).trans (hl2 _ rfl 9 rfl))) (by decide)), (fun q0_ q1_ => absurd (q1_.symm.trans ((up 10 9 (by decide)).trans (hl2 _ rfl 9 rfl))) (by decide)), (fun q0_ => (hT.2.2.2.2.2.2.2.2 (by rw [up 10 9 (by decide)] at q0_; exact q0_)))⟩, fun _ _ _ => rfl⟩
        | k_ + 11, h_ => exact absurd h_ (by simp)
      rintro l_ ⟨g51, b51, v55, v60⟩ a X14 h1 h2 h3 h4 hall hT
      clear BB
      clear FT2
      obtain ⟨BB, FT2, Fg51, Fb51, Fl51, Fc51, Fs51, Fv55, FT3⟩ := hT
      clear FT2
      clear Fg51
      replace Fb51 : (∀ k, v50.ownBlock = some k → k < b51) := Fb51 (hall 0 (by decide))
      replace Fl51 : (∀ k, (Value.slice (some ⟨gl, 0, none⟩) (n - i) cl).ownBlock = some k → k < b51) := Fl51 (hall 0 (by decide))
      replace Fc51 : (V.heap.size ≤ b51) := Fc51 (hall 0 (by decide))
      clear Fs51
      clear Fv55
      replace FT3 : (Two V X14 v50 (i + 1) (fun j => (unr (gN d) j : Int)) v60 (n - (i + 1)) (fun j => (ul (gN d) (i + 1) j : Int))) := FT3 (hall 9 (by decide))
      clear hall
      replace t0 := (h3 0 (by decide)).trans t0
      replace t4 := (h3 4 (by decide)).trans t4
      replace t6 : a.eval (.tmp 6) = v60 := h4 (10, 6) (by decide)
      replace t7 := (h3 7 (by decide)).trans t7
      replace t8 := (h3 8 (by decide)).trans t8
      replace A := (⟨h1, h2.trans A.2⟩ : a.tmps.size = 62 ∧ a.defers = [])
      clear h1 h2 h3 h4
      clear t9
      refine wp_region_sq (σ := Unit) 62 [(0, 38), (1, 39), (2, 8)] (fun j_ s X => match j_ with | 0 => Below V.heap.size V X ∧ (∀ k, v50.ownBlock = some k → k < b51) ∧ (∀ k, (Value.slice (some ⟨gl, 0, none⟩) (n - i) cl).ownBlock = some k → k < b51) ∧ (V.heap.size ≤ b51) ∧ (Two V X v50 (i + 1) (fun j => (unr (gN d) j : Int)) v60 (n - (i + 1)) (fun j => (ul (gN d) (i + 1) j : Int))) | 1 => Below V.heap.size V X ∧ (∀ k, v50.ownBlock = some k → k < b51) ∧ (∀ k, (Value.slice (some ⟨gl, 0, none⟩) (n - i) cl).ownBlock = some k → k < b51) ∧ (V.heap.size ≤ b51) ∧ (Two V X v50 (i + 1) (fun j => (unr (gN d) j : Int)) v60 (n - (i + 1)) (fun j => (ul (gN d) (i + 1) j : Int))) | 2 => Below V.heap.size V X ∧ (∀ k, v50.ownBlock = some k → k < b51) ∧ (∀ k, (Value.slice (some ⟨gl, 0, none⟩) (n - i) cl).ownBlock = some k → k < b51) ∧ (V.heap.size ≤ b51) ∧ (Two V X v50 (i + 1) (fun j => (unr (gN d) j : Int)) v60 (n - (i + 1)) (fun j => (ul (gN d) (i + 1) j : Int))) | _ => Below V.heap.size V X ∧ (∀ k, v50.ownBlock = some k → k < b51) ∧ (∀ k, (Value.slice (some ⟨gl, 0, none⟩) (n - i) cl).ownBlock = some k → k < b51) ∧ (V.heap.size ≤ b51) ∧ (Two V X v50 (i + 1) (fun j => (unr (gN d) j : Int)) v60 (n - (i + 1)) (fun j => (ul (gN d) (i + 1) j : Int)))) (fun s => fun i_ => match i_ with | 0 => .int .i64 ((i : Nat) : Int) | 1 => .int .i64 ((i + 1 : Nat) : Int) | 2 => .int .i64 ((i + 1 : Nat) : Int) | _ => undef) () A.1 (by kernel_rfl) (by decide) (by decide) ⟨BB, Fb51, Fl51, Fc51, FT3⟩ ?_ ?_
      · intro i_ hi_ s a X hf hv hn hS
        match i_, hi_ with
        | 0, _ => exact stepV rfl rfl (execMvB rfl ((hn 2 (by omega) _ rfl _ rfl).trans t8)) ⟨s, ⟨_, rfl, rfl⟩, hS, fun _ _ => rfl⟩
        | 1, _ => exact stepV rfl rfl (execAd8 (p := i) (q := 1) rfl (hv 0 (by omega) _ rfl _ rfl) rfl (by omega)) ⟨s, ⟨_, rfl, rfl⟩, hS, fun _ _ => rfl⟩
        | 2, _ => exact stepV rfl rfl (execAsgB rfl (hv 1 (by omega) _ rfl _ rfl)) ⟨s, ⟨_, rfl, rfl⟩, hS, fun _ _ => rfl⟩
        | k_ + 3, h_ => exact absurd h_ (by simp)
      rintro _ a X11 h1 h2 h3 h4 hS
      clear BB
      clear Fb51
      clear Fl51
      clear Fc51
      clear FT3
      replace hS : Below V.heap.size V X11 ∧ (∀ k, v50.ownBlock = some k → k < b51) ∧ (∀ k, (Value.slice (some ⟨gl, 0, none⟩) (n - i) cl).ownBlock = some k → k < b51) ∧ (V.heap.size ≤ b51) ∧ (Two V X11 v50 (i + 1) (fun j => (unr (gN d) j : Int)) v60 (n - (i + 1)) (fun j => (ul (gN d) (i + 1) j : Int))) := hS
      obtain ⟨BB, Fb51, Fl51, Fc51, FT3⟩ := hS
      replace t0 := (h3 0 (by decide)).trans t0
      replace t4 := (h3 4 (by decide)).trans t4
      replace t6 := (h3 6 (by decide)).trans t6
      replace t7 := (h3 7 (by decide)).trans t7
      replace t8 : a.eval (.tmp 8) = .int .i64 ((i + 1 : Nat) : Int) := h4 2 _ rfl _ rfl
      replace A := (⟨h1, h2.trans A.2⟩ : a.tmps.size = 62 ∧ a.defers = [])
      clear h1 h2 h3 h4
      exact ⟨⟨i + 1, _, _, hlt, A, t0, t4, t6, t7, t8, BB, FT3⟩, by show n - (intOf (a.eval (.tmp 8))).toNat < n - (intOf (Act.eval _ (.tmp 8))).toNat; rw [t8, es]; show n - (i + 1) < n - i; omega⟩
    · rw [decide_eq_false hlt] at t37
      refine wp_cond_false t37 ?_
      refine wp_exit ?_
      first | refine exit_in ?_ | refine exit_then (exit_in ?_) | refine exit_then (exit_then (exit_in ?_))
      clear t37 es
      have hin : i = n := by omega
      rw [hin] at FT
      have FO := FT.ru
      clear FT
      refine wp_seq ?_
      refine wp_region_sq (σ := Unit) 62 [(0, 61), (1, 2), (2, 3)] (fun j_ s X => match j_ with | 0 => Below V.heap.size V X ∧ (X.ownsRow V.heap.size 3 1 u (n) (intsL (n) (fun j => (unr (gN d) j : Int)))) | 1 => Below V.heap.size V X ∧ (X.ownsRow V.heap.size 3 1 u (n) (intsL (n) (fun j => (unr (gN d) j : Int)))) | 2 => Below V.heap.size V X ∧ (X.ownsRow V.heap.size 3 1 u (n) (intsL (n) (fun j => (unr (gN d) j : Int)))) | _ => Below V.heap.size V X ∧ (X.ownsRow V.heap.size 3 1 u (n) (intsL (n) (fun j => (unr (gN d) j : Int))))) (fun s => fun i_ => match i_ with | 0 => u | 1 => u | 2 => .int .i64 ((0 : Nat) : Int) | _ => undef) () A.1 (by kernel_rfl) (by decide) (by decide) ⟨BB, FO⟩ ?_ ?_
      · intro i_ hi_ s a X hf hv hn hS
        match i_, hi_ with
        | 0, _ => exact stepV rfl rfl (execMvB rfl ((hf 7 (by decide)).trans t7)) ⟨s, ⟨_, rfl, rfl⟩, hS, fun _ _ => rfl⟩
        | 1, _ => exact stepV rfl rfl (execAsgB rfl (hv 0 (by omega) _ rfl _ rfl)) ⟨s, ⟨_, rfl, rfl⟩, hS, fun _ _ => rfl⟩
        | 2, _ => exact stepV rfl rfl (execAsgB rfl rfl) ⟨s, ⟨_, rfl, rfl⟩, hS, fun _ _ => rfl⟩
        | k_ + 3, h_ => exact absurd h_ (by simp)
      rintro _ a X15 h1 h2 h3 h4 hS
      clear BB
      clear FO
      replace hS : Below V.heap.size V X15 ∧ (X15.ownsRow V.heap.size 3 1 u (n) (intsL (n) (fun j => (unr (gN d) j : Int)))) := hS
      obtain ⟨BB, FO⟩ := hS
      have t2 : a.eval (.tmp 2) = u := h4 1 _ rfl _ rfl
      have t3 : a.eval (.tmp 3) = .int .i64 ((0 : Nat) : Int) := h4 2 _ rfl _ rfl
      replace A := (⟨h1, h2.trans A.2⟩ : a.tmps.size = 62 ∧ a.defers = [])
      clear h1 h2 h3 h4
      clear t0 t4 t6 t7 t8
      have hE : unE d n = 0 := if_pos hok
      rw [hE, zl_ok]
      refine wp_ret ?_
      refine bodyPost_ret (results_tmp2 rfl _ _ _) A.2 ⟨_, ?_, FO, BB⟩
      show Ending.returned (.tuple #[a.eval (.tmp 2), a.eval (.tmp 3)]) = _
      rw [t2, t3]
set_option maxRecDepth 20000 in
/-- The reference's From. -/
theorem rfrom (n : Int) (d : Nat → Int) (m : Nat) (v : Value) (V : World) (hv : SliceI V v m d) (hm17 : m ≤ 17592186043904) :
    Calls Try.prog 18 #[.int .i64 n, v] V fun e w' => ∃ r, e = .returned (.tuple #[r, .int .i64 ((frE n d m : Nat) : Int)]) ∧ w'.ownsRow V.heap.size 3 1 r (zl (frE n d m) n.toNat) (intsL (zl (frE n d m) n.toNat) (fun j => (frA n.toNat (gN d) m j : Int))) ∧ Below V.heap.size V w' := by
  by_cases h : n < 0
  · have hE : frE n d m = 2 := if_pos h
    rw [hE, zl_no (by decide)]
    clear hv hm17 hE
    go_enter Try.func18, Try.ntmps18
    go_wp2
    refine bodyPost_ret (results_tmp2 rfl _ _ _) rfl ⟨_, rfl, World.ownsRow_nil _ _ _ _, Below.refl _ _⟩
  · obtain ⟨N, rfl⟩ : ∃ N : Nat, n = N := ⟨n.toNat, by omega⟩
    refine (rfrom_nat N d m v V hv hm17).mono ?_
    rintro e w' ⟨r, h1, h2, h3⟩
    rw [Int.toNat_natCast] at h2 ⊢
    exact ⟨r, h1, h2, h3⟩
end Go.Proofs.Ythiakjmjpchckaa.Prm
