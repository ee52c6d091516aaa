import Derived.Test.YtdecmmcphcomhaaQ9f
namespace Go.Proofs.Ytdecmmcphcomhaa.Brd
open Go.RowKit Gf8 Aes By8 Cel Cf Tap Drw Prm
/- Stage 12's reference: Sizes, total. Written by tools/mkQ9g.py. -/

def szE (k c : Int) : Nat := if 0 ≤ k ∧ k ≤ 256 ∧ 1 ≤ c ∧ c ≤ 64 then 0 else 2
def szF (N D j : Nat) : Nat := N / D + if j < N % D then 1 else 0
/-- The first k are sizes. -/
def okS (s : Nat → Int) : Nat → Bool
  | 0 => true
  | k + 1 => okS s k && decide (0 ≤ s k ∧ s k ≤ 256 - (sumN (gN s) k : Int))
theorem okS_iff {s : Nat → Int} : ∀ {k}, okS s k = true ↔ ∀ j, j < k → 0 ≤ s j ∧ s j ≤ 256 - (sumN (gN s) j : Int)
  | 0 => ⟨fun _ j hj => absurd hj (Nat.not_lt_zero _), fun _ => rfl⟩
  | k + 1 => by
    unfold okS
    rw [Bool.and_eq_true, decide_eq_true_eq, okS_iff]
    refine ⟨fun h j hj => ?_, fun h => ⟨fun j hj => h j (by omega), h k (by omega)⟩⟩
    by_cases e : j = k
    · subst e; exact h.2
    · exact h.1 j (by omega)
theorem okS_succ {s : Nat → Int} {i : Nat} (h : okS s i = true) (e : 0 ≤ s i ∧ s i ≤ 256 - (sumN (gN s) i : Int)) : okS s (i + 1) = true := by
  show (okS s i && decide (0 ≤ s i ∧ s i ≤ 256 - (sumN (gN s) i : Int))) = true
  rw [h, decide_eq_true e]
  rfl
theorem okS_bad {s : Nat → Int} {i n : Nat} (hi : i < n) (e : ¬ (0 ≤ s i ∧ s i ≤ 256 - (sumN (gN s) i : Int))) : ¬ okS s n = true := fun q => e (okS_iff.1 q i hi)
set_option maxRecDepth 100000 in
set_option maxHeartbeats 4000000 in
/-- The reference's Sizes. -/
theorem rsizes (k c : Int) (V : World) :
    Calls Try.prog 10 #[.int .i64 k, .int .i64 c] V fun e w' => ∃ r, e = .returned (.tuple #[r, .int .i64 ((szE k c : Nat) : Int)]) ∧ w'.ownsRow V.heap.size 3 1 r (zl (szE k c) c.toNat) (intsL (zl (szE k c) c.toNat) (fun j => (szF k.toNat c.toNat j : Int))) ∧ Below V.heap.size V w' := by
  go_enter Try.func10, Try.ntmps10
  refine wp_seq ?_
  refine wp_region_sqK 43 [(0, 4), (1, 5)] (fun i_ => match i_ with | 0 => .slice none 0 0 | 1 => .int .i64 ((0 : Nat) : Int) | _ => undef) rfl (by kernel_rfl) (by decide) (by decide) ?_ ?_
  · intro i_ hi_ a hf hv hn
    match i_, hi_ with
    | 0, _ => exact stepV rfl rfl (execAsgB rfl rfl) ⟨⟨_, rfl, rfl⟩, rfl⟩
    | 1, _ => exact stepV rfl rfl (execAsgB rfl rfl) ⟨⟨_, rfl, rfl⟩, rfl⟩
    | k_ + 2, h_ => exact absurd h_ (by simp)
  intro a h1 h2 h3 h4
  have t0 : a.eval (.tmp 0) = .int .i64 k := (h3 0 (by decide)).trans rfl
  have t1 : a.eval (.tmp 1) = .int .i64 c := (h3 1 (by decide)).trans rfl
  have A : a.tmps.size = 43 ∧ a.defers = [] := ⟨h1, h2⟩
  have BW : Below V.heap.size V V := Below.refl _ _
  clear h1 h2 h3 h4
  have BB := BW
  refine wp_seq ?_
  refine wp_seq ?_
  by_cases ha : k < 0
  · refine wp_region_sq (σ := Unit) 43 [(0, 9), (1, 10), (2, 11), (3, 12), (4, 13), (5, 14), (6, 15), (7, 16), (8, 17), (9, 18), (10, 19), (11, 20), (12, 21), (13, 22)] (fun j_ s X => match j_ with | 0 => Below V.heap.size V X | 1 => Below V.heap.size V X | 2 => Below V.heap.size V X | 3 => Below V.heap.size V X | 4 => Below V.heap.size V X | 5 => Below V.heap.size V X | 6 => Below V.heap.size V X | 7 => Below V.heap.size V X | 8 => Below V.heap.size V X | 9 => Below V.heap.size V X | 10 => Below V.heap.size V X | 11 => Below V.heap.size V X | 12 => Below V.heap.size V X | 13 => Below V.heap.size V X | _ => Below V.heap.size V X) (fun s => fun i_ => match i_ with | 0 => .int .i64 k | 1 => .bool true | 2 => .bool true | 3 => undef | 4 => undef | 5 => .bool true | 6 => .bool true | 7 => undef | 8 => undef | 9 => .bool true | 10 => .bool true | 11 => undef | 12 => undef | 13 => .bool true | _ => undef) () A.1 (by kernel_rfl) (by decide) (by decide) (BB) ?_ ?_
    · intro i_ hi_ s a X hf hv hn hS
      match i_, hi_ with
      | 0, _ => exact stepV rfl rfl (execMvB rfl ((hf 0 (by decide)).trans t0)) ⟨s, ⟨_, rfl, rfl⟩, hS, fun _ _ => rfl⟩
      | 1, _ => exact stepV rfl rfl (execLtCt (p := k) (q := 0) rfl (hv 0 (by omega) _ rfl _ rfl) (by omega)) ⟨s, ⟨_, rfl, rfl⟩, hS, fun _ _ => rfl⟩
      | 2, _ => exact stepV rfl rfl (execMvB rfl (hv 1 (by omega) _ rfl _ rfl)) ⟨s, ⟨_, rfl, rfl⟩, hS, fun _ _ => rfl⟩
      | 3, _ => exact stepU rfl (unwantedOf rfl (yieldedAt rfl rfl (show a.eval (.tmp 11) = .bool (!false) from (hv 2 (by omega) _ rfl _ rfl)))) ⟨s, ⟨_, rfl, rfl⟩, hS, fun _ _ => rfl⟩
      | 4, _ => exact stepU rfl (unwantedOf rfl (yieldedAt rfl rfl (show a.eval (.tmp 11) = .bool (!false) from (hv 2 (by omega) _ rfl _ rfl)))) ⟨s, ⟨_, rfl, rfl⟩, hS, fun _ _ => rfl⟩
      | 5, _ => exact stepV rfl rfl (execPickT rfl (hv 2 (by omega) _ rfl _ rfl) rfl) ⟨s, ⟨_, rfl, rfl⟩, hS, fun _ _ => rfl⟩
      | 6, _ => exact stepV rfl rfl (execMvB rfl (hv 5 (by omega) _ rfl _ rfl)) ⟨s, ⟨_, rfl, rfl⟩, hS, fun _ _ => rfl⟩
      | 7, _ => exact stepU rfl (unwantedOf rfl (yieldedAt rfl rfl (show a.eval (.tmp 15) = .bool (!false) from (hv 6 (by omega) _ rfl _ rfl)))) ⟨s, ⟨_, rfl, rfl⟩, hS, fun _ _ => rfl⟩
      | 8, _ => exact stepU rfl (unwantedOf rfl (yieldedAt rfl rfl (show a.eval (.tmp 15) = .bool (!false) from (hv 6 (by omega) _ rfl _ rfl)))) ⟨s, ⟨_, rfl, rfl⟩, hS, fun _ _ => rfl⟩
      | 9, _ => exact stepV rfl rfl (execPickT rfl (hv 6 (by omega) _ rfl _ rfl) rfl) ⟨s, ⟨_, rfl, rfl⟩, hS, fun _ _ => rfl⟩
      | 10, _ => exact stepV rfl rfl (execMvB rfl (hv 9 (by omega) _ rfl _ rfl)) ⟨s, ⟨_, rfl, rfl⟩, hS, fun _ _ => rfl⟩
      | 11, _ => exact stepU rfl (unwantedOf rfl (yieldedAt rfl rfl (show a.eval (.tmp 19) = .bool (!false) from (hv 10 (by omega) _ rfl _ rfl)))) ⟨s, ⟨_, rfl, rfl⟩, hS, fun _ _ => rfl⟩
      | 12, _ => exact stepU rfl (unwantedOf rfl (yieldedAt rfl rfl (show a.eval (.tmp 19) = .bool (!false) from (hv 10 (by omega) _ rfl _ rfl)))) ⟨s, ⟨_, rfl, rfl⟩, hS, fun _ _ => rfl⟩
      | 13, _ => exact stepV rfl rfl (execPickT rfl (hv 10 (by omega) _ rfl _ rfl) rfl) ⟨s, ⟨_, rfl, rfl⟩, hS, fun _ _ => rfl⟩
      | k_ + 14, h_ => exact absurd h_ (by simp)
    rintro _ a X1 h1 h2 h3 h4 hS
    clear BB
    replace hS : Below V.heap.size V X1 := hS
    have BB := hS
    clear hS
    replace t0 := (h3 0 (by decide)).trans t0
    replace t1 := (h3 1 (by decide)).trans t1
    have t22 : a.eval (.tmp 22) = .bool true := h4 13 _ rfl _ rfl
    replace A := (⟨h1, h2.trans A.2⟩ : a.tmps.size = 43 ∧ a.defers = [])
    clear h1 h2 h3 h4
    refine wp_cond_true t22 ?_
    refine wp_seq ?_
    refine wp_region_sq (σ := Unit) 43 [(0, 4), (1, 5)] (fun j_ s X => match j_ with | 0 => Below V.heap.size V X | 1 => Below V.heap.size V X | _ => Below V.heap.size V X) (fun s => fun i_ => match i_ with | 0 => .slice none 0 0 | 1 => .int .i64 ((2 : Nat) : Int) | _ => undef) () A.1 (by kernel_rfl) (by decide) (by decide) (BB) ?_ ?_
    · intro i_ hi_ s a X hf hv hn hS
      match i_, hi_ with
      | 0, _ => exact stepV rfl rfl (execAsgB rfl rfl) ⟨s, ⟨_, rfl, rfl⟩, hS, fun _ _ => rfl⟩
      | 1, _ => exact stepV rfl rfl (execAsgB rfl rfl) ⟨s, ⟨_, rfl, rfl⟩, hS, fun _ _ => rfl⟩
      | k_ + 2, h_ => exact absurd h_ (by simp)
    rintro _ a X2 h1 h2 h3 h4 hS
    clear BB
    replace hS : Below V.heap.size V X2 := hS
    have BB := hS
    clear hS
    have t4 : a.eval (.tmp 4) = .slice none 0 0 := h4 0 _ rfl _ rfl
    have t5 : a.eval (.tmp 5) = .int .i64 ((2 : Nat) : Int) := h4 1 _ rfl _ rfl
    replace A := (⟨h1, h2.trans A.2⟩ : a.tmps.size = 43 ∧ a.defers = [])
    clear h1 h2 h3 h4
    clear t0 t1
    have hE : szE k c = 2 := if_neg (fun q => by omega)
    rw [hE, zl_no (by decide)]
    refine wp_ret ?_
    repeat (first | refine ret_in ?_ | refine ret_then ?_)
    refine bodyPost_ret (results_tmp2 rfl _ _ _) A.2 ⟨_, ?_, World.ownsRow_nil _ _ _ _, BB⟩
    show Ending.returned (.tuple #[a.eval (.tmp 4), a.eval (.tmp 5)]) = _
    rw [t4, t5]
  · by_cases hb : 256 < k
    · refine wp_region_sq (σ := Unit) 43 [(0, 9), (1, 10), (2, 11), (3, 12), (4, 13), (5, 14), (6, 15), (7, 16), (8, 17), (9, 18), (10, 19), (11, 20), (12, 21), (13, 22)] (fun j_ s X => match j_ with | 0 => Below V.heap.size V X | 1 => Below V.heap.size V X | 2 => Below V.heap.size V X | 3 => Below V.heap.size V X | 4 => Below V.heap.size V X | 5 => Below V.heap.size V X | 6 => Below V.heap.size V X | 7 => Below V.heap.size V X | 8 => Below V.heap.size V X | 9 => Below V.heap.size V X | 10 => Below V.heap.size V X | 11 => Below V.heap.size V X | 12 => Below V.heap.size V X | 13 => Below V.heap.size V X | _ => Below V.heap.size V X) (fun s => fun i_ => match i_ with | 0 => .int .i64 k | 1 => .bool false | 2 => .bool false | 3 => .int .i64 k | 4 => .bool true | 5 => .bool true | 6 => .bool true | 7 => undef | 8 => undef | 9 => .bool true | 10 => .bool true | 11 => undef | 12 => undef | 13 => .bool true | _ => undef) () A.1 (by kernel_rfl) (by decide) (by decide) (BB) ?_ ?_
      · intro i_ hi_ s a X hf hv hn hS
        match i_, hi_ with
        | 0, _ => exact stepV rfl rfl (execMvB rfl ((hf 0 (by decide)).trans t0)) ⟨s, ⟨_, rfl, rfl⟩, hS, fun _ _ => rfl⟩
        | 1, _ => exact stepV rfl rfl (execLtCf (p := k) (q := 0) rfl (hv 0 (by omega) _ rfl _ rfl) (by omega)) ⟨s, ⟨_, rfl, rfl⟩, hS, fun _ _ => rfl⟩
        | 2, _ => exact stepV rfl rfl (execMvB rfl (hv 1 (by omega) _ rfl _ rfl)) ⟨s, ⟨_, rfl, rfl⟩, hS, fun _ _ => rfl⟩
        | 3, _ => exact stepV rfl (wantedOf rfl (yieldedAt rfl rfl (show a.eval (.tmp 11) = .bool false from (hv 2 (by omega) _ rfl _ rfl)))) (execMvB rfl ((hf 0 (by decide)).trans t0)) ⟨s, ⟨_, rfl, rfl⟩, hS, fun _ _ => rfl⟩
        | 4, _ => exact stepV rfl (wantedOf rfl (yieldedAt rfl rfl (show a.eval (.tmp 11) = .bool false from (hv 2 (by omega) _ rfl _ rfl)))) (execGtCt (p := k) (q := 256) rfl (hv 3 (by omega) _ rfl _ rfl) (by omega)) ⟨s, ⟨_, rfl, rfl⟩, hS, fun _ _ => rfl⟩
        | 5, _ => exact stepV rfl rfl (execPickF rfl (hv 2 (by omega) _ rfl _ rfl) (hv 4 (by omega) _ rfl _ rfl)) ⟨s, ⟨_, rfl, rfl⟩, hS, fun _ _ => rfl⟩
        | 6, _ => exact stepV rfl rfl (execMvB rfl (hv 5 (by omega) _ rfl _ rfl)) ⟨s, ⟨_, rfl, rfl⟩, hS, fun _ _ => rfl⟩
        | 7, _ => exact stepU rfl (unwantedOf rfl (yieldedAt rfl rfl (show a.eval (.tmp 15) = .bool (!false) from (hv 6 (by omega) _ rfl _ rfl)))) ⟨s, ⟨_, rfl, rfl⟩, hS, fun _ _ => rfl⟩
        | 8, _ => exact stepU rfl (unwantedOf rfl (yieldedAt rfl rfl (show a.eval (.tmp 15) = .bool (!false) from (hv 6 (by omega) _ rfl _ rfl)))) ⟨s, ⟨_, rfl, rfl⟩, hS, fun _ _ => rfl⟩
        | 9, _ => exact stepV rfl rfl (execPickT rfl (hv 6 (by omega) _ rfl _ rfl) rfl) ⟨s, ⟨_, rfl, rfl⟩, hS, fun _ _ => rfl⟩
        | 10, _ => exact stepV rfl rfl (execMvB rfl (hv 9 (by omega) _ rfl _ rfl)) ⟨s, ⟨_, rfl, rfl⟩, hS, fun _ _ => rfl⟩
        | 11, _ => exact stepU rfl (unwantedOf rfl (yieldedAt rfl rfl (show a.eval (.tmp 19) = .bool (!false) from (hv 10 (by omega) _ rfl _ rfl)))) ⟨s, ⟨_, rfl, rfl⟩, hS, fun _ _ => rfl⟩
        | 12, _ => exact stepU rfl (unwantedOf rfl (yieldedAt rfl rfl (show a.eval (.tmp 19) = .bool (!false) from (hv 10 (by omega) _ rfl _ rfl)))) ⟨s, ⟨_, rfl, rfl⟩, hS, fun _ _ => rfl⟩
        | 13, _ => exact stepV rfl rfl (execPickT rfl (hv 10 (by omega) _ rfl _ rfl) rfl) ⟨s, ⟨_, rfl, rfl⟩, hS, fun _ _ => rfl⟩
        | k_ + 14, h_ => exact absurd h_ (by simp)
      rintro _ a X1 h1 h2 h3 h4 hS
      clear BB
      replace hS : Below V.heap.size V X1 := hS
      have BB := hS
      clear hS
      replace t0 := (h3 0 (by decide)).trans t0
      replace t1 := (h3 1 (by decide)).trans t1
      have t22 : a.eval (.tmp 22) = .bool true := h4 13 _ rfl _ rfl
      replace A := (⟨h1, h2.trans A.2⟩ : a.tmps.size = 43 ∧ a.defers = [])
      clear h1 h2 h3 h4
      refine wp_cond_true t22 ?_
      refine wp_seq ?_
      refine wp_region_sq (σ := Unit) 43 [(0, 4), (1, 5)] (fun j_ s X => match j_ with | 0 => Below V.heap.size V X | 1 => Below V.heap.size V X | _ => Below V.heap.size V X) (fun s => fun i_ => match i_ with | 0 => .slice none 0 0 | 1 => .int .i64 ((2 : Nat) : Int) | _ => undef) () A.1 (by kernel_rfl) (by decide) (by decide) (BB) ?_ ?_
      · intro i_ hi_ s a X hf hv hn hS
        match i_, hi_ with
        | 0, _ => exact stepV rfl rfl (execAsgB rfl rfl) ⟨s, ⟨_, rfl, rfl⟩, hS, fun _ _ => rfl⟩
        | 1, _ => exact stepV rfl rfl (execAsgB rfl rfl) ⟨s, ⟨_, rfl, rfl⟩, hS, fun _ _ => rfl⟩
        | k_ + 2, h_ => exact absurd h_ (by simp)
      rintro _ a X2 h1 h2 h3 h4 hS
      clear BB
      replace hS : Below V.heap.size V X2 := hS
      have BB := hS
      clear hS
      have t4 : a.eval (.tmp 4) = .slice none 0 0 := h4 0 _ rfl _ rfl
      have t5 : a.eval (.tmp 5) = .int .i64 ((2 : Nat) : Int) := h4 1 _ rfl _ rfl
      replace A := (⟨h1, h2.trans A.2⟩ : a.tmps.size = 43 ∧ a.defers = [])
      clear h1 h2 h3 h4
      clear t0 t1
      have hE : szE k c = 2 := if_neg (fun q => by omega)
      rw [hE, zl_no (by decide)]
      refine wp_ret ?_
      repeat (first | refine ret_in ?_ | refine ret_then ?_)
      refine bodyPost_ret (results_tmp2 rfl _ _ _) A.2 ⟨_, ?_, World.ownsRow_nil _ _ _ _, BB⟩
      show Ending.returned (.tuple #[a.eval (.tmp 4), a.eval (.tmp 5)]) = _
      rw [t4, t5]
    · by_cases hc : c < 1
      · refine wp_region_sq (σ := Unit) 43 [(0, 9), (1, 10), (2, 11), (3, 12), (4, 13), (5, 14), (6, 15), (7, 16), (8, 17), (9, 18), (10, 19), (11, 20), (12, 21), (13, 22)] (fun j_ s X => match j_ with | 0 => Below V.heap.size V X | 1 => Below V.heap.size V X | 2 => Below V.heap.size V X | 3 => Below V.heap.size V X | 4 => Below V.heap.size V X | 5 => Below V.heap.size V X | 6 => Below V.heap.size V X | 7 => Below V.heap.size V X | 8 => Below V.heap.size V X | 9 => Below V.heap.size V X | 10 => Below V.heap.size V X | 11 => Below V.heap.size V X | 12 => Below V.heap.size V X | 13 => Below V.heap.size V X | _ => Below V.heap.size V X) (fun s => fun i_ => match i_ with | 0 => .int .i64 k | 1 => .bool false | 2 => .bool false | 3 => .int .i64 k | 4 => .bool false | 5 => .bool false | 6 => .bool false | 7 => .int .i64 c | 8 => .bool true | 9 => .bool true | 10 => .bool true | 11 => undef | 12 => undef | 13 => .bool true | _ => undef) () A.1 (by kernel_rfl) (by decide) (by decide) (BB) ?_ ?_
        · intro i_ hi_ s a X hf hv hn hS
          match i_, hi_ with
          | 0, _ => exact stepV rfl rfl (execMvB rfl ((hf 0 (by decide)).trans t0)) ⟨s, ⟨_, rfl, rfl⟩, hS, fun _ _ => rfl⟩
          | 1, _ => exact stepV rfl rfl (execLtCf (p := k) (q := 0) rfl (hv 0 (by omega) _ rfl _ rfl) (by omega)) ⟨s, ⟨_, rfl, rfl⟩, hS, fun _ _ => rfl⟩
          | 2, _ => exact stepV rfl rfl (execMvB rfl (hv 1 (by omega) _ rfl _ rfl)) ⟨s, ⟨_, rfl, rfl⟩, hS, fun _ _ => rfl⟩
          | 3, _ => exact stepV rfl (wantedOf rfl (yieldedAt rfl rfl (show a.eval (.tmp 11) = .bool false from (hv 2 (by omega) _ rfl _ rfl)))) (execMvB rfl ((hf 0 (by decide)).trans t0)) ⟨s, ⟨_, rfl, rfl⟩, hS, fun _ _ => rfl⟩
          | 4, _ => exact stepV rfl (wantedOf rfl (yieldedAt rfl rfl (show a.eval (.tmp 11) = .bool false from (hv 2 (by omega) _ rfl _ rfl)))) (execGtCf (p := k) (q := 256) rfl (hv 3 (by omega) _ rfl _ rfl) (by omega)) ⟨s, ⟨_, rfl, rfl⟩, hS, fun _ _ => rfl⟩
          | 5, _ => exact stepV rfl rfl (execPickF rfl (hv 2 (by omega) _ rfl _ rfl) (hv 4 (by omega) _ rfl _ rfl)) ⟨s, ⟨_, rfl, rfl⟩, hS, fun _ _ => rfl⟩
          | 6, _ => exact stepV rfl rfl (execMvB rfl (hv 5 (by omega) _ rfl _ rfl)) ⟨s, ⟨_, rfl, rfl⟩, hS, fun _ _ => rfl⟩
          | 7, _ => exact stepV rfl (wantedOf rfl (yieldedAt rfl rfl (show a.eval (.tmp 15) = .bool false from (hv 6 (by omega) _ rfl _ rfl)))) (execMvB rfl ((hf 1 (by decide)).trans t1)) ⟨s, ⟨_, rfl, rfl⟩, hS, fun _ _ => rfl⟩
          | 8, _ => exact stepV rfl (wantedOf rfl (yieldedAt rfl rfl (show a.eval (.tmp 15) = .bool false from (hv 6 (by omega) _ rfl _ rfl)))) (execLtCt (p := c) (q := 1) rfl (hv 7 (by omega) _ rfl _ rfl) (by omega)) ⟨s, ⟨_, rfl, rfl⟩, hS, fun _ _ => rfl⟩
          | 9, _ => exact stepV rfl rfl (execPickF rfl (hv 6 (by omega) _ rfl _ rfl) (hv 8 (by omega) _ rfl _ rfl)) ⟨s, ⟨_, rfl, rfl⟩, hS, fun _ _ => rfl⟩
          | 10, _ => exact stepV rfl rfl (execMvB rfl (hv 9 (by omega) _ rfl _ rfl)) ⟨s, ⟨_, rfl, rfl⟩, hS, fun _ _ => rfl⟩
          | 11, _ => exact stepU rfl (unwantedOf rfl (yieldedAt rfl rfl (show a.eval (.tmp 19) = .bool (!false) from (hv 10 (by omega) _ rfl _ rfl)))) ⟨s, ⟨_, rfl, rfl⟩, hS, fun _ _ => rfl⟩
          | 12, _ => exact stepU rfl (unwantedOf rfl (yieldedAt rfl rfl (show a.eval (.tmp 19) = .bool (!false) from (hv 10 (by omega) _ rfl _ rfl)))) ⟨s, ⟨_, rfl, rfl⟩, hS, fun _ _ => rfl⟩
          | 13, _ => exact stepV rfl rfl (execPickT rfl (hv 10 (by omega) _ rfl _ rfl) rfl) ⟨s, ⟨_, rfl, rfl⟩, hS, fun _ _ => rfl⟩
          | k_ + 14, h_ => exact absurd h_ (by simp)
        rintro _ a X1 h1 h2 h3 h4 hS
        clear BB
        replace hS : Below V.heap.size V X1 := hS
        have BB := hS
        clear hS
        replace t0 := (h3 0 (by decide)).trans t0
        replace t1 := (h3 1 (by decide)).trans t1
        have t22 : a.eval (.tmp 22) = .bool true := h4 13 _ rfl _ rfl
        replace A := (⟨h1, h2.trans A.2⟩ : a.tmps.size = 43 ∧ a.defers = [])
        clear h1 h2 h3 h4
        refine wp_cond_true t22 ?_
        refine wp_seq ?_
        refine wp_region_sq (σ := Unit) 43 [(0, 4), (1, 5)] (fun j_ s X => match j_ with | 0 => Below V.heap.size V X | 1 => Below V.heap.size V X | _ => Below V.heap.size V X) (fun s => fun i_ => match i_ with | 0 => .slice none 0 0 | 1 => .int .i64 ((2 : Nat) : Int) | _ => undef) () A.1 (by kernel_rfl) (by decide) (by decide) (BB) ?_ ?_
        · intro i_ hi_ s a X hf hv hn hS
          match i_, hi_ with
          | 0, _ => exact stepV rfl rfl (execAsgB rfl rfl) ⟨s, ⟨_, rfl, rfl⟩, hS, fun _ _ => rfl⟩
          | 1, _ => exact stepV rfl rfl (execAsgB rfl rfl) ⟨s, ⟨_, rfl, rfl⟩, hS, fun _ _ => rfl⟩
          | k_ + 2, h_ => exact absurd h_ (by simp)
        rintro _ a X2 h1 h2 h3 h4 hS
        clear BB
        replace hS : Below V.heap.size V X2 := hS
        have BB := hS
        clear hS
        have t4 : a.eval (.tmp 4) = .slice none 0 0 := h4 0 _ rfl _ rfl
        have t5 : a.eval (.tmp 5) = .int .i64 ((2 : Nat) : Int) := h4 1 _ rfl _ rfl
        replace A := (⟨h1, h2.trans A.2⟩ : a.tmps.size = 43 ∧ a.defers = [])
        clear h1 h2 h3 h4
        clear t0 t1
        have hE : szE k c = 2 := if_neg (fun q => by omega)
        rw [hE, zl_no (by decide)]
        refine wp_ret ?_
        repeat (first | refine ret_in ?_ | refine ret_then ?_)
        refine bodyPost_ret (results_tmp2 rfl _ _ _) A.2 ⟨_, ?_, World.ownsRow_nil _ _ _ _, BB⟩
        show Ending.returned (.tuple #[a.eval (.tmp 4), a.eval (.tmp 5)]) = _
        rw [t4, t5]
      · by_cases hd : 64 < c
        · refine wp_region_sq (σ := Unit) 43 [(0, 9), (1, 10), (2, 11), (3, 12), (4, 13), (5, 14), (6, 15), (7, 16), (8, 17), (9, 18), (10, 19), (11, 20), (12, 21), (13, 22)] (fun j_ s X => match j_ with | 0 => Below V.heap.size V X | 1 => Below V.heap.size V X | 2 => Below V.heap.size V X | 3 => Below V.heap.size V X | 4 => Below V.heap.size V X | 5 => Below V.heap.size V X | 6 => Below V.heap.size V X | 7 => Below V.heap.size V X | 8 => Below V.heap.size V X | 9 => Below V.heap.size V X | 10 => Below V.heap.size V X | 11 => Below V.heap.size V X | 12 => Below V.heap.size V X | 13 => Below V.heap.size V X | _ => Below V.heap.size V X) (fun s => fun i_ => match i_ with | 0 => .int .i64 k | 1 => .bool false | 2 => .bool false | 3 => .int .i64 k | 4 => .bool false | 5 => .bool false | 6 => .bool false | 7 => .int .i64 c | 8 => .bool false | 9 => .bool false | 10 => .bool false | 11 => .int .i64 c | 12 => .bool true | 13 => .bool true | _ => undef) () A.1 (by kernel_rfl) (by decide) (by decide) (BB) ?_ ?_
          · intro i_ hi_ s a X hf hv hn hS
            match i_, hi_ with
            | 0, _ => exact stepV rfl rfl (execMvB rfl ((hf 0 (by decide)).trans t0)) ⟨s, ⟨_, rfl, rfl⟩, hS, fun _ _ => rfl⟩
            | 1, _ => exact stepV rfl rfl (execLtCf (p := k) (q := 0) rfl (hv 0 (by omega) _ rfl _ rfl) (by omega)) ⟨s, ⟨_, rfl, rfl⟩, hS, fun _ _ => rfl⟩
            | 2, _ => exact stepV rfl rfl (execMvB rfl (hv 1 (by omega) _ rfl _ rfl)) ⟨s, ⟨_, rfl, rfl⟩, hS, fun _ _ => rfl⟩
            | 3, _ => exact stepV rfl (wantedOf rfl (yieldedAt rfl rfl (show a.eval (.tmp 11) = .bool false from (hv 2 (by omega) _ rfl _ rfl)))) (execMvB rfl ((hf 0 (by decide)).trans t0)) ⟨s, ⟨_, rfl, rfl⟩, hS, fun _ _ => rfl⟩
            | 4, _ => exact stepV rfl (wantedOf rfl (yieldedAt rfl rfl (show a.eval (.tmp 11) = .bool false from (hv 2 (by omega) _ rfl _ rfl)))) (execGtCf (p := k) (q := 256) rfl (hv 3 (by omega) _ rfl _ rfl) (by omega)) ⟨s, ⟨_, rfl, rfl⟩, hS, fun _ _ => rfl⟩
            | 5, _ => exact stepV rfl rfl (execPickF rfl (hv 2 (by omega) _ rfl _ rfl) (hv 4 (by omega) _ rfl _ rfl)) ⟨s, ⟨_, rfl, rfl⟩, hS, fun _ _ => rfl⟩
            | 6, _ => exact stepV rfl rfl (execMvB rfl (hv 5 (by omega) _ rfl _ rfl)) ⟨s, ⟨_, rfl, rfl⟩, hS, fun _ _ => rfl⟩
            | 7, _ => exact stepV rfl (wantedOf rfl (yieldedAt rfl rfl (show a.eval (.tmp 15) = .bool false from (hv 6 (by omega) _ rfl _ rfl)))) (execMvB rfl ((hf 1 (by decide)).trans t1)) ⟨s, ⟨_, rfl, rfl⟩, hS, fun _ _ => rfl⟩
            | 8, _ => exact stepV rfl (wantedOf rfl (yieldedAt rfl rfl (show a.eval (.tmp 15) = .bool false from (hv 6 (by omega) _ rfl _ rfl)))) (execLtCf (p := c) (q := 1) rfl (hv 7 (by omega) _ rfl _ rfl) (by omega)) ⟨s, ⟨_, rfl, rfl⟩, hS, fun _ _ => rfl⟩
            | 9, _ => exact stepV rfl rfl (execPickF rfl (hv 6 (by omega) _ rfl _ rfl) (hv 8 (by omega) _ rfl _ rfl)) ⟨s, ⟨_, rfl, rfl⟩, hS, fun _ _ => rfl⟩
            | 10, _ => exact stepV rfl rfl (execMvB rfl (hv 9 (by omega) _ rfl _ rfl)) ⟨s, ⟨_, rfl, rfl⟩, hS, fun _ _ => rfl⟩
            | 11, _ => exact stepV rfl (wantedOf rfl (yieldedAt rfl rfl (show a.eval (.tmp 19) = .bool false from (hv 10 (by omega) _ rfl _ rfl)))) (execMvB rfl ((hf 1 (by decide)).trans t1)) ⟨s, ⟨_, rfl, rfl⟩, hS, fun _ _ => rfl⟩
            | 12, _ => exact stepV rfl (wantedOf rfl (yieldedAt rfl rfl (show a.eval (.tmp 19) = .bool false from (hv 10 (by omega) _ rfl _ rfl)))) (execGtCt (p := c) (q := 64) rfl (hv 11 (by omega) _ rfl _ rfl) (by omega)) ⟨s, ⟨_, rfl, rfl⟩, hS, fun _ _ => rfl⟩
            | 13, _ => exact stepV rfl rfl (execPickF rfl (hv 10 (by omega) _ rfl _ rfl) (hv 12 (by omega) _ rfl _ rfl)) ⟨s, ⟨_, rfl, rfl⟩, hS, fun _ _ => rfl⟩
            | k_ + 14, h_ => exact absurd h_ (by simp)
          rintro _ a X1 h1 h2 h3 h4 hS
          clear BB
          replace hS : Below V.heap.size V X1 := hS
          have BB := hS
          clear hS
          replace t0 := (h3 0 (by decide)).trans t0
          replace t1 := (h3 1 (by decide)).trans t1
          have t22 : a.eval (.tmp 22) = .bool true := h4 13 _ rfl _ rfl
          replace A := (⟨h1, h2.trans A.2⟩ : a.tmps.size = 43 ∧ a.defers = [])
          clear h1 h2 h3 h4
          refine wp_cond_true t22 ?_
          refine wp_seq ?_
          refine wp_region_sq (σ := Unit) 43 [(0, 4), (1, 5)] (fun j_ s X => match j_ with | 0 => Below V.heap.size V X | 1 => Below V.heap.size V X | _ => Below V.heap.size V X) (fun s => fun i_ => match i_ with | 0 => .slice none 0 0 | 1 => .int .i64 ((2 : Nat) : Int) | _ => undef) () A.1 (by kernel_rfl) (by decide) (by decide) (BB) ?_ ?_
          · intro i_ hi_ s a X hf hv hn hS
            match i_, hi_ with
            | 0, _ => exact stepV rfl rfl (execAsgB rfl rfl) ⟨s, ⟨_, rfl, rfl⟩, hS, fun _ _ => rfl⟩
            | 1, _ => exact stepV rfl rfl (execAsgB rfl rfl) ⟨s, ⟨_, rfl, rfl⟩, hS, fun _ _ => rfl⟩
            | k_ + 2, h_ => exact absurd h_ (by simp)
          rintro _ a X2 h1 h2 h3 h4 hS
          clear BB
          replace hS : Below V.heap.size V X2 := hS
          have BB := hS
          clear hS
          have t4 : a.eval (.tmp 4) = .slice none 0 0 := h4 0 _ rfl _ rfl
          have t5 : a.eval (.tmp 5) = .int .i64 ((2 : Nat) : Int) := h4 1 _ rfl _ rfl
          replace A := (⟨h1, h2.trans A.2⟩ : a.tmps.size = 43 ∧ a.defers = [])
          clear h1 h2 h3 h4
          clear t0 t1
          have hE : szE k c = 2 := if_neg (fun q => by omega)
          rw [hE, zl_no (by decide)]
          refine wp_ret ?_
          repeat (first | refine ret_in ?_ | refine ret_then ?_)
          refine bodyPost_ret (results_tmp2 rfl _ _ _) A.2 ⟨_, ?_, World.ownsRow_nil _ _ _ _, BB⟩
          show Ending.returned (.tuple #[a.eval (.tmp 4), a.eval (.tmp 5)]) = _
          rw [t4, t5]
        · refine wp_region_sq (σ := Unit) 43 [(0, 9), (1, 10), (2, 11), (3, 12), (4, 13), (5, 14), (6, 15), (7, 16), (8, 17), (9, 18), (10, 19), (11, 20), (12, 21), (13, 22)] (fun j_ s X => match j_ with | 0 => Below V.heap.size V X | 1 => Below V.heap.size V X | 2 => Below V.heap.size V X | 3 => Below V.heap.size V X | 4 => Below V.heap.size V X | 5 => Below V.heap.size V X | 6 => Below V.heap.size V X | 7 => Below V.heap.size V X | 8 => Below V.heap.size V X | 9 => Below V.heap.size V X | 10 => Below V.heap.size V X | 11 => Below V.heap.size V X | 12 => Below V.heap.size V X | 13 => Below V.heap.size V X | _ => Below V.heap.size V X) (fun s => fun i_ => match i_ with | 0 => .int .i64 k | 1 => .bool false | 2 => .bool false | 3 => .int .i64 k | 4 => .bool false | 5 => .bool false | 6 => .bool false | 7 => .int .i64 c | 8 => .bool false | 9 => .bool false | 10 => .bool false | 11 => .int .i64 c | 12 => .bool false | 13 => .bool false | _ => undef) () A.1 (by kernel_rfl) (by decide) (by decide) (BB) ?_ ?_
          · intro i_ hi_ s a X hf hv hn hS
            match i_, hi_ with
            | 0, _ => exact stepV rfl rfl (execMvB rfl ((hf 0 (by decide)).trans t0)) ⟨s, ⟨_, rfl, rfl⟩, hS, fun _ _ => rfl⟩
            | 1, _ => exact stepV rfl rfl (execLtCf (p := k) (q := 0) rfl (hv 0 (by omega) _ rfl _ rfl) (by omega)) ⟨s, ⟨_, rfl, rfl⟩, hS, fun _ _ => rfl⟩
            | 2, _ => exact stepV rfl rfl (execMvB rfl (hv 1 (by omega) _ rfl _ rfl)) ⟨s, ⟨_, rfl, rfl⟩, hS, fun _ _ => rfl⟩
            | 3, _ => exact stepV rfl (wantedOf rfl (yieldedAt rfl rfl (show a.eval (.tmp 11) = .bool false from (hv 2 (by omega) _ rfl _ rfl)))) (execMvB rfl ((hf 0 (by decide)).trans t0)) ⟨s, ⟨_, rfl, rfl⟩, hS, fun _ _ => rfl⟩
            | 4, _ => exact stepV rfl (wantedOf rfl (yieldedAt rfl rfl (show a.eval (.tmp 11) = .bool false from (hv 2 (by omega) _ rfl _ rfl)))) (execGtCf (p := k) (q := 256) rfl (hv 3 (by omega) _ rfl _ rfl) (by omega)) ⟨s, ⟨_, rfl, rfl⟩, hS, fun _ _ => rfl⟩
            | 5, _ => exact stepV rfl rfl (execPickF rfl (hv 2 (by omega) _ rfl _ rfl) (hv 4 (by omega) _ rfl _ rfl)) ⟨s, ⟨_, rfl, rfl⟩, hS, fun _ _ => rfl⟩
            | 6, _ => exact stepV rfl rfl (execMvB rfl (hv 5 (by omega) _ rfl _ rfl)) ⟨s, ⟨_, rfl, rfl⟩, hS, fun _ _ => rfl⟩
            | 7, _ => exact stepV rfl (wantedOf rfl (yieldedAt rfl rfl (show a.eval (.tmp 15) = .bool false from (hv 6 (by omega) _ rfl _ rfl)))) (execMvB rfl ((hf 1 (by decide)).trans t1)) ⟨s, ⟨_, rfl, rfl⟩, hS, fun _ _ => rfl⟩
            | 8, _ => exact stepV rfl (wantedOf rfl (yieldedAt rfl rfl (show a.eval (.tmp 15) = .bool false from (hv 6 (by omega) _ rfl _ rfl)))) (execLtCf (p := c) (q := 1) rfl (hv 7 (by omega) _ rfl _ rfl) (by omega)) ⟨s, ⟨_, rfl, rfl⟩, hS, fun _ _ => rfl⟩
            | 9, _ => exact stepV rfl rfl (execPickF rfl (hv 6 (by omega) _ rfl _ rfl) (hv 8 (by omega) _ rfl _ rfl)) ⟨s, ⟨_, rfl, rfl⟩, hS, fun _ _ => rfl⟩
            | 10, _ => exact stepV rfl rfl (execMvB rfl (hv 9 (by omega) _ rfl _ rfl)) ⟨s, ⟨_, rfl, rfl⟩, hS, fun _ _ => rfl⟩
            | 11, _ => exact stepV rfl (wantedOf rfl (yieldedAt rfl rfl (show a.eval (.tmp 19) = .bool false from (hv 10 (by omega) _ rfl _ rfl)))) (execMvB rfl ((hf 1 (by decide)).trans t1)) ⟨s, ⟨_, rfl, rfl⟩, hS, fun _ _ => rfl⟩
            | 12, _ => exact stepV rfl (wantedOf rfl (yieldedAt rfl rfl (show a.eval (.tmp 19) = .bool false from (hv 10 (by omega) _ rfl _ rfl)))) (execGtCf (p := c) (q := 64) rfl (hv 11 (by omega) _ rfl _ rfl) (by omega)) ⟨s, ⟨_, rfl, rfl⟩, hS, fun _ _ => rfl⟩
            | 13, _ => exact stepV rfl rfl (execPickF rfl (hv 10 (by omega) _ rfl _ rfl) (hv 12 (by omega) _ rfl _ rfl)) ⟨s, ⟨_, rfl, rfl⟩, hS, fun _ _ => rfl⟩
            | k_ + 14, h_ => exact absurd h_ (by simp)
          rintro _ a X1 h1 h2 h3 h4 hS
          clear BB
          replace hS : Below V.heap.size V X1 := hS
          have BB := hS
          clear hS
          replace t0 := (h3 0 (by decide)).trans t0
          replace t1 := (h3 1 (by decide)).trans t1
          have t22 : a.eval (.tmp 22) = .bool false := h4 13 _ rfl _ rfl
          replace A := (⟨h1, h2.trans A.2⟩ : a.tmps.size = 43 ∧ a.defers = [])
          clear h1 h2 h3 h4
          refine wp_cond_false t22 ?_
          refine wp_skip ?_
          clear t22
          obtain ⟨N, rfl⟩ : ∃ N : Nat, k = N := ⟨k.toNat, by omega⟩
          obtain ⟨D, rfl⟩ : ∃ D : Nat, c = D := ⟨c.toNat, by omega⟩
          refine wp_seq ?_
          refine wp_region_sq (σ := Unit) 43 [(0, 6)] (fun j_ s X => match j_ with | 0 => Below V.heap.size V X | _ => Below V.heap.size V X) (fun s => fun i_ => match i_ with | 0 => .slice none 0 0 | _ => undef) () A.1 (by kernel_rfl) (by decide) (by decide) (BB) ?_ ?_
          · intro i_ hi_ s a X hf hv hn hS
            match i_, hi_ with
            | 0, _ => exact stepV rfl rfl (execAsgB rfl rfl) ⟨s, ⟨_, rfl, rfl⟩, hS, fun _ _ => rfl⟩
            | k_ + 1, h_ => exact absurd h_ (by simp)
          rintro _ a X3 h1 h2 h3 h4 hS
          clear BB
          replace hS : Below V.heap.size V X3 := hS
          have BB := hS
          clear hS
          replace t0 := (h3 0 (by decide)).trans t0
          replace t1 := (h3 1 (by decide)).trans t1
          have t6 : a.eval (.tmp 6) = .slice none 0 0 := h4 0 _ rfl _ rfl
          replace A := (⟨h1, h2.trans A.2⟩ : a.tmps.size = 43 ∧ a.defers = [])
          clear h1 h2 h3 h4
          have FO : X3.ownsRow V.heap.size 3 1 (.slice none 0 0) 0 (intsL 0 (fun j => (szF N D j : Int))) := World.ownsRow_nil _ _ _ _
          refine wp_seq ?_
          refine wp_seq ?_
          refine wp_region_sq (σ := Unit) 43 [(0, 7)] (fun j_ s X => match j_ with | 0 => Below V.heap.size V X ∧ (X.ownsRow V.heap.size 3 1 (.slice none 0 0) (0) (intsL (0) (fun j => (szF N D j : Int)))) | _ => Below V.heap.size V X ∧ (X.ownsRow V.heap.size 3 1 (.slice none 0 0) (0) (intsL (0) (fun j => (szF N D j : Int))))) (fun s => fun i_ => match i_ with | 0 => .int .i64 ((0 : Nat) : Int) | _ => undef) () A.1 (by kernel_rfl) (by decide) (by decide) ⟨BB, FO⟩ ?_ ?_
          · intro i_ hi_ s a X hf hv hn hS
            match i_, hi_ with
            | 0, _ => exact stepV rfl rfl (execAsgB rfl rfl) ⟨s, ⟨_, rfl, rfl⟩, hS, fun _ _ => rfl⟩
            | k_ + 1, h_ => exact absurd h_ (by simp)
          rintro _ a X4 h1 h2 h3 h4 hS
          clear BB
          clear FO
          replace hS : Below V.heap.size V X4 ∧ (X4.ownsRow V.heap.size 3 1 (.slice none 0 0) (0) (intsL (0) (fun j => (szF N D j : Int)))) := hS
          obtain ⟨BB, FO⟩ := hS
          replace t0 := (h3 0 (by decide)).trans t0
          replace t1 := (h3 1 (by decide)).trans t1
          replace t6 := (h3 6 (by decide)).trans t6
          have t7 : a.eval (.tmp 7) = .int .i64 ((0 : Nat) : Int) := h4 0 _ rfl _ rfl
          replace A := (⟨h1, h2.trans A.2⟩ : a.tmps.size = 43 ∧ a.defers = [])
          clear h1 h2 h3 h4
          refine wp_block ?_
          refine wp_loop (fun a W => ∃ (i : Nat) (u : Value), i ≤ D ∧ (a.tmps.size = 43 ∧ a.defers = []) ∧ a.eval (.tmp 0) = .int .i64 ((N : Nat) : Int) ∧ a.eval (.tmp 1) = .int .i64 ((D : Nat) : Int) ∧ a.eval (.tmp 6) = u ∧ a.eval (.tmp 7) = .int .i64 ((i : Nat) : Int) ∧ Below V.heap.size V W ∧ (W.ownsRow V.heap.size 3 1 u (i) (intsL (i) (fun j => (szF N D j : Int))))) (fun a _ => D - (intOf (a.eval (.tmp 7))).toNat) ⟨0, _, Nat.zero_le _, A, t0, t1, t6, t7, BB, FO⟩ ?_
          clear A t0 t1 t6 t7 BB FO a
          rintro a XL5 ⟨i, u, hi, A, t0, t1, t6, t7, BB, FO⟩
          have esi := t7
          refine wp_seq ?_
          refine wp_seq ?_
          refine wp_region_sq (σ := Unit) 43 [(0, 23), (1, 24), (2, 25)] (fun j_ s X => match j_ with | 0 => Below V.heap.size V X ∧ (X.ownsRow V.heap.size 3 1 u (i) (intsL (i) (fun j => (szF N D j : Int)))) | 1 => Below V.heap.size V X ∧ (X.ownsRow V.heap.size 3 1 u (i) (intsL (i) (fun j => (szF N D j : Int)))) | 2 => Below V.heap.size V X ∧ (X.ownsRow V.heap.size 3 1 u (i) (intsL (i) (fun j => (szF N D j : Int)))) | _ => Below V.heap.size V X ∧ (X.ownsRow V.heap.size 3 1 u (i) (intsL (i) (fun j => (szF N D j : Int))))) (fun s => fun i_ => match i_ with | 0 => .int .i64 ((i : Nat) : Int) | 1 => .int .i64 ((D : Nat) : Int) | 2 => .bool (decide (i < D)) | _ => undef) () A.1 (by kernel_rfl) (by decide) (by decide) ⟨BB, FO⟩ ?_ ?_
          · intro i_ hi_ s a X hf hv hn hS
            match i_, hi_ with
            | 0, _ => exact stepV rfl rfl (execMvB rfl ((hf 7 (by decide)).trans t7)) ⟨s, ⟨_, rfl, rfl⟩, hS, fun _ _ => rfl⟩
            | 1, _ => exact stepV rfl rfl (execMvB rfl ((hf 1 (by decide)).trans t1)) ⟨s, ⟨_, rfl, rfl⟩, hS, fun _ _ => rfl⟩
            | 2, _ => exact stepV rfl rfl (execLtW (p := i) (q := D) rfl (hv 0 (by omega) _ rfl _ rfl) (hv 1 (by omega) _ rfl _ rfl)) ⟨s, ⟨_, rfl, rfl⟩, hS, fun _ _ => rfl⟩
            | k_ + 3, h_ => exact absurd h_ (by simp)
          rintro _ a X5 h1 h2 h3 h4 hS
          clear BB
          clear FO
          replace hS : Below V.heap.size V X5 ∧ (X5.ownsRow V.heap.size 3 1 u (i) (intsL (i) (fun j => (szF N D j : Int)))) := hS
          obtain ⟨BB, FO⟩ := hS
          replace t0 := (h3 0 (by decide)).trans t0
          replace t1 := (h3 1 (by decide)).trans t1
          replace t6 := (h3 6 (by decide)).trans t6
          replace t7 := (h3 7 (by decide)).trans t7
          have t25 : a.eval (.tmp 25) = .bool (decide (i < D)) := h4 2 _ rfl _ rfl
          replace A := (⟨h1, h2.trans A.2⟩ : a.tmps.size = 43 ∧ a.defers = [])
          clear h1 h2 h3 h4
          by_cases lti : i < D
          · rw [decide_eq_true lti] at t25
            refine wp_cond_true t25 ?_
            refine wp_skip ?_
            clear t25
            refine wp_seq ?_
            refine wp_block ?_
            have hq1 : N / D ≤ N := Nat.div_le_self _ _
            refine wp_seq ?_
            refine wp_region_sq (σ := Unit) 43 [(0, 28), (1, 29), (2, 30), (3, 8)] (fun j_ s X => match j_ with | 0 => Below V.heap.size V X ∧ (X.ownsRow V.heap.size 3 1 u (i) (intsL (i) (fun j => (szF N D j : Int)))) | 1 => Below V.heap.size V X ∧ (X.ownsRow V.heap.size 3 1 u (i) (intsL (i) (fun j => (szF N D j : Int)))) | 2 => Below V.heap.size V X ∧ (X.ownsRow V.heap.size 3 1 u (i) (intsL (i) (fun j => (szF N D j : Int)))) | 3 => Below V.heap.size V X ∧ (X.ownsRow V.heap.size 3 1 u (i) (intsL (i) (fun j => (szF N D j : Int)))) | _ => Below V.heap.size V X ∧ (X.ownsRow V.heap.size 3 1 u (i) (intsL (i) (fun j => (szF N D j : Int))))) (fun s => fun i_ => match i_ with | 0 => .int .i64 ((N : Nat) : Int) | 1 => .int .i64 ((D : Nat) : Int) | 2 => .int .i64 ((N / D : Nat) : Int) | 3 => .int .i64 ((N / D : Nat) : Int) | _ => undef) () A.1 (by kernel_rfl) (by decide) (by decide) ⟨BB, FO⟩ ?_ ?_
            · intro i_ hi_ s a X hf hv hn hS
              match i_, hi_ with
              | 0, _ => exact stepV rfl rfl (execMvB rfl ((hf 0 (by decide)).trans t0)) ⟨s, ⟨_, rfl, rfl⟩, hS, fun _ _ => rfl⟩
              | 1, _ => exact stepV rfl rfl (execMvB rfl ((hf 1 (by decide)).trans t1)) ⟨s, ⟨_, rfl, rfl⟩, hS, fun _ _ => rfl⟩
              | 2, _ => exact stepV rfl rfl (execQuoD (p := N) (q := D) rfl (hv 0 (by omega) _ rfl _ rfl) (hv 1 (by omega) _ rfl _ rfl) (by omega) (by omega)) ⟨s, ⟨_, rfl, rfl⟩, hS, fun _ _ => rfl⟩
              | 3, _ => exact stepV rfl rfl (execAsgB rfl (hv 2 (by omega) _ rfl _ rfl)) ⟨s, ⟨_, rfl, rfl⟩, hS, fun _ _ => rfl⟩
              | k_ + 4, h_ => exact absurd h_ (by simp)
            rintro _ a X7 h1 h2 h3 h4 hS
            clear BB
            clear FO
            replace hS : Below V.heap.size V X7 ∧ (X7.ownsRow V.heap.size 3 1 u (i) (intsL (i) (fun j => (szF N D j : Int)))) := hS
            obtain ⟨BB, FO⟩ := hS
            replace t0 := (h3 0 (by decide)).trans t0
            replace t1 := (h3 1 (by decide)).trans t1
            replace t6 := (h3 6 (by decide)).trans t6
            replace t7 := (h3 7 (by decide)).trans t7
            have t8 : a.eval (.tmp 8) = .int .i64 ((N / D : Nat) : Int) := h4 3 _ rfl _ rfl
            replace A := (⟨h1, h2.trans A.2⟩ : a.tmps.size = 43 ∧ a.defers = [])
            clear h1 h2 h3 h4
            refine wp_seq ?_
            refine wp_seq ?_
            by_cases hlr : i < N % D
            · refine wp_region_sq (σ := Unit) 43 [(0, 31), (1, 32), (2, 33), (3, 34), (4, 35)] (fun j_ s X => match j_ with | 0 => Below V.heap.size V X ∧ (X.ownsRow V.heap.size 3 1 u (i) (intsL (i) (fun j => (szF N D j : Int)))) | 1 => Below V.heap.size V X ∧ (X.ownsRow V.heap.size 3 1 u (i) (intsL (i) (fun j => (szF N D j : Int)))) | 2 => Below V.heap.size V X ∧ (X.ownsRow V.heap.size 3 1 u (i) (intsL (i) (fun j => (szF N D j : Int)))) | 3 => Below V.heap.size V X ∧ (X.ownsRow V.heap.size 3 1 u (i) (intsL (i) (fun j => (szF N D j : Int)))) | 4 => Below V.heap.size V X ∧ (X.ownsRow V.heap.size 3 1 u (i) (intsL (i) (fun j => (szF N D j : Int)))) | _ => Below V.heap.size V X ∧ (X.ownsRow V.heap.size 3 1 u (i) (intsL (i) (fun j => (szF N D j : Int))))) (fun s => fun i_ => match i_ with | 0 => .int .i64 ((i : Nat) : Int) | 1 => .int .i64 ((N : Nat) : Int) | 2 => .int .i64 ((D : Nat) : Int) | 3 => .int .i64 ((N % D : Nat) : Int) | 4 => .bool true | _ => undef) () A.1 (by kernel_rfl) (by decide) (by decide) ⟨BB, FO⟩ ?_ ?_
              · intro i_ hi_ s a X hf hv hn hS
                match i_, hi_ with
                | 0, _ => exact stepV rfl rfl (execMvB rfl ((hf 7 (by decide)).trans t7)) ⟨s, ⟨_, rfl, rfl⟩, hS, fun _ _ => rfl⟩
                | 1, _ => exact stepV rfl rfl (execMvB rfl ((hf 0 (by decide)).trans t0)) ⟨s, ⟨_, rfl, rfl⟩, hS, fun _ _ => rfl⟩
                | 2, _ => exact stepV rfl rfl (execMvB rfl ((hf 1 (by decide)).trans t1)) ⟨s, ⟨_, rfl, rfl⟩, hS, fun _ _ => rfl⟩
                | 3, _ => exact stepV rfl rfl (Aes.execRemI (p := N) (q := D) rfl (hv 1 (by omega) _ rfl _ rfl) (hv 2 (by omega) _ rfl _ rfl) (by omega)) ⟨s, ⟨_, rfl, rfl⟩, hS, fun _ _ => rfl⟩
                | 4, _ => exact stepV rfl rfl (execDec (execLtW (p := i) (q := N % D) rfl (hv 0 (by omega) _ rfl _ rfl) (hv 3 (by omega) _ rfl _ rfl)) (decide_eq_true (by omega))) ⟨s, ⟨_, rfl, rfl⟩, hS, fun _ _ => rfl⟩
                | k_ + 5, h_ => exact absurd h_ (by simp)
              rintro _ a X8 h1 h2 h3 h4 hS
              clear BB
              clear FO
              replace hS : Below V.heap.size V X8 ∧ (X8.ownsRow V.heap.size 3 1 u (i) (intsL (i) (fun j => (szF N D j : Int)))) := hS
              obtain ⟨BB, FO⟩ := hS
              replace t0 := (h3 0 (by decide)).trans t0
              replace t1 := (h3 1 (by decide)).trans t1
              replace t6 := (h3 6 (by decide)).trans t6
              replace t7 := (h3 7 (by decide)).trans t7
              replace t8 := (h3 8 (by decide)).trans t8
              have t35 : a.eval (.tmp 35) = .bool true := h4 4 _ rfl _ rfl
              replace A := (⟨h1, h2.trans A.2⟩ : a.tmps.size = 43 ∧ a.defers = [])
              clear h1 h2 h3 h4
              refine wp_cond_true t35 ?_
              clear t35
              refine wp_region_sq (σ := Unit) 43 [(0, 36), (1, 37), (2, 8)] (fun j_ s X => match j_ with | 0 => Below V.heap.size V X ∧ (X.ownsRow V.heap.size 3 1 u (i) (intsL (i) (fun j => (szF N D j : Int)))) | 1 => Below V.heap.size V X ∧ (X.ownsRow V.heap.size 3 1 u (i) (intsL (i) (fun j => (szF N D j : Int)))) | 2 => Below V.heap.size V X ∧ (X.ownsRow V.heap.size 3 1 u (i) (intsL (i) (fun j => (szF N D j : Int)))) | _ => Below V.heap.size V X ∧ (X.ownsRow V.heap.size 3 1 u (i) (intsL (i) (fun j => (szF N D j : Int))))) (fun s => fun i_ => match i_ with | 0 => .int .i64 ((N / D : Nat) : Int) | 1 => .int .i64 ((N / D + 1 : Nat) : Int) | 2 => .int .i64 ((N / D + 1 : Nat) : Int) | _ => undef) () A.1 (by kernel_rfl) (by decide) (by decide) ⟨BB, FO⟩ ?_ ?_
              · intro i_ hi_ s a X hf hv hn hS
                match i_, hi_ with
                | 0, _ => exact stepV rfl rfl (execMvB rfl ((hn 2 (by omega) _ rfl _ rfl).trans t8)) ⟨s, ⟨_, rfl, rfl⟩, hS, fun _ _ => rfl⟩
                | 1, _ => exact stepV rfl rfl (execAd8 (p := N / D) (q := 1) rfl (hv 0 (by omega) _ rfl _ rfl) rfl (by omega)) ⟨s, ⟨_, rfl, rfl⟩, hS, fun _ _ => rfl⟩
                | 2, _ => exact stepV rfl rfl (execAsgB rfl (hv 1 (by omega) _ rfl _ rfl)) ⟨s, ⟨_, rfl, rfl⟩, hS, fun _ _ => rfl⟩
                | k_ + 3, h_ => exact absurd h_ (by simp)
              rintro _ a X9 h1 h2 h3 h4 hS
              clear BB
              clear FO
              replace hS : Below V.heap.size V X9 ∧ (X9.ownsRow V.heap.size 3 1 u (i) (intsL (i) (fun j => (szF N D j : Int)))) := hS
              obtain ⟨BB, FO⟩ := hS
              replace t0 := (h3 0 (by decide)).trans t0
              replace t1 := (h3 1 (by decide)).trans t1
              replace t6 := (h3 6 (by decide)).trans t6
              replace t7 := (h3 7 (by decide)).trans t7
              replace t8 : a.eval (.tmp 8) = .int .i64 ((N / D + 1 : Nat) : Int) := h4 2 _ rfl _ rfl
              replace A := (⟨h1, h2.trans A.2⟩ : a.tmps.size = 43 ∧ a.defers = [])
              clear h1 h2 h3 h4
              have e8 : N / D + 1 = szF N D i := by unfold szF; rw [if_pos hlr]
              rw [e8] at t8
              refine wp_region_sq (σ := Nat × Value) 43 [(0, 38), (1, 39), (2, 40), (3, 41), (4, 6)] (fun j_ s X => match j_ with | 0 => Below V.heap.size V X ∧ (X.ownsRow V.heap.size 3 1 u (i) (intsL (i) (fun j => (szF N D j : Int)))) | 1 => Below V.heap.size V X ∧ (X.ownsRow V.heap.size 3 1 u (i) (intsL (i) (fun j => (szF N D j : Int)))) | 2 => Below V.heap.size V X ∧ (X.ownsRow V.heap.size 3 1 u (i) (intsL (i) (fun j => (szF N D j : Int)))) | 3 => Below V.heap.size V X ∧ (X.ownsRow V.heap.size 3 1 u (i) (intsL (i) (fun j => (szF N D j : Int)))) ∧ (X.heap[s.1]? = some (.cells #[.int .i64 (((szF N D i : Nat) : Int))] 3)) | 4 => Below V.heap.size V X ∧ (X.ownsRow V.heap.size 3 1 s.2 (i + 1) (intsL (i + 1) (fun j => (szF N D j : Int)))) | _ => Below V.heap.size V X ∧ (X.ownsRow V.heap.size 3 1 s.2 (i + 1) (intsL (i + 1) (fun j => (szF N D j : Int))))) (fun s => fun i_ => match i_ with | 0 => u | 1 => .int .i64 ((szF N D i : Nat) : Int) | 2 => .slice (some ⟨s.1, 0, none⟩) 1 1 | 3 => s.2 | 4 => s.2 | _ => undef) (0, undef) A.1 (by kernel_rfl) (by decide) (by decide) ⟨BB, FO⟩ ?_ ?_
              · intro i_ hi_ s a X hf hv hn hS
                match i_, hi_ with
                | 0, _ => exact stepV rfl rfl (execMvB rfl ((hn 4 (by omega) _ rfl _ rfl).trans t6)) ⟨s, ⟨_, rfl, rfl⟩, hS, fun _ _ => rfl⟩
                | 1, _ => exact stepV rfl rfl (execMvB rfl ((hf 8 (by decide)).trans t8)) ⟨s, ⟨_, rfl, rfl⟩, hS, fun _ _ => rfl⟩
                | 2, _ =>
                  refine stepV rfl rfl (execBsI (z := ((szF N D i : Nat) : Int)) rfl (hv 1 (by omega) _ rfl _ rfl)) ⟨(X.heap.size, s.2), ⟨_, rfl, rfl⟩, ⟨(hS.1).trans (((belNew X _)).mono (hS.1).size), (ownD_below hS.2 (belNew X _)), heapNew X _⟩, fun i hi => ?_⟩
                  match i, hi with
                  | 0, _ => rfl
                  | 1, _ => rfl
                  | n_ + 2, h_ => omega
                | 3, _ =>
                  refine stepAppI (f := fun j => (szF N D j : Int)) rfl rfl rfl (hv 0 (by omega) _ rfl _ rfl) (hv 2 (by omega) _ rfl _ rfl) hS.2.1 hS.2.2 (by omega) (hS.1).size fun v' W' own' gr => ⟨(s.1, v'), ⟨_, rfl, rfl⟩, ⟨(hS.1).grown gr (hS.1).size (fun k hk => (hS.2.1.lt k hk).1), own'⟩, fun i hi => ?_⟩
                  match i, hi with
                  | 0, _ => rfl
                  | 1, _ => rfl
                  | 2, _ => rfl
                  | n_ + 3, h_ => omega
                | 4, _ => exact stepV rfl rfl (execAsgB rfl (hv 3 (by omega) _ rfl _ rfl)) ⟨s, ⟨_, rfl, rfl⟩, hS, fun _ _ => rfl⟩
                | k_ + 5, h_ => exact absurd h_ (by simp)
              rintro ⟨g40, v41⟩ a X10 h1 h2 h3 h4 hS
              clear BB
              clear FO
              replace hS : Below V.heap.size V X10 ∧ (X10.ownsRow V.heap.size 3 1 v41 (i + 1) (intsL (i + 1) (fun j => (szF N D j : Int)))) := hS
              obtain ⟨BB, FO2⟩ := hS
              replace t0 := (h3 0 (by decide)).trans t0
              replace t1 := (h3 1 (by decide)).trans t1
              replace t6 : a.eval (.tmp 6) = v41 := h4 4 _ rfl _ rfl
              replace t7 := (h3 7 (by decide)).trans t7
              replace A := (⟨h1, h2.trans A.2⟩ : a.tmps.size = 43 ∧ a.defers = [])
              clear h1 h2 h3 h4
              clear t8
              refine wp_region_sq (σ := Unit) 43 [(0, 26), (1, 27), (2, 7)] (fun j_ s X => match j_ with | 0 => Below V.heap.size V X ∧ (X.ownsRow V.heap.size 3 1 v41 (i + 1) (intsL (i + 1) (fun j => (szF N D j : Int)))) | 1 => Below V.heap.size V X ∧ (X.ownsRow V.heap.size 3 1 v41 (i + 1) (intsL (i + 1) (fun j => (szF N D j : Int)))) | 2 => Below V.heap.size V X ∧ (X.ownsRow V.heap.size 3 1 v41 (i + 1) (intsL (i + 1) (fun j => (szF N D j : Int)))) | _ => Below V.heap.size V X ∧ (X.ownsRow V.heap.size 3 1 v41 (i + 1) (intsL (i + 1) (fun j => (szF N D j : Int))))) (fun s => fun i_ => match i_ with | 0 => .int .i64 ((i : Nat) : Int) | 1 => .int .i64 ((i + 1 : Nat) : Int) | 2 => .int .i64 ((i + 1 : Nat) : Int) | _ => undef) () A.1 (by kernel_rfl) (by decide) (by decide) ⟨BB, FO2⟩ ?_ ?_
              · intro i_ hi_ s a X hf hv hn hS
                match i_, hi_ with
                | 0, _ => exact stepV rfl rfl (execMvB rfl ((hn 2 (by omega) _ rfl _ rfl).trans t7)) ⟨s, ⟨_, rfl, rfl⟩, hS, fun _ _ => rfl⟩
                | 1, _ => exact stepV rfl rfl (execAd8 (p := i) (q := 1) rfl (hv 0 (by omega) _ rfl _ rfl) rfl (by omega)) ⟨s, ⟨_, rfl, rfl⟩, hS, fun _ _ => rfl⟩
                | 2, _ => exact stepV rfl rfl (execAsgB rfl (hv 1 (by omega) _ rfl _ rfl)) ⟨s, ⟨_, rfl, rfl⟩, hS, fun _ _ => rfl⟩
                | k_ + 3, h_ => exact absurd h_ (by simp)
              rintro _ a X6 h1 h2 h3 h4 hS
              clear BB
              clear FO2
              replace hS : Below V.heap.size V X6 ∧ (X6.ownsRow V.heap.size 3 1 v41 (i + 1) (intsL (i + 1) (fun j => (szF N D j : Int)))) := hS
              obtain ⟨BB, FO2⟩ := hS
              replace t0 := (h3 0 (by decide)).trans t0
              replace t1 := (h3 1 (by decide)).trans t1
              replace t6 := (h3 6 (by decide)).trans t6
              replace t7 : a.eval (.tmp 7) = .int .i64 ((i + 1 : Nat) : Int) := h4 2 _ rfl _ rfl
              replace A := (⟨h1, h2.trans A.2⟩ : a.tmps.size = 43 ∧ a.defers = [])
              clear h1 h2 h3 h4
              exact ⟨⟨i + 1, _, lti, A, t0, t1, t6, t7, BB, FO2⟩, by show D - (intOf (a.eval (.tmp 7))).toNat < D - (intOf (Act.eval _ (.tmp 7))).toNat; rw [t7, esi]; show D - (i + 1) < D - i; omega⟩
            · refine wp_region_sq (σ := Unit) 43 [(0, 31), (1, 32), (2, 33), (3, 34), (4, 35)] (fun j_ s X => match j_ with | 0 => Below V.heap.size V X ∧ (X.ownsRow V.heap.size 3 1 u (i) (intsL (i) (fun j => (szF N D j : Int)))) | 1 => Below V.heap.size V X ∧ (X.ownsRow V.heap.size 3 1 u (i) (intsL (i) (fun j => (szF N D j : Int)))) | 2 => Below V.heap.size V X ∧ (X.ownsRow V.heap.size 3 1 u (i) (intsL (i) (fun j => (szF N D j : Int)))) | 3 => Below V.heap.size V X ∧ (X.ownsRow V.heap.size 3 1 u (i) (intsL (i) (fun j => (szF N D j : Int)))) | 4 => Below V.heap.size V X ∧ (X.ownsRow V.heap.size 3 1 u (i) (intsL (i) (fun j => (szF N D j : Int)))) | _ => Below V.heap.size V X ∧ (X.ownsRow V.heap.size 3 1 u (i) (intsL (i) (fun j => (szF N D j : Int))))) (fun s => fun i_ => match i_ with | 0 => .int .i64 ((i : Nat) : Int) | 1 => .int .i64 ((N : Nat) : Int) | 2 => .int .i64 ((D : Nat) : Int) | 3 => .int .i64 ((N % D : Nat) : Int) | 4 => .bool false | _ => undef) () A.1 (by kernel_rfl) (by decide) (by decide) ⟨BB, FO⟩ ?_ ?_
              · intro i_ hi_ s a X hf hv hn hS
                match i_, hi_ with
                | 0, _ => exact stepV rfl rfl (execMvB rfl ((hf 7 (by decide)).trans t7)) ⟨s, ⟨_, rfl, rfl⟩, hS, fun _ _ => rfl⟩
                | 1, _ => exact stepV rfl rfl (execMvB rfl ((hf 0 (by decide)).trans t0)) ⟨s, ⟨_, rfl, rfl⟩, hS, fun _ _ => rfl⟩
                | 2, _ => exact stepV rfl rfl (execMvB rfl ((hf 1 (by decide)).trans t1)) ⟨s, ⟨_, rfl, rfl⟩, hS, fun _ _ => rfl⟩
                | 3, _ => exact stepV rfl rfl (Aes.execRemI (p := N) (q := D) rfl (hv 1 (by omega) _ rfl _ rfl) (hv 2 (by omega) _ rfl _ rfl) (by omega)) ⟨s, ⟨_, rfl, rfl⟩, hS, fun _ _ => rfl⟩
                | 4, _ => exact stepV rfl rfl (execDec (execLtW (p := i) (q := N % D) rfl (hv 0 (by omega) _ rfl _ rfl) (hv 3 (by omega) _ rfl _ rfl)) (decide_eq_false (by omega))) ⟨s, ⟨_, rfl, rfl⟩, hS, fun _ _ => rfl⟩
                | k_ + 5, h_ => exact absurd h_ (by simp)
              rintro _ a X8 h1 h2 h3 h4 hS
              clear BB
              clear FO
              replace hS : Below V.heap.size V X8 ∧ (X8.ownsRow V.heap.size 3 1 u (i) (intsL (i) (fun j => (szF N D j : Int)))) := hS
              obtain ⟨BB, FO⟩ := hS
              replace t0 := (h3 0 (by decide)).trans t0
              replace t1 := (h3 1 (by decide)).trans t1
              replace t6 := (h3 6 (by decide)).trans t6
              replace t7 := (h3 7 (by decide)).trans t7
              replace t8 := (h3 8 (by decide)).trans t8
              have t35 : a.eval (.tmp 35) = .bool false := h4 4 _ rfl _ rfl
              replace A := (⟨h1, h2.trans A.2⟩ : a.tmps.size = 43 ∧ a.defers = [])
              clear h1 h2 h3 h4
              refine wp_cond_false t35 ?_
              refine wp_skip ?_
              clear t35
              have e8 : N / D = szF N D i := by unfold szF; rw [if_neg hlr]; rfl
              rw [e8] at t8
              refine wp_region_sq (σ := Nat × Value) 43 [(0, 38), (1, 39), (2, 40), (3, 41), (4, 6)] (fun j_ s X => match j_ with | 0 => Below V.heap.size V X ∧ (X.ownsRow V.heap.size 3 1 u (i) (intsL (i) (fun j => (szF N D j : Int)))) | 1 => Below V.heap.size V X ∧ (X.ownsRow V.heap.size 3 1 u (i) (intsL (i) (fun j => (szF N D j : Int)))) | 2 => Below V.heap.size V X ∧ (X.ownsRow V.heap.size 3 1 u (i) (intsL (i) (fun j => (szF N D j : Int)))) | 3 => Below V.heap.size V X ∧ (X.ownsRow V.heap.size 3 1 u (i) (intsL (i) (fun j => (szF N D j : Int)))) ∧ (X.heap[s.1]? = some (.cells #[.int .i64 (((szF N D i : Nat) : Int))] 3)) | 4 => Below V.heap.size V X ∧ (X.ownsRow V.heap.size 3 1 s.2 (i + 1) (intsL (i + 1) (fun j => (szF N D j : Int)))) | _ => Below V.heap.size V X ∧ (X.ownsRow V.heap.size 3 1 s.2 (i + 1) (intsL (i + 1) (fun j => (szF N D j : Int))))) (fun s => fun i_ => match i_ with | 0 => u | 1 => .int .i64 ((szF N D i : Nat) : Int) | 2 => .slice (some ⟨s.1, 0, none⟩) 1 1 | 3 => s.2 | 4 => s.2 | _ => undef) (0, undef) A.1 (by kernel_rfl) (by decide) (by decide) ⟨BB, FO⟩ ?_ ?_
              · intro i_ hi_ s a X hf hv hn hS
                match i_, hi_ with
                | 0, _ => exact stepV rfl rfl (execMvB rfl ((hn 4 (by omega) _ rfl _ rfl).trans t6)) ⟨s, ⟨_, rfl, rfl⟩, hS, fun _ _ => rfl⟩
                | 1, _ => exact stepV rfl rfl (execMvB rfl ((hf 8 (by decide)).trans t8)) ⟨s, ⟨_, rfl, rfl⟩, hS, fun _ _ => rfl⟩
                | 2, _ =>
                  refine stepV rfl rfl (execBsI (z := ((szF N D i : Nat) : Int)) rfl (hv 1 (by omega) _ rfl _ rfl)) ⟨(X.heap.size, s.2), ⟨_, rfl, rfl⟩, ⟨(hS.1).trans (((belNew X _)).mono (hS.1).size), (ownD_below hS.2 (belNew X _)), heapNew X _⟩, fun i hi => ?_⟩
                  match i, hi with
                  | 0, _ => rfl
                  | 1, _ => rfl
                  | n_ + 2, h_ => omega
                | 3, _ =>
                  refine stepAppI (f := fun j => (szF N D j : Int)) rfl rfl rfl (hv 0 (by omega) _ rfl _ rfl) (hv 2 (by omega) _ rfl _ rfl) hS.2.1 hS.2.2 (by omega) (hS.1).size fun v' W' own' gr => ⟨(s.1, v'), ⟨_, rfl, rfl⟩, ⟨(hS.1).grown gr (hS.1).size (fun k hk => (hS.2.1.lt k hk).1), own'⟩, fun i hi => ?_⟩
                  match i, hi with
                  | 0, _ => rfl
                  | 1, _ => rfl
                  | 2, _ => rfl
                  | n_ + 3, h_ => omega
                | 4, _ => exact stepV rfl rfl (execAsgB rfl (hv 3 (by omega) _ rfl _ rfl)) ⟨s, ⟨_, rfl, rfl⟩, hS, fun _ _ => rfl⟩
                | k_ + 5, h_ => exact absurd h_ (by simp)
              rintro ⟨g40, v41⟩ a X10 h1 h2 h3 h4 hS
              clear BB
              clear FO
              replace hS : Below V.heap.size V X10 ∧ (X10.ownsRow V.heap.size 3 1 v41 (i + 1) (intsL (i + 1) (fun j => (szF N D j : Int)))) := hS
              obtain ⟨BB, FO2⟩ := hS
              replace t0 := (h3 0 (by decide)).trans t0
              replace t1 := (h3 1 (by decide)).trans t1
              replace t6 : a.eval (.tmp 6) = v41 := h4 4 _ rfl _ rfl
              replace t7 := (h3 7 (by decide)).trans t7
              replace A := (⟨h1, h2.trans A.2⟩ : a.tmps.size = 43 ∧ a.defers = [])
              clear h1 h2 h3 h4
              clear t8
              refine wp_region_sq (σ := Unit) 43 [(0, 26), (1, 27), (2, 7)] (fun j_ s X => match j_ with | 0 => Below V.heap.size V X ∧ (X.ownsRow V.heap.size 3 1 v41 (i + 1) (intsL (i + 1) (fun j => (szF N D j : Int)))) | 1 => Below V.heap.size V X ∧ (X.ownsRow V.heap.size 3 1 v41 (i + 1) (intsL (i + 1) (fun j => (szF N D j : Int)))) | 2 => Below V.heap.size V X ∧ (X.ownsRow V.heap.size 3 1 v41 (i + 1) (intsL (i + 1) (fun j => (szF N D j : Int)))) | _ => Below V.heap.size V X ∧ (X.ownsRow V.heap.size 3 1 v41 (i + 1) (intsL (i + 1) (fun j => (szF N D j : Int))))) (fun s => fun i_ => match i_ with | 0 => .int .i64 ((i : Nat) : Int) | 1 => .int .i64 ((i + 1 : Nat) : Int) | 2 => .int .i64 ((i + 1 : Nat) : Int) | _ => undef) () A.1 (by kernel_rfl) (by decide) (by decide) ⟨BB, FO2⟩ ?_ ?_
              · intro i_ hi_ s a X hf hv hn hS
                match i_, hi_ with
                | 0, _ => exact stepV rfl rfl (execMvB rfl ((hn 2 (by omega) _ rfl _ rfl).trans t7)) ⟨s, ⟨_, rfl, rfl⟩, hS, fun _ _ => rfl⟩
                | 1, _ => exact stepV rfl rfl (execAd8 (p := i) (q := 1) rfl (hv 0 (by omega) _ rfl _ rfl) rfl (by omega)) ⟨s, ⟨_, rfl, rfl⟩, hS, fun _ _ => rfl⟩
                | 2, _ => exact stepV rfl rfl (execAsgB rfl (hv 1 (by omega) _ rfl _ rfl)) ⟨s, ⟨_, rfl, rfl⟩, hS, fun _ _ => rfl⟩
                | k_ + 3, h_ => exact absurd h_ (by simp)
              rintro _ a X6 h1 h2 h3 h4 hS
              clear BB
              clear FO2
              replace hS : Below V.heap.size V X6 ∧ (X6.ownsRow V.heap.size 3 1 v41 (i + 1) (intsL (i + 1) (fun j => (szF N D j : Int)))) := hS
              obtain ⟨BB, FO2⟩ := hS
              replace t0 := (h3 0 (by decide)).trans t0
              replace t1 := (h3 1 (by decide)).trans t1
              replace t6 := (h3 6 (by decide)).trans t6
              replace t7 : a.eval (.tmp 7) = .int .i64 ((i + 1 : Nat) : Int) := h4 2 _ rfl _ rfl
              replace A := (⟨h1, h2.trans A.2⟩ : a.tmps.size = 43 ∧ a.defers = [])
              clear h1 h2 h3 h4
              exact ⟨⟨i + 1, _, lti, A, t0, t1, t6, t7, BB, FO2⟩, by show D - (intOf (a.eval (.tmp 7))).toNat < D - (intOf (Act.eval _ (.tmp 7))).toNat; rw [t7, esi]; show D - (i + 1) < D - i; omega⟩
          · rw [decide_eq_false lti] at t25
            refine wp_cond_false t25 ?_
            refine wp_exit ?_
            first | refine exit_in ?_ | refine exit_then (exit_in ?_) | refine exit_then (exit_then (exit_in ?_))
            clear t25 esi t7
            obtain rfl : i = D := by omega
            refine wp_seq ?_
            refine wp_region_sq (σ := Unit) 43 [(0, 42), (1, 4), (2, 5)] (fun j_ s X => match j_ with | 0 => Below V.heap.size V X ∧ (X.ownsRow V.heap.size 3 1 u (i) (intsL (i) (fun j => (szF N i j : Int)))) | 1 => Below V.heap.size V X ∧ (X.ownsRow V.heap.size 3 1 u (i) (intsL (i) (fun j => (szF N i j : Int)))) | 2 => Below V.heap.size V X ∧ (X.ownsRow V.heap.size 3 1 u (i) (intsL (i) (fun j => (szF N i j : Int)))) | _ => Below V.heap.size V X ∧ (X.ownsRow V.heap.size 3 1 u (i) (intsL (i) (fun j => (szF N i j : Int))))) (fun s => fun i_ => match i_ with | 0 => u | 1 => u | 2 => .int .i64 ((0 : Nat) : Int) | _ => undef) () A.1 (by kernel_rfl) (by decide) (by decide) ⟨BB, FO⟩ ?_ ?_
            · intro i_ hi_ s a X hf hv hn hS
              match i_, hi_ with
              | 0, _ => exact stepV rfl rfl (execMvB rfl ((hf 6 (by decide)).trans t6)) ⟨s, ⟨_, rfl, rfl⟩, hS, fun _ _ => rfl⟩
              | 1, _ => exact stepV rfl rfl (execAsgB rfl (hv 0 (by omega) _ rfl _ rfl)) ⟨s, ⟨_, rfl, rfl⟩, hS, fun _ _ => rfl⟩
              | 2, _ => exact stepV rfl rfl (execAsgB rfl rfl) ⟨s, ⟨_, rfl, rfl⟩, hS, fun _ _ => rfl⟩
              | k_ + 3, h_ => exact absurd h_ (by simp)
            rintro _ a X11 h1 h2 h3 h4 hS
            clear BB
            clear FO
            replace hS : Below V.heap.size V X11 ∧ (X11.ownsRow V.heap.size 3 1 u (i) (intsL (i) (fun j => (szF N i j : Int)))) := hS
            obtain ⟨BB, FO⟩ := hS
            have t4 : a.eval (.tmp 4) = u := h4 1 _ rfl _ rfl
            have t5 : a.eval (.tmp 5) = .int .i64 ((0 : Nat) : Int) := h4 2 _ rfl _ rfl
            replace A := (⟨h1, h2.trans A.2⟩ : a.tmps.size = 43 ∧ a.defers = [])
            clear h1 h2 h3 h4
            clear t0 t1 t6
            have hE : szE ((N : Nat) : Int) ((i : Nat) : Int) = 0 := if_pos (by omega)
            rw [hE, zl_ok, Int.toNat_natCast, Int.toNat_natCast]
            refine wp_ret ?_
            refine bodyPost_ret (results_tmp2 rfl _ _ _) A.2 ⟨_, ?_, FO, BB⟩
            show Ending.returned (.tuple #[a.eval (.tmp 4), a.eval (.tmp 5)]) = _
            rw [t4, t5]
end Go.Proofs.Ytdecmmcphcomhaa.Brd
