import Derived.Test.YtcibogmghagpoaaV8n
namespace Go.Proofs.Ytcibogmghagpoaa.Dro
open Go.RowKit Gf8 Aes By8 Cel Cf Tap
/- Stage 28's apart: the lists are grown. Written by tools/mkV8n.py. -/

set_option maxRecDepth 100000 in
set_option maxHeartbeats 4000000 in
theorem ap28b (B A0 m lg lc : Nat) (nn : Nat → Nat) (x : Nat → Value) (f : Nat → Nat → Nat) (V : World) (hown : V.ownsRow A0 23 1 (.slice (some ⟨lg, 0, none⟩) m lc) m (lL x m)) (hf0 : Fam B m x nn f V) (hm : m ≤ 5000) (hnn : ∀ t, t < m → nn t ≤ 140737488351232) (hB : B ≤ V.heap.size)
    (h : ∀ (a : Act) (W : World) (R : Nat), AA (.slice (some ⟨lg, 0, none⟩) m lc) a → (∃ gv gl mo, GSt B m nn x R V W 0 8 False m gv gl mo) → a.eval (.tmp 6) = .slice (some ⟨R, 0, none⟩) m m → (fromR 21 (Try.f17.body.getD .skip)).wp Try.prog (bodyPost Try.prog Try.f17 fun e w' => e = .returned (.bool true) ∧ Saved (Gx m x) V w') a W)
    (a : Act) (W : World) (A : AA (.slice (some ⟨lg, 0, none⟩) m lc) a) (FA : Fam B m x nn (mkA f m 0) W) (SV : Saved (Gx m x) V W) : (fromR 10 (Try.f17.body.getD .skip)).wp Try.prog (bodyPost Try.prog Try.f17 fun e w' => e = .returned (.bool true) ∧ Saved (Gx m x) V w') a W := by
  refine wp_seq ?_
  refine wp_region_sqW 137 [(0, 35), (1, 36), (2, 37), (3, 6)] (fun i_ => match i_ with | 0 => .slice (some ⟨lg, 0, none⟩) m lc | 1 => .int .i64 ((m : Nat) : Int) | 2 => .slice (some ⟨W.heap.size, 0, none⟩) m m | 3 => .slice (some ⟨W.heap.size, 0, none⟩) m m | _ => undef) (fun i_ => match i_ with | 0 => W | 1 => W | 2 => W | 3 => (W.alloc (.cells (madeCells #[.slice none 0 0] m) 23)) | _ => (W.alloc (.cells (madeCells #[.slice none 0 0] m) 23))) A.sz (by kernel_rfl) (by decide) (by decide) ?_ ?_
  · intro i_ hi_ a hf hv hn
    match i_, hi_ with
    | 0, _ => exact stepV rfl rfl (execMvB rfl ((hf 0 (by decide)).trans A.t0)) ⟨⟨_, rfl, rfl⟩, rfl⟩
    | 1, _ => exact stepV rfl rfl (execLenL (len := m) rfl (hv 0 (by omega) _ rfl _ rfl)) ⟨⟨_, rfl, rfl⟩, rfl⟩
    | 2, _ => exact stepV rfl rfl (execMkL rfl (hv 1 (by omega) _ rfl _ rfl) (hv 1 (by omega) _ rfl _ rfl) (by omega)) ⟨⟨_, rfl, rfl⟩, rfl⟩
    | 3, _ => exact stepV rfl rfl (execAsgB rfl (hv 2 (by omega) _ rfl _ rfl)) ⟨⟨_, rfl, rfl⟩, rfl⟩
    | k_ + 4, h_ => exact absurd h_ (by simp)
  intro a h1 h2 h3 h4
  have t6 : a.eval (.tmp 6) = .slice (some ⟨W.heap.size, 0, none⟩) m m := h4 3 _ rfl _ rfl
  have A := A.keep h1 h2 h3 (by decide)
  clear h1 h2 h3 h4
  have GS := GSt.begin FA SV
  obtain ⟨R, hR⟩ : ∃ R, R = W.heap.size := ⟨_, rfl⟩
  rw [← hR] at GS t6
  clear hR FA SV
  have GS : ∃ gv gl mo, GSt B m nn x R V (W.alloc (.cells (madeCells #[.slice none 0 0] m) 23)) 0 8 False 0 gv gl mo := ⟨_, _, _, GS⟩
  revert GS
  generalize W.alloc (.cells (madeCells #[.slice none 0 0] m) 23) = W
  intro GS
  refine wp_seq ?_
  refine wp_seq ?_
  refine wp_region_sqK 137 [(0, 38), (1, 39), (2, 40)] (fun i_ => match i_ with | 0 => .slice (some ⟨lg, 0, none⟩) m lc | 1 => .int .i64 ((m : Nat) : Int) | 2 => .int .i64 ((0 : Nat) : Int) | _ => undef) A.sz (by kernel_rfl) (by decide) (by decide) ?_ ?_
  · intro i_ hi_ a hf hv hn
    match i_, hi_ with
    | 0, _ => exact stepV rfl rfl (execMvB rfl ((hf 0 (by decide)).trans A.t0)) ⟨⟨_, rfl, rfl⟩, rfl⟩
    | 1, _ => exact stepV rfl rfl (execLenL (len := m) rfl (hv 0 (by omega) _ rfl _ rfl)) ⟨⟨_, rfl, rfl⟩, rfl⟩
    | 2, _ => exact stepV rfl rfl (execMvB rfl rfl) ⟨⟨_, rfl, rfl⟩, rfl⟩
    | k_ + 3, h_ => exact absurd h_ (by simp)
  intro a h1 h2 h3 h4
  have t6 := (h3 6 (by decide)).trans t6
  have t38 : a.eval (.tmp 38) = .slice (some ⟨lg, 0, none⟩) m lc := h4 0 _ rfl _ rfl
  have t39 : a.eval (.tmp 39) = .int .i64 ((m : Nat) : Int) := h4 1 _ rfl _ rfl
  have t40 : a.eval (.tmp 40) = .int .i64 ((0 : Nat) : Int) := h4 2 _ rfl _ rfl
  have A := A.keep h1 h2 h3 (by decide)
  clear h1 h2 h3 h4
  refine wp_block ?_
  refine wp_loop (fun a W => ∃ i : Nat, i ≤ m ∧ AA (.slice (some ⟨lg, 0, none⟩) m lc) a ∧ (a.eval (.tmp 6) = .slice (some ⟨R, 0, none⟩) m m ∧ a.eval (.tmp 38) = .slice (some ⟨lg, 0, none⟩) m lc ∧ a.eval (.tmp 39) = .int .i64 ((m : Nat) : Int) ∧ a.eval (.tmp 40) = .int .i64 ((i : Nat) : Int)) ∧ ∃ gv gl mo, GSt B m nn x R V W 0 8 False i gv gl mo) (fun a _ => m - (intOf (a.eval (.tmp 40))).toNat) ⟨0, by omega, A, ⟨t6, t38, t39, t40⟩, GS⟩ ?_
  clear A t6 t38 t39 t40 GS a W
  rintro a W ⟨i, hi, A, ⟨t6, t38, t39, t40⟩, GS⟩
  have e40 := t40
  refine wp_seq ?_
  refine wp_region_sqK 137 [(0, 41)] (fun i_ => match i_ with | 0 => .bool (decide (i < m)) | _ => undef) A.sz (by kernel_rfl) (by decide) (by decide) ?_ ?_
  · intro i_ hi_ a hf hv hn
    match i_, hi_ with
    | 0, _ => exact stepV rfl rfl (execLtW (p := i) (q := m) rfl ((hf 40 (by decide)).trans t40) ((hf 39 (by decide)).trans t39)) ⟨⟨_, rfl, rfl⟩, rfl⟩
    | k_ + 1, h_ => exact absurd h_ (by simp)
  intro a h1 h2 h3 h4
  have t6 := (h3 6 (by decide)).trans t6
  have t38 := (h3 38 (by decide)).trans t38
  have t39 := (h3 39 (by decide)).trans t39
  have t40 := (h3 40 (by decide)).trans t40
  have t41 : a.eval (.tmp 41) = .bool (decide (i < m)) := h4 0 _ rfl _ rfl
  have A := A.keep h1 h2 h3 (by decide)
  clear h1 h2 h3 h4
  refine wp_seq ?_
  by_cases hlt : i < m
  · rw [decide_eq_true hlt] at t41
    refine wp_cond_true t41 ?_
    refine wp_skip ?_
    clear t41
    obtain ⟨gv, gl, mo, GS⟩ := GS
    have ev : gv i = x i := (GS.todo i hlt (by omega)).2 (fun q => q)
    have G0 := GS.start hlt
    rw [ev] at G0
    obtain ⟨xa, xc, ex⟩ := own_shapeJ (hf0.rows i hlt)
    have cX := lists_at hown hf0 GS.mn.sv hlt
    rw [ex] at cX G0
    have GG : ∃ gv gl mo, GI B m nn x R V W 0 8 False i (nn i + 0) (.slice xa (nn i) xc) gv gl mo := ⟨_, _, _, G0⟩
    clear G0 GS ev
    refine wp_seq ?_
    refine wp_block ?_
    refine wp_seq ?_
    refine wp_region_sqK 137 [(0, 42), (1, 43), (2, 44), (3, 7), (4, 8)] (fun i_ => match i_ with | 0 => .int .i64 ((i : Nat) : Int) | 1 => .pointer (some ⟨lg, 0 + i, none⟩) | 2 => .slice xa (nn i) xc | 3 => .int .i64 ((i : Nat) : Int) | 4 => .slice xa (nn i) xc | _ => undef) A.sz (by kernel_rfl) (by decide) (by decide) ?_ ?_
    · intro i_ hi_ a hf hv hn
      match i_, hi_ with
      | 0, _ => exact stepV rfl rfl (execMvB rfl ((hf 40 (by decide)).trans t40)) ⟨⟨_, rfl, rfl⟩, rfl⟩
      | 1, _ => exact stepV rfl rfl (Cf.execIdxL (k := i) rfl ((hf 38 (by decide)).trans t38) ((hf 40 (by decide)).trans t40) (by exact hlt)) ⟨⟨_, rfl, rfl⟩, rfl⟩
      | 2, _ => exact stepV rfl rfl (execLdL rfl (hv 1 (by omega) _ rfl _ rfl) cX) ⟨⟨_, rfl, rfl⟩, rfl⟩
      | 3, _ => exact stepV rfl rfl (execAsgB rfl (hv 0 (by omega) _ rfl _ rfl)) ⟨⟨_, rfl, rfl⟩, rfl⟩
      | 4, _ => exact stepV rfl rfl (execAsgB rfl (hv 2 (by omega) _ rfl _ rfl)) ⟨⟨_, rfl, rfl⟩, rfl⟩
      | k_ + 5, h_ => exact absurd h_ (by simp)
    intro a h1 h2 h3 h4
    have t6 := (h3 6 (by decide)).trans t6
    have t38 := (h3 38 (by decide)).trans t38
    have t39 := (h3 39 (by decide)).trans t39
    have t40 := (h3 40 (by decide)).trans t40
    have t7 : a.eval (.tmp 7) = .int .i64 ((i : Nat) : Int) := h4 3 _ rfl _ rfl
    have t8 : a.eval (.tmp 8) = .slice xa (nn i) xc := h4 4 _ rfl _ rfl
    have A := A.keep h1 h2 h3 (by decide)
    clear h1 h2 h3 h4
    refine wp_seq ?_
    refine wp_region_sqK 137 [(0, 45), (1, 9)] (fun i_ => match i_ with | 0 => .slice xa (nn i) xc | 1 => .slice xa (nn i) xc | _ => undef) A.sz (by kernel_rfl) (by decide) (by decide) ?_ ?_
    · intro i_ hi_ a hf hv hn
      match i_, hi_ with
      | 0, _ => exact stepV rfl rfl (execMvB rfl ((hf 8 (by decide)).trans t8)) ⟨⟨_, rfl, rfl⟩, rfl⟩
      | 1, _ => exact stepV rfl rfl (execAsgB rfl (hv 0 (by omega) _ rfl _ rfl)) ⟨⟨_, rfl, rfl⟩, rfl⟩
      | k_ + 2, h_ => exact absurd h_ (by simp)
    intro a h1 h2 h3 h4
    have t6 := (h3 6 (by decide)).trans t6
    have t38 := (h3 38 (by decide)).trans t38
    have t39 := (h3 39 (by decide)).trans t39
    have t40 := (h3 40 (by decide)).trans t40
    have t7 := (h3 7 (by decide)).trans t7
    have t9 : a.eval (.tmp 9) = .slice xa (nn i) xc := h4 1 _ rfl _ rfl
    have A := A.keep h1 h2 h3 (by decide)
    clear h1 h2 h3 h4
    clear cX
    refine wp_seq ?_
    refine wp_seq ?_
    refine wp_region_sqK 137 [(0, 46)] (fun i_ => match i_ with | 0 => .int .i64 ((0 : Nat) : Int) | _ => undef) A.sz (by kernel_rfl) (by decide) (by decide) ?_ ?_
    · intro i_ hi_ a hf hv hn
      match i_, hi_ with
      | 0, _ => exact stepV rfl rfl (execMvB rfl rfl) ⟨⟨_, rfl, rfl⟩, rfl⟩
      | k_ + 1, h_ => exact absurd h_ (by simp)
    intro a h1 h2 h3 h4
    have t6 := (h3 6 (by decide)).trans t6
    have t38 := (h3 38 (by decide)).trans t38
    have t39 := (h3 39 (by decide)).trans t39
    have t40 := (h3 40 (by decide)).trans t40
    have t7 := (h3 7 (by decide)).trans t7
    have t9 := (h3 9 (by decide)).trans t9
    have t46 : a.eval (.tmp 46) = .int .i64 ((0 : Nat) : Int) := h4 0 _ rfl _ rfl
    have A := A.keep h1 h2 h3 (by decide)
    clear h1 h2 h3 h4
    refine wp_block ?_
    refine wp_loop (fun a W => ∃ (k : Nat) (v : Value), k ≤ 8 ∧ AA (.slice (some ⟨lg, 0, none⟩) m lc) a ∧ (a.eval (.tmp 6) = .slice (some ⟨R, 0, none⟩) m m ∧ a.eval (.tmp 38) = .slice (some ⟨lg, 0, none⟩) m lc ∧ a.eval (.tmp 39) = .int .i64 ((m : Nat) : Int) ∧ a.eval (.tmp 40) = .int .i64 ((i : Nat) : Int)) ∧ a.eval (.tmp 7) = .int .i64 ((i : Nat) : Int) ∧ a.eval (.tmp 9) = v ∧ a.eval (.tmp 46) = .int .i64 ((k : Nat) : Int) ∧ ∃ gv gl mo, GI B m nn x R V W 0 8 False i (nn i + k) v gv gl mo) (fun a _ => 8 - (intOf (a.eval (.tmp 46))).toNat) ⟨0, _, by omega, A, ⟨t6, t38, t39, t40⟩, t7, t9, t46, GG⟩ ?_
    clear A t6 t38 t39 t40 t7 t9 t46 GG a W
    rintro a W ⟨k, v, hk0, A, ⟨t6, t38, t39, t40⟩, t7, t9, t46, GG⟩
    have e46 := t46
    refine wp_seq ?_
    refine wp_region_sqK 137 [(0, 47)] (fun i_ => match i_ with | 0 => .bool (decide (k < 8)) | _ => undef) A.sz (by kernel_rfl) (by decide) (by decide) ?_ ?_
    · intro i_ hi_ a hf hv hn
      match i_, hi_ with
      | 0, _ => exact stepV rfl rfl (execLt8 (p := k) (q := 8) rfl ((hf 46 (by decide)).trans t46)) ⟨⟨_, rfl, rfl⟩, rfl⟩
      | k_ + 1, h_ => exact absurd h_ (by simp)
    intro a h1 h2 h3 h4
    have t6 := (h3 6 (by decide)).trans t6
    have t38 := (h3 38 (by decide)).trans t38
    have t39 := (h3 39 (by decide)).trans t39
    have t40 := (h3 40 (by decide)).trans t40
    have t7 := (h3 7 (by decide)).trans t7
    have t9 := (h3 9 (by decide)).trans t9
    have t46 := (h3 46 (by decide)).trans t46
    have t47 : a.eval (.tmp 47) = .bool (decide (k < 8)) := h4 0 _ rfl _ rfl
    have A := A.keep h1 h2 h3 (by decide)
    clear h1 h2 h3 h4
    refine wp_seq ?_
    by_cases hk : k < 8
    · rw [decide_eq_true hk] at t47
      refine wp_cond_true t47 ?_
      refine wp_skip ?_
      clear t47
      refine wp_seq ?_
      refine wp_block ?_
      refine wp_region_sq (σ := Nat × Value) 137 [(0, 48), (1, 49), (2, 50), (3, 51), (4, 52), (5, 53), (6, 9)] (fun j_ s X => True ∧ (match j_ with | 0 => (∃ gv gl mo, GI B m nn x R V X 0 8 False i (nn i + k) v gv gl mo) | 1 => (∃ gv gl mo, GI B m nn x R V X 0 8 False i (nn i + k) v gv gl mo) | 2 => (∃ gv gl mo, GI B m nn x R V X 0 8 False i (nn i + k) v gv gl mo) | 3 => (∃ gv gl mo, GI B m nn x R V X 0 8 False i (nn i + k) v gv gl mo) | 4 => (∃ gv gl mo, GI B m nn x R V X 0 8 False i (nn i + k) v gv gl mo) | 5 => (∃ gv gl mo, GI B m nn x R V X 0 8 False i (nn i + k) v gv gl mo) ∧ X.heap[s.1]? = some (.cells #[.int .u8 (((i + 100) % 256 : Nat) : Int)] 5) | 6 => (∃ gv gl mo, GI B m nn x R V X 0 8 False i (nn i + k + 1) s.2 gv gl mo) | _ => (∃ gv gl mo, GI B m nn x R V X 0 8 False i (nn i + k + 1) s.2 gv gl mo))) (fun s => fun i_ => match i_ with | 0 => v | 1 => .int .i64 ((i : Nat) : Int) | 2 => .int .i64 ((i + 100 : Nat) : Int) | 3 => .int .u8 (((i + 100) % 256 : Nat) : Int) | 4 => .slice (some ⟨s.1, 0, none⟩) 1 1 | 5 => s.2 | 6 => s.2 | _ => undef) (0, undef) A.sz (by kernel_rfl) (by decide) (by decide) ⟨trivial, GG⟩ ?_ ?_
      · intro i_ hi_ s a X hf hv hn hS
        match i_, hi_ with
        | 0, _ => exact stepV rfl rfl (execMvB rfl ((hn 6 (by omega) _ rfl _ rfl).trans t9)) ⟨s, ⟨_, rfl, rfl⟩, hS, fun _ _ => rfl⟩
        | 1, _ => exact stepV rfl rfl (execMvB rfl ((hf 7 (by decide)).trans t7)) ⟨s, ⟨_, rfl, rfl⟩, hS, fun _ _ => rfl⟩
        | 2, _ => exact stepV rfl rfl (execAd8 (p := i) (q := 100) rfl (hv 1 (by omega) _ rfl _ rfl) rfl (by have := hm; omega)) ⟨s, ⟨_, rfl, rfl⟩, hS, fun _ _ => rfl⟩
        | 3, _ => exact stepV rfl rfl (execU8 (n := i + 100) rfl (hv 2 (by omega) _ rfl _ rfl)) ⟨s, ⟨_, rfl, rfl⟩, hS, fun _ _ => rfl⟩
        | 4, _ =>
          obtain ⟨gv, gl, mo, hG⟩ := hS.2
          refine stepV rfl rfl (execBsV1 rfl (hv 3 (by omega) _ rfl _ rfl)) ⟨(X.heap.size, s.2), ⟨_, rfl, rfl⟩, ⟨trivial, ⟨gv, gl, mo, hG.on (belNew X _)⟩, heapNew X _⟩, fun i hi => ?_⟩
          match i, hi with
          | 0, _ => rfl
          | 1, _ => rfl
          | 2, _ => rfl
          | 3, _ => rfl
          | n_ + 4, h_ => omega
        | 5, _ =>
          obtain ⟨⟨gv, gl, mo, hG⟩, hlit⟩ := hS.2
          refine stepApp9 rfl rfl rfl (hv 0 (by omega) _ rfl _ rfl) (hv 4 (by omega) _ rfl _ rfl) hG hlit (fun l hl => ?_) hlt (by omega) (by have := hnn i hlt; omega) hB fun v' W' gv' gl' hA => ⟨(s.1, v'), ⟨_, rfl, rfl⟩, ⟨trivial, gv', gl', mo, hA⟩, fun i hi => ?_⟩
          · obtain rfl : l = 0 := by omega
            rfl
          · match i, hi with
            | 0, _ => rfl
            | 1, _ => rfl
            | 2, _ => rfl
            | 3, _ => rfl
            | 4, _ => rfl
            | n_ + 5, h_ => omega
        | 6, _ => exact stepV rfl rfl (execAsgB rfl (hv 5 (by omega) _ rfl _ rfl)) ⟨s, ⟨_, rfl, rfl⟩, hS, fun _ _ => rfl⟩
        | k_ + 7, h_ => exact absurd h_ (by simp)
      intro s a X h1 h2 h3 h4 hS
      have hS : True ∧ (∃ gv gl mo, GI B m nn x R V X 0 8 False i (nn i + k + 1) s.2 gv gl mo) := hS
      have t6 := (h3 6 (by decide)).trans t6
      have t38 := (h3 38 (by decide)).trans t38
      have t39 := (h3 39 (by decide)).trans t39
      have t40 := (h3 40 (by decide)).trans t40
      have t7 := (h3 7 (by decide)).trans t7
      have t9 : a.eval (.tmp 9) = s.2 := h4 6 _ rfl _ rfl
      have t46 := (h3 46 (by decide)).trans t46
      have A := A.keep h1 h2 h3 (by decide)
      clear h1 h2 h3 h4
      obtain ⟨g17, v⟩ := s
      have t9 : a.eval (.tmp 9) = v := t9
      obtain ⟨_, GG⟩ := hS
      refine wp_region_sqK 137 [(0, 54), (1, 46)] (fun i_ => match i_ with | 0 => .int .i64 ((k + 1 : Nat) : Int) | 1 => .int .i64 ((k + 1 : Nat) : Int) | _ => undef) A.sz (by kernel_rfl) (by decide) (by decide) ?_ ?_
      · intro i_ hi_ a hf hv hn
        match i_, hi_ with
        | 0, _ => exact stepV rfl rfl (execAd8 (p := k) (q := 1) rfl ((hn 1 (by omega) _ rfl _ rfl).trans t46) rfl (by have := hm; omega)) ⟨⟨_, rfl, rfl⟩, rfl⟩
        | 1, _ => exact stepV rfl rfl (execMvB rfl (hv 0 (by omega) _ rfl _ rfl)) ⟨⟨_, rfl, rfl⟩, rfl⟩
        | k_ + 2, h_ => exact absurd h_ (by simp)
      intro a h1 h2 h3 h4
      have t6 := (h3 6 (by decide)).trans t6
      have t38 := (h3 38 (by decide)).trans t38
      have t39 := (h3 39 (by decide)).trans t39
      have t40 := (h3 40 (by decide)).trans t40
      have t7 := (h3 7 (by decide)).trans t7
      have t9 := (h3 9 (by decide)).trans t9
      have t46 : a.eval (.tmp 46) = .int .i64 ((k + 1 : Nat) : Int) := h4 1 _ rfl _ rfl
      have A := A.keep h1 h2 h3 (by decide)
      clear h1 h2 h3 h4
      exact ⟨⟨k + 1, v, hk, A, ⟨t6, t38, t39, t40⟩, t7, t9, t46, GG⟩, by show 8 - (intOf (a.eval (.tmp 46))).toNat < 8 - (intOf (Act.eval _ (.tmp 46))).toNat; rw [t46, e46]; show 8 - (k + 1) < 8 - k; omega⟩
    · rw [decide_eq_false hk] at t47
      refine wp_cond_false t47 ?_
      refine wp_exit ?_
      first | refine exit_in ?_ | refine exit_then (exit_in ?_) | refine exit_then (exit_then (exit_in ?_))
      obtain rfl : k = 8 := by omega
      have hsv : ∃ g n c, v = .slice g n c := by
        obtain ⟨gv, gl, mo, hG⟩ := GG
        obtain ⟨q1, q2, e⟩ := own_shapeJ (hG.own hlt)
        exact ⟨_, _, _, e⟩
      obtain ⟨gv, gl, mo, hG⟩ := GG
      have cR : W.cell? ⟨R, 0 + i, none⟩ = some (mo i) := by rw [Nat.zero_add]; exact (hG.mn.at hlt).1
      have fR : W.frozen? ⟨R, 0 + i, none⟩ = false := by rw [Nat.zero_add]; exact (hG.mn.at hlt).2
      refine wp_region_sqW 137 [(0, 55), (1, 56), (2, 57), (3, 58)] (fun i_ => match i_ with | 0 => .slice (some ⟨R, 0, none⟩) m m | 1 => .int .i64 ((i : Nat) : Int) | 2 => v | 3 => .pointer (some ⟨R, 0 + i, none⟩) | 4 => undef | _ => undef) (fun i_ => match i_ with | 0 => W | 1 => W | 2 => W | 3 => W | 4 => W | _ => (W.setCell ⟨R, 0 + i, none⟩ v)) A.sz (by kernel_rfl) (by decide) (by decide) ?_ ?_
      · intro i_ hi_ a hf hv hn
        match i_, hi_ with
        | 0, _ => exact stepV rfl rfl (execMvB rfl ((hf 6 (by decide)).trans t6)) ⟨⟨_, rfl, rfl⟩, rfl⟩
        | 1, _ => exact stepV rfl rfl (execMvB rfl ((hf 7 (by decide)).trans t7)) ⟨⟨_, rfl, rfl⟩, rfl⟩
        | 2, _ => exact stepV rfl rfl (execMvB rfl ((hf 9 (by decide)).trans t9)) ⟨⟨_, rfl, rfl⟩, rfl⟩
        | 3, _ => exact stepV rfl rfl (Cf.execIdxL (k := i) rfl (hv 0 (by omega) _ rfl _ rfl) (hv 1 (by omega) _ rfl _ rfl) (by exact hlt)) ⟨⟨_, rfl, rfl⟩, rfl⟩
        | 4, _ => exact stepS rfl rfl (execStL rfl (hv 3 (by omega) _ rfl _ rfl) (hv 2 (by omega) _ rfl _ rfl) hsv cR fR) ⟨⟨_, rfl, rfl⟩, rfl⟩
        | k_ + 5, h_ => exact absurd h_ (by simp)
      intro a h1 h2 h3 h4
      have t6 := (h3 6 (by decide)).trans t6
      have t38 := (h3 38 (by decide)).trans t38
      have t39 := (h3 39 (by decide)).trans t39
      have t40 := (h3 40 (by decide)).trans t40
      have A := A.keep h1 h2 h3 (by decide)
      clear h1 h2 h3 h4
      have GS : ∃ gv gl mo, GSt B m nn x R V (W.setCell ⟨R, 0 + i, none⟩ v) 0 8 False (i + 1) gv gl mo := ⟨_, _, _, hG.put⟩
      clear hG cR fR
      revert GS
      generalize W.setCell ⟨R, 0 + i, none⟩ v = W
      intro GS
      refine wp_region_sqK 137 [(0, 59), (1, 40)] (fun i_ => match i_ with | 0 => .int .i64 ((i + 1 : Nat) : Int) | 1 => .int .i64 ((i + 1 : Nat) : Int) | _ => undef) A.sz (by kernel_rfl) (by decide) (by decide) ?_ ?_
      · intro i_ hi_ a hf hv hn
        match i_, hi_ with
        | 0, _ => exact stepV rfl rfl (execAd8 (p := i) (q := 1) rfl ((hn 1 (by omega) _ rfl _ rfl).trans t40) rfl (by have := hm; omega)) ⟨⟨_, rfl, rfl⟩, rfl⟩
        | 1, _ => exact stepV rfl rfl (execMvB rfl (hv 0 (by omega) _ rfl _ rfl)) ⟨⟨_, rfl, rfl⟩, rfl⟩
        | k_ + 2, h_ => exact absurd h_ (by simp)
      intro a h1 h2 h3 h4
      have t6 := (h3 6 (by decide)).trans t6
      have t38 := (h3 38 (by decide)).trans t38
      have t39 := (h3 39 (by decide)).trans t39
      have t40 : a.eval (.tmp 40) = .int .i64 ((i + 1 : Nat) : Int) := h4 1 _ rfl _ rfl
      have A := A.keep h1 h2 h3 (by decide)
      clear h1 h2 h3 h4
      exact ⟨⟨i + 1, hlt, A, ⟨t6, t38, t39, t40⟩, GS⟩, by show m - (intOf (a.eval (.tmp 40))).toNat < m - (intOf (Act.eval _ (.tmp 40))).toNat; rw [t40, e40]; show m - (i + 1) < m - i; omega⟩
  · rw [decide_eq_false hlt] at t41
    refine wp_cond_false t41 ?_
    refine wp_exit ?_
    first | refine exit_in ?_ | refine exit_then (exit_in ?_) | refine exit_then (exit_then (exit_in ?_))
    obtain rfl : i = m := by omega
    exact h a W R A GS t6
theorem GSt.again {B m : Nat} {nn : Nat → Nat} {x : Nat → Value} {R : Nat} {V W : World} {gv : Nat → Value} {gl : Nat → Nat} {mo : Nat → Value} (h : GSt B m nn x R V W 0 8 False m gv gl mo) : GSt B m nn x R V W 8 68 True 0 gv gl mo :=
  ⟨h.mn, fun t ht => by rw [h.len t ht, if_pos ht, if_neg (by omega)], fun t _ q => by omega, fun t ht _ => ⟨fun _ => h.done t ht ht, fun q => absurd trivial q⟩⟩
set_option maxRecDepth 100000 in
set_option maxHeartbeats 4000000 in
theorem ap28c (B m lg lc : Nat) (nn : Nat → Nat) (x : Nat → Value) (V : World) (hm : m ≤ 5000) (hnn : ∀ t, t < m → nn t ≤ 140737488351232) (hB : B ≤ V.heap.size) (R : Nat)
    (h : ∀ (a : Act) (W : World), AA (.slice (some ⟨lg, 0, none⟩) m lc) a → (∃ gv gl mo, GSt B m nn x R V W 8 68 True m gv gl mo) → a.eval (.tmp 6) = .slice (some ⟨R, 0, none⟩) m m → (fromR 30 (Try.f17.body.getD .skip)).wp Try.prog (bodyPost Try.prog Try.f17 fun e w' => e = .returned (.bool true) ∧ Saved (Gx m x) V w') a W)
    (a : Act) (W : World) (A : AA (.slice (some ⟨lg, 0, none⟩) m lc) a) (GS : ∃ gv gl mo, GSt B m nn x R V W 8 68 True 0 gv gl mo) (t6 : a.eval (.tmp 6) = .slice (some ⟨R, 0, none⟩) m m) : (fromR 21 (Try.f17.body.getD .skip)).wp Try.prog (bodyPost Try.prog Try.f17 fun e w' => e = .returned (.bool true) ∧ Saved (Gx m x) V w') a W := by
  refine wp_seq ?_
  refine wp_seq ?_
  refine wp_region_sqK 137 [(0, 60), (1, 61), (2, 62)] (fun i_ => match i_ with | 0 => .slice (some ⟨R, 0, none⟩) m m | 1 => .int .i64 ((m : Nat) : Int) | 2 => .int .i64 ((0 : Nat) : Int) | _ => undef) A.sz (by kernel_rfl) (by decide) (by decide) ?_ ?_
  · intro i_ hi_ a hf hv hn
    match i_, hi_ with
    | 0, _ => exact stepV rfl rfl (execMvB rfl ((hf 6 (by decide)).trans t6)) ⟨⟨_, rfl, rfl⟩, rfl⟩
    | 1, _ => exact stepV rfl rfl (execLenL (len := m) rfl (hv 0 (by omega) _ rfl _ rfl)) ⟨⟨_, rfl, rfl⟩, rfl⟩
    | 2, _ => exact stepV rfl rfl (execMvB rfl rfl) ⟨⟨_, rfl, rfl⟩, rfl⟩
    | k_ + 3, h_ => exact absurd h_ (by simp)
  intro a h1 h2 h3 h4
  have t6 := (h3 6 (by decide)).trans t6
  have t60 : a.eval (.tmp 60) = .slice (some ⟨R, 0, none⟩) m m := h4 0 _ rfl _ rfl
  have t61 : a.eval (.tmp 61) = .int .i64 ((m : Nat) : Int) := h4 1 _ rfl _ rfl
  have t62 : a.eval (.tmp 62) = .int .i64 ((0 : Nat) : Int) := h4 2 _ rfl _ rfl
  have A := A.keep h1 h2 h3 (by decide)
  clear h1 h2 h3 h4
  refine wp_block ?_
  refine wp_loop (fun a W => ∃ i : Nat, i ≤ m ∧ AA (.slice (some ⟨lg, 0, none⟩) m lc) a ∧ (a.eval (.tmp 6) = .slice (some ⟨R, 0, none⟩) m m ∧ a.eval (.tmp 60) = .slice (some ⟨R, 0, none⟩) m m ∧ a.eval (.tmp 61) = .int .i64 ((m : Nat) : Int) ∧ a.eval (.tmp 62) = .int .i64 ((i : Nat) : Int)) ∧ ∃ gv gl mo, GSt B m nn x R V W 8 68 True i gv gl mo) (fun a _ => m - (intOf (a.eval (.tmp 62))).toNat) ⟨0, by omega, A, ⟨t6, t60, t61, t62⟩, GS⟩ ?_
  clear A t6 t60 t61 t62 GS a W
  rintro a W ⟨i, hi, A, ⟨t6, t60, t61, t62⟩, GS⟩
  have e62 := t62
  refine wp_seq ?_
  refine wp_region_sqK 137 [(0, 63)] (fun i_ => match i_ with | 0 => .bool (decide (i < m)) | _ => undef) A.sz (by kernel_rfl) (by decide) (by decide) ?_ ?_
  · intro i_ hi_ a hf hv hn
    match i_, hi_ with
    | 0, _ => exact stepV rfl rfl (execLtW (p := i) (q := m) rfl ((hf 62 (by decide)).trans t62) ((hf 61 (by decide)).trans t61)) ⟨⟨_, rfl, rfl⟩, rfl⟩
    | k_ + 1, h_ => exact absurd h_ (by simp)
  intro a h1 h2 h3 h4
  have t6 := (h3 6 (by decide)).trans t6
  have t60 := (h3 60 (by decide)).trans t60
  have t61 := (h3 61 (by decide)).trans t61
  have t62 := (h3 62 (by decide)).trans t62
  have t63 : a.eval (.tmp 63) = .bool (decide (i < m)) := h4 0 _ rfl _ rfl
  have A := A.keep h1 h2 h3 (by decide)
  clear h1 h2 h3 h4
  refine wp_seq ?_
  by_cases hlt : i < m
  · rw [decide_eq_true hlt] at t63
    refine wp_cond_true t63 ?_
    refine wp_skip ?_
    clear t63
    obtain ⟨gv, gl, mo, GS⟩ := GS
    have ev : mo i = gv i := (GS.todo i hlt (by omega)).1 trivial
    have G0 := GS.start hlt
    obtain ⟨v0, hv0⟩ : ∃ v0, v0 = gv i := ⟨_, rfl⟩
    have cM : W.cell? ⟨R, 0 + i, none⟩ = some v0 := by rw [Nat.zero_add, (GS.mn.at hlt).1, ev, hv0]
    rw [← hv0] at G0
    have GG : ∃ gv gl mo, GI B m nn x R V W 8 68 True i (nn i + (8 + 3 * 0)) v0 gv gl mo := ⟨_, _, _, G0⟩
    clear G0 GS ev hv0
    refine wp_seq ?_
    refine wp_block ?_
    refine wp_seq ?_
    refine wp_region_sqK 137 [(0, 64), (1, 65), (2, 66), (3, 10), (4, 11)] (fun i_ => match i_ with | 0 => .int .i64 ((i : Nat) : Int) | 1 => .pointer (some ⟨R, 0 + i, none⟩) | 2 => v0 | 3 => .int .i64 ((i : Nat) : Int) | 4 => v0 | _ => undef) A.sz (by kernel_rfl) (by decide) (by decide) ?_ ?_
    · intro i_ hi_ a hf hv hn
      match i_, hi_ with
      | 0, _ => exact stepV rfl rfl (execMvB rfl ((hf 62 (by decide)).trans t62)) ⟨⟨_, rfl, rfl⟩, rfl⟩
      | 1, _ => exact stepV rfl rfl (Cf.execIdxL (k := i) rfl ((hf 60 (by decide)).trans t60) ((hf 62 (by decide)).trans t62) (by exact hlt)) ⟨⟨_, rfl, rfl⟩, rfl⟩
      | 2, _ => exact stepV rfl rfl (execLdL rfl (hv 1 (by omega) _ rfl _ rfl) cM) ⟨⟨_, rfl, rfl⟩, rfl⟩
      | 3, _ => exact stepV rfl rfl (execAsgB rfl (hv 0 (by omega) _ rfl _ rfl)) ⟨⟨_, rfl, rfl⟩, rfl⟩
      | 4, _ => exact stepV rfl rfl (execAsgB rfl (hv 2 (by omega) _ rfl _ rfl)) ⟨⟨_, rfl, rfl⟩, rfl⟩
      | k_ + 5, h_ => exact absurd h_ (by simp)
    intro a h1 h2 h3 h4
    have t6 := (h3 6 (by decide)).trans t6
    have t60 := (h3 60 (by decide)).trans t60
    have t61 := (h3 61 (by decide)).trans t61
    have t62 := (h3 62 (by decide)).trans t62
    have t10 : a.eval (.tmp 10) = .int .i64 ((i : Nat) : Int) := h4 3 _ rfl _ rfl
    have t11 : a.eval (.tmp 11) = v0 := h4 4 _ rfl _ rfl
    have A := A.keep h1 h2 h3 (by decide)
    clear h1 h2 h3 h4
    clear cM
    refine wp_seq ?_
    refine wp_seq ?_
    refine wp_region_sqK 137 [(0, 67)] (fun i_ => match i_ with | 0 => .int .i64 ((0 : Nat) : Int) | _ => undef) A.sz (by kernel_rfl) (by decide) (by decide) ?_ ?_
    · intro i_ hi_ a hf hv hn
      match i_, hi_ with
      | 0, _ => exact stepV rfl rfl (execMvB rfl rfl) ⟨⟨_, rfl, rfl⟩, rfl⟩
      | k_ + 1, h_ => exact absurd h_ (by simp)
    intro a h1 h2 h3 h4
    have t6 := (h3 6 (by decide)).trans t6
    have t60 := (h3 60 (by decide)).trans t60
    have t61 := (h3 61 (by decide)).trans t61
    have t62 := (h3 62 (by decide)).trans t62
    have t10 := (h3 10 (by decide)).trans t10
    have t11 := (h3 11 (by decide)).trans t11
    have t67 : a.eval (.tmp 67) = .int .i64 ((0 : Nat) : Int) := h4 0 _ rfl _ rfl
    have A := A.keep h1 h2 h3 (by decide)
    clear h1 h2 h3 h4
    refine wp_block ?_
    refine wp_loop (fun a W => ∃ (k : Nat) (v : Value), k ≤ 20 ∧ AA (.slice (some ⟨lg, 0, none⟩) m lc) a ∧ (a.eval (.tmp 6) = .slice (some ⟨R, 0, none⟩) m m ∧ a.eval (.tmp 60) = .slice (some ⟨R, 0, none⟩) m m ∧ a.eval (.tmp 61) = .int .i64 ((m : Nat) : Int) ∧ a.eval (.tmp 62) = .int .i64 ((i : Nat) : Int)) ∧ a.eval (.tmp 10) = .int .i64 ((i : Nat) : Int) ∧ a.eval (.tmp 11) = v ∧ a.eval (.tmp 67) = .int .i64 ((k : Nat) : Int) ∧ ∃ gv gl mo, GI B m nn x R V W 8 68 True i (nn i + (8 + 3 * k)) v gv gl mo) (fun a _ => 20 - (intOf (a.eval (.tmp 67))).toNat) ⟨0, _, by omega, A, ⟨t6, t60, t61, t62⟩, t10, t11, t67, GG⟩ ?_
    clear A t6 t60 t61 t62 t10 t11 t67 GG a W
    rintro a W ⟨k, v, hk0, A, ⟨t6, t60, t61, t62⟩, t10, t11, t67, GG⟩
    have e67 := t67
    refine wp_seq ?_
    refine wp_region_sqK 137 [(0, 68)] (fun i_ => match i_ with | 0 => .bool (decide (k < 20)) | _ => undef) A.sz (by kernel_rfl) (by decide) (by decide) ?_ ?_
    · intro i_ hi_ a hf hv hn
      match i_, hi_ with
      | 0, _ => exact stepV rfl rfl (execLt8 (p := k) (q := 20) rfl ((hf 67 (by decide)).trans t67)) ⟨⟨_, rfl, rfl⟩, rfl⟩
      | k_ + 1, h_ => exact absurd h_ (by simp)
    intro a h1 h2 h3 h4
    have t6 := (h3 6 (by decide)).trans t6
    have t60 := (h3 60 (by decide)).trans t60
    have t61 := (h3 61 (by decide)).trans t61
    have t62 := (h3 62 (by decide)).trans t62
    have t10 := (h3 10 (by decide)).trans t10
    have t11 := (h3 11 (by decide)).trans t11
    have t67 := (h3 67 (by decide)).trans t67
    have t68 : a.eval (.tmp 68) = .bool (decide (k < 20)) := h4 0 _ rfl _ rfl
    have A := A.keep h1 h2 h3 (by decide)
    clear h1 h2 h3 h4
    refine wp_seq ?_
    by_cases hk : k < 20
    · rw [decide_eq_true hk] at t68
      refine wp_cond_true t68 ?_
      refine wp_skip ?_
      clear t68
      refine wp_seq ?_
      refine wp_block ?_
      refine wp_region_sq (σ := Nat × Value) 137 [(0, 69), (1, 70), (2, 71), (3, 72), (4, 73), (5, 74), (6, 75), (7, 76), (8, 77), (9, 78), (10, 79), (11, 80), (12, 11)] (fun j_ s X => True ∧ (match j_ with | 0 => (∃ gv gl mo, GI B m nn x R V X 8 68 True i (nn i + (8 + 3 * k)) v gv gl mo) | 1 => (∃ gv gl mo, GI B m nn x R V X 8 68 True i (nn i + (8 + 3 * k)) v gv gl mo) | 2 => (∃ gv gl mo, GI B m nn x R V X 8 68 True i (nn i + (8 + 3 * k)) v gv gl mo) | 3 => (∃ gv gl mo, GI B m nn x R V X 8 68 True i (nn i + (8 + 3 * k)) v gv gl mo) | 4 => (∃ gv gl mo, GI B m nn x R V X 8 68 True i (nn i + (8 + 3 * k)) v gv gl mo) | 5 => (∃ gv gl mo, GI B m nn x R V X 8 68 True i (nn i + (8 + 3 * k)) v gv gl mo) | 6 => (∃ gv gl mo, GI B m nn x R V X 8 68 True i (nn i + (8 + 3 * k)) v gv gl mo) | 7 => (∃ gv gl mo, GI B m nn x R V X 8 68 True i (nn i + (8 + 3 * k)) v gv gl mo) | 8 => (∃ gv gl mo, GI B m nn x R V X 8 68 True i (nn i + (8 + 3 * k)) v gv gl mo) | 9 => (∃ gv gl mo, GI B m nn x R V X 8 68 True i (nn i + (8 + 3 * k)) v gv gl mo) | 10 => (∃ gv gl mo, GI B m nn x R V X 8 68 True i (nn i + (8 + 3 * k)) v gv gl mo) | 11 => (∃ gv gl mo, GI B m nn x R V X 8 68 True i (nn i + (8 + 3 * k)) v gv gl mo) ∧ X.heap[s.1]? = some (.cells #[.int .u8 (((i + 100) % 256 : Nat) : Int), .int .u8 (((i + 100) % 256 : Nat) : Int), .int .u8 (((i + 100) % 256 : Nat) : Int)] 5) | 12 => (∃ gv gl mo, GI B m nn x R V X 8 68 True i (nn i + (8 + 3 * k) + 3) s.2 gv gl mo) | _ => (∃ gv gl mo, GI B m nn x R V X 8 68 True i (nn i + (8 + 3 * k) + 3) s.2 gv gl mo))) (fun s => fun i_ => match i_ with | 0 => v | 1 => .int .i64 ((i : Nat) : Int) | 2 => .int .i64 ((i + 100 : Nat) : Int) | 3 => .int .u8 (((i + 100) % 256 : Nat) : Int) | 4 => .int .i64 ((i : Nat) : Int) | 5 => .int .i64 ((i + 100 : Nat) : Int) | 6 => .int .u8 (((i + 100) % 256 : Nat) : Int) | 7 => .int .i64 ((i : Nat) : Int) | 8 => .int .i64 ((i + 100 : Nat) : Int) | 9 => .int .u8 (((i + 100) % 256 : Nat) : Int) | 10 => .slice (some ⟨s.1, 0, none⟩) 3 3 | 11 => s.2 | 12 => s.2 | _ => undef) (0, undef) A.sz (by kernel_rfl) (by decide) (by decide) ⟨trivial, GG⟩ ?_ ?_
      · intro i_ hi_ s a X hf hv hn hS
        match i_, hi_ with
        | 0, _ => exact stepV rfl rfl (execMvB rfl ((hn 12 (by omega) _ rfl _ rfl).trans t11)) ⟨s, ⟨_, rfl, rfl⟩, hS, fun _ _ => rfl⟩
        | 1, _ => exact stepV rfl rfl (execMvB rfl ((hf 10 (by decide)).trans t10)) ⟨s, ⟨_, rfl, rfl⟩, hS, fun _ _ => rfl⟩
        | 2, _ => exact stepV rfl rfl (execAd8 (p := i) (q := 100) rfl (hv 1 (by omega) _ rfl _ rfl) rfl (by have := hm; omega)) ⟨s, ⟨_, rfl, rfl⟩, hS, fun _ _ => rfl⟩
        | 3, _ => exact stepV rfl rfl (execU8 (n := i + 100) rfl (hv 2 (by omega) _ rfl _ rfl)) ⟨s, ⟨_, rfl, rfl⟩, hS, fun _ _ => rfl⟩
        | 4, _ => exact stepV rfl rfl (execMvB rfl ((hf 10 (by decide)).trans t10)) ⟨s, ⟨_, rfl, rfl⟩, hS, fun _ _ => rfl⟩
        | 5, _ => exact stepV rfl rfl (execAd8 (p := i) (q := 100) rfl (hv 4 (by omega) _ rfl _ rfl) rfl (by have := hm; omega)) ⟨s, ⟨_, rfl, rfl⟩, hS, fun _ _ => rfl⟩
        | 6, _ => exact stepV rfl rfl (execU8 (n := i + 100) rfl (hv 5 (by omega) _ rfl _ rfl)) ⟨s, ⟨_, rfl, rfl⟩, hS, fun _ _ => rfl⟩
        | 7, _ => exact stepV rfl rfl (execMvB rfl ((hf 10 (by decide)).trans t10)) ⟨s, ⟨_, rfl, rfl⟩, hS, fun _ _ => rfl⟩
        | 8, _ => exact stepV rfl rfl (execAd8 (p := i) (q := 100) rfl (hv 7 (by omega) _ rfl _ rfl) rfl (by have := hm; omega)) ⟨s, ⟨_, rfl, rfl⟩, hS, fun _ _ => rfl⟩
        | 9, _ => exact stepV rfl rfl (execU8 (n := i + 100) rfl (hv 8 (by omega) _ rfl _ rfl)) ⟨s, ⟨_, rfl, rfl⟩, hS, fun _ _ => rfl⟩
        | 10, _ =>
          obtain ⟨gv, gl, mo, hG⟩ := hS.2
          refine stepV rfl rfl (execBsV3 rfl (hv 3 (by omega) _ rfl _ rfl) (hv 6 (by omega) _ rfl _ rfl) (hv 9 (by omega) _ rfl _ rfl)) ⟨(X.heap.size, s.2), ⟨_, rfl, rfl⟩, ⟨trivial, ⟨gv, gl, mo, hG.on (belNew X _)⟩, heapNew X _⟩, fun i hi => ?_⟩
          match i, hi with
          | 0, _ => rfl
          | 1, _ => rfl
          | 2, _ => rfl
          | 3, _ => rfl
          | 4, _ => rfl
          | 5, _ => rfl
          | 6, _ => rfl
          | 7, _ => rfl
          | 8, _ => rfl
          | 9, _ => rfl
          | n_ + 10, h_ => omega
        | 11, _ =>
          obtain ⟨⟨gv, gl, mo, hG⟩, hlit⟩ := hS.2
          refine stepApp9 rfl rfl rfl (hv 0 (by omega) _ rfl _ rfl) (hv 10 (by omega) _ rfl _ rfl) hG hlit (fun l hl => ?_) hlt (by omega) (by have := hnn i hlt; omega) hB fun v' W' gv' gl' hA => ⟨(s.1, v'), ⟨_, rfl, rfl⟩, ⟨trivial, gv', gl', mo, hA⟩, fun i hi => ?_⟩
          · match l, hl with
            | 0, _ => rfl
            | 1, _ => rfl
            | 2, _ => rfl
          · match i, hi with
            | 0, _ => rfl
            | 1, _ => rfl
            | 2, _ => rfl
            | 3, _ => rfl
            | 4, _ => rfl
            | 5, _ => rfl
            | 6, _ => rfl
            | 7, _ => rfl
            | 8, _ => rfl
            | 9, _ => rfl
            | 10, _ => rfl
            | n_ + 11, h_ => omega
        | 12, _ => exact stepV rfl rfl (execAsgB rfl (hv 11 (by omega) _ rfl _ rfl)) ⟨s, ⟨_, rfl, rfl⟩, hS, fun _ _ => rfl⟩
        | k_ + 13, h_ => exact absurd h_ (by simp)
      intro s a X h1 h2 h3 h4 hS
      have hS : True ∧ (∃ gv gl mo, GI B m nn x R V X 8 68 True i (nn i + (8 + 3 * k) + 3) s.2 gv gl mo) := hS
      have t6 := (h3 6 (by decide)).trans t6
      have t60 := (h3 60 (by decide)).trans t60
      have t61 := (h3 61 (by decide)).trans t61
      have t62 := (h3 62 (by decide)).trans t62
      have t10 := (h3 10 (by decide)).trans t10
      have t11 : a.eval (.tmp 11) = s.2 := h4 12 _ rfl _ rfl
      have t67 := (h3 67 (by decide)).trans t67
      have A := A.keep h1 h2 h3 (by decide)
      clear h1 h2 h3 h4
      obtain ⟨g26, v⟩ := s
      have t11 : a.eval (.tmp 11) = v := t11
      obtain ⟨_, GG⟩ := hS
      have GG : ∃ gv gl mo, GI B m nn x R V X 8 68 True i (nn i + (8 + 3 * (k + 1))) v gv gl mo := GG
      refine wp_region_sqK 137 [(0, 81), (1, 67)] (fun i_ => match i_ with | 0 => .int .i64 ((k + 1 : Nat) : Int) | 1 => .int .i64 ((k + 1 : Nat) : Int) | _ => undef) A.sz (by kernel_rfl) (by decide) (by decide) ?_ ?_
      · intro i_ hi_ a hf hv hn
        match i_, hi_ with
        | 0, _ => exact stepV rfl rfl (execAd8 (p := k) (q := 1) rfl ((hn 1 (by omega) _ rfl _ rfl).trans t67) rfl (by have := hm; omega)) ⟨⟨_, rfl, rfl⟩, rfl⟩
        | 1, _ => exact stepV rfl rfl (execMvB rfl (hv 0 (by omega) _ rfl _ rfl)) ⟨⟨_, rfl, rfl⟩, rfl⟩
        | k_ + 2, h_ => exact absurd h_ (by simp)
      intro a h1 h2 h3 h4
      have t6 := (h3 6 (by decide)).trans t6
      have t60 := (h3 60 (by decide)).trans t60
      have t61 := (h3 61 (by decide)).trans t61
      have t62 := (h3 62 (by decide)).trans t62
      have t10 := (h3 10 (by decide)).trans t10
      have t11 := (h3 11 (by decide)).trans t11
      have t67 : a.eval (.tmp 67) = .int .i64 ((k + 1 : Nat) : Int) := h4 1 _ rfl _ rfl
      have A := A.keep h1 h2 h3 (by decide)
      clear h1 h2 h3 h4
      exact ⟨⟨k + 1, v, hk, A, ⟨t6, t60, t61, t62⟩, t10, t11, t67, GG⟩, by show 20 - (intOf (a.eval (.tmp 67))).toNat < 20 - (intOf (Act.eval _ (.tmp 67))).toNat; rw [t67, e67]; show 20 - (k + 1) < 20 - k; omega⟩
    · rw [decide_eq_false hk] at t68
      refine wp_cond_false t68 ?_
      refine wp_exit ?_
      first | refine exit_in ?_ | refine exit_then (exit_in ?_) | refine exit_then (exit_then (exit_in ?_))
      obtain rfl : k = 20 := by omega
      have hsv : ∃ g n c, v = .slice g n c := by
        obtain ⟨gv, gl, mo, hG⟩ := GG
        obtain ⟨q1, q2, e⟩ := own_shapeJ (hG.own hlt)
        exact ⟨_, _, _, e⟩
      obtain ⟨gv, gl, mo, hG⟩ := GG
      have cR : W.cell? ⟨R, 0 + i, none⟩ = some (mo i) := by rw [Nat.zero_add]; exact (hG.mn.at hlt).1
      have fR : W.frozen? ⟨R, 0 + i, none⟩ = false := by rw [Nat.zero_add]; exact (hG.mn.at hlt).2
      refine wp_region_sqW 137 [(0, 82), (1, 83), (2, 84), (3, 85)] (fun i_ => match i_ with | 0 => .slice (some ⟨R, 0, none⟩) m m | 1 => .int .i64 ((i : Nat) : Int) | 2 => v | 3 => .pointer (some ⟨R, 0 + i, none⟩) | 4 => undef | _ => undef) (fun i_ => match i_ with | 0 => W | 1 => W | 2 => W | 3 => W | 4 => W | _ => (W.setCell ⟨R, 0 + i, none⟩ v)) A.sz (by kernel_rfl) (by decide) (by decide) ?_ ?_
      · intro i_ hi_ a hf hv hn
        match i_, hi_ with
        | 0, _ => exact stepV rfl rfl (execMvB rfl ((hf 6 (by decide)).trans t6)) ⟨⟨_, rfl, rfl⟩, rfl⟩
        | 1, _ => exact stepV rfl rfl (execMvB rfl ((hf 10 (by decide)).trans t10)) ⟨⟨_, rfl, rfl⟩, rfl⟩
        | 2, _ => exact stepV rfl rfl (execMvB rfl ((hf 11 (by decide)).trans t11)) ⟨⟨_, rfl, rfl⟩, rfl⟩
        | 3, _ => exact stepV rfl rfl (Cf.execIdxL (k := i) rfl (hv 0 (by omega) _ rfl _ rfl) (hv 1 (by omega) _ rfl _ rfl) (by exact hlt)) ⟨⟨_, rfl, rfl⟩, rfl⟩
        | 4, _ => exact stepS rfl rfl (execStL rfl (hv 3 (by omega) _ rfl _ rfl) (hv 2 (by omega) _ rfl _ rfl) hsv cR fR) ⟨⟨_, rfl, rfl⟩, rfl⟩
        | k_ + 5, h_ => exact absurd h_ (by simp)
      intro a h1 h2 h3 h4
      have t6 := (h3 6 (by decide)).trans t6
      have t60 := (h3 60 (by decide)).trans t60
      have t61 := (h3 61 (by decide)).trans t61
      have t62 := (h3 62 (by decide)).trans t62
      have A := A.keep h1 h2 h3 (by decide)
      clear h1 h2 h3 h4
      have GS : ∃ gv gl mo, GSt B m nn x R V (W.setCell ⟨R, 0 + i, none⟩ v) 8 68 True (i + 1) gv gl mo := ⟨_, _, _, hG.put⟩
      clear hG cR fR
      revert GS
      generalize W.setCell ⟨R, 0 + i, none⟩ v = W
      intro GS
      refine wp_region_sqK 137 [(0, 86), (1, 62)] (fun i_ => match i_ with | 0 => .int .i64 ((i + 1 : Nat) : Int) | 1 => .int .i64 ((i + 1 : Nat) : Int) | _ => undef) A.sz (by kernel_rfl) (by decide) (by decide) ?_ ?_
      · intro i_ hi_ a hf hv hn
        match i_, hi_ with
        | 0, _ => exact stepV rfl rfl (execAd8 (p := i) (q := 1) rfl ((hn 1 (by omega) _ rfl _ rfl).trans t62) rfl (by have := hm; omega)) ⟨⟨_, rfl, rfl⟩, rfl⟩
        | 1, _ => exact stepV rfl rfl (execMvB rfl (hv 0 (by omega) _ rfl _ rfl)) ⟨⟨_, rfl, rfl⟩, rfl⟩
        | k_ + 2, h_ => exact absurd h_ (by simp)
      intro a h1 h2 h3 h4
      have t6 := (h3 6 (by decide)).trans t6
      have t60 := (h3 60 (by decide)).trans t60
      have t61 := (h3 61 (by decide)).trans t61
      have t62 : a.eval (.tmp 62) = .int .i64 ((i + 1 : Nat) : Int) := h4 1 _ rfl _ rfl
      have A := A.keep h1 h2 h3 (by decide)
      clear h1 h2 h3 h4
      exact ⟨⟨i + 1, hlt, A, ⟨t6, t60, t61, t62⟩, GS⟩, by show m - (intOf (a.eval (.tmp 62))).toNat < m - (intOf (Act.eval _ (.tmp 62))).toNat; rw [t62, e62]; show m - (i + 1) < m - i; omega⟩
  · rw [decide_eq_false hlt] at t63
    refine wp_cond_false t63 ?_
    refine wp_exit ?_
    first | refine exit_in ?_ | refine exit_then (exit_in ?_) | refine exit_then (exit_then (exit_in ?_))
    obtain rfl : i = m := by omega
    exact h a W A GS t6
end Go.Proofs.Ytcibogmghagpoaa.Dro
