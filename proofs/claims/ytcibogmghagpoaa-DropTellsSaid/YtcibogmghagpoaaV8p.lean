import Derived.Test.YtcibogmghagpoaaV8o
namespace Go.Proofs.Ytcibogmghagpoaa.Dro
open Go.RowKit Gf8 Aes By8 Cel Cf Tap
/- Stage 28's apart: all is looked at; the whole. Written by tools/mkV8n.py. -/

set_option maxRecDepth 100000 in
set_option maxHeartbeats 4000000 in
theorem ap28d (B A0 m lg lc : Nat) (nn : Nat → Nat) (x : Nat → Value) (f : Nat → Nat → Nat) (V : World) (hown : V.ownsRow A0 23 1 (.slice (some ⟨lg, 0, none⟩) m lc) m (lL x m)) (hf0 : Fam B m x nn f V) (hm : m ≤ 5000) (hnn : ∀ t, t < m → nn t ≤ 140737488351232) (R : Nat) (gv : Nat → Value) (gl : Nat → Nat) (mo : Nat → Value)
    (a : Act) (Wc : World) (A : AA (.slice (some ⟨lg, 0, none⟩) m lc) a) (GS : GSt B m nn x R V Wc 8 68 True m gv gl mo) (t6 : a.eval (.tmp 6) = .slice (some ⟨R, 0, none⟩) m m) : (fromR 30 (Try.f17.body.getD .skip)).wp Try.prog (bodyPost Try.prog Try.f17 fun e w' => e = .returned (.bool true) ∧ Saved (Gx m x) V w') a Wc := by
  obtain ⟨W, hW⟩ : ∃ W, W = Wc := ⟨_, rfl⟩
  rw [← hW]
  refine wp_seq ?_
  refine wp_seq ?_
  refine wp_region_sqK 137 [(0, 87), (1, 88), (2, 89)] (fun i_ => match i_ with | 0 => .slice (some ⟨lg, 0, none⟩) m lc | 1 => .int .i64 ((m : Nat) : Int) | 2 => .int .i64 ((0 : Nat) : Int) | _ => undef) A.sz (by kernel_rfl) (by decide) (by decide) ?_ ?_
  · intro i_ hi_ a hf hv hn
    match i_, hi_ with
    | 0, _ => exact stepV rfl rfl (execMvB rfl ((hf 0 (by decide)).trans A.t0)) ⟨⟨_, rfl, rfl⟩, rfl⟩
    | 1, _ => exact stepV rfl rfl (execLenL (len := m) rfl (hv 0 (by omega) _ rfl _ rfl)) ⟨⟨_, rfl, rfl⟩, rfl⟩
    | 2, _ => exact stepV rfl rfl (execMvB rfl rfl) ⟨⟨_, rfl, rfl⟩, rfl⟩
    | k_ + 3, h_ => exact absurd h_ (by simp)
  intro a h1 h2 h3 h4
  have t6 := (h3 6 (by decide)).trans t6
  have t87 : a.eval (.tmp 87) = .slice (some ⟨lg, 0, none⟩) m lc := h4 0 _ rfl _ rfl
  have t88 : a.eval (.tmp 88) = .int .i64 ((m : Nat) : Int) := h4 1 _ rfl _ rfl
  have t89 : a.eval (.tmp 89) = .int .i64 ((0 : Nat) : Int) := h4 2 _ rfl _ rfl
  have A := A.keep h1 h2 h3 (by decide)
  clear h1 h2 h3 h4
  refine wp_block ?_
  refine wp_loop (fun a W => ∃ i : Nat, i ≤ m ∧ AA (.slice (some ⟨lg, 0, none⟩) m lc) a ∧ (a.eval (.tmp 6) = .slice (some ⟨R, 0, none⟩) m m ∧ a.eval (.tmp 87) = .slice (some ⟨lg, 0, none⟩) m lc ∧ a.eval (.tmp 88) = .int .i64 ((m : Nat) : Int) ∧ a.eval (.tmp 89) = .int .i64 ((i : Nat) : Int)) ∧ W = Wc) (fun a _ => m - (intOf (a.eval (.tmp 89))).toNat) ⟨0, by omega, A, ⟨t6, t87, t88, t89⟩, hW⟩ ?_
  clear A t6 t87 t88 t89 hW a W
  rintro a W ⟨i, hi, A, ⟨t6, t87, t88, t89⟩, rfl⟩
  have e89 := t89
  refine wp_seq ?_
  refine wp_region_sqK 137 [(0, 90)] (fun i_ => match i_ with | 0 => .bool (decide (i < m)) | _ => undef) A.sz (by kernel_rfl) (by decide) (by decide) ?_ ?_
  · intro i_ hi_ a hf hv hn
    match i_, hi_ with
    | 0, _ => exact stepV rfl rfl (execLtW (p := i) (q := m) rfl ((hf 89 (by decide)).trans t89) ((hf 88 (by decide)).trans t88)) ⟨⟨_, rfl, rfl⟩, rfl⟩
    | k_ + 1, h_ => exact absurd h_ (by simp)
  intro a h1 h2 h3 h4
  have t6 := (h3 6 (by decide)).trans t6
  have t87 := (h3 87 (by decide)).trans t87
  have t88 := (h3 88 (by decide)).trans t88
  have t89 := (h3 89 (by decide)).trans t89
  have t90 : a.eval (.tmp 90) = .bool (decide (i < m)) := h4 0 _ rfl _ rfl
  have A := A.keep h1 h2 h3 (by decide)
  clear h1 h2 h3 h4
  refine wp_seq ?_
  by_cases hlt : i < m
  · rw [decide_eq_true hlt] at t90
    refine wp_cond_true t90 ?_
    refine wp_skip ?_
    clear t90
    obtain ⟨xa, xc, ex⟩ := own_shapeJ (hf0.rows i hlt)
    have cX := lists_at hown hf0 GS.mn.sv hlt
    rw [ex] at cX
    have own := GS.mn.ap.grown i hlt
    rw [GS.len i hlt, if_pos hlt] at own
    obtain ⟨qg, qc, eq, _⟩ := own_cells own (by omega)
    rw [eq] at own
    have cM : W.cell? ⟨R, 0 + i, none⟩ = some (.slice (some ⟨qg, 0, none⟩) (nn i + 68) qc) := by rw [Nat.zero_add, (GS.mn.at hlt).1, GS.done i hlt hlt, eq]
    refine wp_seq ?_
    refine wp_block ?_
    refine wp_seq ?_
    refine wp_region_sqK 137 [(0, 91), (1, 92), (2, 93), (3, 12), (4, 13)] (fun i_ => match i_ with | 0 => .int .i64 ((i : Nat) : Int) | 1 => .pointer (some ⟨lg, 0 + i, none⟩) | 2 => .slice xa (nn i) xc | 3 => .int .i64 ((i : Nat) : Int) | 4 => .slice xa (nn i) xc | _ => undef) A.sz (by kernel_rfl) (by decide) (by decide) ?_ ?_
    · intro i_ hi_ a hf hv hn
      match i_, hi_ with
      | 0, _ => exact stepV rfl rfl (execMvB rfl ((hf 89 (by decide)).trans t89)) ⟨⟨_, rfl, rfl⟩, rfl⟩
      | 1, _ => exact stepV rfl rfl (Cf.execIdxL (k := i) rfl ((hf 87 (by decide)).trans t87) ((hf 89 (by decide)).trans t89) (by exact hlt)) ⟨⟨_, rfl, rfl⟩, rfl⟩
      | 2, _ => exact stepV rfl rfl (execLdL rfl (hv 1 (by omega) _ rfl _ rfl) cX) ⟨⟨_, rfl, rfl⟩, rfl⟩
      | 3, _ => exact stepV rfl rfl (execAsgB rfl (hv 0 (by omega) _ rfl _ rfl)) ⟨⟨_, rfl, rfl⟩, rfl⟩
      | 4, _ => exact stepV rfl rfl (execAsgB rfl (hv 2 (by omega) _ rfl _ rfl)) ⟨⟨_, rfl, rfl⟩, rfl⟩
      | k_ + 5, h_ => exact absurd h_ (by simp)
    intro a h1 h2 h3 h4
    have t6 := (h3 6 (by decide)).trans t6
    have t87 := (h3 87 (by decide)).trans t87
    have t88 := (h3 88 (by decide)).trans t88
    have t89 := (h3 89 (by decide)).trans t89
    have t12 : a.eval (.tmp 12) = .int .i64 ((i : Nat) : Int) := h4 3 _ rfl _ rfl
    have t13 : a.eval (.tmp 13) = .slice xa (nn i) xc := h4 4 _ rfl _ rfl
    have A := A.keep h1 h2 h3 (by decide)
    clear h1 h2 h3 h4
    refine wp_seq ?_
    refine wp_region_sqK 137 [(0, 94), (1, 95), (2, 96), (3, 97), (4, 98), (5, 99)] (fun i_ => match i_ with | 0 => .slice (some ⟨R, 0, none⟩) m m | 1 => .int .i64 ((i : Nat) : Int) | 2 => .pointer (some ⟨R, 0 + i, none⟩) | 3 => .slice (some ⟨qg, 0, none⟩) (nn i + 68) qc | 4 => .int .i64 (((nn i + 68) : Nat) : Int) | 5 => .int .i64 ((0 : Nat) : Int) | _ => undef) A.sz (by kernel_rfl) (by decide) (by decide) ?_ ?_
    · intro i_ hi_ a hf hv hn
      match i_, hi_ with
      | 0, _ => exact stepV rfl rfl (execMvB rfl ((hf 6 (by decide)).trans t6)) ⟨⟨_, rfl, rfl⟩, rfl⟩
      | 1, _ => exact stepV rfl rfl (execMvB rfl ((hf 12 (by decide)).trans t12)) ⟨⟨_, rfl, rfl⟩, rfl⟩
      | 2, _ => exact stepV rfl rfl (Cf.execIdxL (k := i) rfl (hv 0 (by omega) _ rfl _ rfl) (hv 1 (by omega) _ rfl _ rfl) (by exact hlt)) ⟨⟨_, rfl, rfl⟩, rfl⟩
      | 3, _ => exact stepV rfl rfl (execLdL rfl (hv 2 (by omega) _ rfl _ rfl) cM) ⟨⟨_, rfl, rfl⟩, rfl⟩
      | 4, _ => exact stepV rfl rfl (execLenV (len := (nn i + 68)) rfl (hv 3 (by omega) _ rfl _ rfl) ⟨_, _, rfl⟩) ⟨⟨_, rfl, rfl⟩, rfl⟩
      | 5, _ => exact stepV rfl rfl (execMvB rfl rfl) ⟨⟨_, rfl, rfl⟩, rfl⟩
      | k_ + 6, h_ => exact absurd h_ (by simp)
    intro a h1 h2 h3 h4
    have t6 := (h3 6 (by decide)).trans t6
    have t87 := (h3 87 (by decide)).trans t87
    have t88 := (h3 88 (by decide)).trans t88
    have t89 := (h3 89 (by decide)).trans t89
    have t12 := (h3 12 (by decide)).trans t12
    have t13 := (h3 13 (by decide)).trans t13
    have t97 : a.eval (.tmp 97) = .slice (some ⟨qg, 0, none⟩) (nn i + 68) qc := h4 3 _ rfl _ rfl
    have t98 : a.eval (.tmp 98) = .int .i64 (((nn i + 68) : Nat) : Int) := h4 4 _ rfl _ rfl
    have t99 : a.eval (.tmp 99) = .int .i64 ((0 : Nat) : Int) := h4 5 _ rfl _ rfl
    have A := A.keep h1 h2 h3 (by decide)
    clear h1 h2 h3 h4
    refine wp_block ?_
    refine wp_loop (fun a W' => ∃ k : Nat, k ≤ nn i + 68 ∧ AA (.slice (some ⟨lg, 0, none⟩) m lc) a ∧ (a.eval (.tmp 6) = .slice (some ⟨R, 0, none⟩) m m ∧ a.eval (.tmp 87) = .slice (some ⟨lg, 0, none⟩) m lc ∧ a.eval (.tmp 88) = .int .i64 ((m : Nat) : Int) ∧ a.eval (.tmp 89) = .int .i64 ((i : Nat) : Int)) ∧ a.eval (.tmp 12) = .int .i64 ((i : Nat) : Int) ∧ a.eval (.tmp 13) = .slice xa (nn i) xc ∧ a.eval (.tmp 97) = .slice (some ⟨qg, 0, none⟩) (nn i + 68) qc ∧ a.eval (.tmp 98) = .int .i64 ((nn i + 68 : Nat) : Int) ∧ a.eval (.tmp 99) = .int .i64 ((k : Nat) : Int) ∧ W' = W) (fun a _ => nn i + 68 - (intOf (a.eval (.tmp 99))).toNat) ⟨0, by omega, A, ⟨t6, t87, t88, t89⟩, t12, t13, t97, t98, t99, rfl⟩ ?_
    clear A t6 t87 t88 t89 t12 t13 t97 t98 t99 cX cM a
    rintro a W ⟨k, hk0, A, ⟨t6, t87, t88, t89⟩, t12, t13, t97, t98, t99, rfl⟩
    have e99 := t99
    refine wp_seq ?_
    refine wp_region_sqK 137 [(0, 100)] (fun i_ => match i_ with | 0 => .bool (decide (k < nn i + 68)) | _ => undef) A.sz (by kernel_rfl) (by decide) (by decide) ?_ ?_
    · intro i_ hi_ a hf hv hn
      match i_, hi_ with
      | 0, _ => exact stepV rfl rfl (execLtW (p := k) (q := nn i + 68) rfl ((hf 99 (by decide)).trans t99) ((hf 98 (by decide)).trans t98)) ⟨⟨_, rfl, rfl⟩, rfl⟩
      | k_ + 1, h_ => exact absurd h_ (by simp)
    intro a h1 h2 h3 h4
    have t6 := (h3 6 (by decide)).trans t6
    have t87 := (h3 87 (by decide)).trans t87
    have t88 := (h3 88 (by decide)).trans t88
    have t89 := (h3 89 (by decide)).trans t89
    have t12 := (h3 12 (by decide)).trans t12
    have t13 := (h3 13 (by decide)).trans t13
    have t97 := (h3 97 (by decide)).trans t97
    have t98 := (h3 98 (by decide)).trans t98
    have t99 := (h3 99 (by decide)).trans t99
    have t100 : a.eval (.tmp 100) = .bool (decide (k < nn i + 68)) := h4 0 _ rfl _ rfl
    have A := A.keep h1 h2 h3 (by decide)
    clear h1 h2 h3 h4
    refine wp_seq ?_
    by_cases hk : k < nn i + 68
    · rw [decide_eq_true hk] at t100
      refine wp_cond_true t100 ?_
      refine wp_skip ?_
      clear t100
      have cB0 := own_at8 own hk
      refine wp_seq ?_
      refine wp_block ?_
      refine wp_seq ?_
      by_cases hj : k < nn i
      · have cB : W.cell? ⟨qg, k, none⟩ = some (.int .u8 ((i % 256 : Nat) : Int)) := by
          rw [cB0]
          unfold gM
          rw [if_pos hj]
        have LW := GS.mn.ap.fam.rows i hlt
        obtain ⟨xg, xc2, ex2, _⟩ := own_cells LW (by omega)
        have e3 : xa = some ⟨xg, 0, none⟩ ∧ xc = xc2 := by
          have := ex.symm.trans ex2
          injection this with h1 _ h2
          exact ⟨h1, h2⟩
        obtain ⟨rfl, rfl⟩ := e3
        rw [ex] at LW
        have cY : W.cell? ⟨xg, k, none⟩ = some (.int .u8 ((i % 256 : Nat) : Int)) := own_at8 LW hj
        refine wp_region_sqK 137 [(0, 101), (1, 102), (2, 103), (3, 14), (4, 15)] (fun i_ => match i_ with | 0 => .int .i64 ((k : Nat) : Int) | 1 => .pointer (some ⟨qg, k, none⟩) | 2 => .int .u8 ((i % 256 : Nat) : Int) | 3 => .int .i64 ((k : Nat) : Int) | 4 => .int .u8 ((i % 256 : Nat) : Int) | _ => undef) A.sz (by kernel_rfl) (by decide) (by decide) ?_ ?_
        · intro i_ hi_ a hf hv hn
          match i_, hi_ with
          | 0, _ => exact stepV rfl rfl (execMvB rfl ((hf 99 (by decide)).trans t99)) ⟨⟨_, rfl, rfl⟩, rfl⟩
          | 1, _ => exact stepV rfl rfl (execIdxS0 (k := k) rfl ((hf 97 (by decide)).trans t97) ((hf 99 (by decide)).trans t99) (by exact hk)) ⟨⟨_, rfl, rfl⟩, rfl⟩
          | 2, _ => exact stepV rfl rfl (execLdB rfl (hv 1 (by omega) _ rfl _ rfl) cB) ⟨⟨_, rfl, rfl⟩, rfl⟩
          | 3, _ => exact stepV rfl rfl (execAsgB rfl (hv 0 (by omega) _ rfl _ rfl)) ⟨⟨_, rfl, rfl⟩, rfl⟩
          | 4, _ => exact stepV rfl rfl (execAsgB rfl (hv 2 (by omega) _ rfl _ rfl)) ⟨⟨_, rfl, rfl⟩, rfl⟩
          | k_ + 5, h_ => exact absurd h_ (by simp)
        intro a h1 h2 h3 h4
        have t6 := (h3 6 (by decide)).trans t6
        have t87 := (h3 87 (by decide)).trans t87
        have t88 := (h3 88 (by decide)).trans t88
        have t89 := (h3 89 (by decide)).trans t89
        have t12 := (h3 12 (by decide)).trans t12
        have t13 := (h3 13 (by decide)).trans t13
        have t97 := (h3 97 (by decide)).trans t97
        have t98 := (h3 98 (by decide)).trans t98
        have t99 := (h3 99 (by decide)).trans t99
        have t14 : a.eval (.tmp 14) = .int .i64 ((k : Nat) : Int) := h4 3 _ rfl _ rfl
        have t15 : a.eval (.tmp 15) = .int .u8 ((i % 256 : Nat) : Int) := h4 4 _ rfl _ rfl
        have A := A.keep h1 h2 h3 (by decide)
        clear h1 h2 h3 h4
        refine wp_seq ?_
        refine wp_region_sqK 137 [(0, 104), (1, 105), (2, 106), (3, 107), (4, 108), (5, 109), (6, 110), (7, 111), (8, 112), (9, 113), (10, 114), (11, 115), (12, 116), (13, 117), (14, 118), (15, 119), (16, 120), (17, 121), (18, 122), (19, 123), (20, 124), (21, 125), (22, 126), (23, 127), (24, 128), (25, 129), (26, 130), (27, 131), (28, 132), (29, 133), (30, 134)] (fun i_ => match i_ with | 0 => .int .i64 ((k : Nat) : Int) | 1 => .slice (some ⟨xg, 0, none⟩) (nn i) xc | 2 => .int .i64 (((nn i) : Nat) : Int) | 3 => .bool true | 4 => .bool true | 5 => .int .u8 ((i % 256 : Nat) : Int) | 6 => .int .i64 ((i : Nat) : Int) | 7 => .int .u8 ((i % 256 : Nat) : Int) | 8 => .bool false | 9 => .bool false | 10 => .slice (some ⟨xg, 0, none⟩) (nn i) xc | 11 => .int .i64 ((k : Nat) : Int) | 12 => .pointer (some ⟨xg, k, none⟩) | 13 => .int .u8 ((i % 256 : Nat) : Int) | 14 => .int .u8 ((i % 256 : Nat) : Int) | 15 => .bool false | 16 => .bool false | 17 => .bool false | 18 => .bool false | 19 => .int .i64 ((k : Nat) : Int) | 20 => .slice (some ⟨xg, 0, none⟩) (nn i) xc | 21 => .int .i64 (((nn i) : Nat) : Int) | 22 => .bool false | 23 => .bool false | 24 => undef | 25 => undef | 26 => undef | 27 => undef | 28 => undef | 29 => .bool false | 30 => .bool false | _ => undef) A.sz (by kernel_rfl) (by decide) (by decide) ?_ ?_
        · intro i_ hi_ a hf hv hn
          match i_, hi_ with
          | 0, _ => exact stepV rfl rfl (execMvB rfl ((hf 14 (by decide)).trans t14)) ⟨⟨_, rfl, rfl⟩, rfl⟩
          | 1, _ => exact stepV rfl rfl (execMvB rfl ((hf 13 (by decide)).trans t13)) ⟨⟨_, rfl, rfl⟩, rfl⟩
          | 2, _ => exact stepV rfl rfl (execLenV (len := (nn i)) rfl (hv 1 (by omega) _ rfl _ rfl) ⟨_, _, rfl⟩) ⟨⟨_, rfl, rfl⟩, rfl⟩
          | 3, _ => exact stepV rfl rfl (execLt9t rfl (hv 0 (by omega) _ rfl _ rfl) (hv 2 (by omega) _ rfl _ rfl) hj) ⟨⟨_, rfl, rfl⟩, rfl⟩
          | 4, _ => exact stepV rfl rfl (execMvB rfl (hv 3 (by omega) _ rfl _ rfl)) ⟨⟨_, rfl, rfl⟩, rfl⟩
          | 5, _ => exact stepV rfl (wantedOf rfl (yieldedAt rfl rfl (show a.eval (.tmp 108) = .bool true from (hv 4 (by omega) _ rfl _ rfl)))) (execMvB rfl ((hf 15 (by decide)).trans t15)) ⟨⟨_, rfl, rfl⟩, rfl⟩
          | 6, _ => exact stepV rfl (wantedOf rfl (yieldedAt rfl rfl (show a.eval (.tmp 108) = .bool true from (hv 4 (by omega) _ rfl _ rfl)))) (execMvB rfl ((hf 12 (by decide)).trans t12)) ⟨⟨_, rfl, rfl⟩, rfl⟩
          | 7, _ => exact stepV rfl (wantedOf rfl (yieldedAt rfl rfl (show a.eval (.tmp 108) = .bool true from (hv 4 (by omega) _ rfl _ rfl)))) (execU8 (n := i) rfl (hv 6 (by omega) _ rfl _ rfl)) ⟨⟨_, rfl, rfl⟩, rfl⟩
          | 8, _ => exact stepV rfl (wantedOf rfl (yieldedAt rfl rfl (show a.eval (.tmp 108) = .bool true from (hv 4 (by omega) _ rfl _ rfl)))) (execNeqU8 rfl (hv 5 (by omega) _ rfl _ rfl) (hv 7 (by omega) _ rfl _ rfl)) ⟨⟨_, rfl, rfl⟩, rfl⟩
          | 9, _ => exact stepV rfl (wantedOf rfl (yieldedAt rfl rfl (show a.eval (.tmp 108) = .bool true from (hv 4 (by omega) _ rfl _ rfl)))) (execMvB rfl (hv 8 (by omega) _ rfl _ rfl)) ⟨⟨_, rfl, rfl⟩, rfl⟩
          | 10, _ => exact stepV rfl (wantedOf rfl (yieldedAt rfl rfl (show a.eval (.tmp 113) = .bool false from (hv 9 (by omega) _ rfl _ rfl)))) (execMvB rfl ((hf 13 (by decide)).trans t13)) ⟨⟨_, rfl, rfl⟩, rfl⟩
          | 11, _ => exact stepV rfl (wantedOf rfl (yieldedAt rfl rfl (show a.eval (.tmp 113) = .bool false from (hv 9 (by omega) _ rfl _ rfl)))) (execMvB rfl ((hf 14 (by decide)).trans t14)) ⟨⟨_, rfl, rfl⟩, rfl⟩
          | 12, _ => exact stepV rfl (wantedOf rfl (yieldedAt rfl rfl (show a.eval (.tmp 113) = .bool false from (hv 9 (by omega) _ rfl _ rfl)))) (execIdxS0 (k := k) rfl (hv 10 (by omega) _ rfl _ rfl) (hv 11 (by omega) _ rfl _ rfl) (by exact hj)) ⟨⟨_, rfl, rfl⟩, rfl⟩
          | 13, _ => exact stepV rfl (wantedOf rfl (yieldedAt rfl rfl (show a.eval (.tmp 113) = .bool false from (hv 9 (by omega) _ rfl _ rfl)))) (execLdB rfl (hv 12 (by omega) _ rfl _ rfl) cY) ⟨⟨_, rfl, rfl⟩, rfl⟩
          | 14, _ => exact stepV rfl (wantedOf rfl (yieldedAt rfl rfl (show a.eval (.tmp 113) = .bool false from (hv 9 (by omega) _ rfl _ rfl)))) (execMvB rfl ((hf 15 (by decide)).trans t15)) ⟨⟨_, rfl, rfl⟩, rfl⟩
          | 15, _ => exact stepV rfl (wantedOf rfl (yieldedAt rfl rfl (show a.eval (.tmp 113) = .bool false from (hv 9 (by omega) _ rfl _ rfl)))) (execNeqU8 rfl (hv 13 (by omega) _ rfl _ rfl) (hv 14 (by omega) _ rfl _ rfl)) ⟨⟨_, rfl, rfl⟩, rfl⟩
          | 16, _ => exact stepV rfl (wantedOf rfl (yieldedAt rfl rfl (show a.eval (.tmp 108) = .bool true from (hv 4 (by omega) _ rfl _ rfl)))) (execPickF rfl (hv 9 (by omega) _ rfl _ rfl) (hv 15 (by omega) _ rfl _ rfl)) ⟨⟨_, rfl, rfl⟩, rfl⟩
          | 17, _ => exact stepV rfl rfl (execPickT rfl (hv 4 (by omega) _ rfl _ rfl) (hv 16 (by omega) _ rfl _ rfl)) ⟨⟨_, rfl, rfl⟩, rfl⟩
          | 18, _ => exact stepV rfl rfl (execMvB rfl (hv 17 (by omega) _ rfl _ rfl)) ⟨⟨_, rfl, rfl⟩, rfl⟩
          | 19, _ => exact stepV rfl (wantedOf rfl (yieldedAt rfl rfl (show a.eval (.tmp 122) = .bool false from (hv 18 (by omega) _ rfl _ rfl)))) (execMvB rfl ((hf 14 (by decide)).trans t14)) ⟨⟨_, rfl, rfl⟩, rfl⟩
          | 20, _ => exact stepV rfl (wantedOf rfl (yieldedAt rfl rfl (show a.eval (.tmp 122) = .bool false from (hv 18 (by omega) _ rfl _ rfl)))) (execMvB rfl ((hf 13 (by decide)).trans t13)) ⟨⟨_, rfl, rfl⟩, rfl⟩
          | 21, _ => exact stepV rfl (wantedOf rfl (yieldedAt rfl rfl (show a.eval (.tmp 122) = .bool false from (hv 18 (by omega) _ rfl _ rfl)))) (execLenV (len := (nn i)) rfl (hv 20 (by omega) _ rfl _ rfl) ⟨_, _, rfl⟩) ⟨⟨_, rfl, rfl⟩, rfl⟩
          | 22, _ => exact stepV rfl (wantedOf rfl (yieldedAt rfl rfl (show a.eval (.tmp 122) = .bool false from (hv 18 (by omega) _ rfl _ rfl)))) (execGe9f rfl (hv 19 (by omega) _ rfl _ rfl) (hv 21 (by omega) _ rfl _ rfl) hj) ⟨⟨_, rfl, rfl⟩, rfl⟩
          | 23, _ => exact stepV rfl (wantedOf rfl (yieldedAt rfl rfl (show a.eval (.tmp 122) = .bool false from (hv 18 (by omega) _ rfl _ rfl)))) (execMvB rfl (hv 22 (by omega) _ rfl _ rfl)) ⟨⟨_, rfl, rfl⟩, rfl⟩
          | 24, _ => exact stepU rfl (unwantedOf rfl (yieldedAt rfl rfl (show a.eval (.tmp 127) = .bool (!true) from (hv 23 (by omega) _ rfl _ rfl)))) ⟨⟨_, rfl, rfl⟩, rfl⟩
          | 25, _ => exact stepU rfl (unwantedOf rfl (yieldedAt rfl rfl (show a.eval (.tmp 127) = .bool (!true) from (hv 23 (by omega) _ rfl _ rfl)))) ⟨⟨_, rfl, rfl⟩, rfl⟩
          | 26, _ => exact stepU rfl (unwantedOf rfl (yieldedAt rfl rfl (show a.eval (.tmp 127) = .bool (!true) from (hv 23 (by omega) _ rfl _ rfl)))) ⟨⟨_, rfl, rfl⟩, rfl⟩
          | 27, _ => exact stepU rfl (unwantedOf rfl (yieldedAt rfl rfl (show a.eval (.tmp 127) = .bool (!true) from (hv 23 (by omega) _ rfl _ rfl)))) ⟨⟨_, rfl, rfl⟩, rfl⟩
          | 28, _ => exact stepU rfl (unwantedOf rfl (yieldedAt rfl rfl (show a.eval (.tmp 127) = .bool (!true) from (hv 23 (by omega) _ rfl _ rfl)))) ⟨⟨_, rfl, rfl⟩, rfl⟩
          | 29, _ => exact stepV rfl (wantedOf rfl (yieldedAt rfl rfl (show a.eval (.tmp 122) = .bool false from (hv 18 (by omega) _ rfl _ rfl)))) (execPickF rfl (hv 23 (by omega) _ rfl _ rfl) rfl) ⟨⟨_, rfl, rfl⟩, rfl⟩
          | 30, _ => exact stepV rfl rfl (execPickF rfl (hv 18 (by omega) _ rfl _ rfl) (hv 29 (by omega) _ rfl _ rfl)) ⟨⟨_, rfl, rfl⟩, rfl⟩
          | k_ + 31, h_ => exact absurd h_ (by simp)
        intro a h1 h2 h3 h4
        have t6 := (h3 6 (by decide)).trans t6
        have t87 := (h3 87 (by decide)).trans t87
        have t88 := (h3 88 (by decide)).trans t88
        have t89 := (h3 89 (by decide)).trans t89
        have t12 := (h3 12 (by decide)).trans t12
        have t13 := (h3 13 (by decide)).trans t13
        have t97 := (h3 97 (by decide)).trans t97
        have t98 := (h3 98 (by decide)).trans t98
        have t99 := (h3 99 (by decide)).trans t99
        have t134 : a.eval (.tmp 134) = .bool false := h4 30 _ rfl _ rfl
        have A := A.keep h1 h2 h3 (by decide)
        clear h1 h2 h3 h4
        refine wp_cond_false t134 ?_
        refine wp_skip ?_
        clear t134
        refine wp_region_sqK 137 [(0, 135), (1, 99)] (fun i_ => match i_ with | 0 => .int .i64 ((k + 1 : Nat) : Int) | 1 => .int .i64 ((k + 1 : Nat) : Int) | _ => undef) A.sz (by kernel_rfl) (by decide) (by decide) ?_ ?_
        · intro i_ hi_ a hf hv hn
          match i_, hi_ with
          | 0, _ => exact stepV rfl rfl (execAd8 (p := k) (q := 1) rfl ((hn 1 (by omega) _ rfl _ rfl).trans t99) rfl (by have := hm; have := hnn i hlt; omega)) ⟨⟨_, rfl, rfl⟩, rfl⟩
          | 1, _ => exact stepV rfl rfl (execMvB rfl (hv 0 (by omega) _ rfl _ rfl)) ⟨⟨_, rfl, rfl⟩, rfl⟩
          | k_ + 2, h_ => exact absurd h_ (by simp)
        intro a h1 h2 h3 h4
        have t6 := (h3 6 (by decide)).trans t6
        have t87 := (h3 87 (by decide)).trans t87
        have t88 := (h3 88 (by decide)).trans t88
        have t89 := (h3 89 (by decide)).trans t89
        have t12 := (h3 12 (by decide)).trans t12
        have t13 := (h3 13 (by decide)).trans t13
        have t97 := (h3 97 (by decide)).trans t97
        have t98 := (h3 98 (by decide)).trans t98
        have t99 : a.eval (.tmp 99) = .int .i64 ((k + 1 : Nat) : Int) := h4 1 _ rfl _ rfl
        have A := A.keep h1 h2 h3 (by decide)
        clear h1 h2 h3 h4
        exact ⟨⟨k + 1, hk, A, ⟨t6, t87, t88, t89⟩, t12, t13, t97, t98, t99, rfl⟩, by show (nn i + 68) - (intOf (a.eval (.tmp 99))).toNat < (nn i + 68) - (intOf (Act.eval _ (.tmp 99))).toNat; rw [t99, e99]; show (nn i + 68) - (k + 1) < (nn i + 68) - k; omega⟩
      · have cB : W.cell? ⟨qg, k, none⟩ = some (.int .u8 (((i + 100) % 256 : Nat) : Int)) := by
          rw [cB0]
          unfold gM
          rw [if_neg hj]
        refine wp_region_sqK 137 [(0, 101), (1, 102), (2, 103), (3, 14), (4, 15)] (fun i_ => match i_ with | 0 => .int .i64 ((k : Nat) : Int) | 1 => .pointer (some ⟨qg, k, none⟩) | 2 => .int .u8 (((i + 100) % 256 : Nat) : Int) | 3 => .int .i64 ((k : Nat) : Int) | 4 => .int .u8 (((i + 100) % 256 : Nat) : Int) | _ => undef) A.sz (by kernel_rfl) (by decide) (by decide) ?_ ?_
        · intro i_ hi_ a hf hv hn
          match i_, hi_ with
          | 0, _ => exact stepV rfl rfl (execMvB rfl ((hf 99 (by decide)).trans t99)) ⟨⟨_, rfl, rfl⟩, rfl⟩
          | 1, _ => exact stepV rfl rfl (execIdxS0 (k := k) rfl ((hf 97 (by decide)).trans t97) ((hf 99 (by decide)).trans t99) (by exact hk)) ⟨⟨_, rfl, rfl⟩, rfl⟩
          | 2, _ => exact stepV rfl rfl (execLdB rfl (hv 1 (by omega) _ rfl _ rfl) cB) ⟨⟨_, rfl, rfl⟩, rfl⟩
          | 3, _ => exact stepV rfl rfl (execAsgB rfl (hv 0 (by omega) _ rfl _ rfl)) ⟨⟨_, rfl, rfl⟩, rfl⟩
          | 4, _ => exact stepV rfl rfl (execAsgB rfl (hv 2 (by omega) _ rfl _ rfl)) ⟨⟨_, rfl, rfl⟩, rfl⟩
          | k_ + 5, h_ => exact absurd h_ (by simp)
        intro a h1 h2 h3 h4
        have t6 := (h3 6 (by decide)).trans t6
        have t87 := (h3 87 (by decide)).trans t87
        have t88 := (h3 88 (by decide)).trans t88
        have t89 := (h3 89 (by decide)).trans t89
        have t12 := (h3 12 (by decide)).trans t12
        have t13 := (h3 13 (by decide)).trans t13
        have t97 := (h3 97 (by decide)).trans t97
        have t98 := (h3 98 (by decide)).trans t98
        have t99 := (h3 99 (by decide)).trans t99
        have t14 : a.eval (.tmp 14) = .int .i64 ((k : Nat) : Int) := h4 3 _ rfl _ rfl
        have t15 : a.eval (.tmp 15) = .int .u8 (((i + 100) % 256 : Nat) : Int) := h4 4 _ rfl _ rfl
        have A := A.keep h1 h2 h3 (by decide)
        clear h1 h2 h3 h4
        refine wp_seq ?_
        refine wp_region_sqK 137 [(0, 104), (1, 105), (2, 106), (3, 107), (4, 108), (5, 109), (6, 110), (7, 111), (8, 112), (9, 113), (10, 114), (11, 115), (12, 116), (13, 117), (14, 118), (15, 119), (16, 120), (17, 121), (18, 122), (19, 123), (20, 124), (21, 125), (22, 126), (23, 127), (24, 128), (25, 129), (26, 130), (27, 131), (28, 132), (29, 133), (30, 134)] (fun i_ => match i_ with | 0 => .int .i64 ((k : Nat) : Int) | 1 => .slice xa (nn i) xc | 2 => .int .i64 (((nn i) : Nat) : Int) | 3 => .bool false | 4 => .bool false | 5 => undef | 6 => undef | 7 => undef | 8 => undef | 9 => undef | 10 => undef | 11 => undef | 12 => undef | 13 => undef | 14 => undef | 15 => undef | 16 => undef | 17 => .bool false | 18 => .bool false | 19 => .int .i64 ((k : Nat) : Int) | 20 => .slice xa (nn i) xc | 21 => .int .i64 (((nn i) : Nat) : Int) | 22 => .bool true | 23 => .bool true | 24 => .int .u8 (((i + 100) % 256 : Nat) : Int) | 25 => .int .i64 ((i : Nat) : Int) | 26 => .int .i64 ((i + 100 : Nat) : Int) | 27 => .int .u8 (((i + 100) % 256 : Nat) : Int) | 28 => .bool false | 29 => .bool false | 30 => .bool false | _ => undef) A.sz (by kernel_rfl) (by decide) (by decide) ?_ ?_
        · intro i_ hi_ a hf hv hn
          match i_, hi_ with
          | 0, _ => exact stepV rfl rfl (execMvB rfl ((hf 14 (by decide)).trans t14)) ⟨⟨_, rfl, rfl⟩, rfl⟩
          | 1, _ => exact stepV rfl rfl (execMvB rfl ((hf 13 (by decide)).trans t13)) ⟨⟨_, rfl, rfl⟩, rfl⟩
          | 2, _ => exact stepV rfl rfl (execLenV (len := (nn i)) rfl (hv 1 (by omega) _ rfl _ rfl) ⟨_, _, rfl⟩) ⟨⟨_, rfl, rfl⟩, rfl⟩
          | 3, _ => exact stepV rfl rfl (execLt9f rfl (hv 0 (by omega) _ rfl _ rfl) (hv 2 (by omega) _ rfl _ rfl) hj) ⟨⟨_, rfl, rfl⟩, rfl⟩
          | 4, _ => exact stepV rfl rfl (execMvB rfl (hv 3 (by omega) _ rfl _ rfl)) ⟨⟨_, rfl, rfl⟩, rfl⟩
          | 5, _ => exact stepU rfl (unwantedOf rfl (yieldedAt rfl rfl (show a.eval (.tmp 108) = .bool (!true) from (hv 4 (by omega) _ rfl _ rfl)))) ⟨⟨_, rfl, rfl⟩, rfl⟩
          | 6, _ => exact stepU rfl (unwantedOf rfl (yieldedAt rfl rfl (show a.eval (.tmp 108) = .bool (!true) from (hv 4 (by omega) _ rfl _ rfl)))) ⟨⟨_, rfl, rfl⟩, rfl⟩
          | 7, _ => exact stepU rfl (unwantedOf rfl (yieldedAt rfl rfl (show a.eval (.tmp 108) = .bool (!true) from (hv 4 (by omega) _ rfl _ rfl)))) ⟨⟨_, rfl, rfl⟩, rfl⟩
          | 8, _ => exact stepU rfl (unwantedOf rfl (yieldedAt rfl rfl (show a.eval (.tmp 108) = .bool (!true) from (hv 4 (by omega) _ rfl _ rfl)))) ⟨⟨_, rfl, rfl⟩, rfl⟩
          | 9, _ => exact stepU rfl (unwantedOf rfl (yieldedAt rfl rfl (show a.eval (.tmp 108) = .bool (!true) from (hv 4 (by omega) _ rfl _ rfl)))) ⟨⟨_, rfl, rfl⟩, rfl⟩
          | 10, _ => exact stepU rfl (unwantedNo rfl (yieldedNo rfl rfl (show a.eval (.tmp 113) = undef from (hv 9 (by omega) _ rfl _ rfl)))) ⟨⟨_, rfl, rfl⟩, rfl⟩
          | 11, _ => exact stepU rfl (unwantedNo rfl (yieldedNo rfl rfl (show a.eval (.tmp 113) = undef from (hv 9 (by omega) _ rfl _ rfl)))) ⟨⟨_, rfl, rfl⟩, rfl⟩
          | 12, _ => exact stepU rfl (unwantedNo rfl (yieldedNo rfl rfl (show a.eval (.tmp 113) = undef from (hv 9 (by omega) _ rfl _ rfl)))) ⟨⟨_, rfl, rfl⟩, rfl⟩
          | 13, _ => exact stepU rfl (unwantedNo rfl (yieldedNo rfl rfl (show a.eval (.tmp 113) = undef from (hv 9 (by omega) _ rfl _ rfl)))) ⟨⟨_, rfl, rfl⟩, rfl⟩
          | 14, _ => exact stepU rfl (unwantedNo rfl (yieldedNo rfl rfl (show a.eval (.tmp 113) = undef from (hv 9 (by omega) _ rfl _ rfl)))) ⟨⟨_, rfl, rfl⟩, rfl⟩
          | 15, _ => exact stepU rfl (unwantedNo rfl (yieldedNo rfl rfl (show a.eval (.tmp 113) = undef from (hv 9 (by omega) _ rfl _ rfl)))) ⟨⟨_, rfl, rfl⟩, rfl⟩
          | 16, _ => exact stepU rfl (unwantedOf rfl (yieldedAt rfl rfl (show a.eval (.tmp 108) = .bool (!true) from (hv 4 (by omega) _ rfl _ rfl)))) ⟨⟨_, rfl, rfl⟩, rfl⟩
          | 17, _ => exact stepV rfl rfl (execPickF rfl (hv 4 (by omega) _ rfl _ rfl) rfl) ⟨⟨_, rfl, rfl⟩, rfl⟩
          | 18, _ => exact stepV rfl rfl (execMvB rfl (hv 17 (by omega) _ rfl _ rfl)) ⟨⟨_, rfl, rfl⟩, rfl⟩
          | 19, _ => exact stepV rfl (wantedOf rfl (yieldedAt rfl rfl (show a.eval (.tmp 122) = .bool false from (hv 18 (by omega) _ rfl _ rfl)))) (execMvB rfl ((hf 14 (by decide)).trans t14)) ⟨⟨_, rfl, rfl⟩, rfl⟩
          | 20, _ => exact stepV rfl (wantedOf rfl (yieldedAt rfl rfl (show a.eval (.tmp 122) = .bool false from (hv 18 (by omega) _ rfl _ rfl)))) (execMvB rfl ((hf 13 (by decide)).trans t13)) ⟨⟨_, rfl, rfl⟩, rfl⟩
          | 21, _ => exact stepV rfl (wantedOf rfl (yieldedAt rfl rfl (show a.eval (.tmp 122) = .bool false from (hv 18 (by omega) _ rfl _ rfl)))) (execLenV (len := (nn i)) rfl (hv 20 (by omega) _ rfl _ rfl) ⟨_, _, rfl⟩) ⟨⟨_, rfl, rfl⟩, rfl⟩
          | 22, _ => exact stepV rfl (wantedOf rfl (yieldedAt rfl rfl (show a.eval (.tmp 122) = .bool false from (hv 18 (by omega) _ rfl _ rfl)))) (execGe9t rfl (hv 19 (by omega) _ rfl _ rfl) (hv 21 (by omega) _ rfl _ rfl) hj) ⟨⟨_, rfl, rfl⟩, rfl⟩
          | 23, _ => exact stepV rfl (wantedOf rfl (yieldedAt rfl rfl (show a.eval (.tmp 122) = .bool false from (hv 18 (by omega) _ rfl _ rfl)))) (execMvB rfl (hv 22 (by omega) _ rfl _ rfl)) ⟨⟨_, rfl, rfl⟩, rfl⟩
          | 24, _ => exact stepV rfl (wantedOf rfl (yieldedAt rfl rfl (show a.eval (.tmp 127) = .bool true from (hv 23 (by omega) _ rfl _ rfl)))) (execMvB rfl ((hf 15 (by decide)).trans t15)) ⟨⟨_, rfl, rfl⟩, rfl⟩
          | 25, _ => exact stepV rfl (wantedOf rfl (yieldedAt rfl rfl (show a.eval (.tmp 127) = .bool true from (hv 23 (by omega) _ rfl _ rfl)))) (execMvB rfl ((hf 12 (by decide)).trans t12)) ⟨⟨_, rfl, rfl⟩, rfl⟩
          | 26, _ => exact stepV rfl (wantedOf rfl (yieldedAt rfl rfl (show a.eval (.tmp 127) = .bool true from (hv 23 (by omega) _ rfl _ rfl)))) (execAd8 (p := i) (q := 100) rfl (hv 25 (by omega) _ rfl _ rfl) rfl (by have := hm; have := hnn i hlt; omega)) ⟨⟨_, rfl, rfl⟩, rfl⟩
          | 27, _ => exact stepV rfl (wantedOf rfl (yieldedAt rfl rfl (show a.eval (.tmp 127) = .bool true from (hv 23 (by omega) _ rfl _ rfl)))) (execU8 (n := i + 100) rfl (hv 26 (by omega) _ rfl _ rfl)) ⟨⟨_, rfl, rfl⟩, rfl⟩
          | 28, _ => exact stepV rfl (wantedOf rfl (yieldedAt rfl rfl (show a.eval (.tmp 127) = .bool true from (hv 23 (by omega) _ rfl _ rfl)))) (execNeqU8 rfl (hv 24 (by omega) _ rfl _ rfl) (hv 27 (by omega) _ rfl _ rfl)) ⟨⟨_, rfl, rfl⟩, rfl⟩
          | 29, _ => exact stepV rfl (wantedOf rfl (yieldedAt rfl rfl (show a.eval (.tmp 122) = .bool false from (hv 18 (by omega) _ rfl _ rfl)))) (execPickT rfl (hv 23 (by omega) _ rfl _ rfl) (hv 28 (by omega) _ rfl _ rfl)) ⟨⟨_, rfl, rfl⟩, rfl⟩
          | 30, _ => exact stepV rfl rfl (execPickF rfl (hv 18 (by omega) _ rfl _ rfl) (hv 29 (by omega) _ rfl _ rfl)) ⟨⟨_, rfl, rfl⟩, rfl⟩
          | k_ + 31, h_ => exact absurd h_ (by simp)
        intro a h1 h2 h3 h4
        have t6 := (h3 6 (by decide)).trans t6
        have t87 := (h3 87 (by decide)).trans t87
        have t88 := (h3 88 (by decide)).trans t88
        have t89 := (h3 89 (by decide)).trans t89
        have t12 := (h3 12 (by decide)).trans t12
        have t13 := (h3 13 (by decide)).trans t13
        have t97 := (h3 97 (by decide)).trans t97
        have t98 := (h3 98 (by decide)).trans t98
        have t99 := (h3 99 (by decide)).trans t99
        have t134 : a.eval (.tmp 134) = .bool false := h4 30 _ rfl _ rfl
        have A := A.keep h1 h2 h3 (by decide)
        clear h1 h2 h3 h4
        refine wp_cond_false t134 ?_
        refine wp_skip ?_
        clear t134
        refine wp_region_sqK 137 [(0, 135), (1, 99)] (fun i_ => match i_ with | 0 => .int .i64 ((k + 1 : Nat) : Int) | 1 => .int .i64 ((k + 1 : Nat) : Int) | _ => undef) A.sz (by kernel_rfl) (by decide) (by decide) ?_ ?_
        · intro i_ hi_ a hf hv hn
          match i_, hi_ with
          | 0, _ => exact stepV rfl rfl (execAd8 (p := k) (q := 1) rfl ((hn 1 (by omega) _ rfl _ rfl).trans t99) rfl (by have := hm; have := hnn i hlt; omega)) ⟨⟨_, rfl, rfl⟩, rfl⟩
          | 1, _ => exact stepV rfl rfl (execMvB rfl (hv 0 (by omega) _ rfl _ rfl)) ⟨⟨_, rfl, rfl⟩, rfl⟩
          | k_ + 2, h_ => exact absurd h_ (by simp)
        intro a h1 h2 h3 h4
        have t6 := (h3 6 (by decide)).trans t6
        have t87 := (h3 87 (by decide)).trans t87
        have t88 := (h3 88 (by decide)).trans t88
        have t89 := (h3 89 (by decide)).trans t89
        have t12 := (h3 12 (by decide)).trans t12
        have t13 := (h3 13 (by decide)).trans t13
        have t97 := (h3 97 (by decide)).trans t97
        have t98 := (h3 98 (by decide)).trans t98
        have t99 : a.eval (.tmp 99) = .int .i64 ((k + 1 : Nat) : Int) := h4 1 _ rfl _ rfl
        have A := A.keep h1 h2 h3 (by decide)
        clear h1 h2 h3 h4
        exact ⟨⟨k + 1, hk, A, ⟨t6, t87, t88, t89⟩, t12, t13, t97, t98, t99, rfl⟩, by show (nn i + 68) - (intOf (a.eval (.tmp 99))).toNat < (nn i + 68) - (intOf (Act.eval _ (.tmp 99))).toNat; rw [t99, e99]; show (nn i + 68) - (k + 1) < (nn i + 68) - k; omega⟩
    · rw [decide_eq_false hk] at t100
      refine wp_cond_false t100 ?_
      refine wp_exit ?_
      first | refine exit_in ?_ | refine exit_then (exit_in ?_) | refine exit_then (exit_then (exit_in ?_))
      refine wp_region_sqK 137 [(0, 136), (1, 89)] (fun i_ => match i_ with | 0 => .int .i64 ((i + 1 : Nat) : Int) | 1 => .int .i64 ((i + 1 : Nat) : Int) | _ => undef) A.sz (by kernel_rfl) (by decide) (by decide) ?_ ?_
      · intro i_ hi_ a hf hv hn
        match i_, hi_ with
        | 0, _ => exact stepV rfl rfl (execAd8 (p := i) (q := 1) rfl ((hn 1 (by omega) _ rfl _ rfl).trans t89) rfl (by have := hm; omega)) ⟨⟨_, rfl, rfl⟩, rfl⟩
        | 1, _ => exact stepV rfl rfl (execMvB rfl (hv 0 (by omega) _ rfl _ rfl)) ⟨⟨_, rfl, rfl⟩, rfl⟩
        | k_ + 2, h_ => exact absurd h_ (by simp)
      intro a h1 h2 h3 h4
      have t6 := (h3 6 (by decide)).trans t6
      have t87 := (h3 87 (by decide)).trans t87
      have t88 := (h3 88 (by decide)).trans t88
      have t89 : a.eval (.tmp 89) = .int .i64 ((i + 1 : Nat) : Int) := h4 1 _ rfl _ rfl
      have A := A.keep h1 h2 h3 (by decide)
      clear h1 h2 h3 h4
      exact ⟨⟨i + 1, hlt, A, ⟨t6, t87, t88, t89⟩, rfl⟩, by show m - (intOf (a.eval (.tmp 89))).toNat < m - (intOf (Act.eval _ (.tmp 89))).toNat; rw [t89, e89]; show m - (i + 1) < m - i; omega⟩
  · rw [decide_eq_false hlt] at t90
    refine wp_cond_false t90 ?_
    refine wp_exit ?_
    first | refine exit_in ?_ | refine exit_then (exit_in ?_) | refine exit_then (exit_then (exit_in ?_))
    refine wp_seq ?_
    refine wp_region_sqK 137 [(0, 2)] (fun i_ => match i_ with | 0 => .bool true | _ => undef) A.sz (by kernel_rfl) (by decide) (by decide) ?_ ?_
    · intro i_ hi_ a hf hv hn
      match i_, hi_ with
      | 0, _ => exact stepV rfl rfl (execAsgB rfl rfl) ⟨⟨_, rfl, rfl⟩, rfl⟩
      | k_ + 1, h_ => exact absurd h_ (by simp)
    intro a h1 h2 h3 h4
    have t2 : a.eval (.tmp 2) = .bool true := h4 0 _ rfl _ rfl
    have A := A.keep h1 h2 h3 (by decide)
    clear h1 h2 h3 h4
    refine wp_ret ?_
    refine bodyPost_ret (results_tmp rfl _ _ _) A.df ⟨?_, GS.mn.sv⟩
    show Ending.returned (a.eval (.tmp 2)) = _
    rw [t2]
set_option maxRecDepth 100000 in
set_option maxHeartbeats 4000000 in
/-- apart of m lists, each a row of its own: nothing but these has changed. -/
theorem apart28 (B A0 m lg lc : Nat) (nn : Nat → Nat) (x : Nat → Value) (f : Nat → Nat → Nat) (V : World) (hown : V.ownsRow A0 23 1 (.slice (some ⟨lg, 0, none⟩) m lc) m (lL x m)) (hf0 : Fam B m x nn f V) (hm : m ≤ 5000) (hnn : ∀ t, t < m → nn t ≤ 140737488351232) (hB : B ≤ V.heap.size) :
    Calls Try.prog 17 #[.slice (some ⟨lg, 0, none⟩) m lc] V fun e w' => e = .returned (.bool true) ∧ Saved (Gx m x) V w' := by
  go_enter Try.func17, Try.ntmps17
  refine wp_seq ?_
  refine wp_region_sqK 137 [(0, 2)] (fun i_ => match i_ with | 0 => .bool false | _ => undef) rfl (by kernel_rfl) (by decide) (by decide) ?_ ?_
  · intro i_ hi_ a hf hv hn
    match i_, hi_ with
    | 0, _ => exact stepV rfl rfl (execAsgB rfl rfl) ⟨⟨_, rfl, rfl⟩, rfl⟩
    | k_ + 1, h_ => exact absurd h_ (by simp)
  intro a h1 h2 h3 h4
  exact ap28a B A0 m lg lc nn x f V hown hf0 hm hnn (fun a W A FA SV => ap28b B A0 m lg lc nn x f V hown hf0 hm hnn hB (fun a W R A GS t6 => by
    obtain ⟨gv, gl, mo, GS⟩ := GS
    exact ap28c B m lg lc nn x V hm hnn hB R (fun a W A GS t6 => by
      obtain ⟨gv, gl, mo, GS⟩ := GS
      exact ap28d B A0 m lg lc nn x f V hown hf0 hm hnn R gv gl mo a W A GS t6) a W A ⟨_, _, _, GS.again⟩ t6) a W A FA SV) a ⟨h1, h2, (h3 0 (by decide)).trans rfl⟩
end Go.Proofs.Ytcibogmghagpoaa.Dro
