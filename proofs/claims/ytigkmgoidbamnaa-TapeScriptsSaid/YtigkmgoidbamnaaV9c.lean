import Derived.Test.YtigkmgoidbamnaaV9b
namespace Go.Proofs.Ytigkmgoidbamnaa.Tap
open Go.RowKit Gf8 Aes By8 Cel Cf
/- The law's apart: the lists are marked. Written by tools/mkV9c.py. -/

structure AA (U : Value) (a : Act) : Prop where
  sz : a.tmps.size = 137
  df : a.defers = []
  t0 : a.eval (.tmp 0) = U
theorem AA.keep {U : Value} {a a' : Act} {ds : List Nat} (h : AA U a) (hs : a'.tmps.size = 137) (hd : a'.defers = a.defers) (hf : ∀ e, e ∉ ds → a'.eval (.tmp e) = a.eval (.tmp e)) (hk : ([0] : List Nat).all (fun k => !ds.contains k) = true) : AA U a' := by
  have hk2 : ∀ k, k ∈ ([0] : List Nat) → k ∉ ds := fun k hk1 => by
    have := List.all_eq_true.1 hk k hk1
    simpa using this
  exact ⟨hs, hd.trans h.df, (hf 0 (hk2 0 (by simp))).trans h.t0⟩
theorem mkA_set {f : Nat → Nat → Nat} {i k : Nat} (t l : Nat) : (if t = i then (fun l => if l = k then i % 256 else mkA f i k i l) else mkA f i k t) l = mkA f i (k + 1) t l := by
  by_cases e : t = i
  · subst e
    rw [if_pos rfl]
    show (if l = k then t % 256 else mkA f t k t l) = mkA f t (k + 1) t l
    unfold mkA
    by_cases h1 : l = k
    · rw [if_pos h1, if_pos (by omega)]
    · rw [if_neg h1]
      by_cases h2 : l < k
      · rw [if_pos (by omega), if_pos (by omega)]
      · rw [if_neg (by omega), if_neg (by omega)]
  · rw [if_neg e]
    unfold mkA
    by_cases h : t < i
    · rw [if_pos (by omega), if_pos (by omega)]
    · rw [if_neg (by omega), if_neg (by omega)]
theorem mkA_next {f : Nat → Nat → Nat} {nn : Nat → Nat} {i : Nat} (t l : Nat) (hl : l < nn t) : mkA f i (nn i) t l = mkA f (i + 1) 0 t l := by
  unfold mkA
  by_cases e : t = i
  · subst e; rw [if_pos (by omega), if_pos (by omega)]
  · by_cases h : t < i
    · rw [if_pos (by omega), if_pos (by omega)]
    · rw [if_neg (by omega), if_neg (by omega)]
set_option maxRecDepth 100000 in
set_option maxHeartbeats 4000000 in
theorem apart1 (B A0 m lg lc : Nat) (nn : Nat → Nat) (x : Nat → Value) (f : Nat → Nat → Nat) (V : World) (hown : V.ownsRow A0 27 1 (.slice (some ⟨lg, 0, none⟩) m lc) m (lL x m)) (hf0 : Fam B m x nn f V) (hm : m ≤ 1000) (hnn : ∀ t, t < m → nn t ≤ 140737488351232)
    (h : ∀ (a : Act) (W : World), AA (.slice (some ⟨lg, 0, none⟩) m lc) a → Fam B m x nn (mkA f m 0) W → Saved (Gx m x) V W → (fromR 10 (Try.f20.body.getD .skip)).wp Try.prog (bodyPost Try.prog Try.f20 fun e w' => e = .returned (.bool true) ∧ Saved (Gx m x) V w') a W)
    (a : Act) (A : AA (.slice (some ⟨lg, 0, none⟩) m lc) a) : (fromR 1 (Try.f20.body.getD .skip)).wp Try.prog (bodyPost Try.prog Try.f20 fun e w' => e = .returned (.bool true) ∧ Saved (Gx m x) V w') a V := by
  refine wp_seq ?_
  refine wp_seq ?_
  refine wp_region_sqK 137 [(0, 16), (1, 17), (2, 18)] (fun i_ => match i_ with | 0 => .slice (some ⟨lg, 0, none⟩) m lc | 1 => .int .i64 ((m : Nat) : Int) | 2 => .int .i64 ((0 : Nat) : Int) | _ => undef) A.sz (by kernel_rfl) (by decide) (by decide) ?_ ?_
  · intro i_ hi_ a hf hv hn
    match i_, hi_ with
    | 0, _ => exact stepV rfl rfl (execMvB rfl ((hf 0 (by decide)).trans A.t0)) ⟨⟨_, rfl, rfl⟩, rfl⟩
    | 1, _ => exact stepV rfl rfl (execLenL (len := m) rfl (hv 0 (by omega) _ rfl _ rfl)) ⟨⟨_, rfl, rfl⟩, rfl⟩
    | 2, _ => exact stepV rfl rfl (execMvB rfl rfl) ⟨⟨_, rfl, rfl⟩, rfl⟩
    | k_ + 3, h_ => exact absurd h_ (by simp)
  intro a h1 h2 h3 h4
  have t16 : a.eval (.tmp 16) = .slice (some ⟨lg, 0, none⟩) m lc := h4 0 _ rfl _ rfl
  have t17 : a.eval (.tmp 17) = .int .i64 ((m : Nat) : Int) := h4 1 _ rfl _ rfl
  have t18 : a.eval (.tmp 18) = .int .i64 ((0 : Nat) : Int) := h4 2 _ rfl _ rfl
  have A := A.keep h1 h2 h3 (by decide)
  clear h1 h2 h3 h4
  refine wp_block ?_
  refine wp_loop (fun a W => ∃ i : Nat, i ≤ m ∧ AA (.slice (some ⟨lg, 0, none⟩) m lc) a ∧ (a.eval (.tmp 16) = .slice (some ⟨lg, 0, none⟩) m lc ∧ a.eval (.tmp 17) = .int .i64 ((m : Nat) : Int) ∧ a.eval (.tmp 18) = .int .i64 ((i : Nat) : Int)) ∧ Fam B m x nn (mkA f i 0) W ∧ Saved (Gx m x) V W) (fun a _ => m - (intOf (a.eval (.tmp 18))).toNat) ⟨0, by omega, A, ⟨t16, t17, t18⟩, fam_cg8 hf0 fun t _ l _ => by unfold mkA; rw [if_neg (by omega)], Saved.refl _ _⟩ ?_
  clear A t16 t17 t18 a
  rintro a W ⟨i, hi, A, ⟨t16, t17, t18⟩, FA, SV⟩
  have e18 := t18
  refine wp_seq ?_
  refine wp_region_sqK 137 [(0, 19)] (fun i_ => match i_ with | 0 => .bool (decide (i < m)) | _ => undef) A.sz (by kernel_rfl) (by decide) (by decide) ?_ ?_
  · intro i_ hi_ a hf hv hn
    match i_, hi_ with
    | 0, _ => exact stepV rfl rfl (execLtW (p := i) (q := m) rfl ((hf 18 (by decide)).trans t18) ((hf 17 (by decide)).trans t17)) ⟨⟨_, rfl, rfl⟩, rfl⟩
    | k_ + 1, h_ => exact absurd h_ (by simp)
  intro a h1 h2 h3 h4
  have t16 := (h3 16 (by decide)).trans t16
  have t17 := (h3 17 (by decide)).trans t17
  have t18 := (h3 18 (by decide)).trans t18
  have t19 : a.eval (.tmp 19) = .bool (decide (i < m)) := h4 0 _ rfl _ rfl
  have A := A.keep h1 h2 h3 (by decide)
  clear h1 h2 h3 h4
  refine wp_seq ?_
  by_cases hlt : i < m
  · rw [decide_eq_true hlt] at t19
    refine wp_cond_true t19 ?_
    refine wp_skip ?_
    clear t19
    obtain ⟨xa, xc, ex⟩ := own_shapeJ (FA.rows i hlt)
    have cX := lists_at hown hf0 SV hlt
    rw [ex] at cX
    refine wp_seq ?_
    refine wp_block ?_
    refine wp_seq ?_
    refine wp_region_sqK 137 [(0, 20), (1, 21), (2, 22), (3, 3), (4, 4)] (fun i_ => match i_ with | 0 => .int .i64 ((i : Nat) : Int) | 1 => .pointer (some ⟨lg, 0 + i, none⟩) | 2 => .slice xa (nn i) xc | 3 => .int .i64 ((i : Nat) : Int) | 4 => .slice xa (nn i) xc | _ => undef) A.sz (by kernel_rfl) (by decide) (by decide) ?_ ?_
    · intro i_ hi_ a hf hv hn
      match i_, hi_ with
      | 0, _ => exact stepV rfl rfl (execMvB rfl ((hf 18 (by decide)).trans t18)) ⟨⟨_, rfl, rfl⟩, rfl⟩
      | 1, _ => exact stepV rfl rfl (Cf.execIdxL (k := i) rfl ((hf 16 (by decide)).trans t16) ((hf 18 (by decide)).trans t18) (by exact hlt)) ⟨⟨_, rfl, rfl⟩, rfl⟩
      | 2, _ => exact stepV rfl rfl (execLdL rfl (hv 1 (by omega) _ rfl _ rfl) cX) ⟨⟨_, rfl, rfl⟩, rfl⟩
      | 3, _ => exact stepV rfl rfl (execAsgB rfl (hv 0 (by omega) _ rfl _ rfl)) ⟨⟨_, rfl, rfl⟩, rfl⟩
      | 4, _ => exact stepV rfl rfl (execAsgB rfl (hv 2 (by omega) _ rfl _ rfl)) ⟨⟨_, rfl, rfl⟩, rfl⟩
      | k_ + 5, h_ => exact absurd h_ (by simp)
    intro a h1 h2 h3 h4
    have t16 := (h3 16 (by decide)).trans t16
    have t17 := (h3 17 (by decide)).trans t17
    have t18 := (h3 18 (by decide)).trans t18
    have t3 : a.eval (.tmp 3) = .int .i64 ((i : Nat) : Int) := h4 3 _ rfl _ rfl
    have t4 : a.eval (.tmp 4) = .slice xa (nn i) xc := h4 4 _ rfl _ rfl
    have A := A.keep h1 h2 h3 (by decide)
    clear h1 h2 h3 h4
    clear cX
    refine wp_seq ?_
    refine wp_region_sqK 137 [(0, 23), (1, 24), (2, 25)] (fun i_ => match i_ with | 0 => .slice xa (nn i) xc | 1 => .int .i64 (((nn i) : Nat) : Int) | 2 => .int .i64 ((0 : Nat) : Int) | _ => undef) A.sz (by kernel_rfl) (by decide) (by decide) ?_ ?_
    · intro i_ hi_ a hf hv hn
      match i_, hi_ with
      | 0, _ => exact stepV rfl rfl (execMvB rfl ((hf 4 (by decide)).trans t4)) ⟨⟨_, rfl, rfl⟩, rfl⟩
      | 1, _ => exact stepV rfl rfl (execLenV (len := (nn i)) rfl (hv 0 (by omega) _ rfl _ rfl) ⟨_, _, rfl⟩) ⟨⟨_, rfl, rfl⟩, rfl⟩
      | 2, _ => exact stepV rfl rfl (execMvB rfl rfl) ⟨⟨_, rfl, rfl⟩, rfl⟩
      | k_ + 3, h_ => exact absurd h_ (by simp)
    intro a h1 h2 h3 h4
    have t16 := (h3 16 (by decide)).trans t16
    have t17 := (h3 17 (by decide)).trans t17
    have t18 := (h3 18 (by decide)).trans t18
    have t3 := (h3 3 (by decide)).trans t3
    have t4 := (h3 4 (by decide)).trans t4
    have t24 : a.eval (.tmp 24) = .int .i64 (((nn i) : Nat) : Int) := h4 1 _ rfl _ rfl
    have t25 : a.eval (.tmp 25) = .int .i64 ((0 : Nat) : Int) := h4 2 _ rfl _ rfl
    have A := A.keep h1 h2 h3 (by decide)
    clear h1 h2 h3 h4
    refine wp_block ?_
    refine wp_loop (fun a W => ∃ k : Nat, k ≤ nn i ∧ AA (.slice (some ⟨lg, 0, none⟩) m lc) a ∧ (a.eval (.tmp 16) = .slice (some ⟨lg, 0, none⟩) m lc ∧ a.eval (.tmp 17) = .int .i64 ((m : Nat) : Int) ∧ a.eval (.tmp 18) = .int .i64 ((i : Nat) : Int)) ∧ a.eval (.tmp 3) = .int .i64 ((i : Nat) : Int) ∧ a.eval (.tmp 4) = .slice xa (nn i) xc ∧ a.eval (.tmp 24) = .int .i64 (((nn i) : Nat) : Int) ∧ a.eval (.tmp 25) = .int .i64 ((k : Nat) : Int) ∧ Fam B m x nn (mkA f i k) W ∧ Saved (Gx m x) V W) (fun a _ => nn i - (intOf (a.eval (.tmp 25))).toNat) ⟨0, by omega, A, ⟨t16, t17, t18⟩, t3, t4, t24, t25, FA, SV⟩ ?_
    clear A t16 t17 t18 t3 t4 t24 t25 FA SV a W
    rintro a W ⟨k, hk0, A, ⟨t16, t17, t18⟩, t3, t4, t24, t25, FA, SV⟩
    have e25 := t25
    refine wp_seq ?_
    refine wp_region_sqK 137 [(0, 26)] (fun i_ => match i_ with | 0 => .bool (decide (k < (nn i))) | _ => undef) A.sz (by kernel_rfl) (by decide) (by decide) ?_ ?_
    · intro i_ hi_ a hf hv hn
      match i_, hi_ with
      | 0, _ => exact stepV rfl rfl (execLtW (p := k) (q := (nn i)) rfl ((hf 25 (by decide)).trans t25) ((hf 24 (by decide)).trans t24)) ⟨⟨_, rfl, rfl⟩, rfl⟩
      | k_ + 1, h_ => exact absurd h_ (by simp)
    intro a h1 h2 h3 h4
    have t16 := (h3 16 (by decide)).trans t16
    have t17 := (h3 17 (by decide)).trans t17
    have t18 := (h3 18 (by decide)).trans t18
    have t3 := (h3 3 (by decide)).trans t3
    have t4 := (h3 4 (by decide)).trans t4
    have t24 := (h3 24 (by decide)).trans t24
    have t25 := (h3 25 (by decide)).trans t25
    have t26 : a.eval (.tmp 26) = .bool (decide (k < (nn i))) := h4 0 _ rfl _ rfl
    have A := A.keep h1 h2 h3 (by decide)
    clear h1 h2 h3 h4
    refine wp_seq ?_
    by_cases hk : k < nn i
    · rw [decide_eq_true hk] at t26
      refine wp_cond_true t26 ?_
      refine wp_skip ?_
      clear t26
      have LW := FA.rows i hlt
      obtain ⟨xg, xc2, ex2, _⟩ := own_cells LW (by omega)
      have e3 : xa = some ⟨xg, 0, none⟩ ∧ xc = xc2 := by
        have := ex.symm.trans ex2
        injection this with h1 _ h2
        exact ⟨h1, h2⟩
      obtain ⟨rfl, rfl⟩ := e3
      rw [ex] at LW
      have cB := own_at8 LW hk
      obtain ⟨cu, hcu⟩ := own_type LW (k := xg) rfl
      have FN := fam_cg8 (fam_set8 (j := k) FA hlt ex (i % 256)) fun t _ l _ => mkA_set t l
      have SN := SV.cell (b := xg) (o := k) (.int .u8 ((i % 256 : Nat) : Int)) (.inr ⟨i, hlt, by rw [ex]; rfl⟩)
      refine wp_seq ?_
      refine wp_block ?_
      refine wp_seq ?_
      refine wp_region_sqK 137 [(0, 27), (1, 5)] (fun i_ => match i_ with | 0 => .int .i64 ((k : Nat) : Int) | 1 => .int .i64 ((k : Nat) : Int) | _ => undef) A.sz (by kernel_rfl) (by decide) (by decide) ?_ ?_
      · intro i_ hi_ a hf hv hn
        match i_, hi_ with
        | 0, _ => exact stepV rfl rfl (execMvB rfl ((hf 25 (by decide)).trans t25)) ⟨⟨_, rfl, rfl⟩, rfl⟩
        | 1, _ => exact stepV rfl rfl (execAsgB rfl (hv 0 (by omega) _ rfl _ rfl)) ⟨⟨_, rfl, rfl⟩, rfl⟩
        | k_ + 2, h_ => exact absurd h_ (by simp)
      intro a h1 h2 h3 h4
      have t16 := (h3 16 (by decide)).trans t16
      have t17 := (h3 17 (by decide)).trans t17
      have t18 := (h3 18 (by decide)).trans t18
      have t3 := (h3 3 (by decide)).trans t3
      have t4 := (h3 4 (by decide)).trans t4
      have t24 := (h3 24 (by decide)).trans t24
      have t25 := (h3 25 (by decide)).trans t25
      have t5 : a.eval (.tmp 5) = .int .i64 ((k : Nat) : Int) := h4 1 _ rfl _ rfl
      have A := A.keep h1 h2 h3 (by decide)
      clear h1 h2 h3 h4
      refine wp_region_sqW 137 [(0, 28), (1, 29), (2, 30), (3, 31), (4, 32)] (fun i_ => match i_ with | 0 => .slice (some ⟨xg, 0, none⟩) (nn i) xc | 1 => .int .i64 ((k : Nat) : Int) | 2 => .int .i64 ((i : Nat) : Int) | 3 => .int .u8 ((i % 256 : Nat) : Int) | 4 => .pointer (some ⟨xg, k, none⟩) | 5 => undef | _ => undef) (fun i_ => match i_ with | 0 => W | 1 => W | 2 => W | 3 => W | 4 => W | 5 => W | _ => (W.setCell ⟨xg, k, none⟩ (.int .u8 ((i % 256 : Nat) : Int)))) A.sz (by kernel_rfl) (by decide) (by decide) ?_ ?_
      · intro i_ hi_ a hf hv hn
        match i_, hi_ with
        | 0, _ => exact stepV rfl rfl (execMvB rfl ((hf 4 (by decide)).trans t4)) ⟨⟨_, rfl, rfl⟩, rfl⟩
        | 1, _ => exact stepV rfl rfl (execMvB rfl ((hf 5 (by decide)).trans t5)) ⟨⟨_, rfl, rfl⟩, rfl⟩
        | 2, _ => exact stepV rfl rfl (execMvB rfl ((hf 3 (by decide)).trans t3)) ⟨⟨_, rfl, rfl⟩, rfl⟩
        | 3, _ => exact stepV rfl rfl (execU8 (n := i) rfl (hv 2 (by omega) _ rfl _ rfl)) ⟨⟨_, rfl, rfl⟩, rfl⟩
        | 4, _ => exact stepV rfl rfl (execIdxS0 (k := k) rfl (hv 0 (by omega) _ rfl _ rfl) (hv 1 (by omega) _ rfl _ rfl) (by exact hk)) ⟨⟨_, rfl, rfl⟩, rfl⟩
        | 5, _ => exact stepS rfl rfl (execStB rfl (hv 4 (by omega) _ rfl _ rfl) (hv 3 (by omega) _ rfl _ rfl) cB (frozen4 hcu)) ⟨⟨_, rfl, rfl⟩, rfl⟩
        | k_ + 6, h_ => exact absurd h_ (by simp)
      intro a h1 h2 h3 h4
      have t16 := (h3 16 (by decide)).trans t16
      have t17 := (h3 17 (by decide)).trans t17
      have t18 := (h3 18 (by decide)).trans t18
      have t3 := (h3 3 (by decide)).trans t3
      have t4 := (h3 4 (by decide)).trans t4
      have t24 := (h3 24 (by decide)).trans t24
      have t25 := (h3 25 (by decide)).trans t25
      have A := A.keep h1 h2 h3 (by decide)
      clear h1 h2 h3 h4
      clear FA SV LW cB hcu
      revert FN SN
      generalize W.setCell ⟨xg, k, none⟩ (.int .u8 ((i % 256 : Nat) : Int)) = W
      intro FA SV
      refine wp_region_sqK 137 [(0, 33), (1, 25)] (fun i_ => match i_ with | 0 => .int .i64 ((k + 1 : Nat) : Int) | 1 => .int .i64 ((k + 1 : Nat) : Int) | _ => undef) A.sz (by kernel_rfl) (by decide) (by decide) ?_ ?_
      · intro i_ hi_ a hf hv hn
        match i_, hi_ with
        | 0, _ => exact stepV rfl rfl (execAd8 (p := k) (q := 1) rfl ((hn 1 (by omega) _ rfl _ rfl).trans t25) rfl (by have := hnn i hlt; omega)) ⟨⟨_, rfl, rfl⟩, rfl⟩
        | 1, _ => exact stepV rfl rfl (execMvB rfl (hv 0 (by omega) _ rfl _ rfl)) ⟨⟨_, rfl, rfl⟩, rfl⟩
        | k_ + 2, h_ => exact absurd h_ (by simp)
      intro a h1 h2 h3 h4
      have t16 := (h3 16 (by decide)).trans t16
      have t17 := (h3 17 (by decide)).trans t17
      have t18 := (h3 18 (by decide)).trans t18
      have t3 := (h3 3 (by decide)).trans t3
      have t4 := (h3 4 (by decide)).trans t4
      have t24 := (h3 24 (by decide)).trans t24
      have t25 : a.eval (.tmp 25) = .int .i64 ((k + 1 : Nat) : Int) := h4 1 _ rfl _ rfl
      have A := A.keep h1 h2 h3 (by decide)
      clear h1 h2 h3 h4
      exact ⟨⟨k + 1, hk, A, ⟨t16, t17, t18⟩, t3, t4, t24, t25, FA, SV⟩, by show nn i - (intOf (a.eval (.tmp 25))).toNat < nn i - (intOf (Act.eval _ (.tmp 25))).toNat; rw [t25, e25]; show nn i - (k + 1) < nn i - k; omega⟩
    · rw [decide_eq_false hk] at t26
      refine wp_cond_false t26 ?_
      refine wp_exit ?_
      first | refine exit_in ?_ | refine exit_then (exit_in ?_) | refine exit_then (exit_then (exit_in ?_))
      have ek : k = nn i := by omega
      rw [ek] at FA
      have FA := fam_cg8 FA fun t _ l hl => mkA_next (f := f) (i := i) t l hl
      refine wp_region_sqK 137 [(0, 34), (1, 18)] (fun i_ => match i_ with | 0 => .int .i64 ((i + 1 : Nat) : Int) | 1 => .int .i64 ((i + 1 : Nat) : Int) | _ => undef) A.sz (by kernel_rfl) (by decide) (by decide) ?_ ?_
      · intro i_ hi_ a hf hv hn
        match i_, hi_ with
        | 0, _ => exact stepV rfl rfl (execAd8 (p := i) (q := 1) rfl ((hn 1 (by omega) _ rfl _ rfl).trans t18) rfl (by have := hm; have := hnn; omega)) ⟨⟨_, rfl, rfl⟩, rfl⟩
        | 1, _ => exact stepV rfl rfl (execMvB rfl (hv 0 (by omega) _ rfl _ rfl)) ⟨⟨_, rfl, rfl⟩, rfl⟩
        | k_ + 2, h_ => exact absurd h_ (by simp)
      intro a h1 h2 h3 h4
      have t16 := (h3 16 (by decide)).trans t16
      have t17 := (h3 17 (by decide)).trans t17
      have t18 : a.eval (.tmp 18) = .int .i64 ((i + 1 : Nat) : Int) := h4 1 _ rfl _ rfl
      have A := A.keep h1 h2 h3 (by decide)
      clear h1 h2 h3 h4
      exact ⟨⟨i + 1, hlt, A, ⟨t16, t17, t18⟩, FA, SV⟩, by show m - (intOf (a.eval (.tmp 18))).toNat < m - (intOf (Act.eval _ (.tmp 18))).toNat; rw [t18, e18]; show m - (i + 1) < m - i; omega⟩
  · rw [decide_eq_false hlt] at t19
    refine wp_cond_false t19 ?_
    refine wp_exit ?_
    first | refine exit_in ?_ | refine exit_then (exit_in ?_) | refine exit_then (exit_then (exit_in ?_))
    obtain rfl : i = m := by omega
    exact h a W A FA SV
end Go.Proofs.Ytigkmgoidbamnaa.Tap
