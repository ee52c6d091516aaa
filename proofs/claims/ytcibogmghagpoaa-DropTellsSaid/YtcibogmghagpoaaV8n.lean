import Derived.Test.YtcibogmghagpoaaV9f
import Derived.Test.YtcibogmghagpoaaV8f
namespace Go.Proofs.Ytcibogmghagpoaa.Dro
open Go.RowKit Gf8 Aes By8 Cel Cf Tap
/- Stage 28's apart: the lists are marked; lists that are grown. Written by tools/mkV8n.py. -/

structure MoN (B m : Nat) (nn : Nat → Nat) (x gv : Nat → Value) (gl : Nat → Nat) (mo : Nat → Value) (R : Nat) (V W : World) : Prop where
  ap : ApN B m nn x (fun t _ => t % 256) (fun t => (t + 100) % 256) gv gl W
  sv : Saved (Gx m x) V W
  row : ∃ c, W.heap[R]? = some (.cells c 23) ∧ c.size = m ∧ ∀ t, t < m → c[t]? = some (mo t)
  new : V.heap.size ≤ R
  pl : ∀ t, t < m → ∀ k, (gv t).ownBlock = some k → V.heap.size ≤ k ∨ Gx m x k
section
variable {B m : Nat} {nn : Nat → Nat} {x gv : Nat → Value} {gl : Nat → Nat} {mo : Nat → Value} {R : Nat} {V W W' : World}
theorem MoN.cg {gl' : Nat → Nat} {mo' : Nat → Value} (h : MoN B m nn x gv gl mo R V W) (e : ∀ t, t < m → gl t = gl' t) (e' : ∀ t, t < m → mo t = mo' t) : MoN B m nn x gv gl' mo' R V W :=
  ⟨apn_cg h.ap e, h.sv, by obtain ⟨c, h1, h2, h3⟩ := h.row; exact ⟨c, h1, h2, fun t ht => by rw [← e' t ht]; exact h3 t ht⟩, h.new, h.pl⟩
theorem MoN.on (h : MoN B m nn x gv gl mo R V W) (hb : Below W.heap.size W W') : MoN B m nn x gv gl mo R V W' :=
  ⟨h.ap.on hb, h.sv.below hb h.sv.size, by obtain ⟨c, h1, h2, h3⟩ := h.row; exact ⟨c, by rw [hb.block _ (Array.getElem?_eq_some_iff.1 h1).1]; exact h1, h2, h3⟩, h.new, h.pl⟩
theorem MoN.grow (h : MoN B m nn x gv gl mo R V W) {i k : Nat} (hi : i < m) {v' : Value}
    (hv : W'.ownsRow B 5 1 v' (gl i + k) (bytesL (gl i + k) (gM (fun _ => i % 256) (nn i) ((i + 100) % 256)))) (hp : (v'.ownBlock = (gv i).ownBlock ∧ W.grownBy W' (gv i).ownBlock ∧ capV v' = capV (gv i)) ∨ (v'.ownBlock = some W.heap.size ∧ W.grownBy W' Option.none)) :
    MoN B m nn x (updX gv i v') (fun t => if t = i then gl i + k else gl t) mo R V W' := by
  refine ⟨h.ap.grow hi hv hp, ?_, ?_, h.new, fun t ht b hb => ?_⟩
  · rcases hp with ⟨_, hg, _⟩ | ⟨_, hg⟩
    · exact h.sv.grown hg (h.pl i hi)
    · exact h.sv.grown hg (fun k e => by cases e)
  · obtain ⟨c, h1, h2, h3⟩ := h.row
    refine ⟨c, ?_, h2, h3⟩
    rcases hp with ⟨_, hg, _⟩ | ⟨_, hg⟩
    · rw [hg.block _ (Array.getElem?_eq_some_iff.1 h1).1 (own_ne (h.ap.grown i hi) h1 (by decide))]
      exact h1
    · rw [hg.block _ (Array.getElem?_eq_some_iff.1 h1).1 (by simp)]
      exact h1
  · by_cases e : t = i
    · subst e
      rw [updX_at] at hb
      rcases hp with ⟨e, _⟩ | ⟨e, _⟩
      · exact h.pl t ht b (by rw [← e]; exact hb)
      · rw [e] at hb
        have := Option.some.inj hb
        have := h.sv.size
        exact Or.inl (by omega)
    · unfold updX at hb
      rw [if_neg e] at hb
      exact h.pl t ht b hb
/-- A list that has been grown is laid into the list of lists. -/
theorem MoN.put (h : MoN B m nn x gv gl mo R V W) (i : Nat) (u : Value) : MoN B m nn x gv gl (updX mo i u) R V (W.setCell ⟨R, i, none⟩ u) := by
  obtain ⟨c, h1, h2, h3⟩ := h.row
  refine ⟨h.ap.cell h1, h.sv.cell _ (Or.inl h.new), ⟨c.setIfInBounds i u, heap4 _ h1, by rw [Array.size_setIfInBounds]; exact h2, fun t ht => ?_⟩, h.new, h.pl⟩
  rw [Array.getElem?_setIfInBounds]
  unfold updX
  by_cases e : i = t
  · subst e
    rw [if_pos rfl, if_pos rfl, if_pos (by omega)]
  · rw [if_neg e, if_neg (fun q => e q.symm)]
    exact h3 t ht
theorem MoN.at (h : MoN B m nn x gv gl mo R V W) {i : Nat} (hi : i < m) : W.cell? ⟨R, i, none⟩ = some (mo i) ∧ W.frozen? ⟨R, i, none⟩ = false := by
  obtain ⟨c, h1, h2, h3⟩ := h.row
  exact ⟨by rw [cell_of_row _ _ _ _ _ _ h1]; exact h3 i hi, frozen4 h1⟩
end
set_option maxRecDepth 100000 in
set_option maxHeartbeats 4000000 in
theorem ap28a (B A0 m lg lc : Nat) (nn : Nat → Nat) (x : Nat → Value) (f : Nat → Nat → Nat) (V : World) (hown : V.ownsRow A0 23 1 (.slice (some ⟨lg, 0, none⟩) m lc) m (lL x m)) (hf0 : Fam B m x nn f V) (hm : m ≤ 5000) (hnn : ∀ t, t < m → nn t ≤ 140737488351232)
    (h : ∀ (a : Act) (W : World), AA (.slice (some ⟨lg, 0, none⟩) m lc) a → Fam B m x nn (mkA f m 0) W → Saved (Gx m x) V W → (fromR 10 (Try.f17.body.getD .skip)).wp Try.prog (bodyPost Try.prog Try.f17 fun e w' => e = .returned (.bool true) ∧ Saved (Gx m x) V w') a W)
    (a : Act) (A : AA (.slice (some ⟨lg, 0, none⟩) m lc) a) : (fromR 1 (Try.f17.body.getD .skip)).wp Try.prog (bodyPost Try.prog Try.f17 fun e w' => e = .returned (.bool true) ∧ Saved (Gx m x) V w') a V := by
  refine wp_seq ?_
  refine wp_seq ?_
  refine wp_region_sqK 137 [(0, 16), (1, 17), (2, 18)] (fun i_ => match i_ with | 0 => .slice (some ⟨lg, 0, none⟩) m lc | 1 => .int .i64 ((m : Nat) : Int) | 2 => .int .i64 ((0 : Nat) : Int) | _ => undef) A.sz (by kernel_rfl) (by decide) (by decide) ?_ ?_
  · intro i_ hi_ a hf hv hn
    match i_, hi_ with
    | 0, _ => exact stepV rfl rfl (execMvB rfl ((hf 0 (by decide)).trans A.t0)) ⟨⟨_, rfl, rfl⟩, rfl⟩
    | 1, _ => exact stepV rfl rfl (execLenL (len := m) rfl (hv 0 (by omega) _ rfl _ rfl)) ⟨⟨_, rfl, rfl⟩, rfl⟩
    | 2, _ => exact stepV rfl rfl (execMvB rfl rfl) ⟨⟨_, rfl, rfl⟩, rfl⟩
    | k_ + 3, h_ => exact absurd h_ (by simp)
  intro a h1 h2 h3 h4
  have t16 : a.eval (.tmp 16) = .slice (some ⟨lg, 0, none⟩) m lc := h4 0 _ rfl _ rfl
  have t17 : a.eval (.tmp 17) = .int .i64 ((m : Nat) : Int) := h4 1 _ rfl _ rfl
  have t18 : a.eval (.tmp 18) = .int .i64 ((0 : Nat) : Int) := h4 2 _ rfl _ rfl
  have A := A.keep h1 h2 h3 (by decide)
  clear h1 h2 h3 h4
  refine wp_block ?_
  refine wp_loop (fun a W => ∃ i : Nat, i ≤ m ∧ AA (.slice (some ⟨lg, 0, none⟩) m lc) a ∧ (a.eval (.tmp 16) = .slice (some ⟨lg, 0, none⟩) m lc ∧ a.eval (.tmp 17) = .int .i64 ((m : Nat) : Int) ∧ a.eval (.tmp 18) = .int .i64 ((i : Nat) : Int)) ∧ Fam B m x nn (mkA f i 0) W ∧ Saved (Gx m x) V W) (fun a _ => m - (intOf (a.eval (.tmp 18))).toNat) ⟨0, by omega, A, ⟨t16, t17, t18⟩, fam_cg8 hf0 fun t _ l _ => by unfold mkA; rw [if_neg (by omega)], Saved.refl _ _⟩ ?_
  clear A t16 t17 t18 a
  rintro a W ⟨i, hi, A, ⟨t16, t17, t18⟩, FA, SV⟩
  have e18 := t18
  refine wp_seq ?_
  refine wp_region_sqK 137 [(0, 19)] (fun i_ => match i_ with | 0 => .bool (decide (i < m)) | _ => undef) A.sz (by kernel_rfl) (by decide) (by decide) ?_ ?_
  · intro i_ hi_ a hf hv hn
    match i_, hi_ with
    | 0, _ => exact stepV rfl rfl (execLtW (p := i) (q := m) rfl ((hf 18 (by decide)).trans t18) ((hf 17 (by decide)).trans t17)) ⟨⟨_, rfl, rfl⟩, rfl⟩
    | k_ + 1, h_ => exact absurd h_ (by simp)
  intro a h1 h2 h3 h4
  have t16 := (h3 16 (by decide)).trans t16
  have t17 := (h3 17 (by decide)).trans t17
  have t18 := (h3 18 (by decide)).trans t18
  have t19 : a.eval (.tmp 19) = .bool (decide (i < m)) := h4 0 _ rfl _ rfl
  have A := A.keep h1 h2 h3 (by decide)
  clear h1 h2 h3 h4
  refine wp_seq ?_
  by_cases hlt : i < m
  · rw [decide_eq_true hlt] at t19
    refine wp_cond_true t19 ?_
    refine wp_skip ?_
    clear t19
    obtain ⟨xa, xc, ex⟩ := own_shapeJ (FA.rows i hlt)
    have cX := lists_at hown hf0 SV hlt
    rw [ex] at cX
    refine wp_seq ?_
    refine wp_block ?_
    refine wp_seq ?_
    refine wp_region_sqK 137 [(0, 20), (1, 21), (2, 22), (3, 3), (4, 4)] (fun i_ => match i_ with | 0 => .int .i64 ((i : Nat) : Int) | 1 => .pointer (some ⟨lg, 0 + i, none⟩) | 2 => .slice xa (nn i) xc | 3 => .int .i64 ((i : Nat) : Int) | 4 => .slice xa (nn i) xc | _ => undef) A.sz (by kernel_rfl) (by decide) (by decide) ?_ ?_
    · intro i_ hi_ a hf hv hn
      match i_, hi_ with
      | 0, _ => exact stepV rfl rfl (execMvB rfl ((hf 18 (by decide)).trans t18)) ⟨⟨_, rfl, rfl⟩, rfl⟩
      | 1, _ => exact stepV rfl rfl (Cf.execIdxL (k := i) rfl ((hf 16 (by decide)).trans t16) ((hf 18 (by decide)).trans t18) (by exact hlt)) ⟨⟨_, rfl, rfl⟩, rfl⟩
      | 2, _ => exact stepV rfl rfl (execLdL rfl (hv 1 (by omega) _ rfl _ rfl) cX) ⟨⟨_, rfl, rfl⟩, rfl⟩
      | 3, _ => exact stepV rfl rfl (execAsgB rfl (hv 0 (by omega) _ rfl _ rfl)) ⟨⟨_, rfl, rfl⟩, rfl⟩
      | 4, _ => exact stepV rfl rfl (execAsgB rfl (hv 2 (by omega) _ rfl _ rfl)) ⟨⟨_, rfl, rfl⟩, rfl⟩
      | k_ + 5, h_ => exact absurd h_ (by simp)
    intro a h1 h2 h3 h4
    have t16 := (h3 16 (by decide)).trans t16
    have t17 := (h3 17 (by decide)).trans t17
    have t18 := (h3 18 (by decide)).trans t18
    have t3 : a.eval (.tmp 3) = .int .i64 ((i : Nat) : Int) := h4 3 _ rfl _ rfl
    have t4 : a.eval (.tmp 4) = .slice xa (nn i) xc := h4 4 _ rfl _ rfl
    have A := A.keep h1 h2 h3 (by decide)
    clear h1 h2 h3 h4
    clear cX
    refine wp_seq ?_
    refine wp_region_sqK 137 [(0, 23), (1, 24), (2, 25)] (fun i_ => match i_ with | 0 => .slice xa (nn i) xc | 1 => .int .i64 (((nn i) : Nat) : Int) | 2 => .int .i64 ((0 : Nat) : Int) | _ => undef) A.sz (by kernel_rfl) (by decide) (by decide) ?_ ?_
    · intro i_ hi_ a hf hv hn
      match i_, hi_ with
      | 0, _ => exact stepV rfl rfl (execMvB rfl ((hf 4 (by decide)).trans t4)) ⟨⟨_, rfl, rfl⟩, rfl⟩
      | 1, _ => exact stepV rfl rfl (execLenV (len := (nn i)) rfl (hv 0 (by omega) _ rfl _ rfl) ⟨_, _, rfl⟩) ⟨⟨_, rfl, rfl⟩, rfl⟩
      | 2, _ => exact stepV rfl rfl (execMvB rfl rfl) ⟨⟨_, rfl, rfl⟩, rfl⟩
      | k_ + 3, h_ => exact absurd h_ (by simp)
    intro a h1 h2 h3 h4
    have t16 := (h3 16 (by decide)).trans t16
    have t17 := (h3 17 (by decide)).trans t17
    have t18 := (h3 18 (by decide)).trans t18
    have t3 := (h3 3 (by decide)).trans t3
    have t4 := (h3 4 (by decide)).trans t4
    have t24 : a.eval (.tmp 24) = .int .i64 (((nn i) : Nat) : Int) := h4 1 _ rfl _ rfl
    have t25 : a.eval (.tmp 25) = .int .i64 ((0 : Nat) : Int) := h4 2 _ rfl _ rfl
    have A := A.keep h1 h2 h3 (by decide)
    clear h1 h2 h3 h4
    refine wp_block ?_
    refine wp_loop (fun a W => ∃ k : Nat, k ≤ nn i ∧ AA (.slice (some ⟨lg, 0, none⟩) m lc) a ∧ (a.eval (.tmp 16) = .slice (some ⟨lg, 0, none⟩) m lc ∧ a.eval (.tmp 17) = .int .i64 ((m : Nat) : Int) ∧ a.eval (.tmp 18) = .int .i64 ((i : Nat) : Int)) ∧ a.eval (.tmp 3) = .int .i64 ((i : Nat) : Int) ∧ a.eval (.tmp 4) = .slice xa (nn i) xc ∧ a.eval (.tmp 24) = .int .i64 (((nn i) : Nat) : Int) ∧ a.eval (.tmp 25) = .int .i64 ((k : Nat) : Int) ∧ Fam B m x nn (mkA f i k) W ∧ Saved (Gx m x) V W) (fun a _ => nn i - (intOf (a.eval (.tmp 25))).toNat) ⟨0, by omega, A, ⟨t16, t17, t18⟩, t3, t4, t24, t25, FA, SV⟩ ?_
    clear A t16 t17 t18 t3 t4 t24 t25 FA SV a W
    rintro a W ⟨k, hk0, A, ⟨t16, t17, t18⟩, t3, t4, t24, t25, FA, SV⟩
    have e25 := t25
    refine wp_seq ?_
    refine wp_region_sqK 137 [(0, 26)] (fun i_ => match i_ with | 0 => .bool (decide (k < (nn i))) | _ => undef) A.sz (by kernel_rfl) (by decide) (by decide) ?_ ?_
    · intro i_ hi_ a hf hv hn
      match i_, hi_ with
      | 0, _ => exact stepV rfl rfl (execLtW (p := k) (q := (nn i)) rfl ((hf 25 (by decide)).trans t25) ((hf 24 (by decide)).trans t24)) ⟨⟨_, rfl, rfl⟩, rfl⟩
      | k_ + 1, h_ => exact absurd h_ (by simp)
    intro a h1 h2 h3 h4
    have t16 := (h3 16 (by decide)).trans t16
    have t17 := (h3 17 (by decide)).trans t17
    have t18 := (h3 18 (by decide)).trans t18
    have t3 := (h3 3 (by decide)).trans t3
    have t4 := (h3 4 (by decide)).trans t4
    have t24 := (h3 24 (by decide)).trans t24
    have t25 := (h3 25 (by decide)).trans t25
    have t26 : a.eval (.tmp 26) = .bool (decide (k < (nn i))) := h4 0 _ rfl _ rfl
    have A := A.keep h1 h2 h3 (by decide)
    clear h1 h2 h3 h4
    refine wp_seq ?_
    by_cases hk : k < nn i
    · rw [decide_eq_true hk] at t26
      refine wp_cond_true t26 ?_
      refine wp_skip ?_
      clear t26
      have LW := FA.rows i hlt
      obtain ⟨xg, xc2, ex2, _⟩ := own_cells LW (by omega)
      have e3 : xa = some ⟨xg, 0, none⟩ ∧ xc = xc2 := by
        have := ex.symm.trans ex2
        injection this with h1 _ h2
        exact ⟨h1, h2⟩
      obtain ⟨rfl, rfl⟩ := e3
      rw [ex] at LW
      have cB := own_at8 LW hk
      obtain ⟨cu, hcu⟩ := own_type LW (k := xg) rfl
      have FN := fam_cg8 (fam_set8 (j := k) FA hlt ex (i % 256)) fun t _ l _ => mkA_set t l
      have SN := SV.cell (b := xg) (o := k) (.int .u8 ((i % 256 : Nat) : Int)) (.inr ⟨i, hlt, by rw [ex]; rfl⟩)
      refine wp_seq ?_
      refine wp_block ?_
      refine wp_seq ?_
      refine wp_region_sqK 137 [(0, 27), (1, 5)] (fun i_ => match i_ with | 0 => .int .i64 ((k : Nat) : Int) | 1 => .int .i64 ((k : Nat) : Int) | _ => undef) A.sz (by kernel_rfl) (by decide) (by decide) ?_ ?_
      · intro i_ hi_ a hf hv hn
        match i_, hi_ with
        | 0, _ => exact stepV rfl rfl (execMvB rfl ((hf 25 (by decide)).trans t25)) ⟨⟨_, rfl, rfl⟩, rfl⟩
        | 1, _ => exact stepV rfl rfl (execAsgB rfl (hv 0 (by omega) _ rfl _ rfl)) ⟨⟨_, rfl, rfl⟩, rfl⟩
        | k_ + 2, h_ => exact absurd h_ (by simp)
      intro a h1 h2 h3 h4
      have t16 := (h3 16 (by decide)).trans t16
      have t17 := (h3 17 (by decide)).trans t17
      have t18 := (h3 18 (by decide)).trans t18
      have t3 := (h3 3 (by decide)).trans t3
      have t4 := (h3 4 (by decide)).trans t4
      have t24 := (h3 24 (by decide)).trans t24
      have t25 := (h3 25 (by decide)).trans t25
      have t5 : a.eval (.tmp 5) = .int .i64 ((k : Nat) : Int) := h4 1 _ rfl _ rfl
      have A := A.keep h1 h2 h3 (by decide)
      clear h1 h2 h3 h4
      refine wp_region_sqW 137 [(0, 28), (1, 29), (2, 30), (3, 31), (4, 32)] (fun i_ => match i_ with | 0 => .slice (some ⟨xg, 0, none⟩) (nn i) xc | 1 => .int .i64 ((k : Nat) : Int) | 2 => .int .i64 ((i : Nat) : Int) | 3 => .int .u8 ((i % 256 : Nat) : Int) | 4 => .pointer (some ⟨xg, k, none⟩) | 5 => undef | _ => undef) (fun i_ => match i_ with | 0 => W | 1 => W | 2 => W | 3 => W | 4 => W | 5 => W | _ => (W.setCell ⟨xg, k, none⟩ (.int .u8 ((i % 256 : Nat) : Int)))) A.sz (by kernel_rfl) (by decide) (by decide) ?_ ?_
      · intro i_ hi_ a hf hv hn
        match i_, hi_ with
        | 0, _ => exact stepV rfl rfl (execMvB rfl ((hf 4 (by decide)).trans t4)) ⟨⟨_, rfl, rfl⟩, rfl⟩
        | 1, _ => exact stepV rfl rfl (execMvB rfl ((hf 5 (by decide)).trans t5)) ⟨⟨_, rfl, rfl⟩, rfl⟩
        | 2, _ => exact stepV rfl rfl (execMvB rfl ((hf 3 (by decide)).trans t3)) ⟨⟨_, rfl, rfl⟩, rfl⟩
        | 3, _ => exact stepV rfl rfl (execU8 (n := i) rfl (hv 2 (by omega) _ rfl _ rfl)) ⟨⟨_, rfl, rfl⟩, rfl⟩
        | 4, _ => exact stepV rfl rfl (execIdxS0 (k := k) rfl (hv 0 (by omega) _ rfl _ rfl) (hv 1 (by omega) _ rfl _ rfl) (by exact hk)) ⟨⟨_, rfl, rfl⟩, rfl⟩
        | 5, _ => exact stepS rfl rfl (execStB rfl (hv 4 (by omega) _ rfl _ rfl) (hv 3 (by omega) _ rfl _ rfl) cB (frozen4 hcu)) ⟨⟨_, rfl, rfl⟩, rfl⟩
        | k_ + 6, h_ => exact absurd h_ (by simp)
      intro a h1 h2 h3 h4
      have t16 := (h3 16 (by decide)).trans t16
      have t17 := (h3 17 (by decide)).trans t17
      have t18 := (h3 18 (by decide)).trans t18
      have t3 := (h3 3 (by decide)).trans t3
      have t4 := (h3 4 (by decide)).trans t4
      have t24 := (h3 24 (by decide)).trans t24
      have t25 := (h3 25 (by decide)).trans t25
      have A := A.keep h1 h2 h3 (by decide)
      clear h1 h2 h3 h4
      clear FA SV LW cB hcu
      revert FN SN
      generalize W.setCell ⟨xg, k, none⟩ (.int .u8 ((i % 256 : Nat) : Int)) = W
      intro FA SV
      refine wp_region_sqK 137 [(0, 33), (1, 25)] (fun i_ => match i_ with | 0 => .int .i64 ((k + 1 : Nat) : Int) | 1 => .int .i64 ((k + 1 : Nat) : Int) | _ => undef) A.sz (by kernel_rfl) (by decide) (by decide) ?_ ?_
      · intro i_ hi_ a hf hv hn
        match i_, hi_ with
        | 0, _ => exact stepV rfl rfl (execAd8 (p := k) (q := 1) rfl ((hn 1 (by omega) _ rfl _ rfl).trans t25) rfl (by have := hnn i hlt; omega)) ⟨⟨_, rfl, rfl⟩, rfl⟩
        | 1, _ => exact stepV rfl rfl (execMvB rfl (hv 0 (by omega) _ rfl _ rfl)) ⟨⟨_, rfl, rfl⟩, rfl⟩
        | k_ + 2, h_ => exact absurd h_ (by simp)
      intro a h1 h2 h3 h4
      have t16 := (h3 16 (by decide)).trans t16
      have t17 := (h3 17 (by decide)).trans t17
      have t18 := (h3 18 (by decide)).trans t18
      have t3 := (h3 3 (by decide)).trans t3
      have t4 := (h3 4 (by decide)).trans t4
      have t24 := (h3 24 (by decide)).trans t24
      have t25 : a.eval (.tmp 25) = .int .i64 ((k + 1 : Nat) : Int) := h4 1 _ rfl _ rfl
      have A := A.keep h1 h2 h3 (by decide)
      clear h1 h2 h3 h4
      exact ⟨⟨k + 1, hk, A, ⟨t16, t17, t18⟩, t3, t4, t24, t25, FA, SV⟩, by show nn i - (intOf (a.eval (.tmp 25))).toNat < nn i - (intOf (Act.eval _ (.tmp 25))).toNat; rw [t25, e25]; show nn i - (k + 1) < nn i - k; omega⟩
    · rw [decide_eq_false hk] at t26
      refine wp_cond_false t26 ?_
      refine wp_exit ?_
      first | refine exit_in ?_ | refine exit_then (exit_in ?_) | refine exit_then (exit_then (exit_in ?_))
      have ek : k = nn i := by omega
      rw [ek] at FA
      have FA := fam_cg8 FA fun t _ l hl => mkA_next (f := f) (i := i) t l hl
      refine wp_region_sqK 137 [(0, 34), (1, 18)] (fun i_ => match i_ with | 0 => .int .i64 ((i + 1 : Nat) : Int) | 1 => .int .i64 ((i + 1 : Nat) : Int) | _ => undef) A.sz (by kernel_rfl) (by decide) (by decide) ?_ ?_
      · intro i_ hi_ a hf hv hn
        match i_, hi_ with
        | 0, _ => exact stepV rfl rfl (execAd8 (p := i) (q := 1) rfl ((hn 1 (by omega) _ rfl _ rfl).trans t18) rfl (by have := hm; have := hnn; omega)) ⟨⟨_, rfl, rfl⟩, rfl⟩
        | 1, _ => exact stepV rfl rfl (execMvB rfl (hv 0 (by omega) _ rfl _ rfl)) ⟨⟨_, rfl, rfl⟩, rfl⟩
        | k_ + 2, h_ => exact absurd h_ (by simp)
      intro a h1 h2 h3 h4
      have t16 := (h3 16 (by decide)).trans t16
      have t17 := (h3 17 (by decide)).trans t17
      have t18 : a.eval (.tmp 18) = .int .i64 ((i + 1 : Nat) : Int) := h4 1 _ rfl _ rfl
      have A := A.keep h1 h2 h3 (by decide)
      clear h1 h2 h3 h4
      exact ⟨⟨i + 1, hlt, A, ⟨t16, t17, t18⟩, FA, SV⟩, by show m - (intOf (a.eval (.tmp 18))).toNat < m - (intOf (Act.eval _ (.tmp 18))).toNat; rw [t18, e18]; show m - (i + 1) < m - i; omega⟩
  · rw [decide_eq_false hlt] at t19
    refine wp_cond_false t19 ?_
    refine wp_exit ?_
    first | refine exit_in ?_ | refine exit_then (exit_in ?_) | refine exit_then (exit_then (exit_in ?_))
    obtain rfl : i = m := by omega
    exact h a W A FA SV
/-- All ahead of i are grown by hi bytes, the others by lo; what lies in the list of lists. -/
structure GSt (B m : Nat) (nn : Nat → Nat) (x : Nat → Value) (R : Nat) (V W : World) (lo hi : Nat) (pre : Prop) (i : Nat) (gv : Nat → Value) (gl : Nat → Nat) (mo : Nat → Value) : Prop where
  mn : MoN B m nn x gv gl mo R V W
  len : ∀ t, t < m → gl t = nn t + (if t < i then hi else lo)
  done : ∀ t, t < m → t < i → mo t = gv t
  todo : ∀ t, t < m → i ≤ t → (pre → mo t = gv t) ∧ (¬ pre → gv t = x t)
/-- The i-th is being grown: v, of n' bytes. -/
structure GI (B m : Nat) (nn : Nat → Nat) (x : Nat → Value) (R : Nat) (V W : World) (lo hi : Nat) (pre : Prop) (i n' : Nat) (v : Value) (gv : Nat → Value) (gl : Nat → Nat) (mo : Nat → Value) : Prop where
  mn : MoN B m nn x gv gl mo R V W
  v_ : gv i = v
  n_ : gl i = n'
  len : ∀ t, t < m → t ≠ i → gl t = nn t + (if t < i then hi else lo)
  done : ∀ t, t < m → t < i → mo t = gv t
  todo : ∀ t, t < m → i < t → (pre → mo t = gv t) ∧ (¬ pre → gv t = x t)
section
variable {B m : Nat} {nn : Nat → Nat} {x : Nat → Value} {R : Nat} {V W W' : World} {lo hi : Nat} {pre : Prop} {i n' : Nat} {v : Value} {gv : Nat → Value} {gl : Nat → Nat} {mo : Nat → Value}
theorem GSt.start (h : GSt B m nn x R V W lo hi pre i gv gl mo) (hi' : i < m) : GI B m nn x R V W lo hi pre i (nn i + lo) (gv i) gv gl mo :=
  ⟨h.mn, rfl, by rw [h.len i hi', if_neg (by omega)], fun t ht _ => h.len t ht, h.done, fun t ht hl => h.todo t ht (by omega)⟩
theorem GI.on (h : GI B m nn x R V W lo hi pre i n' v gv gl mo) (hb : Below W.heap.size W W') : GI B m nn x R V W' lo hi pre i n' v gv gl mo := ⟨h.mn.on hb, h.v_, h.n_, h.len, h.done, h.todo⟩
theorem GI.own (h : GI B m nn x R V W lo hi pre i n' v gv gl mo) (hi' : i < m) : W.ownsRow B 5 1 v n' (bytesL n' (gM (fun _ => i % 256) (nn i) ((i + 100) % 256))) := by
  have := h.mn.ap.grown i hi'
  rw [h.v_, h.n_] at this
  exact this
theorem GI.put (h : GI B m nn x R V W lo hi pre i (nn i + hi) v gv gl mo) : GSt B m nn x R V (W.setCell ⟨R, 0 + i, none⟩ v) lo hi pre (i + 1) gv gl (updX mo i v) := by
  rw [Nat.zero_add]
  refine ⟨h.mn.put i v, fun t ht => ?_, fun t ht hl => ?_, fun t ht hl => ?_⟩
  · by_cases e : t = i
    · rw [e, h.n_, if_pos (by omega)]
    · rw [h.len t ht e]
      by_cases q : t < i
      · rw [if_pos q, if_pos (by omega)]
      · rw [if_neg q, if_neg (by omega)]
  · by_cases e : t = i
    · rw [e, updX_at, h.v_]
    · unfold updX
      rw [if_neg e]
      exact h.done t ht (by omega)
  · have e : t ≠ i := by omega
    unfold updX
    rw [if_neg e]
    exact h.todo t ht (by omega)
theorem GI.grow (h : GI B m nn x R V W lo hi pre i n' v gv gl mo) (hi' : i < m) {k : Nat} {v' : Value} (hv : W'.ownsRow B 5 1 v' (n' + k) (bytesL (n' + k) (gM (fun _ => i % 256) (nn i) ((i + 100) % 256)))) (hp : (v'.ownBlock = v.ownBlock ∧ W.grownBy W' v.ownBlock ∧ capV v' = capV v) ∨ (v'.ownBlock = some W.heap.size ∧ W.grownBy W' Option.none)) :
    GI B m nn x R V W' lo hi pre i (n' + k) v' (updX gv i v') (fun t => if t = i then gl i + k else gl t) mo := by
  refine ⟨h.mn.grow hi' (by rw [h.n_]; exact hv) (by rw [h.v_]; exact hp), updX_at _ _ _, by show (if i = i then gl i + k else gl i) = _; rw [if_pos rfl, h.n_], fun t ht hne => ?_, fun t ht hl => ?_, fun t ht hl => ?_⟩
  · show (if t = i then gl i + k else gl t) = _
    rw [if_neg hne]
    exact h.len t ht hne
  · have e : t ≠ i := by omega
    unfold updX
    rw [if_neg e]
    exact h.done t ht hl
  · have e : t ≠ i := by omega
    unfold updX
    rw [if_neg e]
    exact h.todo t ht hl
end
theorem stepApp9 {ops : Array Oper} {Q : Exit → Act → World → Prop} {K : Act → World → Prop} {j : Nat} {o : Oper} {a : Act} {s y : Operand} {g k : Nat} {B m : Nat} {nn : Nat → Nat} {x : Nat → Value} {R : Nat} {V W : World} {lo hi : Nat} {pre : Prop} {i n' : Nat} {v : Value} {gv : Nat → Value} {gl : Nat → Nat} {mo : Nat → Value} {cs : Array Value} (hos : ops[j]? = some o) (hgd : Region.wanted o (yielded ops a.tmps) = true)
    (ho : o.op = .call { callee := .builtin .append, args := #[s, y], argTypes := #[23, 23] }) (hs : a.eval s = v) (hx : a.eval y = .slice (some ⟨g, 0, none⟩) k k) (h : GI B m nn x R V W lo hi pre i n' v gv gl mo) (hg : W.heap[g]? = some (.cells cs 5)) (hcs : ∀ l, l < k → cs[l]? = some (.int .u8 (((i + 100) % 256 : Nat) : Int))) (hi' : i < m) (hn : nn i ≤ n') (hb : n' + k ≤ 200000000000000) (hB : B ≤ V.heap.size)
    (hK : ∀ v' W' gv' gl', GI B m nn x R V W' lo hi pre i (n' + k) v' gv' gl' mo → K (a.put o.dst v') W') : wpOp Try.prog ops Q j K a W := by
  obtain ⟨v', W', run, own', hp⟩ := execApp8 (n := n') (m := k) (p := gM (fun _ => i % 256) (nn i) ((i + 100) % 256)) ho hs hx (h.own hi') (fun l hl => by
    rw [cell_of_row _ _ _ _ _ _ hg, hcs l hl]
    unfold gM
    rw [if_neg (by omega)]) hb (Nat.le_trans hB h.mn.sv.size)
  exact stepV hos hgd run (hK v' W' _ _ (h.grow hi' own' hp))
theorem GSt.begin {B m : Nat} {nn : Nat → Nat} {x : Nat → Value} {f : Nat → Nat → Nat} {V W : World} (FA : Fam B m x nn (mkA f m 0) W) (SV : Saved (Gx m x) V W) :
    GSt B m nn x W.heap.size V (W.alloc (.cells (madeCells #[.slice none 0 0] m) 23)) 0 8 False 0 x nn (fun _ => .slice none 0 0) := by
  have FA' : Fam B m x nn (fun t _ => t % 256) W := fam_cg8 FA fun t ht l _ => by unfold mkA; rw [if_pos (by omega)]
  refine ⟨⟨(ApN.begin FA').on (belNew W _), SV.below (belNew W _) SV.size, ⟨_, heapNew W _, by simp [madeCells], fun t ht => by simp [madeCells, ht, Nat.mod_one]⟩, SV.size, fun t ht k hk => .inr ⟨t, ht, hk⟩⟩, fun t ht => by rw [if_neg (by omega)]; rfl, fun t _ q => by omega, fun t ht _ => ⟨fun q => q.elim, fun _ => rfl⟩⟩
end Go.Proofs.Ytcibogmghagpoaa.Dro
