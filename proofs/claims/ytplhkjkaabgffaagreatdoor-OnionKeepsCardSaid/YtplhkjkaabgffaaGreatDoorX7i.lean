import Derived.Test.YtplhkjkaabgffaaGreatDoorX7g
namespace Go.Proofs.YtplhkjkaabgffaaGreatDoor.Oni
open Go.RowKit Gf8 Aes By8 Cel
/- OnionKeeps: the lists are marked. Written by tools/mkX7h.py. -/

section
variable {o : Oper} {a : Act} {w : World}
theorem execBs4 {x0 x1 x2 x3 : Operand} {v0 v1 v2 v3 : Value} (ho : o.op = .buildSlice 39 4 #[(0, x0), (1, x1), (2, x2), (3, x3)]) (h0 : a.eval x0 = v0) (h1 : a.eval x1 = v1) (h2 : a.eval x2 = v2) (h3 : a.eval x3 = v3)
    (c0 : ∃ g n c, v0 = .slice g n c) (c1 : ∃ g n c, v1 = .slice g n c) (c2 : ∃ g n c, v2 = .slice g n c) (c3 : ∃ g n c, v3 = .slice g n c) : (execOp a.eval o).run Tryz.prog w = .ok (.value (.slice (some ⟨w.heap.size, 0, none⟩) 4 4)) (w.alloc (.cells #[v0, v1, v2, v3] 22)) := by
  obtain ⟨_, _, _, rfl⟩ := c0
  obtain ⟨_, _, _, rfl⟩ := c1
  obtain ⟨_, _, _, rfl⟩ := c2
  obtain ⟨_, _, _, rfl⟩ := c3
  unfold execOp
  simp only [ho, List.map_toArray, List.map_cons, List.map_nil, h0, h1, h2, h3]
  simp [go_sem]
theorem execIdx4 {x i : Operand} {g k : Nat} (ho : o.op = .indexAddr 39 x i) (hx : a.eval x = .slice (some ⟨g, 0, none⟩) 4 4) (hi : a.eval i = .int .i64 (k : Int)) (hk : k < 4) : (execOp a.eval o).run Tryz.prog w = .ok (.value (.pointer (some ⟨g, k, none⟩))) w := by
  have h1 : (k : Int) < 4 := by omega
  unfold execOp
  simp only [ho, hx, hi]
  simp [go_sem, h1]
end
/-- The j-th of the four lists. -/
theorem list4 (c : KX) (hM : c.M ≤ 320) (j : Nat) (hj : j < 4) : ∃ lg N lc, c.row (rI j) = .slice (some ⟨lg, 0, none⟩) N lc ∧ kN c.M c.n (rI j) = N ∧ N ≤ 320 ∧ ∀ Wc : World, (Wc.alloc (.cells #[.slice (some ⟨c.ag, 0, none⟩) c.M c.ac, .slice (some ⟨c.bg, 0, none⟩) c.M c.bc, .slice (some ⟨c.xg, 0, none⟩) 320 c.xc, .slice (some ⟨c.yg, 0, none⟩) 320 c.yc] 22)).cell? ⟨Wc.heap.size, j, none⟩ = some (.slice (some ⟨lg, 0, none⟩) N lc) := by
  match j, hj with
  | 0, _ => exact ⟨c.ag, c.M, c.ac, rfl, rfl, hM, fun Wc => by rw [cell_of_row _ _ _ _ _ _ (heapNew Wc _)]; rfl⟩
  | 1, _ => exact ⟨c.bg, c.M, c.bc, rfl, rfl, hM, fun Wc => by rw [cell_of_row _ _ _ _ _ _ (heapNew Wc _)]; rfl⟩
  | 2, _ => exact ⟨c.xg, 320, c.xc, rfl, rfl, Nat.le_refl _, fun Wc => by rw [cell_of_row _ _ _ _ _ _ (heapNew Wc _)]; rfl⟩
  | 3, _ => exact ⟨c.yg, 320, c.yc, rfl, rfl, Nat.le_refl _, fun Wc => by rw [cell_of_row _ _ _ _ _ _ (heapNew Wc _)]; rfl⟩
theorem KW.cg {c : KX} {V1 W : World} {ff gg : Nat → Nat → Nat} (h : KW c V1 ff W) (e : ∀ t, t < 8 → ∀ l, l < kN c.M c.n t → ff t l = gg t l) : KW c V1 gg W := ⟨fam_cg h.fam e, h.bel, h.px, h.py⟩
/-- A byte of a list is set. -/
theorem KW.set {c : KX} {V1 W : World} {ff : Nat → Nat → Nat} (h : KW c V1 ff W) {i g cap j : Nat} (hi : i < 8) (hx : c.row i = .slice (some ⟨g, 0, none⟩) (kN c.M c.n i) cap) (z : Nat) : KW c V1 (fun t => if t = i then (fun l => if l = j then z else ff i l) else ff t) (W.setCell ⟨g, j, none⟩ (.int .u8 z)) := by
  have hr := h.fam.rows i hi
  rw [hx] at hr
  obtain ⟨cu, hcu⟩ := own_type hr (k := g) rfl
  have hB : V1.heap.size ≤ g := (hr.lt g rfl).1
  exact ⟨fam_set h.fam hi hx z, h.bel.setCell (p := ⟨g, j, none⟩) hB _, row_setCell h.px hcu (by decide), row_setCell h.py hcu (by decide)⟩
set_option maxRecDepth 100000 in
set_option maxHeartbeats 2000000 in
theorem keeps21 (c : KX) (V V1 : World) (F : KF c V V1) (ff : Nat → Nat → Nat) (h : ∀ a W, KA c a → KW c V1 (mF ff 4 0) W → (fromR 29 (Tryz.f3.body.getD .skip)).wp Tryz.prog (bodyPost Tryz.prog Tryz.f3 fun e w' => e = .returned (.bool true) ∧ Below V.heap.size V w') a W) (a : Act) (W : World) (A : KA c a) (K : KW c V1 ff W) : (fromR 21 (Tryz.f3.body.getD .skip)).wp Tryz.prog (bodyPost Tryz.prog Tryz.f3 fun e w' => e = .returned (.bool true) ∧ Below V.heap.size V w') a W := by
  refine wp_seq ?_
  refine wp_seq ?_
  refine wp_region_sqK 406 [(0, 18)] (fun i_ => match i_ with | 0 => .int .i64 ((0 : Nat) : Int) | _ => undef) A.sz (by kernel_rfl) (by decide) (by decide) ?_ ?_
  · intro i_ hi_ a hf hv hn
    match i_, hi_ with
    | 0, _ => exact stepV rfl rfl (execAsgB rfl rfl) ⟨⟨_, rfl, rfl⟩, rfl⟩
    | k_ + 1, h_ => exact absurd h_ (by simp)
  intro a h1 h2 h3 h4
  have t18 : a.eval (.tmp 18) = .int .i64 ((0 : Nat) : Int) := h4 0 _ rfl _ rfl
  have A := A.keep h1 h2 h3 (by decide)
  clear h1 h2 h3 h4
  refine wp_block ?_
  refine wp_loop (fun a W => ∃ j : Nat, j ≤ 4 ∧ KA c a ∧ a.eval (.tmp 18) = .int .i64 ((j : Nat) : Int) ∧ KW c V1 (mF ff j 0) W) (fun a _ => 4 - (intOf (a.eval (.tmp 18))).toNat) ⟨0, by omega, A, t18, K.cg fun t _ l _ => mF_0 ff t l⟩ ?_
  clear A K t18 a W
  rintro a W ⟨j, hj, A, t18, K⟩
  have e18 := t18
  refine wp_seq ?_
  refine wp_seq ?_
  refine wp_region_sqK 406 [(0, 243), (1, 244)] (fun i_ => match i_ with | 0 => .int .i64 ((j : Nat) : Int) | 1 => .bool (decide (j < 4)) | _ => undef) A.sz (by kernel_rfl) (by decide) (by decide) ?_ ?_
  · intro i_ hi_ a hf hv hn
    match i_, hi_ with
    | 0, _ => exact stepV rfl rfl (execMvB rfl ((hf 18 (by decide)).trans t18)) ⟨⟨_, rfl, rfl⟩, rfl⟩
    | 1, _ => exact stepV rfl rfl (execLtI (p := j) (q := 4) rfl (hv 0 (by omega) _ rfl _ rfl)) ⟨⟨_, rfl, rfl⟩, rfl⟩
    | k_ + 2, h_ => exact absurd h_ (by simp)
  intro a h1 h2 h3 h4
  have t18 := (h3 18 (by decide)).trans t18
  have t244 : a.eval (.tmp 244) = .bool (decide (j < 4)) := h4 1 _ rfl _ rfl
  have A := A.keep h1 h2 h3 (by decide)
  clear h1 h2 h3 h4
  by_cases hlt : j < 4
  · rw [decide_eq_true hlt] at t244
    refine wp_cond_true t244 ?_
    refine wp_skip ?_
    clear t244
    obtain ⟨lg, N, lc, hx, hN, hNb, cj⟩ := list4 c F.sz.2.1 j hlt
    have hr8 : rI j < 8 := by match j, hlt with | 0, _ | 1, _ | 2, _ | 3, _ => decide
    refine wp_seq ?_
    refine wp_block ?_
    refine wp_seq ?_
    refine wp_region_sqW 406 [(0, 247), (1, 248), (2, 249), (3, 250), (4, 251), (5, 252), (6, 253), (7, 254), (8, 255), (9, 256), (10, 19)] (fun i_ => match i_ with | 0 => .slice (some ⟨c.ag, 0, none⟩) c.M c.ac | 1 => .slice (some ⟨c.bg, 0, none⟩) c.M c.bc | 2 => .pointer (some ⟨c.xI, 0, none⟩) | 3 => .slice (some ⟨c.xg, 0, none⟩) 320 c.xc | 4 => .pointer (some ⟨c.yI, 0, none⟩) | 5 => .slice (some ⟨c.yg, 0, none⟩) 320 c.yc | 6 => .slice (some ⟨W.heap.size, 0, none⟩) 4 4 | 7 => .int .i64 ((j : Nat) : Int) | 8 => .pointer (some ⟨W.heap.size, j, none⟩) | 9 => .slice (some ⟨lg, 0, none⟩) N lc | 10 => .slice (some ⟨lg, 0, none⟩) N lc | _ => undef) (fun i_ => match i_ with | 0 => W | 1 => W | 2 => W | 3 => W | 4 => W | 5 => W | 6 => W | _ => (W.alloc (.cells #[.slice (some ⟨c.ag, 0, none⟩) c.M c.ac, .slice (some ⟨c.bg, 0, none⟩) c.M c.bc, .slice (some ⟨c.xg, 0, none⟩) 320 c.xc, .slice (some ⟨c.yg, 0, none⟩) 320 c.yc] 22))) A.sz (by kernel_rfl) (by decide) (by decide) ?_ ?_
    · intro i_ hi_ a hf hv hn
      match i_, hi_ with
      | 0, _ => exact stepV rfl rfl (execMvB rfl ((hf 7 (by decide)).trans A.t7)) ⟨⟨_, rfl, rfl⟩, rfl⟩
      | 1, _ => exact stepV rfl rfl (execMvB rfl ((hf 9 (by decide)).trans A.t9)) ⟨⟨_, rfl, rfl⟩, rfl⟩
      | 2, _ => exact stepV rfl rfl (execP0 rfl ((hf 12 (by decide)).trans A.t12)) ⟨⟨_, rfl, rfl⟩, rfl⟩
      | 3, _ => exact stepV rfl rfl (execLdS rfl (hv 2 (by omega) _ rfl _ rfl) (pC_at K.px)) ⟨⟨_, rfl, rfl⟩, rfl⟩
      | 4, _ => exact stepV rfl rfl (execP0 rfl ((hf 14 (by decide)).trans A.t14)) ⟨⟨_, rfl, rfl⟩, rfl⟩
      | 5, _ => exact stepV rfl rfl (execLdS rfl (hv 4 (by omega) _ rfl _ rfl) (pC_at K.py)) ⟨⟨_, rfl, rfl⟩, rfl⟩
      | 6, _ => exact stepV rfl rfl (execBs4 rfl (hv 0 (by omega) _ rfl _ rfl) (hv 1 (by omega) _ rfl _ rfl) (hv 3 (by omega) _ rfl _ rfl) (hv 5 (by omega) _ rfl _ rfl) ⟨_, _, _, rfl⟩ ⟨_, _, _, rfl⟩ ⟨_, _, _, rfl⟩ ⟨_, _, _, rfl⟩) ⟨⟨_, rfl, rfl⟩, rfl⟩
      | 7, _ => exact stepV rfl rfl (execMvB rfl ((hf 18 (by decide)).trans t18)) ⟨⟨_, rfl, rfl⟩, rfl⟩
      | 8, _ => exact stepV rfl rfl (execIdx4 rfl (hv 6 (by omega) _ rfl _ rfl) (hv 7 (by omega) _ rfl _ rfl) hlt) ⟨⟨_, rfl, rfl⟩, rfl⟩
      | 9, _ => exact stepV rfl rfl (execLdS rfl (hv 8 (by omega) _ rfl _ rfl) (cj W)) ⟨⟨_, rfl, rfl⟩, rfl⟩
      | 10, _ => exact stepV rfl rfl (execAsgB rfl (hv 9 (by omega) _ rfl _ rfl)) ⟨⟨_, rfl, rfl⟩, rfl⟩
      | k_ + 11, h_ => exact absurd h_ (by simp)
    intro a h1 h2 h3 h4
    have t18 := (h3 18 (by decide)).trans t18
    have t19 : a.eval (.tmp 19) = .slice (some ⟨lg, 0, none⟩) N lc := h4 10 _ rfl _ rfl
    have A := A.keep h1 h2 h3 (by decide)
    clear h1 h2 h3 h4
    have K := K.on (belNew W (.cells #[.slice (some ⟨c.ag, 0, none⟩) c.M c.ac, .slice (some ⟨c.bg, 0, none⟩) c.M c.bc, .slice (some ⟨c.xg, 0, none⟩) 320 c.xc, .slice (some ⟨c.yg, 0, none⟩) 320 c.yc] 22))
    refine wp_seq ?_
    revert K
    show KW c V1 (mF ff j 0) (W.alloc (.cells #[.slice (some ⟨c.ag, 0, none⟩) c.M c.ac, .slice (some ⟨c.bg, 0, none⟩) c.M c.bc, .slice (some ⟨c.xg, 0, none⟩) 320 c.xc, .slice (some ⟨c.yg, 0, none⟩) 320 c.yc] 22)) → _
    generalize (W.alloc (.cells #[.slice (some ⟨c.ag, 0, none⟩) c.M c.ac, .slice (some ⟨c.bg, 0, none⟩) c.M c.bc, .slice (some ⟨c.xg, 0, none⟩) 320 c.xc, .slice (some ⟨c.yg, 0, none⟩) 320 c.yc] 22)) = W
    intro K
    refine wp_region_sqK 406 [(0, 20)] (fun i_ => match i_ with | 0 => .int .i64 ((0 : Nat) : Int) | _ => undef) A.sz (by kernel_rfl) (by decide) (by decide) ?_ ?_
    · intro i_ hi_ a hf hv hn
      match i_, hi_ with
      | 0, _ => exact stepV rfl rfl (execAsgB rfl rfl) ⟨⟨_, rfl, rfl⟩, rfl⟩
      | k_ + 1, h_ => exact absurd h_ (by simp)
    intro a h1 h2 h3 h4
    have t18 := (h3 18 (by decide)).trans t18
    have t19 := (h3 19 (by decide)).trans t19
    have t20 : a.eval (.tmp 20) = .int .i64 ((0 : Nat) : Int) := h4 0 _ rfl _ rfl
    have A := A.keep h1 h2 h3 (by decide)
    clear h1 h2 h3 h4
    refine wp_block ?_
    refine wp_loop (fun a W => ∃ m : Nat, m ≤ N ∧ KA c a ∧ a.eval (.tmp 18) = .int .i64 ((j : Nat) : Int) ∧ a.eval (.tmp 19) = .slice (some ⟨lg, 0, none⟩) N lc ∧ a.eval (.tmp 20) = .int .i64 ((m : Nat) : Int) ∧ KW c V1 (mF ff j m) W) (fun a _ => N - (intOf (a.eval (.tmp 20))).toNat) ⟨0, by omega, A, t18, t19, t20, K⟩ ?_
    clear A K t18 t19 t20 a W
    rintro a W ⟨m, hm0, A, t18, t19, t20, K⟩
    have e20 := t20
    refine wp_seq ?_
    refine wp_seq ?_
    refine wp_region_sqK 406 [(0, 257), (1, 258), (2, 259), (3, 260)] (fun i_ => match i_ with | 0 => .int .i64 ((m : Nat) : Int) | 1 => .slice (some ⟨lg, 0, none⟩) N lc | 2 => .int .i64 ((N : Nat) : Int) | 3 => .bool (decide (m < N)) | _ => undef) A.sz (by kernel_rfl) (by decide) (by decide) ?_ ?_
    · intro i_ hi_ a hf hv hn
      match i_, hi_ with
      | 0, _ => exact stepV rfl rfl (execMvB rfl ((hf 20 (by decide)).trans t20)) ⟨⟨_, rfl, rfl⟩, rfl⟩
      | 1, _ => exact stepV rfl rfl (execMvB rfl ((hf 19 (by decide)).trans t19)) ⟨⟨_, rfl, rfl⟩, rfl⟩
      | 2, _ => exact stepV rfl rfl (execLenV (len := N) rfl (hv 1 (by omega) _ rfl _ rfl) ⟨_, _, rfl⟩) ⟨⟨_, rfl, rfl⟩, rfl⟩
      | 3, _ => exact stepV rfl rfl (execLtV (p := m) (q := N) rfl (hv 0 (by omega) _ rfl _ rfl) (hv 2 (by omega) _ rfl _ rfl)) ⟨⟨_, rfl, rfl⟩, rfl⟩
      | k_ + 4, h_ => exact absurd h_ (by simp)
    intro a h1 h2 h3 h4
    have t18 := (h3 18 (by decide)).trans t18
    have t19 := (h3 19 (by decide)).trans t19
    have t20 := (h3 20 (by decide)).trans t20
    have t260 : a.eval (.tmp 260) = .bool (decide (m < N)) := h4 3 _ rfl _ rfl
    have A := A.keep h1 h2 h3 (by decide)
    clear h1 h2 h3 h4
    by_cases hm : m < N
    · rw [decide_eq_true hm] at t260
      refine wp_cond_true t260 ?_
      refine wp_skip ?_
      clear t260
      have HN : N ≤ 320 := hNb
      have LW := K.fam.rows (rI j) hr8
      rw [hx, hN] at LW
      obtain ⟨cu, hcu⟩ := own_type LW (k := lg) rfl
      have KS := K.set (j := m) hr8 (by rw [hN]; exact hx) (j % 256)
      refine wp_seq ?_
      refine wp_block ?_
      refine wp_region_sqW 406 [(0, 263), (1, 264), (2, 265), (3, 266), (4, 267)] (fun i_ => match i_ with | 0 => .slice (some ⟨lg, 0, none⟩) N lc | 1 => .int .i64 ((m : Nat) : Int) | 2 => .int .i64 ((j : Nat) : Int) | 3 => .int .u8 ((j % 256 : Nat) : Int) | 4 => .pointer (some ⟨lg, m, none⟩) | 5 => undef | _ => undef) (fun i_ => match i_ with | 0 => W | 1 => W | 2 => W | 3 => W | 4 => W | 5 => W | _ => (W.setCell ⟨lg, m, none⟩ (.int .u8 ((j % 256 : Nat) : Int)))) A.sz (by kernel_rfl) (by decide) (by decide) ?_ ?_
      · intro i_ hi_ a hf hv hn
        match i_, hi_ with
        | 0, _ => exact stepV rfl rfl (execMvB rfl ((hf 19 (by decide)).trans t19)) ⟨⟨_, rfl, rfl⟩, rfl⟩
        | 1, _ => exact stepV rfl rfl (execMvB rfl ((hf 20 (by decide)).trans t20)) ⟨⟨_, rfl, rfl⟩, rfl⟩
        | 2, _ => exact stepV rfl rfl (execMvB rfl ((hf 18 (by decide)).trans t18)) ⟨⟨_, rfl, rfl⟩, rfl⟩
        | 3, _ => exact stepV rfl rfl (execU8 (n := j) rfl (hv 2 (by omega) _ rfl _ rfl)) ⟨⟨_, rfl, rfl⟩, rfl⟩
        | 4, _ => exact stepV rfl rfl (execIdxS0 (k := m) rfl (hv 0 (by omega) _ rfl _ rfl) (hv 1 (by omega) _ rfl _ rfl) (by exact hm)) ⟨⟨_, rfl, rfl⟩, rfl⟩
        | 5, _ => exact stepS rfl rfl (execStB rfl (hv 4 (by omega) _ rfl _ rfl) (hv 3 (by omega) _ rfl _ rfl) (own_at LW hm) (frozen4 hcu)) ⟨⟨_, rfl, rfl⟩, rfl⟩
        | k_ + 6, h_ => exact absurd h_ (by simp)
      intro a h1 h2 h3 h4
      have t18 := (h3 18 (by decide)).trans t18
      have t19 := (h3 19 (by decide)).trans t19
      have t20 := (h3 20 (by decide)).trans t20
      have A := A.keep h1 h2 h3 (by decide)
      clear h1 h2 h3 h4
      have K := KS.cg fun t ht l _ => mF_set hlt ht l
      clear KS LW hcu
      revert K
      generalize W.setCell ⟨lg, m, none⟩ (.int .u8 ((j % 256 : Nat) : Int)) = W
      intro K
      refine wp_region_sqK 406 [(0, 261), (1, 262), (2, 20)] (fun i_ => match i_ with | 0 => .int .i64 ((m : Nat) : Int) | 1 => .int .i64 ((m + 1 : Nat) : Int) | 2 => .int .i64 ((m + 1 : Nat) : Int) | _ => undef) A.sz (by kernel_rfl) (by decide) (by decide) ?_ ?_
      · intro i_ hi_ a hf hv hn
        match i_, hi_ with
        | 0, _ => exact stepV rfl rfl (execMvB rfl ((hn 2 (by omega) _ rfl _ rfl).trans t20)) ⟨⟨_, rfl, rfl⟩, rfl⟩
        | 1, _ => exact stepV rfl rfl (execAdI (p := m) (q := 1) rfl (hv 0 (by omega) _ rfl _ rfl) rfl (by have := hm; have := HN; omega)) ⟨⟨_, rfl, rfl⟩, rfl⟩
        | 2, _ => exact stepV rfl rfl (execAsgB rfl (hv 1 (by omega) _ rfl _ rfl)) ⟨⟨_, rfl, rfl⟩, rfl⟩
        | k_ + 3, h_ => exact absurd h_ (by simp)
      intro a h1 h2 h3 h4
      have t18 := (h3 18 (by decide)).trans t18
      have t19 := (h3 19 (by decide)).trans t19
      have t20 : a.eval (.tmp 20) = .int .i64 ((m + 1 : Nat) : Int) := h4 2 _ rfl _ rfl
      have A := A.keep h1 h2 h3 (by decide)
      clear h1 h2 h3 h4
      exact ⟨⟨m + 1, hm, A, t18, t19, t20, K⟩, by show N - (intOf (a.eval (.tmp 20))).toNat < N - (intOf (Act.eval _ (.tmp 20))).toNat; rw [t20, e20]; show N - (m + 1) < N - m; omega⟩
    · rw [decide_eq_false hm] at t260
      refine wp_cond_false t260 ?_
      refine wp_exit ?_
      first | refine exit_in ?_ | refine exit_then (exit_in ?_) | refine exit_then (exit_then (exit_in ?_))
      have em : m = N := by omega
      rw [em] at K
      have K := K.cg fun t ht l hl => mF_next hlt ht hN l hl
      refine wp_region_sqK 406 [(0, 245), (1, 246), (2, 18)] (fun i_ => match i_ with | 0 => .int .i64 ((j : Nat) : Int) | 1 => .int .i64 ((j + 1 : Nat) : Int) | 2 => .int .i64 ((j + 1 : Nat) : Int) | _ => undef) A.sz (by kernel_rfl) (by decide) (by decide) ?_ ?_
      · intro i_ hi_ a hf hv hn
        match i_, hi_ with
        | 0, _ => exact stepV rfl rfl (execMvB rfl ((hn 2 (by omega) _ rfl _ rfl).trans t18)) ⟨⟨_, rfl, rfl⟩, rfl⟩
        | 1, _ => exact stepV rfl rfl (execAdI (p := j) (q := 1) rfl (hv 0 (by omega) _ rfl _ rfl) rfl (by omega)) ⟨⟨_, rfl, rfl⟩, rfl⟩
        | 2, _ => exact stepV rfl rfl (execAsgB rfl (hv 1 (by omega) _ rfl _ rfl)) ⟨⟨_, rfl, rfl⟩, rfl⟩
        | k_ + 3, h_ => exact absurd h_ (by simp)
      intro a h1 h2 h3 h4
      have t18 : a.eval (.tmp 18) = .int .i64 ((j + 1 : Nat) : Int) := h4 2 _ rfl _ rfl
      have A := A.keep h1 h2 h3 (by decide)
      clear h1 h2 h3 h4
      exact ⟨⟨j + 1, hlt, A, t18, K⟩, by show 4 - (intOf (a.eval (.tmp 18))).toNat < 4 - (intOf (Act.eval _ (.tmp 18))).toNat; rw [t18, e18]; show 4 - (j + 1) < 4 - j; omega⟩
  · rw [decide_eq_false hlt] at t244
    refine wp_cond_false t244 ?_
    refine wp_exit ?_
    first | refine exit_in ?_ | refine exit_then (exit_in ?_) | refine exit_then (exit_then (exit_in ?_))
    have ej : j = 4 := by omega
    rw [ej] at K
    exact h a W A K
end Go.Proofs.YtplhkjkaabgffaaGreatDoor.Oni

namespace Go.Proofs.YtplhkjkaabgffaaGreatDoor.Oni
open Go.RowKit Gf8 Aes By8 Cel
/- OnionKeeps: the lists are grown. Written by tools/mkX7i.py. -/

/-- append, and the room that it leaves: the operation. -/
theorem execAppK {o : Oper} {a : Act} {W : World} {B n m g c : Nat} {v : Value} {p : Nat → Nat} {s x : Operand}
    (ho : o.op = .call { callee := .builtin .append, args := #[s, x], argTypes := #[22, 22] })
    (hs : a.eval s = v) (hx : a.eval x = .slice (some ⟨g, 0, none⟩) m c) (hown : W.ownsRow B 5 1 v n (bytesL n p)) (hsrc : ∀ j, j < m → W.cell? ⟨g, j, none⟩ = some (.int .u8 (p (n + j))))
    (hbig : n + m ≤ 200000000000000) (hB : B ≤ W.heap.size) :
    ∃ v' W', (execOp a.eval o).run Tryz.prog W = .ok (.value v') W' ∧ W'.ownsRow B 5 1 v' (n + m) (bytesL (n + m) p) ∧ ((v'.ownBlock = v.ownBlock ∧ W.grownBy W' v.ownBlock ∧ capV v' = capV v) ∨ (v'.ownBlock = some W.heap.size ∧ W.grownBy W' none)) := by
  obtain ⟨i, h1, h2, h3, h4⟩ := info5
  obtain ⟨v', w', hr, q1, q2⟩ := run_append_ownR (P := Tryz.prog) W B 22 o.type 5 i (.int .u8 0) Tryz.underlying22 h1 h2 h3 h4 rfl v n (bytesL n p) hown ⟨g, 0, none⟩ m c (bytesL m fun j => p (n + j)) (bytesL_len _ _) (by
    intro j u hu
    have hj : j < m := by have := (List.getElem?_eq_some_iff.1 hu).1; rw [bytesL_len] at this; exact this
    rw [Addr.add_mid, Nat.zero_add, hsrc j hj]
    rw [bytesL_at m _ hj] at hu
    exact hu) (bytesL_one _ _) hbig hB
  rw [bytesL_app] at q1
  refine ⟨v', w', ?_, q1, q2⟩
  unfold execOp
  simp only [ho, resolve, invoke, builtin, Sem.run_bind, Sem.run_pure, Result.andThen_ok, List.map_toArray, List.map_cons, List.map_nil, hs, hx, hr]
theorem execBs9 {o : Oper} {a : Act} {w : World} (ho : o.op = .buildSlice 22 1 #[(0, .const (.int .u8 9))]) : (execOp a.eval o).run Tryz.prog w = .ok (.value (.slice (some ⟨w.heap.size, 0, none⟩) 1 1)) (w.alloc (.cells #[.int .u8 9] 5)) := by
  unfold execOp
  simp only [ho, List.map_toArray, List.map_cons, List.map_nil, Act.eval]
  simp [go_sem]
/-- The lists and what they have been grown to. -/
structure KG (c : KX) (V1 : World) (ff : Nat → Nat → Nat) (gv : Nat → Value) (gl : Nat → Nat) (W : World) : Prop where
  ap : ApN V1.heap.size 8 (kN c.M c.n) c.row ff (fun _ => 9) gv gl W
  bel : Below V1.heap.size V1 W
  px : W.heap[c.xI]? = some (.cells (pC (c.row 6) c.T) 33)
  py : W.heap[c.yI]? = some (.cells (pC (c.row 7) c.T) 33)
theorem KG.on {c : KX} {V1 W W' : World} {ff : Nat → Nat → Nat} {gv : Nat → Value} {gl : Nat → Nat} (h : KG c V1 ff gv gl W) (hb : Below W.heap.size W W') : KG c V1 ff gv gl W' :=
  ⟨h.ap.on hb, h.bel.trans (hb.mono h.bel.size), by rw [hb.block _ (Array.getElem?_eq_some_iff.1 h.px).1]; exact h.px, by rw [hb.block _ (Array.getElem?_eq_some_iff.1 h.py).1]; exact h.py⟩
theorem grown_rowK {W W' : World} {B n : Nat} {v v' : Value} {xs : List Value} (hw : W.ownsRow B 5 1 v n xs) (hp : (v'.ownBlock = v.ownBlock ∧ W.grownBy W' v.ownBlock ∧ capV v' = capV v) ∨ (v'.ownBlock = some W.heap.size ∧ W.grownBy W' none)) {R : Nat} {d : Array Value} {t : TypeId} (hr : W.heap[R]? = some (.cells d t)) (ht : t ≠ 5) : W'.heap[R]? = some (.cells d t) := by
  have lt := (Array.getElem?_eq_some_iff.1 hr).1
  rcases hp with ⟨_, hg, _⟩ | ⟨_, hg⟩
  · rw [hg.block _ lt (own_ne hw hr ht)]; exact hr
  · rw [hg.block _ lt (by simp)]; exact hr
def updG (f : Nat → Nat) (i v : Nat) : Nat → Nat := fun t => if t = i then v else f t
def rQ (q : Nat) : Nat := match q with | 0 => 3 | 1 => 4 | 2 => 6 | _ => 7
/-- In the midst of a round: j operations done. -/
structure RS (c : KX) (V1 : World) (ff : Nat → Nat → Nat) (gv : Nat → Value) (k : Nat) (j : Nat) (s : (Nat → Value) × (Nat → Nat) × (Nat → Nat)) (W : World) : Prop where
  kg : KG c V1 ff s.1 s.2.2 W
  len : ∀ q, q < 4 → s.2.2 (rQ q) = kN c.M c.n (rQ q) + k + (if 3 * q + 2 < j then 1 else 0)
  old : ∀ q, q < 4 → j ≤ 3 * q + 2 → s.1 (rQ q) = gv (rQ q)
  lt_ : ∀ q, q < 4 → j = 3 * q + 2 → W.heap[s.2.1 q]? = some (.cells #[.int .u8 9] 5)
theorem RS.next {c : KX} {V1 W : World} {ff : Nat → Nat → Nat} {gv : Nat → Value} {k j : Nat} {s : (Nat → Value) × (Nat → Nat) × (Nat → Nat)} (h : RS c V1 ff gv k j s W) (hj : j % 3 = 0 ∨ 12 ≤ j) : RS c V1 ff gv k (j + 1) s W :=
  ⟨h.kg, fun q hq => by rw [h.len q hq]; congr 1; by_cases e : 3 * q + 2 < j; rw [if_pos e, if_pos (by omega)]; rw [if_neg e, if_neg (by omega)], fun q hq hl => h.old q hq (by omega), fun q hq hl => by omega⟩
theorem RS.lit {c : KX} {V1 W : World} {ff : Nat → Nat → Nat} {gv : Nat → Value} {k j : Nat} {s : (Nat → Value) × (Nat → Nat) × (Nat → Nat)} (h : RS c V1 ff gv k j s W) {q : Nat} (hj : j = 3 * q + 1) : RS c V1 ff gv k (j + 1) (s.1, updG s.2.1 q W.heap.size, s.2.2) (W.alloc (.cells #[.int .u8 9] 5)) :=
  ⟨h.kg.on (belNew W _), fun p hp => by rw [h.len p hp]; congr 1; by_cases e : 3 * p + 2 < j; rw [if_pos e, if_pos (by omega)]; rw [if_neg e, if_neg (by omega)], fun p hp hl => h.old p hp (by omega), fun p hp hl => by
    obtain rfl : p = q := by omega
    show (W.alloc _).heap[updG s.2.1 p W.heap.size p]? = _
    unfold updG
    rw [if_pos rfl]
    exact heapNew W _⟩
theorem RS.app {c : KX} {V1 W : World} {ff : Nat → Nat → Nat} {gv : Nat → Value} {k j : Nat} {s : (Nat → Value) × (Nat → Nat) × (Nat → Nat)} (h : RS c V1 ff gv k j s W) {q : Nat} {o : Oper} {a : Act} {x y : Operand} {r : Nat} (hj : j = 3 * q + 2) (hr : r = rQ q)
    (ho : o.op = .call { callee := .builtin .append, args := #[x, y], argTypes := #[22, 22] }) (hx : a.eval x = gv r) (hy : a.eval y = .slice (some ⟨s.2.1 q, 0, none⟩) 1 1) (hq : q < 4) (hb : c.M ≤ 320 ∧ k ≤ 40) :
    ∃ v' W', (execOp a.eval o).run Tryz.prog W = .ok (.value v') W' ∧ RS c V1 ff gv k (j + 1) (updX s.1 r v', s.2.1, fun t => if t = r then s.2.2 r + 1 else s.2.2 t) W' := by
  have r8 : r < 8 := by rw [hr]; match q, hq with | 0, _ | 1, _ | 2, _ | 3, _ => decide
  have hold : s.1 r = gv r := by rw [hr]; exact h.old q hq (by omega)
  have hl : s.2.2 r = kN c.M c.n r + k + 0 := by rw [hr, h.len q hq, if_neg (by omega)]
  have hk : kN c.M c.n r ≤ 320 := by rw [hr]; match q, hq with | 0, _ => exact hb.1 | 1, _ => exact hb.1 | 2, _ => exact Nat.le_refl _ | 3, _ => exact Nat.le_refl _
  have own := h.kg.ap.grown r r8
  have le := h.kg.ap.le r r8
  have row := h.lt_ q hq hj
  obtain ⟨v', W', run, own', hp⟩ := execAppK (n := s.2.2 r) (m := 1) (p := gM (ff r) (kN c.M c.n r) 9) ho (hx.trans hold.symm) hy own (fun i hi => by
    obtain rfl : i = 0 := by omega
    rw [cell_of_row _ _ _ _ _ _ row]
    show some (Value.int .u8 9) = _
    unfold gM
    rw [if_neg (by omega)]
    rfl) (by omega) h.kg.bel.size
  refine ⟨v', W', run, ⟨h.kg.ap.grow r8 own' hp, ?_, grown_rowK own hp h.kg.px (by decide), grown_rowK own hp h.kg.py (by decide)⟩, fun p hp2 => ?_, fun p hp2 hl2 => ?_, fun p hp2 hl2 => by omega⟩
  · rcases hp with ⟨_, hg, _⟩ | ⟨_, hg⟩
    · exact h.kg.bel.grown hg h.kg.bel.size (fun b hb2 => (own.lt b hb2).1)
    · exact h.kg.bel.grown hg h.kg.bel.size (fun b hb2 => by cases hb2)
  · show (if rQ p = r then s.2.2 r + 1 else s.2.2 (rQ p)) = _
    by_cases e : p = q
    · subst e
      rw [if_pos hr.symm, hl, ← hr, if_pos (by omega)]
    · have ne : rQ p ≠ r := by
        rw [hr]
        match p, hp2, q, hq with
        | 0, _, 0, _ | 1, _, 1, _ | 2, _, 2, _ | 3, _, 3, _ => exact absurd rfl e
        | 0, _, 1, _ | 0, _, 2, _ | 0, _, 3, _ | 1, _, 0, _ | 1, _, 2, _ | 1, _, 3, _ | 2, _, 0, _ | 2, _, 1, _ | 2, _, 3, _ | 3, _, 0, _ | 3, _, 1, _ | 3, _, 2, _ => decide
      rw [if_neg ne, h.len p hp2]
      congr 1
      by_cases e2 : 3 * p + 2 < j
      · rw [if_pos e2, if_pos (by omega)]
      · rw [if_neg e2, if_neg (by omega)]
  · show updX s.1 r v' (rQ p) = _
    have ne : rQ p ≠ r := by
      rw [hr]
      match p, hp2, q, hq with
      | 0, _, 0, _ | 1, _, 1, _ | 2, _, 2, _ | 3, _, 3, _ => omega
      | 0, _, 1, _ | 0, _, 2, _ | 0, _, 3, _ | 1, _, 0, _ | 1, _, 2, _ | 1, _, 3, _ | 2, _, 0, _ | 2, _, 1, _ | 2, _, 3, _ | 3, _, 0, _ | 3, _, 1, _ | 3, _, 2, _ => decide
    unfold updX
    rw [if_neg ne]
    exact h.old p hp2 (by omega)
theorem RS.step {c : KX} {V1 W : World} {ff : Nat → Nat → Nat} {gv : Nat → Value} {k j : Nat} {s : (Nat → Value) × (Nat → Nat) × (Nat → Nat)} (h : RS c V1 ff gv k j s W) {q : Nat} {ops : Array Oper} {Q : Exit → Act → World → Prop} {K : Act → World → Prop} {o : Oper} {a : Act} {x y : Operand} {r : Nat} (hj : j = 3 * q + 2) (hr : r = rQ q) (hos : ops[j]? = some o) (hg : Region.wanted o (yielded ops a.tmps) = true)
    (ho : o.op = .call { callee := .builtin .append, args := #[x, y], argTypes := #[22, 22] }) (hx : a.eval x = gv r) (hy : a.eval y = .slice (some ⟨s.2.1 q, 0, none⟩) 1 1) (hq : q < 4) (hb : c.M ≤ 320 ∧ k ≤ 40)
    (hK : ∀ v' W', RS c V1 ff gv k (j + 1) (updX s.1 r v', s.2.1, fun t => if t = r then s.2.2 r + 1 else s.2.2 t) W' → K (a.put o.dst v') W') : wpOp Tryz.prog ops Q j K a W := by
  obtain ⟨v', W', run, hS⟩ := h.app hj hr ho hx hy hq hb
  exact stepV hos hg run (hK v' W' hS)
set_option maxRecDepth 100000 in
set_option maxHeartbeats 2000000 in
theorem keeps29 (c : KX) (V V1 : World) (F : KF c V V1) (ff : Nat → Nat → Nat) (h : ∀ (a : Act) (W : World) (gv : Nat → Value), KA c a → KW c V1 ff W → (∀ q, q < 4 → ∃ ao cp, gv (rQ q) = .slice ao (kN c.M c.n (rQ q) + 40) cp) → a.eval (.tmp 21) = gv 3 → a.eval (.tmp 22) = gv 4 → a.eval (.tmp 23) = gv 6 → a.eval (.tmp 24) = gv 7 → (fromR 34 (Tryz.f3.body.getD .skip)).wp Tryz.prog (bodyPost Tryz.prog Tryz.f3 fun e w' => e = .returned (.bool true) ∧ Below V.heap.size V w') a W) (a : Act) (W : World) (A : KA c a) (K : KW c V1 ff W) : (fromR 29 (Tryz.f3.body.getD .skip)).wp Tryz.prog (bodyPost Tryz.prog Tryz.f3 fun e w' => e = .returned (.bool true) ∧ Below V.heap.size V w') a W := by
  refine wp_seq ?_
  refine wp_region_detA 406 [(0, 268), (1, 269), (2, 270), (3, 271), (4, 272), (5, 273), (6, 21), (7, 22), (8, 23), (9, 24)] (fun i_ => match i_ with | 0 => .slice (some ⟨c.ag, 0, none⟩) c.M c.ac | 1 => .slice (some ⟨c.bg, 0, none⟩) c.M c.bc | 2 => .pointer (some ⟨c.xI, 0, none⟩) | 3 => .slice (some ⟨c.xg, 0, none⟩) 320 c.xc | 4 => .pointer (some ⟨c.yI, 0, none⟩) | 5 => .slice (some ⟨c.yg, 0, none⟩) 320 c.yc | 6 => .slice (some ⟨c.ag, 0, none⟩) c.M c.ac | 7 => .slice (some ⟨c.bg, 0, none⟩) c.M c.bc | 8 => .slice (some ⟨c.xg, 0, none⟩) 320 c.xc | 9 => .slice (some ⟨c.yg, 0, none⟩) 320 c.yc | _ => undef) (fun _ X => Below W.heap.size W X) (by kernel_rfl) (by kernel_rfl) A.sz (by kernel_rfl) (by decide) (by decide) (Below.refl _ _).drew ?_ ?_
  · intro i_ hi_ l a X hl hf hdep hl2 hcl _ hT
    match i_, hi_ with
    | 0, _ => exact stepV rfl rfl (execMvB rfl ((hf 7 (by decide)).trans A.t7)) ⟨⟨_, rfl, rfl⟩, hT⟩
    | 1, _ => exact stepV rfl rfl (execMvB rfl ((hf 9 (by decide)).trans A.t9)) ⟨⟨_, rfl, rfl⟩, hT⟩
    | 2, _ => exact stepV rfl rfl (execP0 rfl ((hf 12 (by decide)).trans A.t12)) ⟨⟨_, rfl, rfl⟩, hT⟩
    | 3, _ => exact stepV rfl rfl (execLdS rfl (hdep _ rfl 2 rfl _ rfl _ rfl) (pC_at (K.on hT).px)) ⟨⟨_, rfl, rfl⟩, hT⟩
    | 4, _ => exact stepV rfl rfl (execP0 rfl ((hf 14 (by decide)).trans A.t14)) ⟨⟨_, rfl, rfl⟩, hT⟩
    | 5, _ => exact stepV rfl rfl (execLdS rfl (hdep _ rfl 4 rfl _ rfl _ rfl) (pC_at (K.on hT).py)) ⟨⟨_, rfl, rfl⟩, hT⟩
    | 6, _ => exact stepV rfl rfl (execAsgB rfl (hdep _ rfl 0 rfl _ rfl _ rfl)) ⟨⟨_, rfl, rfl⟩, hT⟩
    | 7, _ => exact stepV rfl rfl (execAsgB rfl (hdep _ rfl 1 rfl _ rfl _ rfl)) ⟨⟨_, rfl, rfl⟩, hT⟩
    | 8, _ => exact stepV rfl rfl (execAsgB rfl (hdep _ rfl 3 rfl _ rfl _ rfl)) ⟨⟨_, rfl, rfl⟩, hT⟩
    | 9, _ => exact stepV rfl rfl (execAsgB rfl (hdep _ rfl 5 rfl _ rfl _ rfl)) ⟨⟨_, rfl, rfl⟩, hT⟩
    | k_ + 10, h_ => exact absurd h_ (by simp)
  intro l a X h1 h2 h3 h4 hall hT
  have t21 : a.eval (.tmp 21) = c.row 3 := h4 (6, 21) (by decide)
  have t22 : a.eval (.tmp 22) = c.row 4 := h4 (7, 22) (by decide)
  have t23 : a.eval (.tmp 23) = c.row 6 := h4 (8, 23) (by decide)
  have t24 : a.eval (.tmp 24) = c.row 7 := h4 (9, 24) (by decide)
  have A := A.keep h1 h2 h3 (by decide)
  have K := K.on hT
  clear h1 h2 h3 h4 hall hT
  obtain ⟨W, hW⟩ : ∃ W, W = X := ⟨_, rfl⟩
  rw [← hW] at K ⊢
  clear hW
  obtain ⟨gv, hgv⟩ : ∃ gv, gv = c.row := ⟨_, rfl⟩
  rw [← hgv] at t21 t22 t23 t24
  refine wp_seq ?_
  refine wp_seq ?_
  refine wp_region_sqK 406 [(0, 25)] (fun i_ => match i_ with | 0 => .int .i64 ((0 : Nat) : Int) | _ => undef) A.sz (by kernel_rfl) (by decide) (by decide) ?_ ?_
  · intro i_ hi_ a hf hv hn
    match i_, hi_ with
    | 0, _ => exact stepV rfl rfl (execAsgB rfl rfl) ⟨⟨_, rfl, rfl⟩, rfl⟩
    | k_ + 1, h_ => exact absurd h_ (by simp)
  intro a h1 h2 h3 h4
  have t25 : a.eval (.tmp 25) = .int .i64 ((0 : Nat) : Int) := h4 0 _ rfl _ rfl
  have t21 := (h3 21 (by decide)).trans t21
  have t22 := (h3 22 (by decide)).trans t22
  have t23 := (h3 23 (by decide)).trans t23
  have t24 := (h3 24 (by decide)).trans t24
  have A := A.keep h1 h2 h3 (by decide)
  clear h1 h2 h3 h4
  refine wp_block ?_
  refine wp_loop (fun a W => ∃ (k : Nat) (gv : Nat → Value) (gl : Nat → Nat), k ≤ 40 ∧ KA c a ∧ a.eval (.tmp 25) = .int .i64 ((k : Nat) : Int) ∧ a.eval (.tmp 21) = gv 3 ∧ a.eval (.tmp 22) = gv 4 ∧ a.eval (.tmp 23) = gv 6 ∧ a.eval (.tmp 24) = gv 7 ∧ (∀ q, q < 4 → gl (rQ q) = kN c.M c.n (rQ q) + k) ∧ KG c V1 ff gv gl W) (fun a _ => 40 - (intOf (a.eval (.tmp 25))).toNat) ⟨0, gv, kN c.M c.n, by omega, A, t25, t21, t22, t23, t24, fun _ _ => rfl, by rw [hgv]; exact ⟨ApN.begin K.fam, K.bel, K.px, K.py⟩⟩ ?_
  clear A K t21 t22 t23 t24 t25 a W
  rintro a W ⟨k, gv, gl, hk, A, t25, t21, t22, t23, t24, hgl, G⟩
  have e25 := t25
  refine wp_seq ?_
  refine wp_seq ?_
  refine wp_region_sqK 406 [(0, 274), (1, 275)] (fun i_ => match i_ with | 0 => .int .i64 ((k : Nat) : Int) | 1 => .bool (decide (k < 40)) | _ => undef) A.sz (by kernel_rfl) (by decide) (by decide) ?_ ?_
  · intro i_ hi_ a hf hv hn
    match i_, hi_ with
    | 0, _ => exact stepV rfl rfl (execMvB rfl ((hf 25 (by decide)).trans t25)) ⟨⟨_, rfl, rfl⟩, rfl⟩
    | 1, _ => exact stepV rfl rfl (execLtI (p := k) (q := 40) rfl (hv 0 (by omega) _ rfl _ rfl)) ⟨⟨_, rfl, rfl⟩, rfl⟩
    | k_ + 2, h_ => exact absurd h_ (by simp)
  intro a h1 h2 h3 h4
  have t25 := (h3 25 (by decide)).trans t25
  have t21 := (h3 21 (by decide)).trans t21
  have t22 := (h3 22 (by decide)).trans t22
  have t23 := (h3 23 (by decide)).trans t23
  have t24 := (h3 24 (by decide)).trans t24
  have t275 : a.eval (.tmp 275) = .bool (decide (k < 40)) := h4 1 _ rfl _ rfl
  have A := A.keep h1 h2 h3 (by decide)
  clear h1 h2 h3 h4
  by_cases hlt : k < 40
  · rw [decide_eq_true hlt] at t275
    refine wp_cond_true t275 ?_
    refine wp_skip ?_
    clear t275
    refine wp_seq ?_
    refine wp_block ?_
    have hb : c.M ≤ 320 ∧ k ≤ 40 := ⟨F.sz.2.1, hk⟩
    refine wp_region_sq (σ := (Nat → Value) × (Nat → Nat) × (Nat → Nat)) 406 [(0, 278), (1, 279), (2, 280), (3, 281), (4, 282), (5, 283), (6, 284), (7, 285), (8, 286), (9, 287), (10, 288), (11, 289), (12, 21), (13, 22), (14, 23), (15, 24)] (RS c V1 ff gv k) (fun s => fun i_ => match i_ with | 0 => gv 3 | 1 => .slice (some ⟨s.2.1 0, 0, none⟩) 1 1 | 2 => s.1 3 | 3 => gv 4 | 4 => .slice (some ⟨s.2.1 1, 0, none⟩) 1 1 | 5 => s.1 4 | 6 => gv 6 | 7 => .slice (some ⟨s.2.1 2, 0, none⟩) 1 1 | 8 => s.1 6 | 9 => gv 7 | 10 => .slice (some ⟨s.2.1 3, 0, none⟩) 1 1 | 11 => s.1 7 | 12 => s.1 3 | 13 => s.1 4 | 14 => s.1 6 | 15 => s.1 7 | _ => undef) (gv, fun _ => 0, gl) A.sz (by kernel_rfl) (by decide) (by decide) ⟨G, fun q hq => by rw [if_neg (by omega)]; exact hgl q hq, fun _ _ _ => rfl, fun _ _ e => by omega⟩ ?_ ?_
    · intro i_ hi_ s a w hf hv hn hS
      match i_, hi_ with
      | 0, _ => exact stepV rfl rfl (execMvB rfl ((hn 12 (by omega) _ rfl _ rfl).trans t21)) ⟨s, ⟨_, rfl, rfl⟩, hS.next (by decide), fun _ _ => rfl⟩
      | 1, _ =>
        refine stepV rfl rfl (execBs9 rfl) ⟨(s.1, updG s.2.1 0 w.heap.size, s.2.2), ⟨_, rfl, rfl⟩, hS.lit (q := 0) rfl, fun i hi => ?_⟩
        match i, hi with
        | 0, _ => rfl
        | n_ + 1, h_ => omega
      | 2, _ =>
        refine hS.step (q := 0) (r := 3) rfl rfl rfl rfl rfl (hv 0 (by omega) _ rfl _ rfl) (hv 1 (by omega) _ rfl _ rfl) (by omega) hb fun v' W' hS' => ⟨(updX s.1 3 v', s.2.1, fun t => if t = 3 then s.2.2 3 + 1 else s.2.2 t), ⟨_, rfl, rfl⟩, hS', fun i hi => ?_⟩
        match i, hi with
        | 0, _ => rfl
        | 1, _ => rfl
        | n_ + 2, h_ => omega
      | 3, _ => exact stepV rfl rfl (execMvB rfl ((hn 13 (by omega) _ rfl _ rfl).trans t22)) ⟨s, ⟨_, rfl, rfl⟩, hS.next (by decide), fun _ _ => rfl⟩
      | 4, _ =>
        refine stepV rfl rfl (execBs9 rfl) ⟨(s.1, updG s.2.1 1 w.heap.size, s.2.2), ⟨_, rfl, rfl⟩, hS.lit (q := 1) rfl, fun i hi => ?_⟩
        match i, hi with
        | 0, _ => rfl
        | 1, _ => rfl
        | 2, _ => rfl
        | 3, _ => rfl
        | n_ + 4, h_ => omega
      | 5, _ =>
        refine hS.step (q := 1) (r := 4) rfl rfl rfl rfl rfl (hv 3 (by omega) _ rfl _ rfl) (hv 4 (by omega) _ rfl _ rfl) (by omega) hb fun v' W' hS' => ⟨(updX s.1 4 v', s.2.1, fun t => if t = 4 then s.2.2 4 + 1 else s.2.2 t), ⟨_, rfl, rfl⟩, hS', fun i hi => ?_⟩
        match i, hi with
        | 0, _ => rfl
        | 1, _ => rfl
        | 2, _ => rfl
        | 3, _ => rfl
        | 4, _ => rfl
        | n_ + 5, h_ => omega
      | 6, _ => exact stepV rfl rfl (execMvB rfl ((hn 14 (by omega) _ rfl _ rfl).trans t23)) ⟨s, ⟨_, rfl, rfl⟩, hS.next (by decide), fun _ _ => rfl⟩
      | 7, _ =>
        refine stepV rfl rfl (execBs9 rfl) ⟨(s.1, updG s.2.1 2 w.heap.size, s.2.2), ⟨_, rfl, rfl⟩, hS.lit (q := 2) rfl, fun i hi => ?_⟩
        match i, hi with
        | 0, _ => rfl
        | 1, _ => rfl
        | 2, _ => rfl
        | 3, _ => rfl
        | 4, _ => rfl
        | 5, _ => rfl
        | 6, _ => rfl
        | n_ + 7, h_ => omega
      | 8, _ =>
        refine hS.step (q := 2) (r := 6) rfl rfl rfl rfl rfl (hv 6 (by omega) _ rfl _ rfl) (hv 7 (by omega) _ rfl _ rfl) (by omega) hb fun v' W' hS' => ⟨(updX s.1 6 v', s.2.1, fun t => if t = 6 then s.2.2 6 + 1 else s.2.2 t), ⟨_, rfl, rfl⟩, hS', fun i hi => ?_⟩
        match i, hi with
        | 0, _ => rfl
        | 1, _ => rfl
        | 2, _ => rfl
        | 3, _ => rfl
        | 4, _ => rfl
        | 5, _ => rfl
        | 6, _ => rfl
        | 7, _ => rfl
        | n_ + 8, h_ => omega
      | 9, _ => exact stepV rfl rfl (execMvB rfl ((hn 15 (by omega) _ rfl _ rfl).trans t24)) ⟨s, ⟨_, rfl, rfl⟩, hS.next (by decide), fun _ _ => rfl⟩
      | 10, _ =>
        refine stepV rfl rfl (execBs9 rfl) ⟨(s.1, updG s.2.1 3 w.heap.size, s.2.2), ⟨_, rfl, rfl⟩, hS.lit (q := 3) rfl, fun i hi => ?_⟩
        match i, hi with
        | 0, _ => rfl
        | 1, _ => rfl
        | 2, _ => rfl
        | 3, _ => rfl
        | 4, _ => rfl
        | 5, _ => rfl
        | 6, _ => rfl
        | 7, _ => rfl
        | 8, _ => rfl
        | 9, _ => rfl
        | n_ + 10, h_ => omega
      | 11, _ =>
        refine hS.step (q := 3) (r := 7) rfl rfl rfl rfl rfl (hv 9 (by omega) _ rfl _ rfl) (hv 10 (by omega) _ rfl _ rfl) (by omega) hb fun v' W' hS' => ⟨(updX s.1 7 v', s.2.1, fun t => if t = 7 then s.2.2 7 + 1 else s.2.2 t), ⟨_, rfl, rfl⟩, hS', fun i hi => ?_⟩
        match i, hi with
        | 0, _ => rfl
        | 1, _ => rfl
        | 2, _ => rfl
        | 3, _ => rfl
        | 4, _ => rfl
        | 5, _ => rfl
        | 6, _ => rfl
        | 7, _ => rfl
        | 8, _ => rfl
        | 9, _ => rfl
        | 10, _ => rfl
        | n_ + 11, h_ => omega
      | 12, _ => exact stepV rfl rfl (execAsgB rfl (hv 2 (by omega) _ rfl _ rfl)) ⟨s, ⟨_, rfl, rfl⟩, hS.next (by decide), fun _ _ => rfl⟩
      | 13, _ => exact stepV rfl rfl (execAsgB rfl (hv 5 (by omega) _ rfl _ rfl)) ⟨s, ⟨_, rfl, rfl⟩, hS.next (by decide), fun _ _ => rfl⟩
      | 14, _ => exact stepV rfl rfl (execAsgB rfl (hv 8 (by omega) _ rfl _ rfl)) ⟨s, ⟨_, rfl, rfl⟩, hS.next (by decide), fun _ _ => rfl⟩
      | 15, _ => exact stepV rfl rfl (execAsgB rfl (hv 11 (by omega) _ rfl _ rfl)) ⟨s, ⟨_, rfl, rfl⟩, hS.next (by decide), fun _ _ => rfl⟩
      | k_ + 16, h_ => exact absurd h_ (by simp)
    intro s a W h1 h2 h3 h4 hS
    have hS : RS c V1 ff gv k 16 s W := hS
    have t21 : a.eval (.tmp 21) = s.1 3 := h4 12 _ rfl _ rfl
    have t22 : a.eval (.tmp 22) = s.1 4 := h4 13 _ rfl _ rfl
    have t23 : a.eval (.tmp 23) = s.1 6 := h4 14 _ rfl _ rfl
    have t24 : a.eval (.tmp 24) = s.1 7 := h4 15 _ rfl _ rfl
    have t25 := (h3 25 (by decide)).trans t25
    have A := A.keep h1 h2 h3 (by decide)
    have hgl : ∀ q, q < 4 → s.2.2 (rQ q) = kN c.M c.n (rQ q) + (k + 1) := fun q hq => by rw [hS.len q hq, if_pos (show 3 * q + 2 < 16 by omega)]; omega
    have G := hS.kg
    clear h1 h2 h3 h4 hS
    obtain ⟨gv, g9, gl⟩ := s
    refine wp_region_sqK 406 [(0, 276), (1, 277), (2, 25)] (fun i_ => match i_ with | 0 => .int .i64 ((k : Nat) : Int) | 1 => .int .i64 ((k + 1 : Nat) : Int) | 2 => .int .i64 ((k + 1 : Nat) : Int) | _ => undef) A.sz (by kernel_rfl) (by decide) (by decide) ?_ ?_
    · intro i_ hi_ a hf hv hn
      match i_, hi_ with
      | 0, _ => exact stepV rfl rfl (execMvB rfl ((hn 2 (by omega) _ rfl _ rfl).trans t25)) ⟨⟨_, rfl, rfl⟩, rfl⟩
      | 1, _ => exact stepV rfl rfl (execAdI (p := k) (q := 1) rfl (hv 0 (by omega) _ rfl _ rfl) rfl (by omega)) ⟨⟨_, rfl, rfl⟩, rfl⟩
      | 2, _ => exact stepV rfl rfl (execAsgB rfl (hv 1 (by omega) _ rfl _ rfl)) ⟨⟨_, rfl, rfl⟩, rfl⟩
      | k_ + 3, h_ => exact absurd h_ (by simp)
    intro a h1 h2 h3 h4
    have t25 : a.eval (.tmp 25) = .int .i64 ((k + 1 : Nat) : Int) := h4 2 _ rfl _ rfl
    have t21 := (h3 21 (by decide)).trans t21
    have t22 := (h3 22 (by decide)).trans t22
    have t23 := (h3 23 (by decide)).trans t23
    have t24 := (h3 24 (by decide)).trans t24
    have A := A.keep h1 h2 h3 (by decide)
    clear h1 h2 h3 h4
    exact ⟨⟨k + 1, gv, gl, hlt, A, t25, t21, t22, t23, t24, hgl, G⟩, by show 40 - (intOf (a.eval (.tmp 25))).toNat < 40 - (intOf (Act.eval _ (.tmp 25))).toNat; rw [t25, e25]; show 40 - (k + 1) < 40 - k; omega⟩
  · rw [decide_eq_false hlt] at t275
    refine wp_cond_false t275 ?_
    refine wp_exit ?_
    first | refine exit_in ?_ | refine exit_then (exit_in ?_) | refine exit_then (exit_then (exit_in ?_))
    have ek : k = 40 := by omega
    refine h a W gv A ⟨G.ap.fam, G.bel, G.px, G.py⟩ (fun q hq => ?_) t21 t22 t23 t24
    have := G.ap.grown (rQ q) (by match q, hq with | 0, _ | 1, _ | 2, _ | 3, _ => decide)
    obtain ⟨ao, cp, e⟩ := own_shapeJ this
    rw [hgl q hq, ek] at e
    exact ⟨ao, cp, e⟩
end Go.Proofs.YtplhkjkaabgffaaGreatDoor.Oni
