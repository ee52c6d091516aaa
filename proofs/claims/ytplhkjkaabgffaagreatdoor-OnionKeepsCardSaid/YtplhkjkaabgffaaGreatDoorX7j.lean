import Derived.Test.YtplhkjkaabgffaaGreatDoorX7i
namespace Go.Proofs.YtplhkjkaabgffaaGreatDoor.Oni
open Go.RowKit Gf8 Aes By8 Cel
/- OnionKeeps: the lists are read again. Written by tools/mkX7j.py. -/

theorem execNeqUU {o : Oper} {a : Act} {w : World} {x y : Operand} {p : Int} (ho : o.op = .binOp .neq 5 x y 5) (hx : a.eval x = .int .u8 p) (hy : a.eval y = .int .u8 p) : (execOp a.eval o).run Tryz.prog w = .ok (.value (.bool false)) w := by
  unfold execOp
  simp only [ho, hx, hy]
  simp [go_sem]
set_option maxRecDepth 100000 in
set_option maxHeartbeats 2000000 in
theorem keeps34 (c : KX) (V V1 : World) (F : KF c V V1) (ff : Nat → Nat → Nat) (gv : Nat → Value) (h : ∀ (a : Act) (W : World), KA c a → KW c V1 (mF ff 4 0) W → a.eval (.tmp 21) = gv 3 → a.eval (.tmp 22) = gv 4 → a.eval (.tmp 23) = gv 6 → a.eval (.tmp 24) = gv 7 → (fromR 43 (Tryz.f3.body.getD .skip)).wp Tryz.prog (bodyPost Tryz.prog Tryz.f3 fun e w' => e = .returned (.bool true) ∧ Below V.heap.size V w') a W) (a : Act) (W : World) (A : KA c a) (K : KW c V1 (mF ff 4 0) W) (t21 : a.eval (.tmp 21) = gv 3) (t22 : a.eval (.tmp 22) = gv 4) (t23 : a.eval (.tmp 23) = gv 6) (t24 : a.eval (.tmp 24) = gv 7) : (fromR 34 (Tryz.f3.body.getD .skip)).wp Tryz.prog (bodyPost Tryz.prog Tryz.f3 fun e w' => e = .returned (.bool true) ∧ Below V.heap.size V w') a W := by
  refine wp_seq ?_
  refine wp_seq ?_
  refine wp_region_sqK 406 [(0, 26)] (fun i_ => match i_ with | 0 => .int .i64 ((0 : Nat) : Int) | _ => undef) A.sz (by kernel_rfl) (by decide) (by decide) ?_ ?_
  · intro i_ hi_ a hf hv hn
    match i_, hi_ with
    | 0, _ => exact stepV rfl rfl (execAsgB rfl rfl) ⟨⟨_, rfl, rfl⟩, rfl⟩
    | k_ + 1, h_ => exact absurd h_ (by simp)
  intro a h1 h2 h3 h4
  have t26 : a.eval (.tmp 26) = .int .i64 ((0 : Nat) : Int) := h4 0 _ rfl _ rfl
  have t21 := (h3 21 (by decide)).trans t21
  have t22 := (h3 22 (by decide)).trans t22
  have t23 := (h3 23 (by decide)).trans t23
  have t24 := (h3 24 (by decide)).trans t24
  have A := A.keep h1 h2 h3 (by decide)
  clear h1 h2 h3 h4
  refine wp_block ?_
  refine wp_loop (fun a W => ∃ j : Nat, j ≤ 4 ∧ KA c a ∧ a.eval (.tmp 26) = .int .i64 ((j : Nat) : Int) ∧ a.eval (.tmp 21) = gv 3 ∧ a.eval (.tmp 22) = gv 4 ∧ a.eval (.tmp 23) = gv 6 ∧ a.eval (.tmp 24) = gv 7 ∧ KW c V1 (mF ff 4 0) W) (fun a _ => 4 - (intOf (a.eval (.tmp 26))).toNat) ⟨0, by omega, A, t26, t21, t22, t23, t24, K⟩ ?_
  clear A K t26 t21 t22 t23 t24 a W
  rintro a W ⟨j, hj, A, t26, t21, t22, t23, t24, K⟩
  have e26 := t26
  refine wp_seq ?_
  refine wp_seq ?_
  refine wp_region_sqK 406 [(0, 290), (1, 291)] (fun i_ => match i_ with | 0 => .int .i64 ((j : Nat) : Int) | 1 => .bool (decide (j < 4)) | _ => undef) A.sz (by kernel_rfl) (by decide) (by decide) ?_ ?_
  · intro i_ hi_ a hf hv hn
    match i_, hi_ with
    | 0, _ => exact stepV rfl rfl (execMvB rfl ((hf 26 (by decide)).trans t26)) ⟨⟨_, rfl, rfl⟩, rfl⟩
    | 1, _ => exact stepV rfl rfl (execLtI (p := j) (q := 4) rfl (hv 0 (by omega) _ rfl _ rfl)) ⟨⟨_, rfl, rfl⟩, rfl⟩
    | k_ + 2, h_ => exact absurd h_ (by simp)
  intro a h1 h2 h3 h4
  have t26 := (h3 26 (by decide)).trans t26
  have t291 : a.eval (.tmp 291) = .bool (decide (j < 4)) := h4 1 _ rfl _ rfl
  have t21 := (h3 21 (by decide)).trans t21
  have t22 := (h3 22 (by decide)).trans t22
  have t23 := (h3 23 (by decide)).trans t23
  have t24 := (h3 24 (by decide)).trans t24
  have A := A.keep h1 h2 h3 (by decide)
  clear h1 h2 h3 h4
  by_cases hlt : j < 4
  · rw [decide_eq_true hlt] at t291
    refine wp_cond_true t291 ?_
    refine wp_skip ?_
    clear t291
    obtain ⟨lg, N, lc, hx, hN, hNb, cj⟩ := list4 c F.sz.2.1 j hlt
    have hr8 : rI j < 8 := by match j, hlt with | 0, _ | 1, _ | 2, _ | 3, _ => decide
    refine wp_seq ?_
    refine wp_block ?_
    refine wp_seq ?_
    refine wp_region_sqW 406 [(0, 294), (1, 295), (2, 296), (3, 297), (4, 298), (5, 299), (6, 300), (7, 301), (8, 302), (9, 303), (10, 27)] (fun i_ => match i_ with | 0 => .slice (some ⟨c.ag, 0, none⟩) c.M c.ac | 1 => .slice (some ⟨c.bg, 0, none⟩) c.M c.bc | 2 => .pointer (some ⟨c.xI, 0, none⟩) | 3 => .slice (some ⟨c.xg, 0, none⟩) 320 c.xc | 4 => .pointer (some ⟨c.yI, 0, none⟩) | 5 => .slice (some ⟨c.yg, 0, none⟩) 320 c.yc | 6 => .slice (some ⟨W.heap.size, 0, none⟩) 4 4 | 7 => .int .i64 ((j : Nat) : Int) | 8 => .pointer (some ⟨W.heap.size, j, none⟩) | 9 => .slice (some ⟨lg, 0, none⟩) N lc | 10 => .slice (some ⟨lg, 0, none⟩) N lc | _ => undef) (fun i_ => match i_ with | 0 => W | 1 => W | 2 => W | 3 => W | 4 => W | 5 => W | 6 => W | _ => (W.alloc (.cells #[.slice (some ⟨c.ag, 0, none⟩) c.M c.ac, .slice (some ⟨c.bg, 0, none⟩) c.M c.bc, .slice (some ⟨c.xg, 0, none⟩) 320 c.xc, .slice (some ⟨c.yg, 0, none⟩) 320 c.yc] 22))) A.sz (by kernel_rfl) (by decide) (by decide) ?_ ?_
    · intro i_ hi_ a hf hv hn
      match i_, hi_ with
      | 0, _ => exact stepV rfl rfl (execMvB rfl ((hf 7 (by decide)).trans A.t7)) ⟨⟨_, rfl, rfl⟩, rfl⟩
      | 1, _ => exact stepV rfl rfl (execMvB rfl ((hf 9 (by decide)).trans A.t9)) ⟨⟨_, rfl, rfl⟩, rfl⟩
      | 2, _ => exact stepV rfl rfl (execP0 rfl ((hf 12 (by decide)).trans A.t12)) ⟨⟨_, rfl, rfl⟩, rfl⟩
      | 3, _ => exact stepV rfl rfl (execLdS rfl (hv 2 (by omega) _ rfl _ rfl) (pC_at K.px)) ⟨⟨_, rfl, rfl⟩, rfl⟩
      | 4, _ => exact stepV rfl rfl (execP0 rfl ((hf 14 (by decide)).trans A.t14)) ⟨⟨_, rfl, rfl⟩, rfl⟩
      | 5, _ => exact stepV rfl rfl (execLdS rfl (hv 4 (by omega) _ rfl _ rfl) (pC_at K.py)) ⟨⟨_, rfl, rfl⟩, rfl⟩
      | 6, _ => exact stepV rfl rfl (execBs4 rfl (hv 0 (by omega) _ rfl _ rfl) (hv 1 (by omega) _ rfl _ rfl) (hv 3 (by omega) _ rfl _ rfl) (hv 5 (by omega) _ rfl _ rfl) ⟨_, _, _, rfl⟩ ⟨_, _, _, rfl⟩ ⟨_, _, _, rfl⟩ ⟨_, _, _, rfl⟩) ⟨⟨_, rfl, rfl⟩, rfl⟩
      | 7, _ => exact stepV rfl rfl (execMvB rfl ((hf 26 (by decide)).trans t26)) ⟨⟨_, rfl, rfl⟩, rfl⟩
      | 8, _ => exact stepV rfl rfl (execIdx4 rfl (hv 6 (by omega) _ rfl _ rfl) (hv 7 (by omega) _ rfl _ rfl) hlt) ⟨⟨_, rfl, rfl⟩, rfl⟩
      | 9, _ => exact stepV rfl rfl (execLdS rfl (hv 8 (by omega) _ rfl _ rfl) (cj W)) ⟨⟨_, rfl, rfl⟩, rfl⟩
      | 10, _ => exact stepV rfl rfl (execAsgB rfl (hv 9 (by omega) _ rfl _ rfl)) ⟨⟨_, rfl, rfl⟩, rfl⟩
      | k_ + 11, h_ => exact absurd h_ (by simp)
    intro a h1 h2 h3 h4
    have t26 := (h3 26 (by decide)).trans t26
    have t27 : a.eval (.tmp 27) = .slice (some ⟨lg, 0, none⟩) N lc := h4 10 _ rfl _ rfl
    have t21 := (h3 21 (by decide)).trans t21
    have t22 := (h3 22 (by decide)).trans t22
    have t23 := (h3 23 (by decide)).trans t23
    have t24 := (h3 24 (by decide)).trans t24
    have A := A.keep h1 h2 h3 (by decide)
    clear h1 h2 h3 h4
    have K := K.on (belNew W (.cells #[.slice (some ⟨c.ag, 0, none⟩) c.M c.ac, .slice (some ⟨c.bg, 0, none⟩) c.M c.bc, .slice (some ⟨c.xg, 0, none⟩) 320 c.xc, .slice (some ⟨c.yg, 0, none⟩) 320 c.yc] 22))
    refine wp_seq ?_
    revert K
    show KW c V1 (mF ff 4 0) (W.alloc (.cells #[.slice (some ⟨c.ag, 0, none⟩) c.M c.ac, .slice (some ⟨c.bg, 0, none⟩) c.M c.bc, .slice (some ⟨c.xg, 0, none⟩) 320 c.xc, .slice (some ⟨c.yg, 0, none⟩) 320 c.yc] 22)) → _
    generalize (W.alloc (.cells #[.slice (some ⟨c.ag, 0, none⟩) c.M c.ac, .slice (some ⟨c.bg, 0, none⟩) c.M c.bc, .slice (some ⟨c.xg, 0, none⟩) 320 c.xc, .slice (some ⟨c.yg, 0, none⟩) 320 c.yc] 22)) = W
    intro K
    refine wp_region_sqK 406 [(0, 28)] (fun i_ => match i_ with | 0 => .int .i64 ((0 : Nat) : Int) | _ => undef) A.sz (by kernel_rfl) (by decide) (by decide) ?_ ?_
    · intro i_ hi_ a hf hv hn
      match i_, hi_ with
      | 0, _ => exact stepV rfl rfl (execAsgB rfl rfl) ⟨⟨_, rfl, rfl⟩, rfl⟩
      | k_ + 1, h_ => exact absurd h_ (by simp)
    intro a h1 h2 h3 h4
    have t26 := (h3 26 (by decide)).trans t26
    have t27 := (h3 27 (by decide)).trans t27
    have t28 : a.eval (.tmp 28) = .int .i64 ((0 : Nat) : Int) := h4 0 _ rfl _ rfl
    have t21 := (h3 21 (by decide)).trans t21
    have t22 := (h3 22 (by decide)).trans t22
    have t23 := (h3 23 (by decide)).trans t23
    have t24 := (h3 24 (by decide)).trans t24
    have A := A.keep h1 h2 h3 (by decide)
    clear h1 h2 h3 h4
    refine wp_block ?_
    refine wp_loop (fun a W => ∃ m : Nat, m ≤ N ∧ KA c a ∧ a.eval (.tmp 26) = .int .i64 ((j : Nat) : Int) ∧ a.eval (.tmp 27) = .slice (some ⟨lg, 0, none⟩) N lc ∧ a.eval (.tmp 28) = .int .i64 ((m : Nat) : Int) ∧ a.eval (.tmp 21) = gv 3 ∧ a.eval (.tmp 22) = gv 4 ∧ a.eval (.tmp 23) = gv 6 ∧ a.eval (.tmp 24) = gv 7 ∧ KW c V1 (mF ff 4 0) W) (fun a _ => N - (intOf (a.eval (.tmp 28))).toNat) ⟨0, by omega, A, t26, t27, t28, t21, t22, t23, t24, K⟩ ?_
    clear A K t26 t27 t28 t21 t22 t23 t24 a W
    rintro a W ⟨m, hm0, A, t26, t27, t28, t21, t22, t23, t24, K⟩
    have e28 := t28
    refine wp_seq ?_
    refine wp_seq ?_
    refine wp_region_sqK 406 [(0, 304), (1, 305), (2, 306), (3, 307)] (fun i_ => match i_ with | 0 => .int .i64 ((m : Nat) : Int) | 1 => .slice (some ⟨lg, 0, none⟩) N lc | 2 => .int .i64 ((N : Nat) : Int) | 3 => .bool (decide (m < N)) | _ => undef) A.sz (by kernel_rfl) (by decide) (by decide) ?_ ?_
    · intro i_ hi_ a hf hv hn
      match i_, hi_ with
      | 0, _ => exact stepV rfl rfl (execMvB rfl ((hf 28 (by decide)).trans t28)) ⟨⟨_, rfl, rfl⟩, rfl⟩
      | 1, _ => exact stepV rfl rfl (execMvB rfl ((hf 27 (by decide)).trans t27)) ⟨⟨_, rfl, rfl⟩, rfl⟩
      | 2, _ => exact stepV rfl rfl (execLenV (len := N) rfl (hv 1 (by omega) _ rfl _ rfl) ⟨_, _, rfl⟩) ⟨⟨_, rfl, rfl⟩, rfl⟩
      | 3, _ => exact stepV rfl rfl (execLtV (p := m) (q := N) rfl (hv 0 (by omega) _ rfl _ rfl) (hv 2 (by omega) _ rfl _ rfl)) ⟨⟨_, rfl, rfl⟩, rfl⟩
      | k_ + 4, h_ => exact absurd h_ (by simp)
    intro a h1 h2 h3 h4
    have t26 := (h3 26 (by decide)).trans t26
    have t27 := (h3 27 (by decide)).trans t27
    have t28 := (h3 28 (by decide)).trans t28
    have t307 : a.eval (.tmp 307) = .bool (decide (m < N)) := h4 3 _ rfl _ rfl
    have t21 := (h3 21 (by decide)).trans t21
    have t22 := (h3 22 (by decide)).trans t22
    have t23 := (h3 23 (by decide)).trans t23
    have t24 := (h3 24 (by decide)).trans t24
    have A := A.keep h1 h2 h3 (by decide)
    clear h1 h2 h3 h4
    by_cases hm : m < N
    · rw [decide_eq_true hm] at t307
      refine wp_cond_true t307 ?_
      refine wp_skip ?_
      clear t307
      have HN : N ≤ 320 := hNb
      have LW := K.fam.rows (rI j) hr8
      rw [hx, hN] at LW
      have LB := own_at LW hm
      rw [mF_4 ff hlt m, show j = j % 256 by omega] at LB
      refine wp_seq ?_
      refine wp_block ?_
      refine wp_seq ?_
      refine wp_region_sqK 406 [(0, 310), (1, 311), (2, 312), (3, 313), (4, 314), (5, 315), (6, 316)] (fun i_ => match i_ with | 0 => .slice (some ⟨lg, 0, none⟩) N lc | 1 => .int .i64 ((m : Nat) : Int) | 2 => .pointer (some ⟨lg, m, none⟩) | 3 => .int .u8 ((j % 256 : Nat) : Int) | 4 => .int .i64 ((j : Nat) : Int) | 5 => .int .u8 ((j % 256 : Nat) : Int) | 6 => .bool false | _ => undef) A.sz (by kernel_rfl) (by decide) (by decide) ?_ ?_
      · intro i_ hi_ a hf hv hn
        match i_, hi_ with
        | 0, _ => exact stepV rfl rfl (execMvB rfl ((hf 27 (by decide)).trans t27)) ⟨⟨_, rfl, rfl⟩, rfl⟩
        | 1, _ => exact stepV rfl rfl (execMvB rfl ((hf 28 (by decide)).trans t28)) ⟨⟨_, rfl, rfl⟩, rfl⟩
        | 2, _ => exact stepV rfl rfl (execIdxS0 (k := m) rfl (hv 0 (by omega) _ rfl _ rfl) (hv 1 (by omega) _ rfl _ rfl) (by exact hm)) ⟨⟨_, rfl, rfl⟩, rfl⟩
        | 3, _ => exact stepV rfl rfl (execLdB rfl (hv 2 (by omega) _ rfl _ rfl) LB) ⟨⟨_, rfl, rfl⟩, rfl⟩
        | 4, _ => exact stepV rfl rfl (execMvB rfl ((hf 26 (by decide)).trans t26)) ⟨⟨_, rfl, rfl⟩, rfl⟩
        | 5, _ => exact stepV rfl rfl (execU8 (n := j) rfl (hv 4 (by omega) _ rfl _ rfl)) ⟨⟨_, rfl, rfl⟩, rfl⟩
        | 6, _ => exact stepV rfl rfl (execNeqUU rfl (hv 3 (by omega) _ rfl _ rfl) (hv 5 (by omega) _ rfl _ rfl)) ⟨⟨_, rfl, rfl⟩, rfl⟩
        | k_ + 7, h_ => exact absurd h_ (by simp)
      intro a h1 h2 h3 h4
      have t26 := (h3 26 (by decide)).trans t26
      have t27 := (h3 27 (by decide)).trans t27
      have t28 := (h3 28 (by decide)).trans t28
      have t316 : a.eval (.tmp 316) = .bool false := h4 6 _ rfl _ rfl
      have t21 := (h3 21 (by decide)).trans t21
      have t22 := (h3 22 (by decide)).trans t22
      have t23 := (h3 23 (by decide)).trans t23
      have t24 := (h3 24 (by decide)).trans t24
      have A := A.keep h1 h2 h3 (by decide)
      clear h1 h2 h3 h4
      refine wp_cond_false t316 ?_
      refine wp_skip ?_
      refine wp_region_sqK 406 [(0, 308), (1, 309), (2, 28)] (fun i_ => match i_ with | 0 => .int .i64 ((m : Nat) : Int) | 1 => .int .i64 ((m + 1 : Nat) : Int) | 2 => .int .i64 ((m + 1 : Nat) : Int) | _ => undef) A.sz (by kernel_rfl) (by decide) (by decide) ?_ ?_
      · intro i_ hi_ a hf hv hn
        match i_, hi_ with
        | 0, _ => exact stepV rfl rfl (execMvB rfl ((hn 2 (by omega) _ rfl _ rfl).trans t28)) ⟨⟨_, rfl, rfl⟩, rfl⟩
        | 1, _ => exact stepV rfl rfl (execAdI (p := m) (q := 1) rfl (hv 0 (by omega) _ rfl _ rfl) rfl (by have := hm; have := HN; omega)) ⟨⟨_, rfl, rfl⟩, rfl⟩
        | 2, _ => exact stepV rfl rfl (execAsgB rfl (hv 1 (by omega) _ rfl _ rfl)) ⟨⟨_, rfl, rfl⟩, rfl⟩
        | k_ + 3, h_ => exact absurd h_ (by simp)
      intro a h1 h2 h3 h4
      have t26 := (h3 26 (by decide)).trans t26
      have t27 := (h3 27 (by decide)).trans t27
      have t28 : a.eval (.tmp 28) = .int .i64 ((m + 1 : Nat) : Int) := h4 2 _ rfl _ rfl
      have t21 := (h3 21 (by decide)).trans t21
      have t22 := (h3 22 (by decide)).trans t22
      have t23 := (h3 23 (by decide)).trans t23
      have t24 := (h3 24 (by decide)).trans t24
      have A := A.keep h1 h2 h3 (by decide)
      clear h1 h2 h3 h4
      exact ⟨⟨m + 1, hm, A, t26, t27, t28, t21, t22, t23, t24, K⟩, by show N - (intOf (a.eval (.tmp 28))).toNat < N - (intOf (Act.eval _ (.tmp 28))).toNat; rw [t28, e28]; show N - (m + 1) < N - m; omega⟩
    · rw [decide_eq_false hm] at t307
      refine wp_cond_false t307 ?_
      refine wp_exit ?_
      first | refine exit_in ?_ | refine exit_then (exit_in ?_) | refine exit_then (exit_then (exit_in ?_))
      refine wp_region_sqK 406 [(0, 292), (1, 293), (2, 26)] (fun i_ => match i_ with | 0 => .int .i64 ((j : Nat) : Int) | 1 => .int .i64 ((j + 1 : Nat) : Int) | 2 => .int .i64 ((j + 1 : Nat) : Int) | _ => undef) A.sz (by kernel_rfl) (by decide) (by decide) ?_ ?_
      · intro i_ hi_ a hf hv hn
        match i_, hi_ with
        | 0, _ => exact stepV rfl rfl (execMvB rfl ((hn 2 (by omega) _ rfl _ rfl).trans t26)) ⟨⟨_, rfl, rfl⟩, rfl⟩
        | 1, _ => exact stepV rfl rfl (execAdI (p := j) (q := 1) rfl (hv 0 (by omega) _ rfl _ rfl) rfl (by omega)) ⟨⟨_, rfl, rfl⟩, rfl⟩
        | 2, _ => exact stepV rfl rfl (execAsgB rfl (hv 1 (by omega) _ rfl _ rfl)) ⟨⟨_, rfl, rfl⟩, rfl⟩
        | k_ + 3, h_ => exact absurd h_ (by simp)
      intro a h1 h2 h3 h4
      have t26 : a.eval (.tmp 26) = .int .i64 ((j + 1 : Nat) : Int) := h4 2 _ rfl _ rfl
      have t21 := (h3 21 (by decide)).trans t21
      have t22 := (h3 22 (by decide)).trans t22
      have t23 := (h3 23 (by decide)).trans t23
      have t24 := (h3 24 (by decide)).trans t24
      have A := A.keep h1 h2 h3 (by decide)
      clear h1 h2 h3 h4
      exact ⟨⟨j + 1, hlt, A, t26, t21, t22, t23, t24, K⟩, by show 4 - (intOf (a.eval (.tmp 26))).toNat < 4 - (intOf (Act.eval _ (.tmp 26))).toNat; rw [t26, e26]; show 4 - (j + 1) < 4 - j; omega⟩
  · rw [decide_eq_false hlt] at t291
    refine wp_cond_false t291 ?_
    refine wp_exit ?_
    first | refine exit_in ?_ | refine exit_then (exit_in ?_) | refine exit_then (exit_then (exit_in ?_))
    exact h a W A K t21 t22 t23 t24
set_option maxRecDepth 100000 in
set_option maxHeartbeats 2000000 in
theorem keeps43 (c : KX) (V V1 : World) (F : KF c V V1) (gv : Nat → Value) (hsh : ∀ q, q < 4 → ∃ ao cp, gv (rQ q) = .slice ao (kN c.M c.n (rQ q) + 40) cp) (h : ∀ (a : Act) (W : World), KA c a → KW c V1 (mF (kF c.key c.inner c.on c.nx c.M c.n) 4 0) W → (fromR 45 (Tryz.f3.body.getD .skip)).wp Tryz.prog (bodyPost Tryz.prog Tryz.f3 fun e w' => e = .returned (.bool true) ∧ Below V.heap.size V w') a W) (a : Act) (W : World) (A : KA c a) (K : KW c V1 (mF (kF c.key c.inner c.on c.nx c.M c.n) 4 0) W) (t21 : a.eval (.tmp 21) = gv 3) (t22 : a.eval (.tmp 22) = gv 4) (t23 : a.eval (.tmp 23) = gv 6) (t24 : a.eval (.tmp 24) = gv 7) : (fromR 43 (Tryz.f3.body.getD .skip)).wp Tryz.prog (bodyPost Tryz.prog Tryz.f3 fun e w' => e = .returned (.bool true) ∧ Below V.heap.size V w') a W := by
  obtain ⟨a3, p3, e3⟩ := hsh 0 (by omega)
  obtain ⟨a4, p4, e4⟩ := hsh 1 (by omega)
  obtain ⟨a6, p6, e6⟩ := hsh 2 (by omega)
  obtain ⟨a7, p7, e7⟩ := hsh 3 (by omega)
  have t21 : a.eval (.tmp 21) = .slice a3 (c.M + 40) p3 := t21.trans e3
  have t22 : a.eval (.tmp 22) = .slice a4 (c.M + 40) p4 := t22.trans e4
  have t23 : a.eval (.tmp 23) = .slice a6 (320 + 40) p6 := t23.trans e6
  have t24 : a.eval (.tmp 24) = .slice a7 (320 + 40) p7 := t24.trans e7
  have FX : ∀ X, Below W.heap.size W X → SliceN X (.slice (some ⟨c.cg, 0, none⟩) c.M c.cc) c.M c.on ∧ SliceN X (.slice (some ⟨c.wg, 0, none⟩) c.M c.wc) c.M c.on ∧ SliceN X (.slice (some ⟨c.ig, 0, none⟩) c.n c.ic) c.n c.inner ∧ SliceN X (.slice c.ia c.n c.icap) c.n c.inner ∧ SliceN X (.slice (some ⟨c.kg, 0, none⟩) 32 c.kc) 32 c.key ∧ SliceN X (.slice (some ⟨c.kb, c.koff, none⟩) 32 c.kcap) 32 c.key := fun X hX => by
    have K := K.on hX
    have KC := fam_cg (gg := kF c.key c.inner c.on c.nx c.M c.n) (m := 3) (B := V1.heap.size) (x := c.row) (nn := kN c.M c.n) (W := X) ⟨fun t ht => K.fam.rows t (by omega), fun s t hs ht => K.fam.dis s t (by omega) (by omega)⟩ (fun t ht l _ => mF_out _ (by match t, ht with | 0, _ | 1, _ | 2, _ => rfl) 4 (by omega) 0 l)
    have k0 := own_slice (n := c.M) (p := c.on) (v := .slice (some ⟨c.wg, 0, none⟩) c.M c.wc) (KC.rows 0 (by omega)) (fun j _ => F.on_ j)
    have k1 := own_slice (n := 34) (p := kQ c.key) (v := .slice (some ⟨c.kg, 0, none⟩) 34 c.kc) (KC.rows 1 (by omega)) (kQ_lt F.key_)
    have k2 := own_slice (n := c.n + 2) (p := iQ c.n c.inner) (v := .slice (some ⟨c.ig, 0, none⟩) (c.n + 2) c.ic) (KC.rows 2 (by omega)) (iQ_lt F.inn_)
    have r5 := K.fam.rows 5 (by omega)
    rw [bytesL_congr (fun l _ => mF_out (kF c.key c.inner c.on c.nx c.M c.n) (r := 5) rfl 4 (by omega) 0 l)] at r5
    have k5 := own_slice (n := 322) (p := cQ c.M c.on) (v := .slice (some ⟨c.cg, 0, none⟩) 322 c.cc) r5 (fun j _ => cQ_lt F.on_ j)
    exact ⟨sliceN_cg (takeN k5 (show c.M ≤ 322 by have := F.sz; omega)) fun j hj => if_pos hj, k0, sliceN_cg (takeN k2 (show c.n ≤ c.n + 2 by omega)) fun j hj => if_pos hj, (F.ok X K.bel).2.2.sl, sliceN_cg (takeN k1 (show 32 ≤ 34 by omega)) fun j hj => if_pos hj, (F.ok X K.bel).2.1⟩
  refine wp_seq ?_
  refine wp_seq ?_
  refine wp_region_detA 406 [(0, 317), (1, 318), (2, 319), (3, 320), (4, 321), (5, 322), (6, 323), (7, 324), (8, 325), (9, 326), (10, 327), (11, 328), (12, 329), (13, 330), (14, 331), (15, 332), (16, 333), (17, 334), (18, 335), (19, 336), (20, 337), (21, 338), (22, 339), (23, 340), (24, 341), (25, 342), (26, 343), (27, 344), (28, 345), (29, 346), (30, 347), (31, 348), (32, 349), (33, 350), (34, 351), (35, 352), (36, 353), (37, 354), (38, 355), (39, 356), (40, 357), (41, 358), (42, 359)] (fun i_ => match i_ with | 0 => .slice (some ⟨c.cg, 0, none⟩) 322 c.cc | 1 => .slice (some ⟨c.wg, 0, none⟩) c.M c.wc | 2 => .int .i64 ((c.M : Nat) : Int) | 3 => .slice (some ⟨c.cg, 0, none⟩) c.M c.cc | 4 => .string (strN c.on c.M) | 5 => .slice (some ⟨c.wg, 0, none⟩) c.M c.wc | 6 => .string (strN c.on c.M) | 7 => .bool false | 8 => .bool false | 9 => .slice (some ⟨c.ig, 0, none⟩) (c.n + 2) c.ic | 10 => .pointer (some ⟨c.J, 18, none⟩) | 11 => .slice c.ia c.n c.icap | 12 => .int .i64 ((c.n : Nat) : Int) | 13 => .slice (some ⟨c.ig, 0, none⟩) c.n c.ic | 14 => .string (strN c.inner c.n) | 15 => .pointer (some ⟨c.J, 18, none⟩) | 16 => .slice c.ia c.n c.icap | 17 => .string (strN c.inner c.n) | 18 => .bool false | 19 => .bool false | 20 => .bool false | 21 => .slice (some ⟨c.kg, 0, none⟩) 34 c.kc | 22 => .slice (some ⟨c.kg, 0, none⟩) 32 c.kc | 23 => .string (strN c.key 32) | 24 => .pointer (some ⟨c.J, 0, none⟩) | 25 => .slice (some ⟨c.kb, c.koff, none⟩) 32 c.kcap | 26 => .string (strN c.key 32) | 27 => .bool false | 28 => .bool false | 29 => .bool false | 30 => .slice a3 (c.M + 40) p3 | 31 => .int .i64 (((c.M + 40) : Nat) : Int) | 32 => .slice a4 (c.M + 40) p4 | 33 => .int .i64 (((c.M + 40) : Nat) : Int) | 34 => .int .i64 (((c.M + 40) + ((c.M + 40)) : Nat) : Int) | 35 => .slice a6 (320 + 40) p6 | 36 => .int .i64 (((320 + 40) : Nat) : Int) | 37 => .int .i64 (((c.M + 40) + ((c.M + 40)) + ((320 + 40)) : Nat) : Int) | 38 => .slice a7 (320 + 40) p7 | 39 => .int .i64 (((320 + 40) : Nat) : Int) | 40 => .int .i64 (((c.M + 40) + ((c.M + 40)) + ((320 + 40)) + ((320 + 40)) : Nat) : Int) | 41 => .bool false | 42 => .bool false | _ => undef) (fun _ X => Below W.heap.size W X) (by kernel_rfl) (by kernel_rfl) A.sz (by kernel_rfl) (by decide) (by decide) (Below.refl _ _).drew ?_ ?_
  · intro i_ hi_ l a X hl hf hdep hl2 hcl _ hT
    match i_, hi_ with
    | 0, _ => exact stepV rfl rfl (execMvB rfl ((hf 11 (by decide)).trans A.t11)) ⟨⟨_, rfl, rfl⟩, hT⟩
    | 1, _ => exact stepV rfl rfl (execMvB rfl ((hf 3 (by decide)).trans A.t3)) ⟨⟨_, rfl, rfl⟩, hT⟩
    | 2, _ => exact stepV rfl rfl (execLenV (len := c.M) rfl (hdep _ rfl 1 rfl _ rfl _ rfl) ⟨_, _, rfl⟩) ⟨⟨_, rfl, rfl⟩, hT⟩
    | 3, _ => exact stepV rfl rfl (By8.execSlH rfl (hdep _ rfl 0 rfl _ rfl _ rfl) (hdep _ rfl 2 rfl _ rfl _ rfl) (sl_hn c.cg 322 c.cc c.M (by have := F.sz; omega) X)) ⟨⟨_, rfl, rfl⟩, hT⟩
    | 4, _ => exact stepV rfl rfl (By8.execStr rfl (hdep _ rfl 3 rfl _ rfl _ rfl) (FX X hT).1) ⟨⟨_, rfl, rfl⟩, hT⟩
    | 5, _ => exact stepV rfl rfl (execMvB rfl ((hf 3 (by decide)).trans A.t3)) ⟨⟨_, rfl, rfl⟩, hT⟩
    | 6, _ => exact stepV rfl rfl (By8.execStr rfl (hdep _ rfl 5 rfl _ rfl _ rfl) (FX X hT).2.1) ⟨⟨_, rfl, rfl⟩, hT⟩
    | 7, _ => exact stepV rfl rfl (By8.execNeqS rfl (hdep _ rfl 4 rfl _ rfl _ rfl) (hdep _ rfl 6 rfl _ rfl _ rfl)) ⟨⟨_, rfl, rfl⟩, hT⟩
    | 8, _ => exact stepV rfl rfl (execMvB rfl (hdep _ rfl 7 rfl _ rfl _ rfl)) ⟨⟨_, rfl, rfl⟩, hT⟩
    | 9, _ => exact stepV rfl (wantedOf rfl (yieldedAt rfl rfl (show a.eval (.tmp 325) = .bool false from (hdep _ rfl 8 rfl _ rfl _ rfl)))) (execMvB rfl ((hf 6 (by decide)).trans A.t6)) ⟨⟨_, rfl, rfl⟩, hT⟩
    | 10, _ => exact stepV rfl (wantedOf rfl (yieldedAt rfl rfl (show a.eval (.tmp 325) = .bool false from (hdep _ rfl 8 rfl _ rfl _ rfl)))) (execJ3 rfl ((hf 1 (by decide)).trans A.t1)) ⟨⟨_, rfl, rfl⟩, hT⟩
    | 11, _ => exact stepV rfl (wantedOf rfl (yieldedAt rfl rfl (show a.eval (.tmp 325) = .bool false from (hdep _ rfl 8 rfl _ rfl _ rfl)))) (execLdS rfl (hdep _ rfl 10 rfl _ rfl _ rfl) (jC_at (F.job X (K.on hT).bel)).2.2.2) ⟨⟨_, rfl, rfl⟩, hT⟩
    | 12, _ => exact stepV rfl (wantedOf rfl (yieldedAt rfl rfl (show a.eval (.tmp 325) = .bool false from (hdep _ rfl 8 rfl _ rfl _ rfl)))) (execLenV (len := c.n) rfl (hdep _ rfl 11 rfl _ rfl _ rfl) ⟨_, _, rfl⟩) ⟨⟨_, rfl, rfl⟩, hT⟩
    | 13, _ => exact stepV rfl (wantedOf rfl (yieldedAt rfl rfl (show a.eval (.tmp 325) = .bool false from (hdep _ rfl 8 rfl _ rfl _ rfl)))) (By8.execSlH rfl (hdep _ rfl 9 rfl _ rfl _ rfl) (hdep _ rfl 12 rfl _ rfl _ rfl) (sl_hn c.ig (c.n + 2) c.ic c.n (by have := F.sz; omega) X)) ⟨⟨_, rfl, rfl⟩, hT⟩
    | 14, _ => exact stepV rfl (wantedOf rfl (yieldedAt rfl rfl (show a.eval (.tmp 325) = .bool false from (hdep _ rfl 8 rfl _ rfl _ rfl)))) (By8.execStr rfl (hdep _ rfl 13 rfl _ rfl _ rfl) (FX X hT).2.2.1) ⟨⟨_, rfl, rfl⟩, hT⟩
    | 15, _ => exact stepV rfl (wantedOf rfl (yieldedAt rfl rfl (show a.eval (.tmp 325) = .bool false from (hdep _ rfl 8 rfl _ rfl _ rfl)))) (execJ3 rfl ((hf 1 (by decide)).trans A.t1)) ⟨⟨_, rfl, rfl⟩, hT⟩
    | 16, _ => exact stepV rfl (wantedOf rfl (yieldedAt rfl rfl (show a.eval (.tmp 325) = .bool false from (hdep _ rfl 8 rfl _ rfl _ rfl)))) (execLdS rfl (hdep _ rfl 15 rfl _ rfl _ rfl) (jC_at (F.job X (K.on hT).bel)).2.2.2) ⟨⟨_, rfl, rfl⟩, hT⟩
    | 17, _ => exact stepV rfl (wantedOf rfl (yieldedAt rfl rfl (show a.eval (.tmp 325) = .bool false from (hdep _ rfl 8 rfl _ rfl _ rfl)))) (By8.execStr rfl (hdep _ rfl 16 rfl _ rfl _ rfl) (FX X hT).2.2.2.1) ⟨⟨_, rfl, rfl⟩, hT⟩
    | 18, _ => exact stepV rfl (wantedOf rfl (yieldedAt rfl rfl (show a.eval (.tmp 325) = .bool false from (hdep _ rfl 8 rfl _ rfl _ rfl)))) (By8.execNeqS rfl (hdep _ rfl 14 rfl _ rfl _ rfl) (hdep _ rfl 17 rfl _ rfl _ rfl)) ⟨⟨_, rfl, rfl⟩, hT⟩
    | 19, _ => exact stepV rfl rfl (execPick (b := false) rfl (hdep _ rfl 8 rfl _ rfl _ rfl) (hdep _ rfl 18 rfl _ rfl _ rfl)) ⟨⟨_, rfl, rfl⟩, hT⟩
    | 20, _ => exact stepV rfl rfl (execMvB rfl (hdep _ rfl 19 rfl _ rfl _ rfl)) ⟨⟨_, rfl, rfl⟩, hT⟩
    | 21, _ => exact stepV rfl (wantedOf rfl (yieldedAt rfl rfl (show a.eval (.tmp 337) = .bool false from (hdep _ rfl 20 rfl _ rfl _ rfl)))) (execMvB rfl ((hf 5 (by decide)).trans A.t5)) ⟨⟨_, rfl, rfl⟩, hT⟩
    | 22, _ => exact stepV rfl (wantedOf rfl (yieldedAt rfl rfl (show a.eval (.tmp 337) = .bool false from (hdep _ rfl 20 rfl _ rfl _ rfl)))) (By8.execSlH rfl (hdep _ rfl 21 rfl _ rfl _ rfl) rfl (sl_hn c.kg 34 c.kc 32 (by have := F.sz; omega) X)) ⟨⟨_, rfl, rfl⟩, hT⟩
    | 23, _ => exact stepV rfl (wantedOf rfl (yieldedAt rfl rfl (show a.eval (.tmp 337) = .bool false from (hdep _ rfl 20 rfl _ rfl _ rfl)))) (By8.execStr rfl (hdep _ rfl 22 rfl _ rfl _ rfl) (FX X hT).2.2.2.2.1) ⟨⟨_, rfl, rfl⟩, hT⟩
    | 24, _ => exact stepV rfl (wantedOf rfl (yieldedAt rfl rfl (show a.eval (.tmp 337) = .bool false from (hdep _ rfl 20 rfl _ rfl _ rfl)))) (execJ0 rfl ((hf 1 (by decide)).trans A.t1)) ⟨⟨_, rfl, rfl⟩, hT⟩
    | 25, _ => exact stepV rfl (wantedOf rfl (yieldedAt rfl rfl (show a.eval (.tmp 337) = .bool false from (hdep _ rfl 20 rfl _ rfl _ rfl)))) (execLdS rfl (hdep _ rfl 24 rfl _ rfl _ rfl) (jC_at (F.job X (K.on hT).bel)).1) ⟨⟨_, rfl, rfl⟩, hT⟩
    | 26, _ => exact stepV rfl (wantedOf rfl (yieldedAt rfl rfl (show a.eval (.tmp 337) = .bool false from (hdep _ rfl 20 rfl _ rfl _ rfl)))) (By8.execStr rfl (hdep _ rfl 25 rfl _ rfl _ rfl) (FX X hT).2.2.2.2.2) ⟨⟨_, rfl, rfl⟩, hT⟩
    | 27, _ => exact stepV rfl (wantedOf rfl (yieldedAt rfl rfl (show a.eval (.tmp 337) = .bool false from (hdep _ rfl 20 rfl _ rfl _ rfl)))) (By8.execNeqS rfl (hdep _ rfl 23 rfl _ rfl _ rfl) (hdep _ rfl 26 rfl _ rfl _ rfl)) ⟨⟨_, rfl, rfl⟩, hT⟩
    | 28, _ => exact stepV rfl rfl (execPick (b := false) rfl (hdep _ rfl 20 rfl _ rfl _ rfl) (hdep _ rfl 27 rfl _ rfl _ rfl)) ⟨⟨_, rfl, rfl⟩, hT⟩
    | 29, _ => exact stepV rfl rfl (execMvB rfl (hdep _ rfl 28 rfl _ rfl _ rfl)) ⟨⟨_, rfl, rfl⟩, hT⟩
    | 30, _ => exact stepV rfl (wantedOf rfl (yieldedAt rfl rfl (show a.eval (.tmp 346) = .bool false from (hdep _ rfl 29 rfl _ rfl _ rfl)))) (execMvB rfl ((hf 21 (by decide)).trans t21)) ⟨⟨_, rfl, rfl⟩, hT⟩
    | 31, _ => exact stepV rfl (wantedOf rfl (yieldedAt rfl rfl (show a.eval (.tmp 346) = .bool false from (hdep _ rfl 29 rfl _ rfl _ rfl)))) (execLenV (len := (c.M + 40)) rfl (hdep _ rfl 30 rfl _ rfl _ rfl) ⟨_, _, rfl⟩) ⟨⟨_, rfl, rfl⟩, hT⟩
    | 32, _ => exact stepV rfl (wantedOf rfl (yieldedAt rfl rfl (show a.eval (.tmp 346) = .bool false from (hdep _ rfl 29 rfl _ rfl _ rfl)))) (execMvB rfl ((hf 22 (by decide)).trans t22)) ⟨⟨_, rfl, rfl⟩, hT⟩
    | 33, _ => exact stepV rfl (wantedOf rfl (yieldedAt rfl rfl (show a.eval (.tmp 346) = .bool false from (hdep _ rfl 29 rfl _ rfl _ rfl)))) (execLenV (len := (c.M + 40)) rfl (hdep _ rfl 32 rfl _ rfl _ rfl) ⟨_, _, rfl⟩) ⟨⟨_, rfl, rfl⟩, hT⟩
    | 34, _ => exact stepV rfl (wantedOf rfl (yieldedAt rfl rfl (show a.eval (.tmp 346) = .bool false from (hdep _ rfl 29 rfl _ rfl _ rfl)))) (execAdI (p := (c.M + 40)) (q := (c.M + 40)) rfl (hdep _ rfl 31 rfl _ rfl _ rfl) (hdep _ rfl 33 rfl _ rfl _ rfl) (by have := F.sz; omega)) ⟨⟨_, rfl, rfl⟩, hT⟩
    | 35, _ => exact stepV rfl (wantedOf rfl (yieldedAt rfl rfl (show a.eval (.tmp 346) = .bool false from (hdep _ rfl 29 rfl _ rfl _ rfl)))) (execMvB rfl ((hf 23 (by decide)).trans t23)) ⟨⟨_, rfl, rfl⟩, hT⟩
    | 36, _ => exact stepV rfl (wantedOf rfl (yieldedAt rfl rfl (show a.eval (.tmp 346) = .bool false from (hdep _ rfl 29 rfl _ rfl _ rfl)))) (execLenV (len := (320 + 40)) rfl (hdep _ rfl 35 rfl _ rfl _ rfl) ⟨_, _, rfl⟩) ⟨⟨_, rfl, rfl⟩, hT⟩
    | 37, _ => exact stepV rfl (wantedOf rfl (yieldedAt rfl rfl (show a.eval (.tmp 346) = .bool false from (hdep _ rfl 29 rfl _ rfl _ rfl)))) (execAdI (p := (c.M + 40) + ((c.M + 40))) (q := (320 + 40)) rfl (hdep _ rfl 34 rfl _ rfl _ rfl) (hdep _ rfl 36 rfl _ rfl _ rfl) (by have := F.sz; omega)) ⟨⟨_, rfl, rfl⟩, hT⟩
    | 38, _ => exact stepV rfl (wantedOf rfl (yieldedAt rfl rfl (show a.eval (.tmp 346) = .bool false from (hdep _ rfl 29 rfl _ rfl _ rfl)))) (execMvB rfl ((hf 24 (by decide)).trans t24)) ⟨⟨_, rfl, rfl⟩, hT⟩
    | 39, _ => exact stepV rfl (wantedOf rfl (yieldedAt rfl rfl (show a.eval (.tmp 346) = .bool false from (hdep _ rfl 29 rfl _ rfl _ rfl)))) (execLenV (len := (320 + 40)) rfl (hdep _ rfl 38 rfl _ rfl _ rfl) ⟨_, _, rfl⟩) ⟨⟨_, rfl, rfl⟩, hT⟩
    | 40, _ => exact stepV rfl (wantedOf rfl (yieldedAt rfl rfl (show a.eval (.tmp 346) = .bool false from (hdep _ rfl 29 rfl _ rfl _ rfl)))) (execAdI (p := (c.M + 40) + ((c.M + 40)) + ((320 + 40))) (q := (320 + 40)) rfl (hdep _ rfl 37 rfl _ rfl _ rfl) (hdep _ rfl 39 rfl _ rfl _ rfl) (by have := F.sz; omega)) ⟨⟨_, rfl, rfl⟩, hT⟩
    | 41, _ => exact stepV rfl (wantedOf rfl (yieldedAt rfl rfl (show a.eval (.tmp 346) = .bool false from (hdep _ rfl 29 rfl _ rfl _ rfl)))) (execLtF (p := (c.M + 40) + ((c.M + 40)) + ((320 + 40)) + ((320 + 40))) rfl (hdep _ rfl 40 rfl _ rfl _ rfl) (by omega)) ⟨⟨_, rfl, rfl⟩, hT⟩
    | 42, _ => exact stepV rfl rfl (execPick (b := false) rfl (hdep _ rfl 29 rfl _ rfl _ rfl) (hdep _ rfl 41 rfl _ rfl _ rfl)) ⟨⟨_, rfl, rfl⟩, hT⟩
    | k_ + 43, h_ => exact absurd h_ (by simp)
  intro l a X h1 h2 h3 h4 hall hT
  have t359 : a.eval (.tmp 359) = .bool false := h4 (42, 359) (by decide)
  have A := A.keep h1 h2 h3 (by decide)
  have K := K.on hT
  refine wp_cond_false t359 ?_
  refine wp_skip ?_
  exact h a X A K
end Go.Proofs.YtplhkjkaabgffaaGreatDoor.Oni
