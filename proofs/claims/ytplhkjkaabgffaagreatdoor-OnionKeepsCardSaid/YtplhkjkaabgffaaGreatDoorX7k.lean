import Derived.Test.YtplhkjkaabgffaaGreatDoorX7j
namespace Go.Proofs.YtplhkjkaabgffaaGreatDoor.Oni
open Go.RowKit Gf8 Aes By8 Cel
/- OnionKeeps: the key is turned; the last two Wraps; the whole from region 19 on. Written by tools/mkX7k.py. -/

/-- The key's row, m bytes turned. -/
def kTu (key : Nat → Nat) (m : Nat) : Nat → Nat := fun l => if l < m then key l ^^^ 85 else kQ key l
def gX (gg : Nat → Nat → Nat) (key : Nat → Nat) (m : Nat) : Nat → Nat → Nat := fun t => if t = 1 then kTu key m else gg t
theorem gX_next {gg : Nat → Nat → Nat} {key : Nat → Nat} {m : Nat} (t l : Nat) : (if t = 1 then (fun l => if l = m then key m ^^^ 85 else gX gg key m 1 l) else gX gg key m t) l = gX gg key (m + 1) t l := by
  by_cases e : t = 1
  · subst e
    rw [if_pos rfl]
    show (if l = m then key m ^^^ 85 else kTu key m l) = kTu key (m + 1) l
    unfold kTu
    by_cases h1 : l = m
    · subst h1; rw [if_pos rfl, if_pos (by omega)]
    · rw [if_neg h1]
      by_cases h2 : l < m
      · rw [if_pos h2, if_pos (by omega)]
      · rw [if_neg h2, if_neg (by omega)]
  · rw [if_neg e]
    unfold gX
    simp only [if_neg e]
set_option maxRecDepth 100000 in
set_option maxHeartbeats 2000000 in
theorem keeps45 (c : KX) (V V1 : World) (F : KF c V V1) (gg : Nat → Nat → Nat) (hg1 : ∀ l, gg 1 l = kQ c.key l) (h : ∀ (a : Act) (W : World), KA c a → KW c V1 (gX gg c.key 32) W → (fromR 49 (Tryz.f3.body.getD .skip)).wp Tryz.prog (bodyPost Tryz.prog Tryz.f3 fun e w' => e = .returned (.bool true) ∧ Below V.heap.size V w') a W) (a : Act) (W : World) (A : KA c a) (K : KW c V1 gg W) : (fromR 45 (Tryz.f3.body.getD .skip)).wp Tryz.prog (bodyPost Tryz.prog Tryz.f3 fun e w' => e = .returned (.bool true) ∧ Below V.heap.size V w') a W := by
  refine wp_seq ?_
  refine wp_seq ?_
  refine wp_region_sqK 406 [(0, 29)] (fun i_ => match i_ with | 0 => .int .i64 ((0 : Nat) : Int) | _ => undef) A.sz (by kernel_rfl) (by decide) (by decide) ?_ ?_
  · intro i_ hi_ a hf hv hn
    match i_, hi_ with
    | 0, _ => exact stepV rfl rfl (execAsgB rfl rfl) ⟨⟨_, rfl, rfl⟩, rfl⟩
    | k_ + 1, h_ => exact absurd h_ (by simp)
  intro a h1 h2 h3 h4
  have t29 : a.eval (.tmp 29) = .int .i64 ((0 : Nat) : Int) := h4 0 _ rfl _ rfl
  have A := A.keep h1 h2 h3 (by decide)
  clear h1 h2 h3 h4
  refine wp_block ?_
  refine wp_loop (fun a W => ∃ m : Nat, m ≤ 32 ∧ KA c a ∧ a.eval (.tmp 29) = .int .i64 ((m : Nat) : Int) ∧ KW c V1 (gX gg c.key m) W) (fun a _ => 32 - (intOf (a.eval (.tmp 29))).toNat) ⟨0, by omega, A, t29, K.cg fun t _ l _ => by
    unfold gX
    by_cases e : t = 1
    · subst e; rw [if_pos rfl, hg1]; unfold kTu; rw [if_neg (by omega)]
    · rw [if_neg e]⟩ ?_
  clear A K t29 a W
  rintro a W ⟨m, hm0, A, t29, K⟩
  have e29 := t29
  refine wp_seq ?_
  refine wp_seq ?_
  refine wp_region_sqK 406 [(0, 360), (1, 361)] (fun i_ => match i_ with | 0 => .int .i64 ((m : Nat) : Int) | 1 => .bool (decide (m < 32)) | _ => undef) A.sz (by kernel_rfl) (by decide) (by decide) ?_ ?_
  · intro i_ hi_ a hf hv hn
    match i_, hi_ with
    | 0, _ => exact stepV rfl rfl (execMvB rfl ((hf 29 (by decide)).trans t29)) ⟨⟨_, rfl, rfl⟩, rfl⟩
    | 1, _ => exact stepV rfl rfl (execLtI (p := m) (q := 32) rfl (hv 0 (by omega) _ rfl _ rfl)) ⟨⟨_, rfl, rfl⟩, rfl⟩
    | k_ + 2, h_ => exact absurd h_ (by simp)
  intro a h1 h2 h3 h4
  have t29 := (h3 29 (by decide)).trans t29
  have t361 : a.eval (.tmp 361) = .bool (decide (m < 32)) := h4 1 _ rfl _ rfl
  have A := A.keep h1 h2 h3 (by decide)
  clear h1 h2 h3 h4
  by_cases hm : m < 32
  · rw [decide_eq_true hm] at t361
    refine wp_cond_true t361 ?_
    refine wp_skip ?_
    clear t361
    have LW : W.ownsRow V1.heap.size 5 1 (.slice (some ⟨c.kg, 0, none⟩) 34 c.kc) 34 (bytesL 34 (kTu c.key m)) := K.fam.rows 1 (by omega)
    have LB := own_at LW (show m < 34 by omega)
    rw [show kTu c.key m m = c.key m by unfold kTu kQ; rw [if_neg (by omega), if_pos hm]] at LB
    obtain ⟨cu, hcu⟩ := own_type LW (k := c.kg) rfl
    have KS := K.set (i := 1) (g := c.kg) (cap := c.kc) (j := m) (by omega) rfl (c.key m ^^^ 85)
    refine wp_seq ?_
    refine wp_block ?_
    refine wp_region_sqW 406 [(0, 364), (1, 365), (2, 366), (3, 367), (4, 368), (5, 369)] (fun i_ => match i_ with | 0 => .slice (some ⟨c.kg, 0, none⟩) 34 c.kc | 1 => .int .i64 ((m : Nat) : Int) | 2 => .pointer (some ⟨c.kg, m, none⟩) | 3 => .int .u8 ((c.key m : Nat) : Int) | 4 => .int .u8 ((c.key m ^^^ 85 : Nat) : Int) | 5 => .pointer (some ⟨c.kg, m, none⟩) | 6 => undef | _ => undef) (fun i_ => match i_ with | 0 => W | 1 => W | 2 => W | 3 => W | 4 => W | 5 => W | 6 => W | _ => (W.setCell ⟨c.kg, m, none⟩ (.int .u8 ((c.key m ^^^ 85 : Nat) : Int)))) A.sz (by kernel_rfl) (by decide) (by decide) ?_ ?_
    · intro i_ hi_ a hf hv hn
      match i_, hi_ with
      | 0, _ => exact stepV rfl rfl (execMvB rfl ((hf 5 (by decide)).trans A.t5)) ⟨⟨_, rfl, rfl⟩, rfl⟩
      | 1, _ => exact stepV rfl rfl (execMvB rfl ((hf 29 (by decide)).trans t29)) ⟨⟨_, rfl, rfl⟩, rfl⟩
      | 2, _ => exact stepV rfl rfl (execIdxS0 (k := m) rfl (hv 0 (by omega) _ rfl _ rfl) (hv 1 (by omega) _ rfl _ rfl) (by omega)) ⟨⟨_, rfl, rfl⟩, rfl⟩
      | 3, _ => exact stepV rfl rfl (execLdB rfl (hv 2 (by omega) _ rfl _ rfl) LB) ⟨⟨_, rfl, rfl⟩, rfl⟩
      | 4, _ => exact stepV rfl rfl (execXor5 (p := c.key m) (q := 85) rfl (hv 3 (by omega) _ rfl _ rfl) rfl (F.key_ m hm) (by omega)) ⟨⟨_, rfl, rfl⟩, rfl⟩
      | 5, _ => exact stepV rfl rfl (execIdxS0 (k := m) rfl (hv 0 (by omega) _ rfl _ rfl) (hv 1 (by omega) _ rfl _ rfl) (by omega)) ⟨⟨_, rfl, rfl⟩, rfl⟩
      | 6, _ => exact stepS rfl rfl (execStB rfl (hv 5 (by omega) _ rfl _ rfl) (hv 4 (by omega) _ rfl _ rfl) LB (frozen4 hcu)) ⟨⟨_, rfl, rfl⟩, rfl⟩
      | k_ + 7, h_ => exact absurd h_ (by simp)
    intro a h1 h2 h3 h4
    have t29 := (h3 29 (by decide)).trans t29
    have A := A.keep h1 h2 h3 (by decide)
    clear h1 h2 h3 h4
    have K := KS.cg fun t _ l _ => gX_next t l
    clear KS LW LB hcu
    revert K
    generalize W.setCell ⟨c.kg, m, none⟩ (.int .u8 ((c.key m ^^^ 85 : Nat) : Int)) = W
    intro K
    refine wp_region_sqK 406 [(0, 362), (1, 363), (2, 29)] (fun i_ => match i_ with | 0 => .int .i64 ((m : Nat) : Int) | 1 => .int .i64 ((m + 1 : Nat) : Int) | 2 => .int .i64 ((m + 1 : Nat) : Int) | _ => undef) A.sz (by kernel_rfl) (by decide) (by decide) ?_ ?_
    · intro i_ hi_ a hf hv hn
      match i_, hi_ with
      | 0, _ => exact stepV rfl rfl (execMvB rfl ((hn 2 (by omega) _ rfl _ rfl).trans t29)) ⟨⟨_, rfl, rfl⟩, rfl⟩
      | 1, _ => exact stepV rfl rfl (execAdI (p := m) (q := 1) rfl (hv 0 (by omega) _ rfl _ rfl) rfl (by omega)) ⟨⟨_, rfl, rfl⟩, rfl⟩
      | 2, _ => exact stepV rfl rfl (execAsgB rfl (hv 1 (by omega) _ rfl _ rfl)) ⟨⟨_, rfl, rfl⟩, rfl⟩
      | k_ + 3, h_ => exact absurd h_ (by simp)
    intro a h1 h2 h3 h4
    have t29 : a.eval (.tmp 29) = .int .i64 ((m + 1 : Nat) : Int) := h4 2 _ rfl _ rfl
    have A := A.keep h1 h2 h3 (by decide)
    clear h1 h2 h3 h4
    exact ⟨⟨m + 1, hm, A, t29, K⟩, by show 32 - (intOf (a.eval (.tmp 29))).toNat < 32 - (intOf (Act.eval _ (.tmp 29))).toNat; rw [t29, e29]; show 32 - (m + 1) < 32 - m; omega⟩
  · rw [decide_eq_false hm] at t361
    refine wp_cond_false t361 ?_
    refine wp_exit ?_
    first | refine exit_in ?_ | refine exit_then (exit_in ?_) | refine exit_then (exit_then (exit_in ?_))
    have em : m = 32 := by omega
    rw [em] at K
    exact h a W A K
set_option maxRecDepth 100000 in
set_option maxHeartbeats 2000000 in
theorem keeps49 (c : KX) (V V1 : World) (F : KF c V V1) (gg : Nat → Nat → Nat) (hg2 : ∀ l, gg 2 l = iQ c.n c.inner l) (a : Act) (W : World) (A : KA c a) (K : KW c V1 (gX gg c.key 32) W) : (fromR 49 (Tryz.f3.body.getD .skip)).wp Tryz.prog (bodyPost Tryz.prog Tryz.f3 fun e w' => e = .returned (.bool true) ∧ Below V.heap.size V w') a W := by
  obtain ⟨kk, hkk⟩ : ∃ kk : Nat → Nat, kk = fun l => c.key l ^^^ 85 := ⟨_, rfl⟩
  have SX0 : ∀ X, KW c V1 (gX gg c.key 32) X → SliceN X (.slice (some ⟨c.kg, 0, none⟩) 32 c.kc) 32 kk ∧ SliceN X (.slice (some ⟨c.ig, 0, none⟩) c.n c.ic) c.n c.inner ∧ SliceN X (.slice c.ia c.n c.icap) c.n c.inner := fun X K => by
    have r1 : X.ownsRow V1.heap.size 5 1 (.slice (some ⟨c.kg, 0, none⟩) 34 c.kc) 34 (bytesL 34 (kTu c.key 32)) := K.fam.rows 1 (by omega)
    have r2 : X.ownsRow V1.heap.size 5 1 (.slice (some ⟨c.ig, 0, none⟩) (c.n + 2) c.ic) (c.n + 2) (bytesL (c.n + 2) (gg 2)) := K.fam.rows 2 (by omega)
    rw [bytesL_congr fun l _ => hg2 l] at r2
    have k1 := own_slice r1 (fun j hj => by
      unfold kTu
      by_cases e : j < 32
      · rw [if_pos e]; exact xor_lt (F.key_ j e) (by omega)
      · rw [if_neg e]; exact kQ_lt F.key_ j hj)
    have k2 := own_slice r2 (iQ_lt F.inn_)
    exact ⟨sliceN_cg (takeN k1 (show 32 ≤ 34 by omega)) fun j hj => by rw [hkk]; exact if_pos hj, sliceN_cg (takeN k2 (show c.n ≤ c.n + 2 by omega)) fun j hj => if_pos hj, (F.ok X K.bel).2.2.sl⟩
  have bX : ∀ {X}, Below W.heap.size W X → Below V1.heap.size V1 X := fun hX => (K.on hX).bel
  have SX := fun X (hX : Below W.heap.size W X) => SX0 X (K.on hX)
  refine wp_seq ?_
  refine wp_region_stA 406 [(0, 371), (1, 372), (2, 373), (3, 374), (4, 375), (5, 376), (6, 377), (7, 378), (8, 379), (9, 380), (10, 381), (11, 382), (12, 370), (13, 383), (14, 384), (15, 30), (16, 8)] (fun l r X => Below W.heap.size W X ∧ (l 11 = true → X.ownsRow W.heap.size 5 1 r c.M (bytesL c.M (wrF kk c.nonce c.L c.n c.inner)))) (fun r => fun i_ => match i_ with | 0 => .slice (some ⟨c.kg, 0, none⟩) 34 c.kc | 1 => .slice (some ⟨c.kg, 0, none⟩) 32 c.kc | 2 => .pointer (some ⟨c.J, 1, none⟩) | 3 => .agg (bA 16 c.nonce) | 4 => .pointer (some ⟨c.J, 17, none⟩) | 5 => .int .i64 (c.L : Int) | 6 => .slice (some ⟨c.ig, 0, none⟩) (c.n + 2) c.ic | 7 => .pointer (some ⟨c.J, 18, none⟩) | 8 => .slice c.ia c.n c.icap | 9 => .int .i64 (c.n : Int) | 10 => .slice (some ⟨c.ig, 0, none⟩) c.n c.ic | 11 => .tuple #[r, .int .i64 0] | 12 => .tuple #[r, .int .i64 0] | 13 => r | 14 => .int .i64 0 | 15 => r | 16 => .int .i64 0 | _ => undef) undef (by kernel_rfl) (by kernel_rfl) A.sz (by kernel_rfl) (by decide) (by decide) ⟨(Below.refl _ _).drew, fun q => by cases q⟩ ?_ ?_
  · intro i_ hi_ l r a X hl hf hdep hl2 hcl hS
    match i_, hi_ with
    | 0, _ => exact stepV rfl rfl (execMvB rfl ((hf 5 (by decide)).trans A.t5)) ⟨r, ⟨_, rfl, rfl⟩, ⟨hS.1, fun q => hS.2 q⟩, fun _ _ _ => rfl⟩
    | 1, _ => exact stepV rfl rfl (By8.execSlH rfl (hdep _ rfl 0 rfl _ rfl _ rfl) rfl (sl_hn c.kg 34 c.kc 32 (by have := F.sz; omega) X)) ⟨r, ⟨_, rfl, rfl⟩, ⟨hS.1, fun q => hS.2 q⟩, fun _ _ _ => rfl⟩
    | 2, _ => exact stepV rfl rfl (execJ1 rfl ((hf 1 (by decide)).trans A.t1)) ⟨r, ⟨_, rfl, rfl⟩, ⟨hS.1, fun q => hS.2 q⟩, fun _ _ _ => rfl⟩
    | 3, _ => exact stepV rfl rfl (execLdList (k := 16) (q := c.nonce) rfl (hdep _ rfl 2 rfl _ rfl _ rfl) (jC_at (F.job X (bX hS.1))).2.1 Tryz.underlying23 rfl (by kernel_rfl)) ⟨r, ⟨_, rfl, rfl⟩, ⟨hS.1, fun q => hS.2 q⟩, fun _ _ _ => rfl⟩
    | 4, _ => exact stepV rfl rfl (execJ2 rfl ((hf 1 (by decide)).trans A.t1)) ⟨r, ⟨_, rfl, rfl⟩, ⟨hS.1, fun q => hS.2 q⟩, fun _ _ _ => rfl⟩
    | 5, _ => exact stepV rfl rfl (execLdI rfl (hdep _ rfl 4 rfl _ rfl _ rfl) (jC_at (F.job X (bX hS.1))).2.2.1) ⟨r, ⟨_, rfl, rfl⟩, ⟨hS.1, fun q => hS.2 q⟩, fun _ _ _ => rfl⟩
    | 6, _ => exact stepV rfl rfl (execMvB rfl ((hf 6 (by decide)).trans A.t6)) ⟨r, ⟨_, rfl, rfl⟩, ⟨hS.1, fun q => hS.2 q⟩, fun _ _ _ => rfl⟩
    | 7, _ => exact stepV rfl rfl (execJ3 rfl ((hf 1 (by decide)).trans A.t1)) ⟨r, ⟨_, rfl, rfl⟩, ⟨hS.1, fun q => hS.2 q⟩, fun _ _ _ => rfl⟩
    | 8, _ => exact stepV rfl rfl (execLdS rfl (hdep _ rfl 7 rfl _ rfl _ rfl) (jC_at (F.job X (bX hS.1))).2.2.2) ⟨r, ⟨_, rfl, rfl⟩, ⟨hS.1, fun q => hS.2 q⟩, fun _ _ _ => rfl⟩
    | 9, _ => exact stepV rfl rfl (execLenV (len := c.n) rfl (hdep _ rfl 8 rfl _ rfl _ rfl) ⟨_, _, rfl⟩) ⟨r, ⟨_, rfl, rfl⟩, ⟨hS.1, fun q => hS.2 q⟩, fun _ _ _ => rfl⟩
    | 10, _ => exact stepV rfl rfl (By8.execSlH rfl (hdep _ rfl 6 rfl _ rfl _ rfl) (hdep _ rfl 9 rfl _ rfl _ rfl) (sl_hn c.ig (c.n + 2) c.ic c.n (by have := F.sz; omega) X)) ⟨r, ⟨_, rfl, rfl⟩, ⟨hS.1, fun q => hS.2 q⟩, fun _ _ _ => rfl⟩
    | 11, _ =>
      refine stepC rfl rfl (execCall4 Tryz.func6 (by kernel_rfl) (by kernel_rfl) rfl (hdep _ rfl 1 rfl _ rfl _ rfl) (hdep _ rfl 3 rfl _ rfl _ rfl) (hdep _ rfl 5 rfl _ rfl _ rfl) (hdep _ rfl 10 rfl _ rfl _ rfl)) (F.pw X _ _ kk (bX hS.1) (SX X hS.1).1 (SX X hS.1).2.1) fun e w' hh => ?_
      obtain ⟨r', e1, own', bw⟩ := hh
      refine ⟨_, e1, r', ⟨_, rfl, rfl⟩, ⟨hS.1.trans (bw.mono hS.1.size), fun _ => own_base own' hS.1.size⟩, fun i hi hli => ?_⟩
      match i, hi with
      | 0, _ => rfl
      | 1, _ => rfl
      | 2, _ => rfl
      | 3, _ => rfl
      | 4, _ => rfl
      | 5, _ => rfl
      | 6, _ => rfl
      | 7, _ => rfl
      | 8, _ => rfl
      | 9, _ => rfl
      | 10, _ => rfl
      | 11, _ => exact absurd (hl.symm.trans hli) (by decide)
      | 12, _ => exact absurd (hl.symm.trans (hcl 12 _ rfl hli 11 rfl)) (by decide)
      | 13, _ => exact absurd (hl.symm.trans (hcl 12 _ rfl (hcl 13 _ rfl hli 12 rfl) 11 rfl)) (by decide)
      | 14, _ => rfl
      | 15, _ => exact absurd (hl.symm.trans (hcl 12 _ rfl (hcl 13 _ rfl (hcl 15 _ rfl hli 13 rfl) 12 rfl) 11 rfl)) (by decide)
      | 16, _ => rfl
      | k_ + 17, h_ => exact absurd h_ (by simp)
    | 12, _ => exact stepV rfl rfl (execMvB rfl (hdep _ rfl 11 rfl _ rfl _ rfl)) ⟨r, ⟨_, rfl, rfl⟩, ⟨hS.1, fun q => hS.2 q⟩, fun _ _ _ => rfl⟩
    | 13, _ => exact stepV rfl rfl (execExt rfl (hdep _ rfl 12 rfl _ rfl _ rfl) rfl) ⟨r, ⟨_, rfl, rfl⟩, ⟨hS.1, fun q => hS.2 q⟩, fun _ _ _ => rfl⟩
    | 14, _ => exact stepV rfl rfl (execExt rfl (hdep _ rfl 12 rfl _ rfl _ rfl) rfl) ⟨r, ⟨_, rfl, rfl⟩, ⟨hS.1, fun q => hS.2 q⟩, fun _ _ _ => rfl⟩
    | 15, _ => exact stepV rfl rfl (execAsgB rfl (hdep _ rfl 13 rfl _ rfl _ rfl)) ⟨r, ⟨_, rfl, rfl⟩, ⟨hS.1, fun q => hS.2 q⟩, fun _ _ _ => rfl⟩
    | 16, _ => exact stepV rfl rfl (execAsgB rfl (hdep _ rfl 14 rfl _ rfl _ rfl)) ⟨r, ⟨_, rfl, rfl⟩, ⟨hS.1, fun q => hS.2 q⟩, fun _ _ _ => rfl⟩
    | k_ + 17, h_ => exact absurd h_ (by simp)
  intro l r a X h1 h2 h3 h4 hall hS
  have own := hS.2 (hall 11 (by simp))
  have b1 := hS.1
  obtain ⟨zg, zc, rfl, _⟩ := own_cells own (by have := F.sz; omega)
  have t30 : a.eval (.tmp 30) = .slice (some ⟨zg, 0, none⟩) c.M zc := h4 (15, 30) (by decide)
  have t8 : a.eval (.tmp 8) = .int .i64 0 := h4 (16, 8) (by decide)
  have A := A.keep h1 h2 h3 (by decide)
  have Z30 := own_slice own (fun j _ => F.wr_ kk j)
  have K := K.on b1
  clear h1 h2 h3 h4 hall hS own bX SX b1
  obtain ⟨W, hW⟩ : ∃ W, W = X := ⟨_, rfl⟩
  rw [← hW] at K Z30 ⊢
  clear hW
  have bX : ∀ {X}, Below W.heap.size W X → Below V1.heap.size V1 X := fun hX => (K.on hX).bel
  have SX := fun X (hX : Below W.heap.size W X) => SX0 X (K.on hX)
  refine wp_seq ?_
  refine wp_region_stA 406 [(0, 386), (1, 387), (2, 388), (3, 389), (4, 390), (5, 391), (6, 392), (7, 393), (8, 394), (9, 385), (10, 395), (11, 396), (12, 31), (13, 32)] (fun l r X => Below W.heap.size W X ∧ (l 8 = true → X.ownsRow W.heap.size 5 1 r c.M (bytesL c.M (wrF kk c.nonce c.L c.n c.inner)))) (fun r => fun i_ => match i_ with | 0 => .slice (some ⟨c.kg, 0, none⟩) 34 c.kc | 1 => .slice (some ⟨c.kg, 0, none⟩) 32 c.kc | 2 => .pointer (some ⟨c.J, 1, none⟩) | 3 => .agg (bA 16 c.nonce) | 4 => .pointer (some ⟨c.J, 17, none⟩) | 5 => .int .i64 (c.L : Int) | 6 => .pointer (some ⟨c.J, 18, none⟩) | 7 => .slice c.ia c.n c.icap | 8 => .tuple #[r, .int .i64 0] | 9 => .tuple #[r, .int .i64 0] | 10 => r | 11 => .int .i64 0 | 12 => r | 13 => .int .i64 0 | _ => undef) undef (by kernel_rfl) (by kernel_rfl) A.sz (by kernel_rfl) (by decide) (by decide) ⟨(Below.refl _ _).drew, fun q => by cases q⟩ ?_ ?_
  · intro i_ hi_ l r a X hl hf hdep hl2 hcl hS
    match i_, hi_ with
    | 0, _ => exact stepV rfl rfl (execMvB rfl ((hf 5 (by decide)).trans A.t5)) ⟨r, ⟨_, rfl, rfl⟩, ⟨hS.1, fun q => hS.2 q⟩, fun _ _ _ => rfl⟩
    | 1, _ => exact stepV rfl rfl (By8.execSlH rfl (hdep _ rfl 0 rfl _ rfl _ rfl) rfl (sl_hn c.kg 34 c.kc 32 (by have := F.sz; omega) X)) ⟨r, ⟨_, rfl, rfl⟩, ⟨hS.1, fun q => hS.2 q⟩, fun _ _ _ => rfl⟩
    | 2, _ => exact stepV rfl rfl (execJ1 rfl ((hf 1 (by decide)).trans A.t1)) ⟨r, ⟨_, rfl, rfl⟩, ⟨hS.1, fun q => hS.2 q⟩, fun _ _ _ => rfl⟩
    | 3, _ => exact stepV rfl rfl (execLdList (k := 16) (q := c.nonce) rfl (hdep _ rfl 2 rfl _ rfl _ rfl) (jC_at (F.job X (bX hS.1))).2.1 Tryz.underlying23 rfl (by kernel_rfl)) ⟨r, ⟨_, rfl, rfl⟩, ⟨hS.1, fun q => hS.2 q⟩, fun _ _ _ => rfl⟩
    | 4, _ => exact stepV rfl rfl (execJ2 rfl ((hf 1 (by decide)).trans A.t1)) ⟨r, ⟨_, rfl, rfl⟩, ⟨hS.1, fun q => hS.2 q⟩, fun _ _ _ => rfl⟩
    | 5, _ => exact stepV rfl rfl (execLdI rfl (hdep _ rfl 4 rfl _ rfl _ rfl) (jC_at (F.job X (bX hS.1))).2.2.1) ⟨r, ⟨_, rfl, rfl⟩, ⟨hS.1, fun q => hS.2 q⟩, fun _ _ _ => rfl⟩
    | 6, _ => exact stepV rfl rfl (execJ3 rfl ((hf 1 (by decide)).trans A.t1)) ⟨r, ⟨_, rfl, rfl⟩, ⟨hS.1, fun q => hS.2 q⟩, fun _ _ _ => rfl⟩
    | 7, _ => exact stepV rfl rfl (execLdS rfl (hdep _ rfl 6 rfl _ rfl _ rfl) (jC_at (F.job X (bX hS.1))).2.2.2) ⟨r, ⟨_, rfl, rfl⟩, ⟨hS.1, fun q => hS.2 q⟩, fun _ _ _ => rfl⟩
    | 8, _ =>
      refine stepC rfl rfl (execCall4 Tryz.func5 (by kernel_rfl) (by kernel_rfl) rfl (hdep _ rfl 1 rfl _ rfl _ rfl) (hdep _ rfl 3 rfl _ rfl _ rfl) (hdep _ rfl 5 rfl _ rfl _ rfl) (hdep _ rfl 7 rfl _ rfl _ rfl)) (F.rw_ X _ _ kk (bX hS.1) (SX X hS.1).1 (SX X hS.1).2.2) fun e w' hh => ?_
      obtain ⟨r', e1, own', bw⟩ := hh
      refine ⟨_, e1, r', ⟨_, rfl, rfl⟩, ⟨hS.1.trans (bw.mono hS.1.size), fun _ => own_base own' hS.1.size⟩, fun i hi hli => ?_⟩
      match i, hi with
      | 0, _ => rfl
      | 1, _ => rfl
      | 2, _ => rfl
      | 3, _ => rfl
      | 4, _ => rfl
      | 5, _ => rfl
      | 6, _ => rfl
      | 7, _ => rfl
      | 8, _ => exact absurd (hl.symm.trans hli) (by decide)
      | 9, _ => exact absurd (hl.symm.trans (hcl 9 _ rfl hli 8 rfl)) (by decide)
      | 10, _ => exact absurd (hl.symm.trans (hcl 9 _ rfl (hcl 10 _ rfl hli 9 rfl) 8 rfl)) (by decide)
      | 11, _ => rfl
      | 12, _ => exact absurd (hl.symm.trans (hcl 9 _ rfl (hcl 10 _ rfl (hcl 12 _ rfl hli 10 rfl) 9 rfl) 8 rfl)) (by decide)
      | 13, _ => rfl
      | k_ + 14, h_ => exact absurd h_ (by simp)
    | 9, _ => exact stepV rfl rfl (execMvB rfl (hdep _ rfl 8 rfl _ rfl _ rfl)) ⟨r, ⟨_, rfl, rfl⟩, ⟨hS.1, fun q => hS.2 q⟩, fun _ _ _ => rfl⟩
    | 10, _ => exact stepV rfl rfl (execExt rfl (hdep _ rfl 9 rfl _ rfl _ rfl) rfl) ⟨r, ⟨_, rfl, rfl⟩, ⟨hS.1, fun q => hS.2 q⟩, fun _ _ _ => rfl⟩
    | 11, _ => exact stepV rfl rfl (execExt rfl (hdep _ rfl 9 rfl _ rfl _ rfl) rfl) ⟨r, ⟨_, rfl, rfl⟩, ⟨hS.1, fun q => hS.2 q⟩, fun _ _ _ => rfl⟩
    | 12, _ => exact stepV rfl rfl (execAsgB rfl (hdep _ rfl 10 rfl _ rfl _ rfl)) ⟨r, ⟨_, rfl, rfl⟩, ⟨hS.1, fun q => hS.2 q⟩, fun _ _ _ => rfl⟩
    | 13, _ => exact stepV rfl rfl (execAsgB rfl (hdep _ rfl 11 rfl _ rfl _ rfl)) ⟨r, ⟨_, rfl, rfl⟩, ⟨hS.1, fun q => hS.2 q⟩, fun _ _ _ => rfl⟩
    | k_ + 14, h_ => exact absurd h_ (by simp)
  intro l r a X h1 h2 h3 h4 hall hS
  have own := hS.2 (hall 8 (by simp))
  have b1 := hS.1
  obtain ⟨vg, vc, rfl, _⟩ := own_cells own (by have := F.sz; omega)
  have t31 : a.eval (.tmp 31) = .slice (some ⟨vg, 0, none⟩) c.M vc := h4 (12, 31) (by decide)
  have t30 := (h3 30 (by decide)).trans t30
  have t8 := (h3 8 (by decide)).trans t8
  have A := A.keep h1 h2 h3 (by decide)
  have Z31 := own_slice own (fun j _ => F.wr_ kk j)
  have Z30 := Z30.on b1
  have K := K.on b1
  clear h1 h2 h3 h4 hall hS own bX SX b1
  obtain ⟨W, hW⟩ : ∃ W, W = X := ⟨_, rfl⟩
  rw [← hW] at K Z30 Z31 ⊢
  clear hW
  refine wp_seq ?_
  refine wp_region_sqK 406 [(0, 397), (1, 398), (2, 399), (3, 400), (4, 401), (5, 402), (6, 403), (7, 404), (8, 405), (9, 2)] (fun i_ => match i_ with | 0 => .int .i64 0 | 1 => .bool true | 2 => .bool true | 3 => .slice (some ⟨zg, 0, none⟩) c.M zc | 4 => .string (strN (wrF kk c.nonce c.L c.n c.inner) c.M) | 5 => .slice (some ⟨vg, 0, none⟩) c.M vc | 6 => .string (strN (wrF kk c.nonce c.L c.n c.inner) c.M) | 7 => .bool true | 8 => .bool true | 9 => .bool true | _ => undef) A.sz (by kernel_rfl) (by decide) (by decide) ?_ ?_
  · intro i_ hi_ a hf hv hn
    match i_, hi_ with
    | 0, _ => exact stepV rfl rfl (execMvB rfl ((hf 8 (by decide)).trans t8)) ⟨⟨_, rfl, rfl⟩, rfl⟩
    | 1, _ => exact stepV rfl rfl (execEqE0 rfl (hv 0 (by omega) _ rfl _ rfl)) ⟨⟨_, rfl, rfl⟩, rfl⟩
    | 2, _ => exact stepV rfl rfl (execMvB rfl (hv 1 (by omega) _ rfl _ rfl)) ⟨⟨_, rfl, rfl⟩, rfl⟩
    | 3, _ => exact stepV rfl (wantedOf rfl (yieldedAt rfl rfl (show a.eval (.tmp 399) = .bool true from (hv 2 (by omega) _ rfl _ rfl)))) (execMvB rfl ((hf 30 (by decide)).trans t30)) ⟨⟨_, rfl, rfl⟩, rfl⟩
    | 4, _ => exact stepV rfl (wantedOf rfl (yieldedAt rfl rfl (show a.eval (.tmp 399) = .bool true from (hv 2 (by omega) _ rfl _ rfl)))) (By8.execStr rfl (hv 3 (by omega) _ rfl _ rfl) Z30) ⟨⟨_, rfl, rfl⟩, rfl⟩
    | 5, _ => exact stepV rfl (wantedOf rfl (yieldedAt rfl rfl (show a.eval (.tmp 399) = .bool true from (hv 2 (by omega) _ rfl _ rfl)))) (execMvB rfl ((hf 31 (by decide)).trans t31)) ⟨⟨_, rfl, rfl⟩, rfl⟩
    | 6, _ => exact stepV rfl (wantedOf rfl (yieldedAt rfl rfl (show a.eval (.tmp 399) = .bool true from (hv 2 (by omega) _ rfl _ rfl)))) (By8.execStr rfl (hv 5 (by omega) _ rfl _ rfl) Z31) ⟨⟨_, rfl, rfl⟩, rfl⟩
    | 7, _ => exact stepV rfl (wantedOf rfl (yieldedAt rfl rfl (show a.eval (.tmp 399) = .bool true from (hv 2 (by omega) _ rfl _ rfl)))) (By8.execEqlS rfl (hv 4 (by omega) _ rfl _ rfl) (hv 6 (by omega) _ rfl _ rfl)) ⟨⟨_, rfl, rfl⟩, rfl⟩
    | 8, _ => exact stepV rfl rfl (execPick (b := true) rfl (hv 2 (by omega) _ rfl _ rfl) (hv 7 (by omega) _ rfl _ rfl)) ⟨⟨_, rfl, rfl⟩, rfl⟩
    | 9, _ => exact stepV rfl rfl (execAsgB rfl (hv 8 (by omega) _ rfl _ rfl)) ⟨⟨_, rfl, rfl⟩, rfl⟩
    | k_ + 10, h_ => exact absurd h_ (by simp)
  intro a h1 h2 h3 h4
  have t2 : a.eval (.tmp 2) = .bool true := h4 9 _ rfl _ rfl
  have A := A.keep h1 h2 h3 (by decide)
  clear h1 h2 h3 h4
  refine wp_ret (bodyPost_ret (results_tmp rfl _ _ _) A.df ⟨?_, (F.ok W K.bel).1⟩)
  show Ending.returned (a.eval (.tmp 2)) = _
  rw [t2]
/-- The whole from region 19 on. -/
theorem keeps_rest (c : KX) (V V1 W : World) (F : KF c V V1) (K : KW c V1 (kF c.key c.inner c.on c.nx c.M c.n) W) (a : Act) (A : KA c a) : (fromR 19 (Tryz.f3.body.getD .skip)).wp Tryz.prog (bodyPost Tryz.prog Tryz.f3 fun e w' => e = .returned (.bool true) ∧ Below V.heap.size V w') a W :=
  keeps19 c V V1 W F K (fun a A => keeps21 c V V1 F _ (fun a W A K => keeps29 c V V1 F _ (fun a W gv A K hsh t21 t22 t23 t24 => keeps34 c V V1 F _ gv (fun a W A K t21 t22 t23 t24 => keeps43 c V V1 F gv hsh (fun a W A K => keeps45 c V V1 F _ (fun l => mF_out _ rfl 4 (by omega) 0 l) (fun a W A K => keeps49 c V V1 F _ (fun l => mF_out _ rfl 4 (by omega) 0 l) a W A K) a W A K) a W A K t21 t22 t23 t24) a W A K t21 t22 t23 t24) a W A K) a W A K) a A
end Go.Proofs.YtplhkjkaabgffaaGreatDoor.Oni
