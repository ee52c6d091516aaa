import Derived.Test.YtcffmmeafnapiaaDoorB8c
namespace Go.Proofs.YtcffmmeafnapiaaDoor.Rou
open Go.RowKit Gf8 Aes By8 Cel Oni
/- RouteKeeps: the calls of Wrap and Walk. Written by tools/mkB8d.py. -/

theorem Way.base {W : World} {B C : Nat} {v : Value} {n : Nat} {cv : Nat → Value} {r c : Nat → Nat → Nat} (h : Way W C v n cv r c) (hB : B ≤ C) : Way W B v n cv r c := by
  obtain ⟨a, cap, e, hr⟩ := h.row
  refine ⟨⟨a, cap, e, fun h0 => ?_⟩, fun k hk => own_base (h.own k hk) hB, h.two⟩
  obtain ⟨g, e2, h1, h2, h3⟩ := hr h0
  exact ⟨g, e2, Nat.le_trans hB h1, h2, h3⟩
theorem RB.cells {c : RX} {V1 W : World} {x : Nat → Value} {u5 u6 : Value} (h : RB c V1 W c.h x u5 u6) (hb : ∀ i, i < c.h → ∀ j, j < c.lk i → c.key i j < 256) : Cells W u5 c.h (fun t => cutV (x t) (c.lk t)) c.lk c.key := by
  have cell : ∀ i, i < c.h → SliceN W (cutV (x i) (c.lk i)) (c.lk i) (c.key i) ∧ ∀ l cc, cutV (x i) (c.lk i) = .slice none l cc → cc = 0 := fun i hi => by
    obtain ⟨g, cp, e, _⟩ := own_cells (h.rows i hi) (by omega)
    have s := own_slice (h.rows i hi) (fun j hj => by
      unfold rmF
      by_cases q : j < c.lk i
      · rw [if_pos q]; exact hb i hi j q
      · rw [if_neg q]; omega)
    rw [e] at s ⊢
    exact ⟨sliceN_cg (takeN s (by omega)) fun j hj => if_pos hj, fun l cc q => by cases q⟩
  rcases h.keys.2 with ⟨e, e0⟩ | ⟨g, cap, cur, e, _, hg, h1, h2, h3, h4⟩
  · subst e
    refine ⟨⟨none, 0, by rw [e0], by omega, by omega, fun q => by omega⟩, fun i hi => (cell i hi).1, fun i hi => (cell i hi).2, fun i hi => by have := h.small i hi; omega⟩
  · subst e
    refine ⟨⟨_, cap, rfl, h1, by unfold maxLen at h2; omega, fun _ => ⟨g, 0, rfl, (Array.getElem?_eq_some_iff.1 hg).1, fun i hi => ?_⟩⟩, fun i hi => (cell i hi).1, fun i hi => (cell i hi).2, fun i hi => by have := h.small i hi; omega⟩
    rw [cell_of_row _ _ _ _ _ _ hg, Nat.zero_add, ← Array.getElem?_toList]
    have := lL_get (fun t => cutV (x t) (c.lk t)) c.h i hi
    rw [← h4, List.getElem?_take, if_pos (by omega)] at this
    exact this
theorem RW.on {c : RX} {V1 W W' : World} {x : Nat → Value} {u5 u6 nv : Value} {pg pk : Nat} (h : RW c V1 W x u5 u6 nv pg pk) (hb : Below W.heap.size W W') : RW c V1 W' x u5 u6 nv pg pk := ⟨h.B.on hb, h.non.on hb, h.pay.on hb, h.pk_⟩
/-- What the calls have left. -/
structure LQ (W0 W : World) (MA N : Nat) (cw : Nat → Nat) (r cc : Nat → Nat → Nat) (a b lv mv : Value) (cl cm : Nat → Value) (b1 b2 b3 b4 : Nat) : Prop where
  oa : W.ownsRow W0.heap.size 5 1 a MA (bytesL MA cw)
  ob : W.ownsRow b1 5 1 b MA (bytesL MA cw)
  wl : Way W b2 lv N cl r cc
  wm : Way W b3 mv N cm r cc
  ha : ∀ k, a.ownBlock = some k → k < b1
  hb : ∀ k, b.ownBlock = some k → k < b2
  hl : ∀ t, t < N → ∀ k, (cl t).ownBlock = some k → k < b3
  hm : ∀ t, t < N → ∀ k, (cm t).ownBlock = some k → k < b4
  le : W0.heap.size ≤ b1 ∧ b1 ≤ b2 ∧ b2 ≤ b3 ∧ b3 ≤ b4 ∧ b4 ≤ W.heap.size
  bel : Below W0.heap.size W0 W
set_option maxRecDepth 100000 in
set_option maxHeartbeats 4000000 in
theorem keeps20 (c : RX) (V V1 : World) (F : RF c V V1) (W0 : World) (x : Nat → Value) (u5 u6 nv : Value) (pg pk : Nat) (H0 : RW c V1 W0 x u5 u6 nv pg pk) (cw : Nat → Nat) (EA MA EW NW : Nat) (wr_ cc : Nat → Nat → Nat) (hMA : MA ≤ 320) (hcw : ∀ j, j < MA → cw j < 256) (hNW : NW ≤ 8) (hcc : ∀ k, k < NW → ∀ j, j < 320 → cc k j < 256)
    (PW : ∀ X, Below W0.heap.size W0 X → Calls Tryd.prog 12 #[u5, nv, .slice (some ⟨pg, 0, none⟩) c.n pk] X fun e w' => ∃ r, e = .returned (.tuple #[r, .int .i64 (EA : Int)]) ∧ w'.ownsRow X.heap.size 5 1 r MA (bytesL MA cw) ∧ Below X.heap.size X w')
    (PK : ∀ (X : World) (v : Value), Below W0.heap.size W0 X → SliceZ X v MA cw → Calls Tryd.prog 14 #[u5, v] X fun e w' => ∃ lv cv, e = .returned (.tuple #[lv, .int .i64 (EW : Int)]) ∧ Way w' X.heap.size lv NW cv wr_ cc ∧ Below X.heap.size X w')
    (h : ∀ (a : Act) (W : World) (aa ba la ma : Option Addr) (ac bc lc mc : Nat) (cl cm : Nat → Value) (b1 b2 b3 b4 : Nat), RA c a → LQ W0 W MA NW cw wr_ cc (.slice aa MA ac) (.slice ba MA bc) (.slice la NW lc) (.slice ma NW mc) cl cm b1 b2 b3 b4 → a.eval (.tmp 5) = u5 → a.eval (.tmp 6) = u6 → a.eval (.tmp 10) = nv → a.eval (.tmp 11) = .slice (some ⟨pg, 0, none⟩) (c.n + 2) pk → a.eval (.tmp 12) = .slice aa MA ac → a.eval (.tmp 14) = .slice ba MA bc → a.eval (.tmp 17) = .slice la NW lc → a.eval (.tmp 19) = .slice ma NW mc → (fromR 29 (Tryd.f7.body.getD .skip)).wp Tryd.prog (bodyPost Tryd.prog Tryd.f7 fun e w' => e = .returned (.bool true) ∧ Below V.heap.size V w') a W)
    (a : Act) (A : RA c a) (t5 : a.eval (.tmp 5) = u5) (t6 : a.eval (.tmp 6) = u6) (t10 : a.eval (.tmp 10) = nv) (t11 : a.eval (.tmp 11) = .slice (some ⟨pg, 0, none⟩) (c.n + 2) pk) : (fromR 20 (Tryd.f7.body.getD .skip)).wp Tryd.prog (bodyPost Tryd.prog Tryd.f7 fun e w' => e = .returned (.bool true) ∧ Below V.heap.size V w') a W0 := by
  obtain ⟨W, hW⟩ : ∃ W, W = W0 := ⟨_, rfl⟩
  have bel0 : Below W0.heap.size W0 W := by rw [hW]; exact Below.refl _ _
  rw [← hW]
  clear hW
  refine wp_seq ?_
  refine wp_region_sq (σ := Value) 375 [(0, 107), (1, 108), (2, 109), (3, 110), (4, 111), (5, 112), (6, 113), (7, 114), (8, 106), (9, 115), (10, 116), (11, 12), (12, 13)] (fun j_ s X => Below W.heap.size W X ∧ (match j_ with | 0 => True | 1 => True | 2 => True | 3 => True | 4 => True | 5 => True | 6 => True | 7 => True | 8 => X.ownsRow W.heap.size 5 1 s MA (bytesL MA cw) | 9 => X.ownsRow W.heap.size 5 1 s MA (bytesL MA cw) | 10 => X.ownsRow W.heap.size 5 1 s MA (bytesL MA cw) | 11 => X.ownsRow W.heap.size 5 1 s MA (bytesL MA cw) | 12 => X.ownsRow W.heap.size 5 1 s MA (bytesL MA cw) | _ => X.ownsRow W.heap.size 5 1 s MA (bytesL MA cw))) (fun s => fun i_ => match i_ with | 0 => u5 | 1 => nv | 2 => .slice (some ⟨pg, 0, none⟩) (c.n + 2) pk | 3 => .pointer (some ⟨c.J, 2, none⟩) | 4 => .slice c.pa c.n c.pc | 5 => .int .i64 ((c.n : Nat) : Int) | 6 => .slice (some ⟨pg, 0, none⟩) c.n pk | 7 => .tuple #[s, .int .i64 (EA : Int)] | 8 => .tuple #[s, .int .i64 (EA : Int)] | 9 => s | 10 => .int .i64 (EA : Int) | 11 => s | 12 => .int .i64 (EA : Int) | _ => undef) undef A.sz (by kernel_rfl) (by decide) (by decide) ⟨Below.refl _ _, trivial⟩ ?_ ?_
  · intro i_ hi_ s a X hf hv hn hS
    match i_, hi_ with
    | 0, _ => exact stepV rfl rfl (execMvB rfl ((hf 5 (by decide)).trans t5)) ⟨s, ⟨_, rfl, rfl⟩, hS, fun _ _ => rfl⟩
    | 1, _ => exact stepV rfl rfl (execMvB rfl ((hf 10 (by decide)).trans t10)) ⟨s, ⟨_, rfl, rfl⟩, hS, fun _ _ => rfl⟩
    | 2, _ => exact stepV rfl rfl (execMvB rfl ((hf 11 (by decide)).trans t11)) ⟨s, ⟨_, rfl, rfl⟩, hS, fun _ _ => rfl⟩
    | 3, _ => exact stepV rfl rfl (execFC (k := 2) (f := 2) (by simp) rfl ((hf 2 (by decide)).trans A.t2)) ⟨s, ⟨_, rfl, rfl⟩, hS, fun _ _ => rfl⟩
    | 4, _ => exact stepV rfl rfl (execLdL rfl (hv 3 (by omega) _ rfl _ rfl) (hC_at (F.jobW (H0.B.on (bel0.trans (hS.1.mono bel0.size))).bel)).2.2) ⟨s, ⟨_, rfl, rfl⟩, hS, fun _ _ => rfl⟩
    | 5, _ => exact stepV rfl rfl (execLenV (len := c.n) rfl (hv 4 (by omega) _ rfl _ rfl) ⟨_, _, rfl⟩) ⟨s, ⟨_, rfl, rfl⟩, hS, fun _ _ => rfl⟩
    | 6, _ => exact stepV rfl rfl (By8.execSlH rfl (hv 2 (by omega) _ rfl _ rfl) (hv 5 (by omega) _ rfl _ rfl) (sl_h8 pg (c.n + 2) pk c.n (by have := H0.pk_; omega) X)) ⟨s, ⟨_, rfl, rfl⟩, hS, fun _ _ => rfl⟩
    | 7, _ =>
      refine stepC rfl rfl (execCall3 Tryd.func12 (by kernel_rfl) (by kernel_rfl) rfl (hv 0 (by omega) _ rfl _ rfl) (hv 1 (by omega) _ rfl _ rfl) (hv 6 (by omega) _ rfl _ rfl)) (PW X (bel0.trans (hS.1.mono bel0.size))) fun e w' hh => ?_
      obtain ⟨r', e1, own', bw⟩ := hh
      refine ⟨_, e1, r', ⟨_, rfl, rfl⟩, ⟨hS.1.trans (bw.mono hS.1.size), own_base own' hS.1.size⟩, fun i hi => ?_⟩
      match i, hi with
      | 0, _ => rfl
      | 1, _ => rfl
      | 2, _ => rfl
      | 3, _ => rfl
      | 4, _ => rfl
      | 5, _ => rfl
      | 6, _ => rfl
      | n_ + 7, h_ => omega
    | 8, _ => exact stepV rfl rfl (execMvB rfl (hv 7 (by omega) _ rfl _ rfl)) ⟨s, ⟨_, rfl, rfl⟩, hS, fun _ _ => rfl⟩
    | 9, _ => exact stepV rfl rfl (execExtT rfl (hv 8 (by omega) _ rfl _ rfl) rfl) ⟨s, ⟨_, rfl, rfl⟩, hS, fun _ _ => rfl⟩
    | 10, _ => exact stepV rfl rfl (execExtT rfl (hv 8 (by omega) _ rfl _ rfl) rfl) ⟨s, ⟨_, rfl, rfl⟩, hS, fun _ _ => rfl⟩
    | 11, _ => exact stepV rfl rfl (execAsgB rfl (hv 9 (by omega) _ rfl _ rfl)) ⟨s, ⟨_, rfl, rfl⟩, hS, fun _ _ => rfl⟩
    | 12, _ => exact stepV rfl rfl (execAsgB rfl (hv 10 (by omega) _ rfl _ rfl)) ⟨s, ⟨_, rfl, rfl⟩, hS, fun _ _ => rfl⟩
    | k_ + 13, h_ => exact absurd h_ (by simp)
  intro s a X h1 h2 h3 h4 hS
  have hS : Below W.heap.size W X ∧ (X.ownsRow W.heap.size 5 1 s MA (bytesL MA cw)) := hS
  have t5 := (h3 5 (by decide)).trans t5
  have t6 := (h3 6 (by decide)).trans t6
  have t10 := (h3 10 (by decide)).trans t10
  have t11 := (h3 11 (by decide)).trans t11
  have t12 : a.eval (.tmp 12) = s := h4 11 _ rfl _ rfl
  have t13 : a.eval (.tmp 13) = .int .i64 (EA : Int) := h4 12 _ rfl _ rfl
  have A := A.keep h1 h2 h3 (by decide)
  clear h1 h2 h3 h4
  obtain ⟨bX, ownA⟩ := hS
  obtain ⟨aa, ac, rfl⟩ := own_shapeJ ownA
  have ownA := own_base ownA bel0.size
  have hA : ∀ k, (Value.slice aa MA ac).ownBlock = some k → k < X.heap.size := fun k hk => (ownA.lt k hk).2
  have bel0 := bel0.trans (bX.mono bel0.size)
  clear bX
  obtain ⟨b1, hb1⟩ : ∃ b1, b1 = X.heap.size := ⟨_, rfl⟩
  rw [← hb1] at hA
  have le1 : W0.heap.size ≤ b1 := by rw [hb1]; exact bel0.size
  obtain ⟨W, hW⟩ : ∃ W, W = X := ⟨_, rfl⟩
  rw [← hW] at hb1 ownA bel0 ⊢
  clear hW
  refine wp_seq ?_
  refine wp_region_sq (σ := Value) 375 [(0, 118), (1, 119), (2, 120), (3, 121), (4, 122), (5, 123), (6, 124), (7, 125), (8, 117), (9, 126), (10, 127), (11, 14), (12, 15)] (fun j_ s X => Below W.heap.size W X ∧ (match j_ with | 0 => True | 1 => True | 2 => True | 3 => True | 4 => True | 5 => True | 6 => True | 7 => True | 8 => X.ownsRow W.heap.size 5 1 s MA (bytesL MA cw) | 9 => X.ownsRow W.heap.size 5 1 s MA (bytesL MA cw) | 10 => X.ownsRow W.heap.size 5 1 s MA (bytesL MA cw) | 11 => X.ownsRow W.heap.size 5 1 s MA (bytesL MA cw) | 12 => X.ownsRow W.heap.size 5 1 s MA (bytesL MA cw) | _ => X.ownsRow W.heap.size 5 1 s MA (bytesL MA cw))) (fun s => fun i_ => match i_ with | 0 => u5 | 1 => nv | 2 => .slice (some ⟨pg, 0, none⟩) (c.n + 2) pk | 3 => .pointer (some ⟨c.J, 2, none⟩) | 4 => .slice c.pa c.n c.pc | 5 => .int .i64 ((c.n : Nat) : Int) | 6 => .slice (some ⟨pg, 0, none⟩) c.n pk | 7 => .tuple #[s, .int .i64 (EA : Int)] | 8 => .tuple #[s, .int .i64 (EA : Int)] | 9 => s | 10 => .int .i64 (EA : Int) | 11 => s | 12 => .int .i64 (EA : Int) | _ => undef) undef A.sz (by kernel_rfl) (by decide) (by decide) ⟨Below.refl _ _, trivial⟩ ?_ ?_
  · intro i_ hi_ s a X hf hv hn hS
    match i_, hi_ with
    | 0, _ => exact stepV rfl rfl (execMvB rfl ((hf 5 (by decide)).trans t5)) ⟨s, ⟨_, rfl, rfl⟩, hS, fun _ _ => rfl⟩
    | 1, _ => exact stepV rfl rfl (execMvB rfl ((hf 10 (by decide)).trans t10)) ⟨s, ⟨_, rfl, rfl⟩, hS, fun _ _ => rfl⟩
    | 2, _ => exact stepV rfl rfl (execMvB rfl ((hf 11 (by decide)).trans t11)) ⟨s, ⟨_, rfl, rfl⟩, hS, fun _ _ => rfl⟩
    | 3, _ => exact stepV rfl rfl (execFC (k := 2) (f := 2) (by simp) rfl ((hf 2 (by decide)).trans A.t2)) ⟨s, ⟨_, rfl, rfl⟩, hS, fun _ _ => rfl⟩
    | 4, _ => exact stepV rfl rfl (execLdL rfl (hv 3 (by omega) _ rfl _ rfl) (hC_at (F.jobW (H0.B.on (bel0.trans (hS.1.mono bel0.size))).bel)).2.2) ⟨s, ⟨_, rfl, rfl⟩, hS, fun _ _ => rfl⟩
    | 5, _ => exact stepV rfl rfl (execLenV (len := c.n) rfl (hv 4 (by omega) _ rfl _ rfl) ⟨_, _, rfl⟩) ⟨s, ⟨_, rfl, rfl⟩, hS, fun _ _ => rfl⟩
    | 6, _ => exact stepV rfl rfl (By8.execSlH rfl (hv 2 (by omega) _ rfl _ rfl) (hv 5 (by omega) _ rfl _ rfl) (sl_h8 pg (c.n + 2) pk c.n (by have := H0.pk_; omega) X)) ⟨s, ⟨_, rfl, rfl⟩, hS, fun _ _ => rfl⟩
    | 7, _ =>
      refine stepC rfl rfl (execCall3 Tryd.func12 (by kernel_rfl) (by kernel_rfl) rfl (hv 0 (by omega) _ rfl _ rfl) (hv 1 (by omega) _ rfl _ rfl) (hv 6 (by omega) _ rfl _ rfl)) (PW X (bel0.trans (hS.1.mono bel0.size))) fun e w' hh => ?_
      obtain ⟨r', e1, own', bw⟩ := hh
      refine ⟨_, e1, r', ⟨_, rfl, rfl⟩, ⟨hS.1.trans (bw.mono hS.1.size), own_base own' hS.1.size⟩, fun i hi => ?_⟩
      match i, hi with
      | 0, _ => rfl
      | 1, _ => rfl
      | 2, _ => rfl
      | 3, _ => rfl
      | 4, _ => rfl
      | 5, _ => rfl
      | 6, _ => rfl
      | n_ + 7, h_ => omega
    | 8, _ => exact stepV rfl rfl (execMvB rfl (hv 7 (by omega) _ rfl _ rfl)) ⟨s, ⟨_, rfl, rfl⟩, hS, fun _ _ => rfl⟩
    | 9, _ => exact stepV rfl rfl (execExtT rfl (hv 8 (by omega) _ rfl _ rfl) rfl) ⟨s, ⟨_, rfl, rfl⟩, hS, fun _ _ => rfl⟩
    | 10, _ => exact stepV rfl rfl (execExtT rfl (hv 8 (by omega) _ rfl _ rfl) rfl) ⟨s, ⟨_, rfl, rfl⟩, hS, fun _ _ => rfl⟩
    | 11, _ => exact stepV rfl rfl (execAsgB rfl (hv 9 (by omega) _ rfl _ rfl)) ⟨s, ⟨_, rfl, rfl⟩, hS, fun _ _ => rfl⟩
    | 12, _ => exact stepV rfl rfl (execAsgB rfl (hv 10 (by omega) _ rfl _ rfl)) ⟨s, ⟨_, rfl, rfl⟩, hS, fun _ _ => rfl⟩
    | k_ + 13, h_ => exact absurd h_ (by simp)
  intro s a X h1 h2 h3 h4 hS
  have hS : Below W.heap.size W X ∧ (X.ownsRow W.heap.size 5 1 s MA (bytesL MA cw)) := hS
  have t5 := (h3 5 (by decide)).trans t5
  have t6 := (h3 6 (by decide)).trans t6
  have t10 := (h3 10 (by decide)).trans t10
  have t11 := (h3 11 (by decide)).trans t11
  have t12 := (h3 12 (by decide)).trans t12
  have t13 := (h3 13 (by decide)).trans t13
  have t14 : a.eval (.tmp 14) = s := h4 11 _ rfl _ rfl
  have t15 : a.eval (.tmp 15) = .int .i64 (EA : Int) := h4 12 _ rfl _ rfl
  have A := A.keep h1 h2 h3 (by decide)
  clear h1 h2 h3 h4
  obtain ⟨bX, ownB⟩ := hS
  obtain ⟨ba, bc, rfl⟩ := own_shapeJ ownB
  rw [← hb1] at ownB
  have ownA := ownsRow_below ownA bX
  have bel0 := bel0.trans (bX.mono bel0.size)
  have le2 : b1 ≤ X.heap.size := by rw [hb1]; exact bX.size
  have hB : ∀ k, (Value.slice ba MA bc).ownBlock = some k → k < X.heap.size := fun k hk => (ownB.lt k hk).2
  have SA := own_slice ownA hcw
  have SB := own_slice ownB hcw
  have nA := (own_sliceZ ownA hcw).nil
  clear bX hb1
  obtain ⟨W, hW⟩ : ∃ W, W = X := ⟨_, rfl⟩
  rw [← hW] at ownA ownB bel0 le2 hB SA SB ⊢
  clear hW
  refine wp_seq ?_
  refine wp_seq ?_
  refine wp_region_sqK 375 [(0, 128), (1, 129), (2, 130), (3, 131), (4, 132), (5, 133), (6, 134), (7, 135), (8, 136), (9, 137)] (fun i_ => match i_ with | 0 => .int .i64 (EA : Int) | 1 => .int .i64 (EA : Int) | 2 => .bool false | 3 => .bool false | 4 => .slice aa MA ac | 5 => .string (strN cw MA) | 6 => .slice ba MA bc | 7 => .string (strN cw MA) | 8 => .bool false | 9 => .bool false | _ => undef) A.sz (by kernel_rfl) (by decide) (by decide) ?_ ?_
  · intro i_ hi_ a hf hv hn
    match i_, hi_ with
    | 0, _ => exact stepV rfl rfl (execMvB rfl ((hf 13 (by decide)).trans t13)) ⟨⟨_, rfl, rfl⟩, rfl⟩
    | 1, _ => exact stepV rfl rfl (execMvB rfl ((hf 15 (by decide)).trans t15)) ⟨⟨_, rfl, rfl⟩, rfl⟩
    | 2, _ => exact stepV rfl rfl (execNeqE8 rfl (hv 0 (by omega) _ rfl _ rfl) (hv 1 (by omega) _ rfl _ rfl)) ⟨⟨_, rfl, rfl⟩, rfl⟩
    | 3, _ => exact stepV rfl rfl (execMvB rfl (hv 2 (by omega) _ rfl _ rfl)) ⟨⟨_, rfl, rfl⟩, rfl⟩
    | 4, _ => exact stepV rfl (wantedOf rfl (yieldedAt rfl rfl (show a.eval (.tmp 131) = .bool false from (hv 3 (by omega) _ rfl _ rfl)))) (execMvB rfl ((hf 12 (by decide)).trans t12)) ⟨⟨_, rfl, rfl⟩, rfl⟩
    | 5, _ => exact stepV rfl (wantedOf rfl (yieldedAt rfl rfl (show a.eval (.tmp 131) = .bool false from (hv 3 (by omega) _ rfl _ rfl)))) (By8.execStr rfl (hv 4 (by omega) _ rfl _ rfl) SA) ⟨⟨_, rfl, rfl⟩, rfl⟩
    | 6, _ => exact stepV rfl (wantedOf rfl (yieldedAt rfl rfl (show a.eval (.tmp 131) = .bool false from (hv 3 (by omega) _ rfl _ rfl)))) (execMvB rfl ((hf 14 (by decide)).trans t14)) ⟨⟨_, rfl, rfl⟩, rfl⟩
    | 7, _ => exact stepV rfl (wantedOf rfl (yieldedAt rfl rfl (show a.eval (.tmp 131) = .bool false from (hv 3 (by omega) _ rfl _ rfl)))) (By8.execStr rfl (hv 6 (by omega) _ rfl _ rfl) SB) ⟨⟨_, rfl, rfl⟩, rfl⟩
    | 8, _ => exact stepV rfl (wantedOf rfl (yieldedAt rfl rfl (show a.eval (.tmp 131) = .bool false from (hv 3 (by omega) _ rfl _ rfl)))) (By8.execNeqS rfl (hv 5 (by omega) _ rfl _ rfl) (hv 7 (by omega) _ rfl _ rfl)) ⟨⟨_, rfl, rfl⟩, rfl⟩
    | 9, _ => exact stepV rfl rfl (execPick (b := false) rfl (hv 3 (by omega) _ rfl _ rfl) (hv 8 (by omega) _ rfl _ rfl)) ⟨⟨_, rfl, rfl⟩, rfl⟩
    | k_ + 10, h_ => exact absurd h_ (by simp)
  intro a h1 h2 h3 h4
  have t5 := (h3 5 (by decide)).trans t5
  have t6 := (h3 6 (by decide)).trans t6
  have t10 := (h3 10 (by decide)).trans t10
  have t11 := (h3 11 (by decide)).trans t11
  have t12 := (h3 12 (by decide)).trans t12
  have t13 := (h3 13 (by decide)).trans t13
  have t14 := (h3 14 (by decide)).trans t14
  have t15 := (h3 15 (by decide)).trans t15
  have t137 : a.eval (.tmp 137) = .bool false := h4 9 _ rfl _ rfl
  have A := A.keep h1 h2 h3 (by decide)
  clear h1 h2 h3 h4
  refine wp_cond_false t137 ?_
  refine wp_skip ?_
  clear t137
  refine wp_seq ?_
  refine wp_region_sq (σ := Nat × Value) 375 [(0, 138), (1, 139), (2, 140), (3, 16)] (fun j_ s X => Below W.heap.size W X ∧ (match j_ with | 0 => True | 1 => X.ownsRow W.heap.size 5 1 (.slice (some ⟨s.1, 0, none⟩) 0 0) 0 (bytesL 0 cw) | 2 => X.ownsRow W.heap.size 5 1 (.slice (some ⟨s.1, 0, none⟩) 0 0) 0 (bytesL 0 cw) | 3 => X.ownsRow W.heap.size 5 1 s.2 MA (bytesL MA cw) | _ => X.ownsRow W.heap.size 5 1 s.2 MA (bytesL MA cw))) (fun s => fun i_ => match i_ with | 0 => .slice (some ⟨s.1, 0, none⟩) 0 0 | 1 => .slice aa MA ac | 2 => s.2 | 3 => s.2 | _ => undef) (0, undef) A.sz (by kernel_rfl) (by decide) (by decide) ⟨Below.refl _ _, trivial⟩ ?_ ?_
  · intro i_ hi_ s a X hf hv hn hS
    match i_, hi_ with
    | 0, _ =>
      exact stepV rfl rfl (execBs0 rfl) ⟨(X.heap.size, s.2), ⟨_, rfl, rfl⟩, ⟨hS.1.trans ((belNew X _).mono hS.1.size), own_base (own_none X cw) hS.1.size⟩, fun i hi => by omega⟩
    | 1, _ => exact stepV rfl rfl (execMvB rfl ((hf 12 (by decide)).trans t12)) ⟨s, ⟨_, rfl, rfl⟩, hS, fun _ _ => rfl⟩
    | 2, _ =>
      refine stepAppN (p := cw) rfl rfl rfl (hv 0 (by omega) _ rfl _ rfl) (hv 1 (by omega) _ rfl _ rfl) hS.2 (sliceN_cg (SA.on hS.1) fun j hj => by rw [Nat.zero_add]) nA (by have := hMA; omega) hS.1.size fun v' W' own' gr => ⟨(s.1, v'), ⟨_, rfl, rfl⟩, ⟨hS.1.grown gr hS.1.size (fun k hk => (hS.2.lt k hk).1), by rw [Nat.zero_add] at own'; exact own'⟩, fun i hi => ?_⟩
      match i, hi with
      | 0, _ => rfl
      | 1, _ => rfl
      | n_ + 2, h_ => omega
    | 3, _ => exact stepV rfl rfl (execAsgB rfl (hv 2 (by omega) _ rfl _ rfl)) ⟨s, ⟨_, rfl, rfl⟩, hS, fun _ _ => rfl⟩
    | k_ + 4, h_ => exact absurd h_ (by simp)
  intro s a X h1 h2 h3 h4 hS
  have hS : Below W.heap.size W X ∧ (X.ownsRow W.heap.size 5 1 s.2 MA (bytesL MA cw)) := hS
  have t5 := (h3 5 (by decide)).trans t5
  have t6 := (h3 6 (by decide)).trans t6
  have t10 := (h3 10 (by decide)).trans t10
  have t11 := (h3 11 (by decide)).trans t11
  have t12 := (h3 12 (by decide)).trans t12
  have t13 := (h3 13 (by decide)).trans t13
  have t14 := (h3 14 (by decide)).trans t14
  have t15 := (h3 15 (by decide)).trans t15
  have t16 : a.eval (.tmp 16) = s.2 := h4 3 _ rfl _ rfl
  have A := A.keep h1 h2 h3 (by decide)
  clear h1 h2 h3 h4
  obtain ⟨g24, ow⟩ := s
  have t16 : a.eval (.tmp 16) = ow := t16
  obtain ⟨bX, ownO⟩ := hS
  have ownO : X.ownsRow W.heap.size 5 1 ow MA (bytesL MA cw) := ownO
  obtain ⟨oa, oc, rfl⟩ := own_shapeJ ownO
  have ownA := ownsRow_below ownA bX
  have ownB := ownsRow_below ownB bX
  have SA := SA.on bX
  have ZO := own_sliceZ ownO hcw
  have SO := ZO.sl
  have bel0 := bel0.trans (bX.mono bel0.size)
  obtain ⟨b2, hb2⟩ : ∃ b2, b2 = X.heap.size := ⟨_, rfl⟩
  have le2 : b1 ≤ b2 := by rw [hb2]; exact Nat.le_trans le2 bX.size
  have hB : ∀ k, (Value.slice ba MA bc).ownBlock = some k → k < b2 := fun k hk => by have := hB k hk; have := bX.size; omega
  clear bX ownO nA SB
  obtain ⟨W, hW⟩ : ∃ W, W = X := ⟨_, rfl⟩
  rw [← hW] at hb2 ownA ownB bel0 SA ZO SO ⊢
  clear hW
  refine wp_seq ?_
  refine wp_region_sq (σ := Value × (Nat → Value)) 375 [(0, 142), (1, 143), (2, 144), (3, 141), (4, 145), (5, 146), (6, 17), (7, 18)] (fun j_ s X => Below W.heap.size W X ∧ (match j_ with | 0 => True | 1 => True | 2 => True | 3 => Way X W.heap.size s.1 NW s.2 wr_ cc | 4 => Way X W.heap.size s.1 NW s.2 wr_ cc | 5 => Way X W.heap.size s.1 NW s.2 wr_ cc | 6 => Way X W.heap.size s.1 NW s.2 wr_ cc | 7 => Way X W.heap.size s.1 NW s.2 wr_ cc | _ => Way X W.heap.size s.1 NW s.2 wr_ cc)) (fun s => fun i_ => match i_ with | 0 => u5 | 1 => .slice oa MA oc | 2 => .tuple #[s.1, .int .i64 (EW : Int)] | 3 => .tuple #[s.1, .int .i64 (EW : Int)] | 4 => s.1 | 5 => .int .i64 (EW : Int) | 6 => s.1 | 7 => .int .i64 (EW : Int) | _ => undef) (undef, fun _ => undef) A.sz (by kernel_rfl) (by decide) (by decide) ⟨Below.refl _ _, trivial⟩ ?_ ?_
  · intro i_ hi_ s a X hf hv hn hS
    match i_, hi_ with
    | 0, _ => exact stepV rfl rfl (execMvB rfl ((hf 5 (by decide)).trans t5)) ⟨s, ⟨_, rfl, rfl⟩, hS, fun _ _ => rfl⟩
    | 1, _ => exact stepV rfl rfl (execMvB rfl ((hf 16 (by decide)).trans t16)) ⟨s, ⟨_, rfl, rfl⟩, hS, fun _ _ => rfl⟩
    | 2, _ =>
      refine stepC rfl rfl (execCall2 Tryd.func14 (by kernel_rfl) (by kernel_rfl) rfl (hv 0 (by omega) _ rfl _ rfl) (hv 1 (by omega) _ rfl _ rfl)) (PK X (.slice oa MA oc) (bel0.trans (hS.1.mono bel0.size)) (ZO.on hS.1)) fun e w' hh => ?_
      obtain ⟨lv, cv, e1, hw, bw⟩ := hh
      refine ⟨_, e1, (lv, cv), ⟨_, rfl, rfl⟩, ⟨hS.1.trans (bw.mono hS.1.size), hw.base hS.1.size⟩, fun i hi => ?_⟩
      match i, hi with
      | 0, _ => rfl
      | 1, _ => rfl
      | n_ + 2, h_ => omega
    | 3, _ => exact stepV rfl rfl (execMvB rfl (hv 2 (by omega) _ rfl _ rfl)) ⟨s, ⟨_, rfl, rfl⟩, hS, fun _ _ => rfl⟩
    | 4, _ => exact stepV rfl rfl (execExtT rfl (hv 3 (by omega) _ rfl _ rfl) rfl) ⟨s, ⟨_, rfl, rfl⟩, hS, fun _ _ => rfl⟩
    | 5, _ => exact stepV rfl rfl (execExtT rfl (hv 3 (by omega) _ rfl _ rfl) rfl) ⟨s, ⟨_, rfl, rfl⟩, hS, fun _ _ => rfl⟩
    | 6, _ => exact stepV rfl rfl (execAsgB rfl (hv 4 (by omega) _ rfl _ rfl)) ⟨s, ⟨_, rfl, rfl⟩, hS, fun _ _ => rfl⟩
    | 7, _ => exact stepV rfl rfl (execAsgB rfl (hv 5 (by omega) _ rfl _ rfl)) ⟨s, ⟨_, rfl, rfl⟩, hS, fun _ _ => rfl⟩
    | k_ + 8, h_ => exact absurd h_ (by simp)
  intro s a X h1 h2 h3 h4 hS
  have hS : Below W.heap.size W X ∧ (Way X W.heap.size s.1 NW s.2 wr_ cc) := hS
  have t5 := (h3 5 (by decide)).trans t5
  have t6 := (h3 6 (by decide)).trans t6
  have t10 := (h3 10 (by decide)).trans t10
  have t11 := (h3 11 (by decide)).trans t11
  have t12 := (h3 12 (by decide)).trans t12
  have t13 := (h3 13 (by decide)).trans t13
  have t14 := (h3 14 (by decide)).trans t14
  have t15 := (h3 15 (by decide)).trans t15
  have t16 := (h3 16 (by decide)).trans t16
  have t17 : a.eval (.tmp 17) = s.1 := h4 6 _ rfl _ rfl
  have t18 : a.eval (.tmp 18) = .int .i64 (EW : Int) := h4 7 _ rfl _ rfl
  have A := A.keep h1 h2 h3 (by decide)
  clear h1 h2 h3 h4
  obtain ⟨lv, cl⟩ := s
  obtain ⟨bX, wl⟩ := hS
  have wl : Way X W.heap.size lv NW cl wr_ cc := wl
  rw [← hb2] at wl
  obtain ⟨la, lc, e, _⟩ := id wl.row
  have t17 : a.eval (.tmp 17) = lv := t17
  subst e
  have ownA := ownsRow_below ownA bX
  have ownB := ownsRow_below ownB bX
  have SA := SA.on bX
  have ZO := ZO.on bX
  have SO := SO.on bX
  have bel0 := bel0.trans (bX.mono bel0.size)
  obtain ⟨b3, hb3⟩ : ∃ b3, b3 = X.heap.size := ⟨_, rfl⟩
  have le3 : b2 ≤ b3 := by rw [hb2, hb3]; exact bX.size
  have hL : ∀ t, t < NW → ∀ k, (cl t).ownBlock = some k → k < b3 := fun t ht k hk => by rw [hb3]; exact ((wl.own t ht).lt k hk).2
  clear bX hb2
  obtain ⟨W, hW⟩ : ∃ W, W = X := ⟨_, rfl⟩
  rw [← hW] at hb3 ownA ownB bel0 SA ZO SO wl ⊢
  clear hW
  refine wp_seq ?_
  refine wp_region_sq (σ := Value × (Nat → Value)) 375 [(0, 148), (1, 149), (2, 150), (3, 147), (4, 151), (5, 152), (6, 19), (7, 20)] (fun j_ s X => Below W.heap.size W X ∧ (match j_ with | 0 => True | 1 => True | 2 => True | 3 => Way X W.heap.size s.1 NW s.2 wr_ cc | 4 => Way X W.heap.size s.1 NW s.2 wr_ cc | 5 => Way X W.heap.size s.1 NW s.2 wr_ cc | 6 => Way X W.heap.size s.1 NW s.2 wr_ cc | 7 => Way X W.heap.size s.1 NW s.2 wr_ cc | _ => Way X W.heap.size s.1 NW s.2 wr_ cc)) (fun s => fun i_ => match i_ with | 0 => u5 | 1 => .slice oa MA oc | 2 => .tuple #[s.1, .int .i64 (EW : Int)] | 3 => .tuple #[s.1, .int .i64 (EW : Int)] | 4 => s.1 | 5 => .int .i64 (EW : Int) | 6 => s.1 | 7 => .int .i64 (EW : Int) | _ => undef) (undef, fun _ => undef) A.sz (by kernel_rfl) (by decide) (by decide) ⟨Below.refl _ _, trivial⟩ ?_ ?_
  · intro i_ hi_ s a X hf hv hn hS
    match i_, hi_ with
    | 0, _ => exact stepV rfl rfl (execMvB rfl ((hf 5 (by decide)).trans t5)) ⟨s, ⟨_, rfl, rfl⟩, hS, fun _ _ => rfl⟩
    | 1, _ => exact stepV rfl rfl (execMvB rfl ((hf 16 (by decide)).trans t16)) ⟨s, ⟨_, rfl, rfl⟩, hS, fun _ _ => rfl⟩
    | 2, _ =>
      refine stepC rfl rfl (execCall2 Tryd.func14 (by kernel_rfl) (by kernel_rfl) rfl (hv 0 (by omega) _ rfl _ rfl) (hv 1 (by omega) _ rfl _ rfl)) (PK X (.slice oa MA oc) (bel0.trans (hS.1.mono bel0.size)) (ZO.on hS.1)) fun e w' hh => ?_
      obtain ⟨lv, cv, e1, hw, bw⟩ := hh
      refine ⟨_, e1, (lv, cv), ⟨_, rfl, rfl⟩, ⟨hS.1.trans (bw.mono hS.1.size), hw.base hS.1.size⟩, fun i hi => ?_⟩
      match i, hi with
      | 0, _ => rfl
      | 1, _ => rfl
      | n_ + 2, h_ => omega
    | 3, _ => exact stepV rfl rfl (execMvB rfl (hv 2 (by omega) _ rfl _ rfl)) ⟨s, ⟨_, rfl, rfl⟩, hS, fun _ _ => rfl⟩
    | 4, _ => exact stepV rfl rfl (execExtT rfl (hv 3 (by omega) _ rfl _ rfl) rfl) ⟨s, ⟨_, rfl, rfl⟩, hS, fun _ _ => rfl⟩
    | 5, _ => exact stepV rfl rfl (execExtT rfl (hv 3 (by omega) _ rfl _ rfl) rfl) ⟨s, ⟨_, rfl, rfl⟩, hS, fun _ _ => rfl⟩
    | 6, _ => exact stepV rfl rfl (execAsgB rfl (hv 4 (by omega) _ rfl _ rfl)) ⟨s, ⟨_, rfl, rfl⟩, hS, fun _ _ => rfl⟩
    | 7, _ => exact stepV rfl rfl (execAsgB rfl (hv 5 (by omega) _ rfl _ rfl)) ⟨s, ⟨_, rfl, rfl⟩, hS, fun _ _ => rfl⟩
    | k_ + 8, h_ => exact absurd h_ (by simp)
  intro s a X h1 h2 h3 h4 hS
  have hS : Below W.heap.size W X ∧ (Way X W.heap.size s.1 NW s.2 wr_ cc) := hS
  have t5 := (h3 5 (by decide)).trans t5
  have t6 := (h3 6 (by decide)).trans t6
  have t10 := (h3 10 (by decide)).trans t10
  have t11 := (h3 11 (by decide)).trans t11
  have t12 := (h3 12 (by decide)).trans t12
  have t13 := (h3 13 (by decide)).trans t13
  have t14 := (h3 14 (by decide)).trans t14
  have t15 := (h3 15 (by decide)).trans t15
  have t16 := (h3 16 (by decide)).trans t16
  have t17 := (h3 17 (by decide)).trans t17
  have t18 := (h3 18 (by decide)).trans t18
  have t19 : a.eval (.tmp 19) = s.1 := h4 6 _ rfl _ rfl
  have t20 : a.eval (.tmp 20) = .int .i64 (EW : Int) := h4 7 _ rfl _ rfl
  have A := A.keep h1 h2 h3 (by decide)
  clear h1 h2 h3 h4
  obtain ⟨mv, cm⟩ := s
  obtain ⟨bX, wm⟩ := hS
  have wm : Way X W.heap.size mv NW cm wr_ cc := wm
  rw [← hb3] at wm
  obtain ⟨ma, mc, e, _⟩ := id wm.row
  have t19 : a.eval (.tmp 19) = mv := t19
  subst e
  have ownA := ownsRow_below ownA bX
  have ownB := ownsRow_below ownB bX
  have wl := wl.on bX
  have SA := SA.on bX
  have SO := SO.on bX
  have bel0 := bel0.trans (bX.mono bel0.size)
  obtain ⟨b4, hb4⟩ : ∃ b4, b4 = X.heap.size := ⟨_, rfl⟩
  have le4 : b3 ≤ b4 := by rw [hb3, hb4]; exact bX.size
  have hM_ : ∀ t, t < NW → ∀ k, (cm t).ownBlock = some k → k < b4 := fun t ht k hk => by rw [hb4]; exact ((wm.own t ht).lt k hk).2
  clear bX hb3 ZO
  obtain ⟨W, hW⟩ : ∃ W, W = X := ⟨_, rfl⟩
  rw [← hW] at hb4 ownA ownB bel0 SA SO wl wm ⊢
  clear hW
  have RL := wl.read hcc
  have RM_ := wm.read hcc
  refine wp_seq ?_
  refine wp_seq ?_
  refine wp_region_sq (σ := Unit) 375 [(0, 153), (1, 154), (2, 155), (3, 156), (4, 157), (5, 158), (6, 159), (7, 160), (8, 161), (9, 162), (10, 163), (11, 164), (12, 165), (13, 166), (14, 167), (15, 168)] (fun j_ s X => Below W.heap.size W X ∧ (match j_ with | 0 => True | 1 => True | 2 => True | 3 => True | 4 => True | 5 => True | 6 => True | 7 => True | 8 => True | 9 => True | 10 => True | 11 => True | 12 => True | 13 => True | 14 => True | 15 => True | _ => True)) (fun s => fun i_ => match i_ with | 0 => .int .i64 (EW : Int) | 1 => .int .i64 (EW : Int) | 2 => .bool false | 3 => .bool false | 4 => .slice la NW lc | 5 => .slice ma NW mc | 6 => .bool true | 7 => .bool false | 8 => .bool false | 9 => .bool false | 10 => .slice oa MA oc | 11 => .string (strN cw MA) | 12 => .slice aa MA ac | 13 => .string (strN cw MA) | 14 => .bool false | 15 => .bool false | _ => undef) () A.sz (by kernel_rfl) (by decide) (by decide) ⟨Below.refl _ _, trivial⟩ ?_ ?_
  · intro i_ hi_ s a X hf hv hn hS
    match i_, hi_ with
    | 0, _ => exact stepV rfl rfl (execMvB rfl ((hf 18 (by decide)).trans t18)) ⟨s, ⟨_, rfl, rfl⟩, hS, fun _ _ => rfl⟩
    | 1, _ => exact stepV rfl rfl (execMvB rfl ((hf 20 (by decide)).trans t20)) ⟨s, ⟨_, rfl, rfl⟩, hS, fun _ _ => rfl⟩
    | 2, _ => exact stepV rfl rfl (execNeqE8 rfl (hv 0 (by omega) _ rfl _ rfl) (hv 1 (by omega) _ rfl _ rfl)) ⟨s, ⟨_, rfl, rfl⟩, hS, fun _ _ => rfl⟩
    | 3, _ => exact stepV rfl rfl (execMvB rfl (hv 2 (by omega) _ rfl _ rfl)) ⟨s, ⟨_, rfl, rfl⟩, hS, fun _ _ => rfl⟩
    | 4, _ => exact stepV rfl (wantedOf rfl (yieldedAt rfl rfl (show a.eval (.tmp 156) = .bool false from (hv 3 (by omega) _ rfl _ rfl)))) (execMvB rfl ((hf 17 (by decide)).trans t17)) ⟨s, ⟨_, rfl, rfl⟩, hS, fun _ _ => rfl⟩
    | 5, _ => exact stepV rfl (wantedOf rfl (yieldedAt rfl rfl (show a.eval (.tmp 156) = .bool false from (hv 3 (by omega) _ rfl _ rfl)))) (execMvB rfl ((hf 19 (by decide)).trans t19)) ⟨s, ⟨_, rfl, rfl⟩, hS, fun _ _ => rfl⟩
    | 6, _ =>
      refine stepC rfl (wantedOf rfl (yieldedAt rfl rfl (show a.eval (.tmp 156) = .bool false from (hv 3 (by omega) _ rfl _ rfl)))) (execCall2 Tryd.func18 (by kernel_rfl) (by kernel_rfl) rfl (hv 4 (by omega) _ rfl _ rfl) (hv 5 (by omega) _ rfl _ rfl)) (sameAll_true _ _ NW wr_ cc X (RL.on hS.1) (RM_.on hS.1) hNW) fun e w' hh => ?_
      obtain ⟨e1, bw⟩ := hh
      refine ⟨_, e1, s, ⟨_, rfl, rfl⟩, ⟨hS.1.trans (bw.mono hS.1.size), trivial⟩, fun _ _ => rfl⟩
    | 7, _ => exact stepV rfl (wantedOf rfl (yieldedAt rfl rfl (show a.eval (.tmp 156) = .bool false from (hv 3 (by omega) _ rfl _ rfl)))) (execNot8 rfl (hv 6 (by omega) _ rfl _ rfl)) ⟨s, ⟨_, rfl, rfl⟩, hS, fun _ _ => rfl⟩
    | 8, _ => exact stepV rfl rfl (execPick (b := false) rfl (hv 3 (by omega) _ rfl _ rfl) (hv 7 (by omega) _ rfl _ rfl)) ⟨s, ⟨_, rfl, rfl⟩, hS, fun _ _ => rfl⟩
    | 9, _ => exact stepV rfl rfl (execMvB rfl (hv 8 (by omega) _ rfl _ rfl)) ⟨s, ⟨_, rfl, rfl⟩, hS, fun _ _ => rfl⟩
    | 10, _ => exact stepV rfl (wantedOf rfl (yieldedAt rfl rfl (show a.eval (.tmp 162) = .bool false from (hv 9 (by omega) _ rfl _ rfl)))) (execMvB rfl ((hf 16 (by decide)).trans t16)) ⟨s, ⟨_, rfl, rfl⟩, hS, fun _ _ => rfl⟩
    | 11, _ => exact stepV rfl (wantedOf rfl (yieldedAt rfl rfl (show a.eval (.tmp 162) = .bool false from (hv 9 (by omega) _ rfl _ rfl)))) (By8.execStr rfl (hv 10 (by omega) _ rfl _ rfl) (SO.on hS.1)) ⟨s, ⟨_, rfl, rfl⟩, hS, fun _ _ => rfl⟩
    | 12, _ => exact stepV rfl (wantedOf rfl (yieldedAt rfl rfl (show a.eval (.tmp 162) = .bool false from (hv 9 (by omega) _ rfl _ rfl)))) (execMvB rfl ((hf 12 (by decide)).trans t12)) ⟨s, ⟨_, rfl, rfl⟩, hS, fun _ _ => rfl⟩
    | 13, _ => exact stepV rfl (wantedOf rfl (yieldedAt rfl rfl (show a.eval (.tmp 162) = .bool false from (hv 9 (by omega) _ rfl _ rfl)))) (By8.execStr rfl (hv 12 (by omega) _ rfl _ rfl) (SA.on hS.1)) ⟨s, ⟨_, rfl, rfl⟩, hS, fun _ _ => rfl⟩
    | 14, _ => exact stepV rfl (wantedOf rfl (yieldedAt rfl rfl (show a.eval (.tmp 162) = .bool false from (hv 9 (by omega) _ rfl _ rfl)))) (By8.execNeqS rfl (hv 11 (by omega) _ rfl _ rfl) (hv 13 (by omega) _ rfl _ rfl)) ⟨s, ⟨_, rfl, rfl⟩, hS, fun _ _ => rfl⟩
    | 15, _ => exact stepV rfl rfl (execPick (b := false) rfl (hv 9 (by omega) _ rfl _ rfl) (hv 14 (by omega) _ rfl _ rfl)) ⟨s, ⟨_, rfl, rfl⟩, hS, fun _ _ => rfl⟩
    | k_ + 16, h_ => exact absurd h_ (by simp)
  intro s a X h1 h2 h3 h4 hS
  have hS : Below W.heap.size W X := hS.1
  have t5 := (h3 5 (by decide)).trans t5
  have t6 := (h3 6 (by decide)).trans t6
  have t10 := (h3 10 (by decide)).trans t10
  have t11 := (h3 11 (by decide)).trans t11
  have t12 := (h3 12 (by decide)).trans t12
  have t13 := (h3 13 (by decide)).trans t13
  have t14 := (h3 14 (by decide)).trans t14
  have t15 := (h3 15 (by decide)).trans t15
  have t16 := (h3 16 (by decide)).trans t16
  have t17 := (h3 17 (by decide)).trans t17
  have t18 := (h3 18 (by decide)).trans t18
  have t19 := (h3 19 (by decide)).trans t19
  have t20 := (h3 20 (by decide)).trans t20
  have t168 : a.eval (.tmp 168) = .bool false := h4 15 _ rfl _ rfl
  have A := A.keep h1 h2 h3 (by decide)
  clear h1 h2 h3 h4
  have L : LQ W0 X MA NW cw wr_ cc (.slice aa MA ac) (.slice ba MA bc) (.slice la NW lc) (.slice ma NW mc) cl cm b1 b2 b3 b4 := ⟨ownsRow_below ownA hS, ownsRow_below ownB hS, wl.on hS, wm.on hS, hA, hB, hL, hM_, ⟨le1, le2, le3, le4, by rw [hb4]; exact hS.size⟩, bel0.trans (hS.mono bel0.size)⟩
  refine wp_cond_false t168 ?_
  refine wp_skip ?_
  exact h a X aa ba la ma ac bc lc mc cl cm b1 b2 b3 b4 A L t5 t6 t10 t11 t12 t14 t17 t19
end Go.Proofs.YtcffmmeafnapiaaDoor.Rou
