import Derived.Test.YtcffmmeafnapiaaDoorB8h
namespace Go.Proofs.YtcffmmeafnapiaaDoor.Rou
open Go.RowKit Gf8 Aes By8 Cel Oni
/- RouteKeeps: what was handed over is looked at again. Written by tools/mkB8i.py. -/

theorem RB.room_at {c : RX} {V1 W : World} {x : Nat → Value} {u5 u6 : Value} (h : RB c V1 W c.h x u5 u6) (hb : ∀ i, i < c.h → ∀ j, j < c.lk i → c.key i j < 256) {i : Nat} (hi : i < c.h) :
    ∃ ug uc rg rc, u6 = .slice (some ⟨ug, 0, none⟩) c.h uc ∧ c.lk i + 40 ≤ rc ∧ (∀ X, Below W.heap.size W X → X.cell? ⟨ug, 0 + i, none⟩ = some (.slice (some ⟨rg, 0, none⟩) (c.lk i + 40) rc) ∧ SliceN X (.slice (some ⟨rg, 0, none⟩) (c.lk i) rc) (c.lk i) (c.key i)) ∧ ∀ X, Below W.heap.size W X → ∀ k, c.lk i ≤ k → k < c.lk i + 40 → X.cell? ⟨rg, k, none⟩ = some (.int .u8 165) := by
  obtain ⟨rg, rc, ex, _, hcap, _⟩ := own_cells (h.rows i hi) (by omega)
  rcases h.rooms.2 with ⟨_, e0⟩ | ⟨g, cap, cur, e, _, hg, h1, h2, h3, h4⟩
  · omega
  · have own := h.rows i hi
    rw [ex] at own
    have cell : W.cell? ⟨g, 0 + i, none⟩ = some (.slice (some ⟨rg, 0, none⟩) (c.lk i + 40) rc) := by
      rw [cell_of_row _ _ _ _ _ _ hg, Nat.zero_add, ← Array.getElem?_toList, ← ex]
      have := lL_get x c.h i hi
      rw [← h4, List.getElem?_take, if_pos (by omega)] at this
      exact this
    have lt := (Array.getElem?_eq_some_iff.1 hg).1
    refine ⟨g, cap, rg, rc, e, hcap, fun X hX => ⟨by rw [cell_below hX lt]; exact cell, ?_⟩, fun X hX k hk1 hk2 => ?_⟩
    · have s := own_slice (ownsRow_below own hX) (fun j hj => by
        unfold rmF
        by_cases q : j < c.lk i
        · rw [if_pos q]; exact hb i hi j q
        · rw [if_neg q]; omega)
      exact sliceN_cg (takeN s (by omega)) fun j hj => if_pos hj
    · rw [own_at8 (ownsRow_below own hX) hk2]
      unfold rmF
      rw [if_neg (by omega)]
      rfl
set_option maxRecDepth 100000 in
set_option maxHeartbeats 4000000 in
theorem keeps63 (c : RX) (V V1 : World) (F : RF c V V1) (Wb : World) (x : Nat → Value) (u5 u6 nv fv : Value) (pg pk : Nat) (H : RW c V1 Wb x u5 u6 nv pg pk) (cw : Nat → Nat) (EA MA : Nat) (hcw : ∀ j, j < MA → cw j < 256) (SF : SliceN Wb fv MA cw)
    (PW : ∀ X, Below Wb.heap.size Wb X → Calls Tryd.prog 12 #[c.kv, c.nv, c.pv] X fun e w' => ∃ r, e = .returned (.tuple #[r, .int .i64 (EA : Int)]) ∧ w'.ownsRow X.heap.size 5 1 r MA (bytesL MA cw) ∧ Below X.heap.size X w')
    (a : Act) (A : RA c a) (t6 : a.eval (.tmp 6) = u6) (t10 : a.eval (.tmp 10) = nv) (t11 : a.eval (.tmp 11) = .slice (some ⟨pg, 0, none⟩) (c.n + 2) pk) (t27 : a.eval (.tmp 27) = fv) : (fromR 63 (Tryd.f7.body.getD .skip)).wp Tryd.prog (bodyPost Tryd.prog Tryd.f7 fun e w' => e = .returned (.bool true) ∧ Below V.heap.size V w') a Wb := by
  have bel1 : ∀ X, Below Wb.heap.size Wb X → Below V1.heap.size V1 X := fun X hX => H.B.bel.trans (hX.mono H.B.bel.size)
  obtain ⟨ua, uc, eu6⟩ : ∃ ua uc, u6 = .slice ua c.h uc := by
    rcases H.B.rooms.2 with ⟨e, e0⟩ | ⟨g, cap, cur, e, _⟩
    · exact ⟨none, 0, by rw [e, e0]⟩
    · exact ⟨_, _, e⟩
  obtain ⟨na_, nc_, eu10, _, _, hnm⟩ := H.non.shape
  obtain ⟨W, hW⟩ : ∃ W, W = Wb := ⟨_, rfl⟩
  have BW : Below Wb.heap.size Wb W := by rw [hW]; exact Below.refl _ _
  rw [← hW]
  clear hW
  refine wp_seq ?_
  refine wp_seq ?_
  refine wp_region_sqK 375 [(0, 35)] (fun i_ => match i_ with | 0 => .int .i64 ((0 : Nat) : Int) | _ => undef) A.sz (by kernel_rfl) (by decide) (by decide) ?_ ?_
  · intro i_ hi_ a hf hv hn
    match i_, hi_ with
    | 0, _ => exact stepV rfl rfl (execAsgB rfl rfl) ⟨⟨_, rfl, rfl⟩, rfl⟩
    | k_ + 1, h_ => exact absurd h_ (by simp)
  intro a h1 h2 h3 h4
  have t6 := (h3 6 (by decide)).trans t6
  have t10 := (h3 10 (by decide)).trans t10
  have t11 := (h3 11 (by decide)).trans t11
  have t27 := (h3 27 (by decide)).trans t27
  have t35 : a.eval (.tmp 35) = .int .i64 ((0 : Nat) : Int) := h4 0 _ rfl _ rfl
  have A := A.keep h1 h2 h3 (by decide)
  clear h1 h2 h3 h4
  refine wp_block ?_
  refine wp_loop (fun a W => ∃ i : Nat, i ≤ c.h ∧ RA c a ∧ (a.eval (.tmp 6) = u6 ∧ a.eval (.tmp 10) = nv ∧ a.eval (.tmp 11) = .slice (some ⟨pg, 0, none⟩) (c.n + 2) pk ∧ a.eval (.tmp 27) = fv) ∧ a.eval (.tmp 35) = .int .i64 ((i : Nat) : Int) ∧ Below Wb.heap.size Wb W) (fun a _ => c.h - (intOf (a.eval (.tmp 35))).toNat) ⟨0, by omega, A, ⟨t6, t10, t11, t27⟩, t35, BW⟩ ?_
  clear A BW t6 t10 t11 t27 t35 a W
  rintro a W ⟨i, hi, A, ⟨t6, t10, t11, t27⟩, t35, BW⟩
  have e35 := t35
  refine wp_seq ?_
  refine wp_seq ?_
  refine wp_region_sqK 375 [(0, 279), (1, 280), (2, 281), (3, 282)] (fun i_ => match i_ with | 0 => .int .i64 ((i : Nat) : Int) | 1 => .slice ua c.h uc | 2 => .int .i64 ((c.h : Nat) : Int) | 3 => .bool (decide (i < c.h)) | _ => undef) A.sz (by kernel_rfl) (by decide) (by decide) ?_ ?_
  · intro i_ hi_ a hf hv hn
    match i_, hi_ with
    | 0, _ => exact stepV rfl rfl (execMvB rfl ((hf 35 (by decide)).trans t35)) ⟨⟨_, rfl, rfl⟩, rfl⟩
    | 1, _ => exact stepV rfl rfl (execMvB rfl ((hf 6 (by decide)).trans (t6.trans eu6))) ⟨⟨_, rfl, rfl⟩, rfl⟩
    | 2, _ => exact stepV rfl rfl (execLenL (len := c.h) rfl (hv 1 (by omega) _ rfl _ rfl)) ⟨⟨_, rfl, rfl⟩, rfl⟩
    | 3, _ => exact stepV rfl rfl (execLtW (p := i) (q := c.h) rfl (hv 0 (by omega) _ rfl _ rfl) (hv 2 (by omega) _ rfl _ rfl)) ⟨⟨_, rfl, rfl⟩, rfl⟩
    | k_ + 4, h_ => exact absurd h_ (by simp)
  intro a h1 h2 h3 h4
  have t6 := (h3 6 (by decide)).trans t6
  have t10 := (h3 10 (by decide)).trans t10
  have t11 := (h3 11 (by decide)).trans t11
  have t27 := (h3 27 (by decide)).trans t27
  have t35 := (h3 35 (by decide)).trans t35
  have t282 : a.eval (.tmp 282) = .bool (decide (i < c.h)) := h4 3 _ rfl _ rfl
  have A := A.keep h1 h2 h3 (by decide)
  clear h1 h2 h3 h4
  by_cases hlt : i < c.h
  · rw [decide_eq_true hlt] at t282
    refine wp_cond_true t282 ?_
    refine wp_skip ?_
    clear t282
    obtain ⟨ug, uc2, rg, rc, eu, hcap, rm, rb⟩ := H.B.room_at (fun i hi j hj => (F.cells.cell i hi).bytes j hj) hlt
    obtain ⟨hka, hkb, hkc⟩ := F.ka (by omega)
    have jk : ∀ X, Below Wb.heap.size Wb X → X.cell? ⟨c.J, 0, none⟩ = some (.slice (some ⟨c.kb, c.ko, none⟩) c.h c.kc) := fun X hX => by rw [(hC_at (F.jobW (bel1 X hX))).1]; show some (Value.slice c.ka c.h c.kc) = _; rw [hka]
    obtain ⟨la, lc, ey, _⟩ := (F.cells.cell i hlt).shape
    have cV : ∀ X, Below Wb.heap.size Wb X → X.cell? ⟨c.kb, c.ko + i, none⟩ = some (.slice la (c.lk i) lc) := fun X hX => by rw [cell_below (F.belW (bel1 X hX)) hkb, hkc i hlt, ey]
    have sW : ∀ X, Below Wb.heap.size Wb X → SliceN X (.slice la (c.lk i) lc) (c.lk i) (c.key i) := fun X hX => by
      have := (F.cells.cell i hlt).on (F.belW (bel1 X hX))
      rw [ey] at this
      exact this
    refine wp_seq ?_
    refine wp_block ?_
    refine wp_seq ?_
    refine wp_region_sqK 375 [(0, 285), (1, 286), (2, 287), (3, 288), (4, 289), (5, 290), (6, 36)] (fun i_ => match i_ with | 0 => .pointer (some ⟨c.J, 0, none⟩) | 1 => .slice (some ⟨c.kb, c.ko, none⟩) c.h c.kc | 2 => .int .i64 ((i : Nat) : Int) | 3 => .pointer (some ⟨c.kb, c.ko + i, none⟩) | 4 => .slice la (c.lk i) lc | 5 => .int .i64 (((c.lk i) : Nat) : Int) | 6 => .int .i64 (((c.lk i) : Nat) : Int) | _ => undef) A.sz (by kernel_rfl) (by decide) (by decide) ?_ ?_
    · intro i_ hi_ a hf hv hn
      match i_, hi_ with
      | 0, _ => exact stepV rfl rfl (execFC (k := 0) (f := 0) (by simp) rfl ((hf 2 (by decide)).trans A.t2)) ⟨⟨_, rfl, rfl⟩, rfl⟩
      | 1, _ => exact stepV rfl rfl (execLdLL rfl (hv 0 (by omega) _ rfl _ rfl) (jk _ BW)) ⟨⟨_, rfl, rfl⟩, rfl⟩
      | 2, _ => exact stepV rfl rfl (execMvB rfl ((hf 35 (by decide)).trans t35)) ⟨⟨_, rfl, rfl⟩, rfl⟩
      | 3, _ => exact stepV rfl rfl (execIdxL (k := i) rfl (hv 1 (by omega) _ rfl _ rfl) (hv 2 (by omega) _ rfl _ rfl) (by exact hlt)) ⟨⟨_, rfl, rfl⟩, rfl⟩
      | 4, _ => exact stepV rfl rfl (execLdL rfl (hv 3 (by omega) _ rfl _ rfl) (cV _ BW)) ⟨⟨_, rfl, rfl⟩, rfl⟩
      | 5, _ => exact stepV rfl rfl (execLenV (len := (c.lk i)) rfl (hv 4 (by omega) _ rfl _ rfl) ⟨_, _, rfl⟩) ⟨⟨_, rfl, rfl⟩, rfl⟩
      | 6, _ => exact stepV rfl rfl (execAsgB rfl (hv 5 (by omega) _ rfl _ rfl)) ⟨⟨_, rfl, rfl⟩, rfl⟩
      | k_ + 7, h_ => exact absurd h_ (by simp)
    intro a h1 h2 h3 h4
    have t6 := (h3 6 (by decide)).trans t6
    have t10 := (h3 10 (by decide)).trans t10
    have t11 := (h3 11 (by decide)).trans t11
    have t27 := (h3 27 (by decide)).trans t27
    have t35 := (h3 35 (by decide)).trans t35
    have t36 : a.eval (.tmp 36) = .int .i64 (((c.lk i) : Nat) : Int) := h4 6 _ rfl _ rfl
    have A := A.keep h1 h2 h3 (by decide)
    clear h1 h2 h3 h4
    refine wp_seq ?_
    refine wp_seq ?_
    refine wp_region_detA 375 [(0, 291), (1, 292), (2, 293), (3, 294), (4, 295), (5, 296), (6, 297), (7, 298), (8, 299), (9, 300), (10, 301), (11, 302), (12, 303), (13, 304)] (fun i_ => match i_ with | 0 => .slice (some ⟨ug, 0, none⟩) c.h uc2 | 1 => .int .i64 ((i : Nat) : Int) | 2 => .pointer (some ⟨ug, 0 + i, none⟩) | 3 => .slice (some ⟨rg, 0, none⟩) (c.lk i + 40) rc | 4 => .int .i64 (((c.lk i) : Nat) : Int) | 5 => .slice (some ⟨rg, 0, none⟩) (c.lk i) rc | 6 => .string (strN (c.key i) (c.lk i)) | 7 => .pointer (some ⟨c.J, 0, none⟩) | 8 => .slice (some ⟨c.kb, c.ko, none⟩) c.h c.kc | 9 => .int .i64 ((i : Nat) : Int) | 10 => .pointer (some ⟨c.kb, c.ko + i, none⟩) | 11 => .slice la (c.lk i) lc | 12 => .string (strN (c.key i) (c.lk i)) | 13 => .bool false | _ => undef) (fun _ X => Below W.heap.size W X) (by kernel_rfl) (by kernel_rfl) A.sz (by kernel_rfl) (by decide) (by decide) (Below.refl _ _).drew ?_ ?_
    · intro i_ hi_ l a X hl hf hdep hl2 hcl _ hT
      match i_, hi_ with
      | 0, _ => exact stepV rfl rfl (execMvB rfl ((hf 6 (by decide)).trans (t6.trans eu))) ⟨⟨_, rfl, rfl⟩, hT⟩
      | 1, _ => exact stepV rfl rfl (execMvB rfl ((hf 35 (by decide)).trans t35)) ⟨⟨_, rfl, rfl⟩, hT⟩
      | 2, _ => exact stepV rfl rfl (execIdxL (k := i) rfl (hdep _ rfl 0 rfl _ rfl _ rfl) (hdep _ rfl 1 rfl _ rfl _ rfl) (by exact hlt)) ⟨⟨_, rfl, rfl⟩, hT⟩
      | 3, _ => exact stepV rfl rfl (execLdL rfl (hdep _ rfl 2 rfl _ rfl _ rfl) (rm _ (BW.trans (hT.mono BW.size))).1) ⟨⟨_, rfl, rfl⟩, hT⟩
      | 4, _ => exact stepV rfl rfl (execMvB rfl ((hf 36 (by decide)).trans t36)) ⟨⟨_, rfl, rfl⟩, hT⟩
      | 5, _ => exact stepV rfl rfl (By8.execSlH rfl (hdep _ rfl 3 rfl _ rfl _ rfl) (hdep _ rfl 4 rfl _ rfl _ rfl) (sl_h8 rg (c.lk i + 40) rc (c.lk i) (by omega) X)) ⟨⟨_, rfl, rfl⟩, hT⟩
      | 6, _ => exact stepV rfl rfl (By8.execStr rfl (hdep _ rfl 5 rfl _ rfl _ rfl) (rm _ (BW.trans (hT.mono BW.size))).2) ⟨⟨_, rfl, rfl⟩, hT⟩
      | 7, _ => exact stepV rfl rfl (execFC (k := 0) (f := 0) (by simp) rfl ((hf 2 (by decide)).trans A.t2)) ⟨⟨_, rfl, rfl⟩, hT⟩
      | 8, _ => exact stepV rfl rfl (execLdLL rfl (hdep _ rfl 7 rfl _ rfl _ rfl) (jk _ (BW.trans (hT.mono BW.size)))) ⟨⟨_, rfl, rfl⟩, hT⟩
      | 9, _ => exact stepV rfl rfl (execMvB rfl ((hf 35 (by decide)).trans t35)) ⟨⟨_, rfl, rfl⟩, hT⟩
      | 10, _ => exact stepV rfl rfl (execIdxL (k := i) rfl (hdep _ rfl 8 rfl _ rfl _ rfl) (hdep _ rfl 9 rfl _ rfl _ rfl) (by exact hlt)) ⟨⟨_, rfl, rfl⟩, hT⟩
      | 11, _ => exact stepV rfl rfl (execLdL rfl (hdep _ rfl 10 rfl _ rfl _ rfl) (cV _ (BW.trans (hT.mono BW.size)))) ⟨⟨_, rfl, rfl⟩, hT⟩
      | 12, _ => exact stepV rfl rfl (By8.execStr rfl (hdep _ rfl 11 rfl _ rfl _ rfl) (sW _ (BW.trans (hT.mono BW.size)))) ⟨⟨_, rfl, rfl⟩, hT⟩
      | 13, _ => exact stepV rfl rfl (By8.execNeqS rfl (hdep _ rfl 6 rfl _ rfl _ rfl) (hdep _ rfl 12 rfl _ rfl _ rfl)) ⟨⟨_, rfl, rfl⟩, hT⟩
      | k_ + 14, h_ => exact absurd h_ (by simp)
    intro l a X h1 h2 h3 h4 hall hT
    have t6 := (h3 6 (by decide)).trans t6
    have t10 := (h3 10 (by decide)).trans t10
    have t11 := (h3 11 (by decide)).trans t11
    have t27 := (h3 27 (by decide)).trans t27
    have t35 := (h3 35 (by decide)).trans t35
    have t36 := (h3 36 (by decide)).trans t36
    have t304 : a.eval (.tmp 304) = .bool false := h4 (13, 304) (by decide)
    have A := A.keep h1 h2 h3 (by decide)
    clear h1 h2 h3 h4
    clear hall
    have BW := BW.trans (hT.mono BW.size)
    clear hT
    obtain ⟨W, hW⟩ : ∃ W, W = X := ⟨_, rfl⟩
    rw [← hW] at BW ⊢
    clear hW
    refine wp_cond_false t304 ?_
    refine wp_skip ?_
    clear t304
    refine wp_seq ?_
    refine wp_region_sqK 375 [(0, 305), (1, 37)] (fun i_ => match i_ with | 0 => .int .i64 (((c.lk i) : Nat) : Int) | 1 => .int .i64 (((c.lk i) : Nat) : Int) | _ => undef) A.sz (by kernel_rfl) (by decide) (by decide) ?_ ?_
    · intro i_ hi_ a hf hv hn
      match i_, hi_ with
      | 0, _ => exact stepV rfl rfl (execMvB rfl ((hf 36 (by decide)).trans t36)) ⟨⟨_, rfl, rfl⟩, rfl⟩
      | 1, _ => exact stepV rfl rfl (execAsgB rfl (hv 0 (by omega) _ rfl _ rfl)) ⟨⟨_, rfl, rfl⟩, rfl⟩
      | k_ + 2, h_ => exact absurd h_ (by simp)
    intro a h1 h2 h3 h4
    have t6 := (h3 6 (by decide)).trans t6
    have t10 := (h3 10 (by decide)).trans t10
    have t11 := (h3 11 (by decide)).trans t11
    have t27 := (h3 27 (by decide)).trans t27
    have t35 := (h3 35 (by decide)).trans t35
    have t37 : a.eval (.tmp 37) = .int .i64 (((c.lk i) : Nat) : Int) := h4 1 _ rfl _ rfl
    have A := A.keep h1 h2 h3 (by decide)
    clear h1 h2 h3 h4
    refine wp_block ?_
    refine wp_loop (fun a W => ∃ k : Nat, c.lk i ≤ k ∧ k ≤ c.lk i + 40 ∧ RA c a ∧ (a.eval (.tmp 6) = u6 ∧ a.eval (.tmp 10) = nv ∧ a.eval (.tmp 11) = .slice (some ⟨pg, 0, none⟩) (c.n + 2) pk ∧ a.eval (.tmp 27) = fv) ∧ a.eval (.tmp 35) = .int .i64 ((i : Nat) : Int) ∧ a.eval (.tmp 37) = .int .i64 ((k : Nat) : Int) ∧ Below Wb.heap.size Wb W) (fun a _ => c.lk i + 40 - (intOf (a.eval (.tmp 37))).toNat) ⟨c.lk i, by omega, by omega, A, ⟨t6, t10, t11, t27⟩, t35, t37, BW⟩ ?_
    clear A BW t6 t10 t11 t27 t35 t36 t37 a W
    rintro a W ⟨k, hk1, hk2, A, ⟨t6, t10, t11, t27⟩, t35, t37, BW⟩
    have e37 := t37
    refine wp_seq ?_
    refine wp_seq ?_
    refine wp_region_sqK 375 [(0, 306), (1, 307), (2, 308), (3, 309), (4, 310), (5, 311), (6, 312)] (fun i_ => match i_ with | 0 => .int .i64 ((k : Nat) : Int) | 1 => .slice (some ⟨ug, 0, none⟩) c.h uc2 | 2 => .int .i64 ((i : Nat) : Int) | 3 => .pointer (some ⟨ug, 0 + i, none⟩) | 4 => .slice (some ⟨rg, 0, none⟩) (c.lk i + 40) rc | 5 => .int .i64 (((c.lk i + 40) : Nat) : Int) | 6 => .bool (decide (k < (c.lk i + 40))) | _ => undef) A.sz (by kernel_rfl) (by decide) (by decide) ?_ ?_
    · intro i_ hi_ a hf hv hn
      match i_, hi_ with
      | 0, _ => exact stepV rfl rfl (execMvB rfl ((hf 37 (by decide)).trans t37)) ⟨⟨_, rfl, rfl⟩, rfl⟩
      | 1, _ => exact stepV rfl rfl (execMvB rfl ((hf 6 (by decide)).trans (t6.trans eu))) ⟨⟨_, rfl, rfl⟩, rfl⟩
      | 2, _ => exact stepV rfl rfl (execMvB rfl ((hf 35 (by decide)).trans t35)) ⟨⟨_, rfl, rfl⟩, rfl⟩
      | 3, _ => exact stepV rfl rfl (execIdxL (k := i) rfl (hv 1 (by omega) _ rfl _ rfl) (hv 2 (by omega) _ rfl _ rfl) (by exact hlt)) ⟨⟨_, rfl, rfl⟩, rfl⟩
      | 4, _ => exact stepV rfl rfl (execLdL rfl (hv 3 (by omega) _ rfl _ rfl) (rm _ BW).1) ⟨⟨_, rfl, rfl⟩, rfl⟩
      | 5, _ => exact stepV rfl rfl (execLenV (len := (c.lk i + 40)) rfl (hv 4 (by omega) _ rfl _ rfl) ⟨_, _, rfl⟩) ⟨⟨_, rfl, rfl⟩, rfl⟩
      | 6, _ => exact stepV rfl rfl (execLtW (p := k) (q := (c.lk i + 40)) rfl (hv 0 (by omega) _ rfl _ rfl) (hv 5 (by omega) _ rfl _ rfl)) ⟨⟨_, rfl, rfl⟩, rfl⟩
      | k_ + 7, h_ => exact absurd h_ (by simp)
    intro a h1 h2 h3 h4
    have t6 := (h3 6 (by decide)).trans t6
    have t10 := (h3 10 (by decide)).trans t10
    have t11 := (h3 11 (by decide)).trans t11
    have t27 := (h3 27 (by decide)).trans t27
    have t35 := (h3 35 (by decide)).trans t35
    have t37 := (h3 37 (by decide)).trans t37
    have t312 : a.eval (.tmp 312) = .bool (decide (k < (c.lk i + 40))) := h4 6 _ rfl _ rfl
    have A := A.keep h1 h2 h3 (by decide)
    clear h1 h2 h3 h4
    by_cases hk : k < c.lk i + 40
    · rw [decide_eq_true hk] at t312
      refine wp_cond_true t312 ?_
      refine wp_skip ?_
      clear t312
      have rB := fun X hX => rb X hX k hk1 hk
      refine wp_seq ?_
      refine wp_block ?_
      refine wp_seq ?_
      refine wp_region_sqK 375 [(0, 315), (1, 316), (2, 317), (3, 318), (4, 319), (5, 320), (6, 321), (7, 322)] (fun i_ => match i_ with | 0 => .slice (some ⟨ug, 0, none⟩) c.h uc2 | 1 => .int .i64 ((i : Nat) : Int) | 2 => .pointer (some ⟨ug, 0 + i, none⟩) | 3 => .slice (some ⟨rg, 0, none⟩) (c.lk i + 40) rc | 4 => .int .i64 ((k : Nat) : Int) | 5 => .pointer (some ⟨rg, k, none⟩) | 6 => .int .u8 165 | 7 => .bool false | _ => undef) A.sz (by kernel_rfl) (by decide) (by decide) ?_ ?_
      · intro i_ hi_ a hf hv hn
        match i_, hi_ with
        | 0, _ => exact stepV rfl rfl (execMvB rfl ((hf 6 (by decide)).trans (t6.trans eu))) ⟨⟨_, rfl, rfl⟩, rfl⟩
        | 1, _ => exact stepV rfl rfl (execMvB rfl ((hf 35 (by decide)).trans t35)) ⟨⟨_, rfl, rfl⟩, rfl⟩
        | 2, _ => exact stepV rfl rfl (execIdxL (k := i) rfl (hv 0 (by omega) _ rfl _ rfl) (hv 1 (by omega) _ rfl _ rfl) (by exact hlt)) ⟨⟨_, rfl, rfl⟩, rfl⟩
        | 3, _ => exact stepV rfl rfl (execLdL rfl (hv 2 (by omega) _ rfl _ rfl) (rm _ BW).1) ⟨⟨_, rfl, rfl⟩, rfl⟩
        | 4, _ => exact stepV rfl rfl (execMvB rfl ((hf 37 (by decide)).trans t37)) ⟨⟨_, rfl, rfl⟩, rfl⟩
        | 5, _ => exact stepV rfl rfl (execIdxS0 (k := k) rfl (hv 3 (by omega) _ rfl _ rfl) (hv 4 (by omega) _ rfl _ rfl) (by omega)) ⟨⟨_, rfl, rfl⟩, rfl⟩
        | 6, _ => exact stepV rfl rfl (execLdB rfl (hv 5 (by omega) _ rfl _ rfl) (rB _ BW)) ⟨⟨_, rfl, rfl⟩, rfl⟩
        | 7, _ => exact stepV rfl rfl (execNeqU8 (p := 165) rfl (hv 6 (by omega) _ rfl _ rfl) rfl) ⟨⟨_, rfl, rfl⟩, rfl⟩
        | k_ + 8, h_ => exact absurd h_ (by simp)
      intro a h1 h2 h3 h4
      have t6 := (h3 6 (by decide)).trans t6
      have t10 := (h3 10 (by decide)).trans t10
      have t11 := (h3 11 (by decide)).trans t11
      have t27 := (h3 27 (by decide)).trans t27
      have t35 := (h3 35 (by decide)).trans t35
      have t37 := (h3 37 (by decide)).trans t37
      have t322 : a.eval (.tmp 322) = .bool false := h4 7 _ rfl _ rfl
      have A := A.keep h1 h2 h3 (by decide)
      clear h1 h2 h3 h4
      refine wp_cond_false t322 ?_
      refine wp_skip ?_
      clear t322
      refine wp_region_sqK 375 [(0, 313), (1, 314), (2, 37)] (fun i_ => match i_ with | 0 => .int .i64 ((k : Nat) : Int) | 1 => .int .i64 ((k + 1 : Nat) : Int) | 2 => .int .i64 ((k + 1 : Nat) : Int) | _ => undef) A.sz (by kernel_rfl) (by decide) (by decide) ?_ ?_
      · intro i_ hi_ a hf hv hn
        match i_, hi_ with
        | 0, _ => exact stepV rfl rfl (execMvB rfl ((hn 2 (by omega) _ rfl _ rfl).trans t37)) ⟨⟨_, rfl, rfl⟩, rfl⟩
        | 1, _ => exact stepV rfl rfl (execAd8 (p := k) (q := 1) rfl (hv 0 (by omega) _ rfl _ rfl) rfl (by have := H.B.small i hlt; omega)) ⟨⟨_, rfl, rfl⟩, rfl⟩
        | 2, _ => exact stepV rfl rfl (execAsgB rfl (hv 1 (by omega) _ rfl _ rfl)) ⟨⟨_, rfl, rfl⟩, rfl⟩
        | k_ + 3, h_ => exact absurd h_ (by simp)
      intro a h1 h2 h3 h4
      have t6 := (h3 6 (by decide)).trans t6
      have t10 := (h3 10 (by decide)).trans t10
      have t11 := (h3 11 (by decide)).trans t11
      have t27 := (h3 27 (by decide)).trans t27
      have t35 := (h3 35 (by decide)).trans t35
      have t37 : a.eval (.tmp 37) = .int .i64 ((k + 1 : Nat) : Int) := h4 2 _ rfl _ rfl
      have A := A.keep h1 h2 h3 (by decide)
      clear h1 h2 h3 h4
      exact ⟨⟨k + 1, by omega, hk, A, ⟨t6, t10, t11, t27⟩, t35, t37, BW⟩, by show c.lk i + 40 - (intOf (a.eval (.tmp 37))).toNat < c.lk i + 40 - (intOf (Act.eval _ (.tmp 37))).toNat; rw [t37, e37]; show c.lk i + 40 - (k + 1) < c.lk i + 40 - k; omega⟩
    · rw [decide_eq_false hk] at t312
      refine wp_cond_false t312 ?_
      refine wp_exit ?_
      first | refine exit_in ?_ | refine exit_then (exit_in ?_) | refine exit_then (exit_then (exit_in ?_))
      refine wp_region_sqK 375 [(0, 283), (1, 284), (2, 35)] (fun i_ => match i_ with | 0 => .int .i64 ((i : Nat) : Int) | 1 => .int .i64 ((i + 1 : Nat) : Int) | 2 => .int .i64 ((i + 1 : Nat) : Int) | _ => undef) A.sz (by kernel_rfl) (by decide) (by decide) ?_ ?_
      · intro i_ hi_ a hf hv hn
        match i_, hi_ with
        | 0, _ => exact stepV rfl rfl (execMvB rfl ((hn 2 (by omega) _ rfl _ rfl).trans t35)) ⟨⟨_, rfl, rfl⟩, rfl⟩
        | 1, _ => exact stepV rfl rfl (execAd8 (p := i) (q := 1) rfl (hv 0 (by omega) _ rfl _ rfl) rfl (by have := F.sz; omega)) ⟨⟨_, rfl, rfl⟩, rfl⟩
        | 2, _ => exact stepV rfl rfl (execAsgB rfl (hv 1 (by omega) _ rfl _ rfl)) ⟨⟨_, rfl, rfl⟩, rfl⟩
        | k_ + 3, h_ => exact absurd h_ (by simp)
      intro a h1 h2 h3 h4
      have t6 := (h3 6 (by decide)).trans t6
      have t10 := (h3 10 (by decide)).trans t10
      have t11 := (h3 11 (by decide)).trans t11
      have t27 := (h3 27 (by decide)).trans t27
      have t35 : a.eval (.tmp 35) = .int .i64 ((i + 1 : Nat) : Int) := h4 2 _ rfl _ rfl
      have A := A.keep h1 h2 h3 (by decide)
      clear h1 h2 h3 h4
      exact ⟨⟨i + 1, hlt, A, ⟨t6, t10, t11, t27⟩, t35, BW⟩, by show c.h - (intOf (a.eval (.tmp 35))).toNat < c.h - (intOf (Act.eval _ (.tmp 35))).toNat; rw [t35, e35]; show c.h - (i + 1) < c.h - i; omega⟩
  · rw [decide_eq_false hlt] at t282
    refine wp_cond_false t282 ?_
    refine wp_exit ?_
    first | refine exit_in ?_ | refine exit_then (exit_in ?_) | refine exit_then (exit_then (exit_in ?_))
    clear t282 t35 e35 hlt hi
    refine wp_seq ?_
    refine wp_seq ?_
    refine wp_region_sqK 375 [(0, 38)] (fun i_ => match i_ with | 0 => .int .i64 ((0 : Nat) : Int) | _ => undef) A.sz (by kernel_rfl) (by decide) (by decide) ?_ ?_
    · intro i_ hi_ a hf hv hn
      match i_, hi_ with
      | 0, _ => exact stepV rfl rfl (execAsgB rfl rfl) ⟨⟨_, rfl, rfl⟩, rfl⟩
      | k_ + 1, h_ => exact absurd h_ (by simp)
    intro a h1 h2 h3 h4
    have t6 := (h3 6 (by decide)).trans t6
    have t10 := (h3 10 (by decide)).trans t10
    have t11 := (h3 11 (by decide)).trans t11
    have t27 := (h3 27 (by decide)).trans t27
    have t38 : a.eval (.tmp 38) = .int .i64 ((0 : Nat) : Int) := h4 0 _ rfl _ rfl
    have A := A.keep h1 h2 h3 (by decide)
    clear h1 h2 h3 h4
    refine wp_block ?_
    refine wp_loop (fun a W => ∃ k : Nat, k ≤ c.hn ∧ RA c a ∧ (a.eval (.tmp 6) = u6 ∧ a.eval (.tmp 10) = nv ∧ a.eval (.tmp 11) = .slice (some ⟨pg, 0, none⟩) (c.n + 2) pk ∧ a.eval (.tmp 27) = fv) ∧ a.eval (.tmp 38) = .int .i64 ((k : Nat) : Int) ∧ Below Wb.heap.size Wb W) (fun a _ => c.hn - (intOf (a.eval (.tmp 38))).toNat) ⟨0, by omega, A, ⟨t6, t10, t11, t27⟩, t38, BW⟩ ?_
    clear A BW t6 t10 t11 t27 t38 a W
    rintro a W ⟨k, hk0, A, ⟨t6, t10, t11, t27⟩, t38, BW⟩
    have e38 := t38
    refine wp_seq ?_
    refine wp_seq ?_
    refine wp_region_sqK 375 [(0, 323), (1, 324), (2, 325), (3, 326)] (fun i_ => match i_ with | 0 => .int .i64 ((k : Nat) : Int) | 1 => .slice na_ c.hn nc_ | 2 => .int .i64 ((c.hn : Nat) : Int) | 3 => .bool (decide (k < c.hn)) | _ => undef) A.sz (by kernel_rfl) (by decide) (by decide) ?_ ?_
    · intro i_ hi_ a hf hv hn
      match i_, hi_ with
      | 0, _ => exact stepV rfl rfl (execMvB rfl ((hf 38 (by decide)).trans t38)) ⟨⟨_, rfl, rfl⟩, rfl⟩
      | 1, _ => exact stepV rfl rfl (execMvB rfl ((hf 10 (by decide)).trans (t10.trans eu10))) ⟨⟨_, rfl, rfl⟩, rfl⟩
      | 2, _ => exact stepV rfl rfl (execLenA (len := c.hn) rfl (hv 1 (by omega) _ rfl _ rfl)) ⟨⟨_, rfl, rfl⟩, rfl⟩
      | 3, _ => exact stepV rfl rfl (execLtW (p := k) (q := c.hn) rfl (hv 0 (by omega) _ rfl _ rfl) (hv 2 (by omega) _ rfl _ rfl)) ⟨⟨_, rfl, rfl⟩, rfl⟩
      | k_ + 4, h_ => exact absurd h_ (by simp)
    intro a h1 h2 h3 h4
    have t6 := (h3 6 (by decide)).trans t6
    have t10 := (h3 10 (by decide)).trans t10
    have t11 := (h3 11 (by decide)).trans t11
    have t27 := (h3 27 (by decide)).trans t27
    have t38 := (h3 38 (by decide)).trans t38
    have t326 : a.eval (.tmp 326) = .bool (decide (k < c.hn)) := h4 3 _ rfl _ rfl
    have A := A.keep h1 h2 h3 (by decide)
    clear h1 h2 h3 h4
    by_cases hlt : k < c.hn
    · rw [decide_eq_true hlt] at t326
      refine wp_cond_true t326 ?_
      refine wp_skip ?_
      clear t326
      obtain ⟨mb, mo, ema, hmb, hmc⟩ := hnm (by omega)
      have en : nv = .slice (some ⟨mb, mo, none⟩) c.hn nc_ := by rw [eu10, ema]
      have nB : ∀ X, Below Wb.heap.size Wb X → ∀ j, j < 16 → X.cell? ⟨mb, mo + k * 16 + j, none⟩ = some (.int .u8 (c.q k j)) := fun X hX j hj => by rw [cell_below hX hmb]; exact hmc k hlt j hj
      obtain ⟨va, vc, ev, _, _, hvs⟩ := F.nons.shape
      obtain ⟨vb, vo, eva, hvb, hvc⟩ := hvs (by omega)
      have ev2 : c.na = some ⟨vb, vo, none⟩ := by
        injection ev with e1 _ _
        rw [e1, eva]
      have jn : ∀ X, Below Wb.heap.size Wb X → X.cell? ⟨c.J, 1, none⟩ = some (.slice (some ⟨vb, vo, none⟩) c.hn c.nc) := fun X hX => by rw [(hC_at (F.jobW (bel1 X hX))).2.1]; show some (Value.slice c.na c.hn c.nc) = _; rw [ev2]
      have nV : ∀ X, Below Wb.heap.size Wb X → ∀ j, j < 16 → X.cell? ⟨vb, vo + k * 16 + j, none⟩ = some (.int .u8 (c.q k j)) := fun X hX j hj => by rw [cell_below (F.belW (bel1 X hX)) hvb]; exact hvc k hlt j hj
      refine wp_seq ?_
      refine wp_block ?_
      refine wp_seq ?_
      refine wp_region_detA 375 [(0, 329), (1, 330), (2, 331), (3, 332), (4, 333), (5, 334), (6, 335), (7, 336), (8, 337), (9, 338)] (fun i_ => match i_ with | 0 => .slice (some ⟨mb, mo, none⟩) c.hn nc_ | 1 => .int .i64 ((k : Nat) : Int) | 2 => .pointer (some ⟨mb, mo + k * 16, none⟩) | 3 => .agg (bA 16 (c.q k)) | 4 => .pointer (some ⟨c.J, 1, none⟩) | 5 => .slice (some ⟨vb, vo, none⟩) c.hn c.nc | 6 => .int .i64 ((k : Nat) : Int) | 7 => .pointer (some ⟨vb, vo + k * 16, none⟩) | 8 => .agg (bA 16 (c.q k)) | 9 => .bool false | _ => undef) (fun _ X => Below W.heap.size W X) (by kernel_rfl) (by kernel_rfl) A.sz (by kernel_rfl) (by decide) (by decide) (Below.refl _ _).drew ?_ ?_
      · intro i_ hi_ l a X hl hf hdep hl2 hcl _ hT
        match i_, hi_ with
        | 0, _ => exact stepV rfl rfl (execMvB rfl ((hf 10 (by decide)).trans (t10.trans en))) ⟨⟨_, rfl, rfl⟩, hT⟩
        | 1, _ => exact stepV rfl rfl (execMvB rfl ((hf 38 (by decide)).trans t38)) ⟨⟨_, rfl, rfl⟩, hT⟩
        | 2, _ => exact stepV rfl rfl (execIdxA (k := k) rfl (hdep _ rfl 0 rfl _ rfl _ rfl) (hdep _ rfl 1 rfl _ rfl _ rfl) (by exact hlt)) ⟨⟨_, rfl, rfl⟩, hT⟩
        | 3, _ => exact stepV rfl rfl (execLdList (k := 16) (q := (c.q k)) rfl (hdep _ rfl 2 rfl _ rfl _ rfl) (nB _ (BW.trans (hT.mono BW.size))) Tryd.underlying40 rfl (by kernel_rfl)) ⟨⟨_, rfl, rfl⟩, hT⟩
        | 4, _ => exact stepV rfl rfl (execFC (k := 1) (f := 1) (by simp) rfl ((hf 2 (by decide)).trans A.t2)) ⟨⟨_, rfl, rfl⟩, hT⟩
        | 5, _ => exact stepV rfl rfl (execLdLA rfl (hdep _ rfl 4 rfl _ rfl _ rfl) (jn _ (BW.trans (hT.mono BW.size)))) ⟨⟨_, rfl, rfl⟩, hT⟩
        | 6, _ => exact stepV rfl rfl (execMvB rfl ((hf 38 (by decide)).trans t38)) ⟨⟨_, rfl, rfl⟩, hT⟩
        | 7, _ => exact stepV rfl rfl (execIdxA (k := k) rfl (hdep _ rfl 5 rfl _ rfl _ rfl) (hdep _ rfl 6 rfl _ rfl _ rfl) (by exact hlt)) ⟨⟨_, rfl, rfl⟩, hT⟩
        | 8, _ => exact stepV rfl rfl (execLdList (k := 16) (q := (c.q k)) rfl (hdep _ rfl 7 rfl _ rfl _ rfl) (nV _ (BW.trans (hT.mono BW.size))) Tryd.underlying40 rfl (by kernel_rfl)) ⟨⟨_, rfl, rfl⟩, hT⟩
        | 9, _ => exact stepV rfl rfl (exec_notsame16 rfl (hdep _ rfl 3 rfl _ rfl _ rfl) (hdep _ rfl 8 rfl _ rfl _ rfl) (fun _ _ => rfl)) ⟨⟨_, rfl, rfl⟩, hT⟩
        | k_ + 10, h_ => exact absurd h_ (by simp)
      intro l a X h1 h2 h3 h4 hall hT
      have t6 := (h3 6 (by decide)).trans t6
      have t10 := (h3 10 (by decide)).trans t10
      have t11 := (h3 11 (by decide)).trans t11
      have t27 := (h3 27 (by decide)).trans t27
      have t38 := (h3 38 (by decide)).trans t38
      have t338 : a.eval (.tmp 338) = .bool false := h4 (9, 338) (by decide)
      have A := A.keep h1 h2 h3 (by decide)
      clear h1 h2 h3 h4
      clear hall
      have BW := BW.trans (hT.mono BW.size)
      clear hT
      obtain ⟨W, hW⟩ : ∃ W, W = X := ⟨_, rfl⟩
      rw [← hW] at BW ⊢
      clear hW
      refine wp_cond_false t338 ?_
      refine wp_skip ?_
      clear t338
      refine wp_region_sqK 375 [(0, 327), (1, 328), (2, 38)] (fun i_ => match i_ with | 0 => .int .i64 ((k : Nat) : Int) | 1 => .int .i64 ((k + 1 : Nat) : Int) | 2 => .int .i64 ((k + 1 : Nat) : Int) | _ => undef) A.sz (by kernel_rfl) (by decide) (by decide) ?_ ?_
      · intro i_ hi_ a hf hv hn
        match i_, hi_ with
        | 0, _ => exact stepV rfl rfl (execMvB rfl ((hn 2 (by omega) _ rfl _ rfl).trans t38)) ⟨⟨_, rfl, rfl⟩, rfl⟩
        | 1, _ => exact stepV rfl rfl (execAd8 (p := k) (q := 1) rfl (hv 0 (by omega) _ rfl _ rfl) rfl (by have := F.sz; omega)) ⟨⟨_, rfl, rfl⟩, rfl⟩
        | 2, _ => exact stepV rfl rfl (execAsgB rfl (hv 1 (by omega) _ rfl _ rfl)) ⟨⟨_, rfl, rfl⟩, rfl⟩
        | k_ + 3, h_ => exact absurd h_ (by simp)
      intro a h1 h2 h3 h4
      have t6 := (h3 6 (by decide)).trans t6
      have t10 := (h3 10 (by decide)).trans t10
      have t11 := (h3 11 (by decide)).trans t11
      have t27 := (h3 27 (by decide)).trans t27
      have t38 : a.eval (.tmp 38) = .int .i64 ((k + 1 : Nat) : Int) := h4 2 _ rfl _ rfl
      have A := A.keep h1 h2 h3 (by decide)
      clear h1 h2 h3 h4
      exact ⟨⟨k + 1, hlt, A, ⟨t6, t10, t11, t27⟩, t38, BW⟩, by show c.hn - (intOf (a.eval (.tmp 38))).toNat < c.hn - (intOf (Act.eval _ (.tmp 38))).toNat; rw [t38, e38]; show c.hn - (k + 1) < c.hn - k; omega⟩
    · rw [decide_eq_false hlt] at t326
      refine wp_cond_false t326 ?_
      refine wp_exit ?_
      first | refine exit_in ?_ | refine exit_then (exit_in ?_) | refine exit_then (exit_then (exit_in ?_))
      clear t326 t38 e38 hlt hk0
      refine wp_seq ?_
      refine wp_region_sq (σ := Value) 375 [(0, 340), (1, 341), (2, 342), (3, 343), (4, 344), (5, 345), (6, 346), (7, 339), (8, 347), (9, 348), (10, 39), (11, 40)] (fun j_ s X => Below W.heap.size W X ∧ (match j_ with | 0 => True | 1 => True | 2 => True | 3 => True | 4 => True | 5 => True | 6 => True | 7 => X.ownsRow W.heap.size 5 1 s MA (bytesL MA cw) | 8 => X.ownsRow W.heap.size 5 1 s MA (bytesL MA cw) | 9 => X.ownsRow W.heap.size 5 1 s MA (bytesL MA cw) | 10 => X.ownsRow W.heap.size 5 1 s MA (bytesL MA cw) | 11 => X.ownsRow W.heap.size 5 1 s MA (bytesL MA cw) | _ => X.ownsRow W.heap.size 5 1 s MA (bytesL MA cw))) (fun s => fun i_ => match i_ with | 0 => .pointer (some ⟨c.J, 0, none⟩) | 1 => c.kv | 2 => .pointer (some ⟨c.J, 1, none⟩) | 3 => c.nv | 4 => .pointer (some ⟨c.J, 2, none⟩) | 5 => c.pv | 6 => .tuple #[s, .int .i64 (EA : Int)] | 7 => .tuple #[s, .int .i64 (EA : Int)] | 8 => s | 9 => .int .i64 (EA : Int) | 10 => s | 11 => .int .i64 (EA : Int) | _ => undef) undef A.sz (by kernel_rfl) (by decide) (by decide) ⟨Below.refl _ _, trivial⟩ ?_ ?_
      · intro i_ hi_ s a X hf hv hn hS
        match i_, hi_ with
        | 0, _ => exact stepV rfl rfl (execFC (k := 0) (f := 0) (by simp) rfl ((hf 2 (by decide)).trans A.t2)) ⟨s, ⟨_, rfl, rfl⟩, hS, fun _ _ => rfl⟩
        | 1, _ => exact stepV rfl rfl (execLdLL rfl (hv 0 (by omega) _ rfl _ rfl) (hC_at (F.jobW (bel1 _ (BW.trans (hS.1.mono BW.size))))).1) ⟨s, ⟨_, rfl, rfl⟩, hS, fun _ _ => rfl⟩
        | 2, _ => exact stepV rfl rfl (execFC (k := 1) (f := 1) (by simp) rfl ((hf 2 (by decide)).trans A.t2)) ⟨s, ⟨_, rfl, rfl⟩, hS, fun _ _ => rfl⟩
        | 3, _ => exact stepV rfl rfl (execLdLA rfl (hv 2 (by omega) _ rfl _ rfl) (hC_at (F.jobW (bel1 _ (BW.trans (hS.1.mono BW.size))))).2.1) ⟨s, ⟨_, rfl, rfl⟩, hS, fun _ _ => rfl⟩
        | 4, _ => exact stepV rfl rfl (execFC (k := 2) (f := 2) (by simp) rfl ((hf 2 (by decide)).trans A.t2)) ⟨s, ⟨_, rfl, rfl⟩, hS, fun _ _ => rfl⟩
        | 5, _ => exact stepV rfl rfl (execLdL rfl (hv 4 (by omega) _ rfl _ rfl) (hC_at (F.jobW (bel1 _ (BW.trans (hS.1.mono BW.size))))).2.2) ⟨s, ⟨_, rfl, rfl⟩, hS, fun _ _ => rfl⟩
        | 6, _ =>
          refine stepC rfl rfl (execCall3 Tryd.func12 (by kernel_rfl) (by kernel_rfl) rfl (hv 1 (by omega) _ rfl _ rfl) (hv 3 (by omega) _ rfl _ rfl) (hv 5 (by omega) _ rfl _ rfl)) (PW X (BW.trans (hS.1.mono BW.size))) fun e w' hh => ?_
          obtain ⟨r', e1, own', bw⟩ := hh
          refine ⟨_, e1, r', ⟨_, rfl, rfl⟩, ⟨hS.1.trans (bw.mono hS.1.size), own_base own' hS.1.size⟩, fun i hi => ?_⟩
          match i, hi with
          | 0, _ => rfl
          | 1, _ => rfl
          | 2, _ => rfl
          | 3, _ => rfl
          | 4, _ => rfl
          | 5, _ => rfl
          | n_ + 6, h_ => omega
        | 7, _ => exact stepV rfl rfl (execMvB rfl (hv 6 (by omega) _ rfl _ rfl)) ⟨s, ⟨_, rfl, rfl⟩, hS, fun _ _ => rfl⟩
        | 8, _ => exact stepV rfl rfl (execExtT rfl (hv 7 (by omega) _ rfl _ rfl) rfl) ⟨s, ⟨_, rfl, rfl⟩, hS, fun _ _ => rfl⟩
        | 9, _ => exact stepV rfl rfl (execExtT rfl (hv 7 (by omega) _ rfl _ rfl) rfl) ⟨s, ⟨_, rfl, rfl⟩, hS, fun _ _ => rfl⟩
        | 10, _ => exact stepV rfl rfl (execAsgB rfl (hv 8 (by omega) _ rfl _ rfl)) ⟨s, ⟨_, rfl, rfl⟩, hS, fun _ _ => rfl⟩
        | 11, _ => exact stepV rfl rfl (execAsgB rfl (hv 9 (by omega) _ rfl _ rfl)) ⟨s, ⟨_, rfl, rfl⟩, hS, fun _ _ => rfl⟩
        | k_ + 12, h_ => exact absurd h_ (by simp)
      intro s a X h1 h2 h3 h4 hS
      have hS : Below W.heap.size W X ∧ (X.ownsRow W.heap.size 5 1 s MA (bytesL MA cw)) := hS
      have t11 := (h3 11 (by decide)).trans t11
      have t27 := (h3 27 (by decide)).trans t27
      have t39 : a.eval (.tmp 39) = s := h4 10 _ rfl _ rfl
      have A := A.keep h1 h2 h3 (by decide)
      clear h1 h2 h3 h4
      obtain ⟨bX, ownR⟩ := hS
      obtain ⟨ra_, rc_, rfl⟩ := own_shapeJ ownR
      have SR := own_slice ownR hcw
      have BW := BW.trans (bX.mono BW.size)
      clear bX ownR
      obtain ⟨W, hW⟩ : ∃ W, W = X := ⟨_, rfl⟩
      rw [← hW] at BW SR ⊢
      clear hW
      have hpk := H.pk_
      have pS : ∀ X, Below Wb.heap.size Wb X → SliceN X (.slice (some ⟨pg, 0, none⟩) c.n pk) c.n c.p := fun X hX => sliceN_cg (takeN (H.pay.on hX) (by omega)) fun j hj => if_pos hj
      have pB : ∀ X, Below Wb.heap.size Wb X → X.cell? ⟨pg, c.n, none⟩ = some (.int .u8 165) := fun X hX => by
        obtain ⟨⟨ao, cap, e, _, _, hc⟩, _⟩ := H.pay.on hX
        obtain ⟨b, off, e2, _, e3⟩ := hc (by omega)
        injection e with e1 _ _
        rw [e2] at e1
        injection e1 with e1
        injection e1 with e1 e4 _
        have := e3 c.n (by omega)
        rw [← e1, ← e4, Nat.zero_add] at this
        rw [this]
        unfold rmF
        rw [if_neg (by omega)]
        rfl
      refine wp_seq ?_
      refine wp_region_detA 375 [(0, 349), (1, 350), (2, 351), (3, 352), (4, 353), (5, 354), (6, 355), (7, 356), (8, 357), (9, 358), (10, 359), (11, 360), (12, 361), (13, 362), (14, 363), (15, 364), (16, 365), (17, 366), (18, 367), (19, 368), (20, 369), (21, 370), (22, 371), (23, 372), (24, 373), (25, 374), (26, 4)] (fun i_ => match i_ with | 0 => .slice (some ⟨pg, 0, none⟩) (c.n + 2) pk | 1 => .pointer (some ⟨c.J, 2, none⟩) | 2 => .slice c.pa c.n c.pc | 3 => .int .i64 ((c.n : Nat) : Int) | 4 => .slice (some ⟨pg, 0, none⟩) c.n pk | 5 => .string (strN c.p c.n) | 6 => .pointer (some ⟨c.J, 2, none⟩) | 7 => .slice c.pa c.n c.pc | 8 => .string (strN c.p c.n) | 9 => .bool true | 10 => .bool true | 11 => .slice (some ⟨pg, 0, none⟩) (c.n + 2) pk | 12 => .pointer (some ⟨c.J, 2, none⟩) | 13 => .slice c.pa c.n c.pc | 14 => .int .i64 ((c.n : Nat) : Int) | 15 => .pointer (some ⟨pg, c.n, none⟩) | 16 => .int .u8 165 | 17 => .bool true | 18 => .bool true | 19 => .bool true | 20 => .slice ra_ MA rc_ | 21 => .string (strN cw MA) | 22 => fv | 23 => .string (strN cw MA) | 24 => .bool true | 25 => .bool true | 26 => .bool true | _ => undef) (fun _ X => Below W.heap.size W X) (by kernel_rfl) (by kernel_rfl) A.sz (by kernel_rfl) (by decide) (by decide) (Below.refl _ _).drew ?_ ?_
      · intro i_ hi_ l a X hl hf hdep hl2 hcl _ hT
        match i_, hi_ with
        | 0, _ => exact stepV rfl rfl (execMvB rfl ((hf 11 (by decide)).trans t11)) ⟨⟨_, rfl, rfl⟩, hT⟩
        | 1, _ => exact stepV rfl rfl (execFC (k := 2) (f := 2) (by simp) rfl ((hf 2 (by decide)).trans A.t2)) ⟨⟨_, rfl, rfl⟩, hT⟩
        | 2, _ => exact stepV rfl rfl (execLdL rfl (hdep _ rfl 1 rfl _ rfl _ rfl) (hC_at (F.jobW (bel1 _ (BW.trans (hT.mono BW.size))))).2.2) ⟨⟨_, rfl, rfl⟩, hT⟩
        | 3, _ => exact stepV rfl rfl (execLenV (len := c.n) rfl (hdep _ rfl 2 rfl _ rfl _ rfl) ⟨_, _, rfl⟩) ⟨⟨_, rfl, rfl⟩, hT⟩
        | 4, _ => exact stepV rfl rfl (By8.execSlH rfl (hdep _ rfl 0 rfl _ rfl _ rfl) (hdep _ rfl 3 rfl _ rfl _ rfl) (sl_h8 pg (c.n + 2) pk c.n (by omega) X)) ⟨⟨_, rfl, rfl⟩, hT⟩
        | 5, _ => exact stepV rfl rfl (By8.execStr rfl (hdep _ rfl 4 rfl _ rfl _ rfl) (pS _ (BW.trans (hT.mono BW.size)))) ⟨⟨_, rfl, rfl⟩, hT⟩
        | 6, _ => exact stepV rfl rfl (execFC (k := 2) (f := 2) (by simp) rfl ((hf 2 (by decide)).trans A.t2)) ⟨⟨_, rfl, rfl⟩, hT⟩
        | 7, _ => exact stepV rfl rfl (execLdL rfl (hdep _ rfl 6 rfl _ rfl _ rfl) (hC_at (F.jobW (bel1 _ (BW.trans (hT.mono BW.size))))).2.2) ⟨⟨_, rfl, rfl⟩, hT⟩
        | 8, _ => exact stepV rfl rfl (By8.execStr rfl (hdep _ rfl 7 rfl _ rfl _ rfl) (F.pay.sl.on (F.belW (bel1 _ (BW.trans (hT.mono BW.size)))))) ⟨⟨_, rfl, rfl⟩, hT⟩
        | 9, _ => exact stepV rfl rfl (By8.execEqlS rfl (hdep _ rfl 5 rfl _ rfl _ rfl) (hdep _ rfl 8 rfl _ rfl _ rfl)) ⟨⟨_, rfl, rfl⟩, hT⟩
        | 10, _ => exact stepV rfl rfl (execMvB rfl (hdep _ rfl 9 rfl _ rfl _ rfl)) ⟨⟨_, rfl, rfl⟩, hT⟩
        | 11, _ => exact stepV rfl (wantedOf rfl (yieldedAt rfl rfl (show a.eval (.tmp 359) = .bool true from (hdep _ rfl 10 rfl _ rfl _ rfl)))) (execMvB rfl ((hf 11 (by decide)).trans t11)) ⟨⟨_, rfl, rfl⟩, hT⟩
        | 12, _ => exact stepV rfl (wantedOf rfl (yieldedAt rfl rfl (show a.eval (.tmp 359) = .bool true from (hdep _ rfl 10 rfl _ rfl _ rfl)))) (execFC (k := 2) (f := 2) (by simp) rfl ((hf 2 (by decide)).trans A.t2)) ⟨⟨_, rfl, rfl⟩, hT⟩
        | 13, _ => exact stepV rfl (wantedOf rfl (yieldedAt rfl rfl (show a.eval (.tmp 359) = .bool true from (hdep _ rfl 10 rfl _ rfl _ rfl)))) (execLdL rfl (hdep _ rfl 12 rfl _ rfl _ rfl) (hC_at (F.jobW (bel1 _ (BW.trans (hT.mono BW.size))))).2.2) ⟨⟨_, rfl, rfl⟩, hT⟩
        | 14, _ => exact stepV rfl (wantedOf rfl (yieldedAt rfl rfl (show a.eval (.tmp 359) = .bool true from (hdep _ rfl 10 rfl _ rfl _ rfl)))) (execLenV (len := c.n) rfl (hdep _ rfl 13 rfl _ rfl _ rfl) ⟨_, _, rfl⟩) ⟨⟨_, rfl, rfl⟩, hT⟩
        | 15, _ => exact stepV rfl (wantedOf rfl (yieldedAt rfl rfl (show a.eval (.tmp 359) = .bool true from (hdep _ rfl 10 rfl _ rfl _ rfl)))) (execIdxS0 (k := c.n) rfl (hdep _ rfl 11 rfl _ rfl _ rfl) (hdep _ rfl 14 rfl _ rfl _ rfl) (by omega)) ⟨⟨_, rfl, rfl⟩, hT⟩
        | 16, _ => exact stepV rfl (wantedOf rfl (yieldedAt rfl rfl (show a.eval (.tmp 359) = .bool true from (hdep _ rfl 10 rfl _ rfl _ rfl)))) (execLdB rfl (hdep _ rfl 15 rfl _ rfl _ rfl) (pB _ (BW.trans (hT.mono BW.size)))) ⟨⟨_, rfl, rfl⟩, hT⟩
        | 17, _ => exact stepV rfl (wantedOf rfl (yieldedAt rfl rfl (show a.eval (.tmp 359) = .bool true from (hdep _ rfl 10 rfl _ rfl _ rfl)))) (execEqlU8 (p := 165) rfl (hdep _ rfl 16 rfl _ rfl _ rfl) rfl) ⟨⟨_, rfl, rfl⟩, hT⟩
        | 18, _ => exact stepV rfl rfl (execPick (b := true) rfl (hdep _ rfl 10 rfl _ rfl _ rfl) (hdep _ rfl 17 rfl _ rfl _ rfl)) ⟨⟨_, rfl, rfl⟩, hT⟩
        | 19, _ => exact stepV rfl rfl (execMvB rfl (hdep _ rfl 18 rfl _ rfl _ rfl)) ⟨⟨_, rfl, rfl⟩, hT⟩
        | 20, _ => exact stepV rfl (wantedOf rfl (yieldedAt rfl rfl (show a.eval (.tmp 368) = .bool true from (hdep _ rfl 19 rfl _ rfl _ rfl)))) (execMvB rfl ((hf 39 (by decide)).trans t39)) ⟨⟨_, rfl, rfl⟩, hT⟩
        | 21, _ => exact stepV rfl (wantedOf rfl (yieldedAt rfl rfl (show a.eval (.tmp 368) = .bool true from (hdep _ rfl 19 rfl _ rfl _ rfl)))) (By8.execStr rfl (hdep _ rfl 20 rfl _ rfl _ rfl) (SR.on hT)) ⟨⟨_, rfl, rfl⟩, hT⟩
        | 22, _ => exact stepV rfl (wantedOf rfl (yieldedAt rfl rfl (show a.eval (.tmp 368) = .bool true from (hdep _ rfl 19 rfl _ rfl _ rfl)))) (execMvB rfl ((hf 27 (by decide)).trans t27)) ⟨⟨_, rfl, rfl⟩, hT⟩
        | 23, _ => exact stepV rfl (wantedOf rfl (yieldedAt rfl rfl (show a.eval (.tmp 368) = .bool true from (hdep _ rfl 19 rfl _ rfl _ rfl)))) (By8.execStr rfl (hdep _ rfl 22 rfl _ rfl _ rfl) (SF.on (BW.trans (hT.mono BW.size)))) ⟨⟨_, rfl, rfl⟩, hT⟩
        | 24, _ => exact stepV rfl (wantedOf rfl (yieldedAt rfl rfl (show a.eval (.tmp 368) = .bool true from (hdep _ rfl 19 rfl _ rfl _ rfl)))) (By8.execEqlS rfl (hdep _ rfl 21 rfl _ rfl _ rfl) (hdep _ rfl 23 rfl _ rfl _ rfl)) ⟨⟨_, rfl, rfl⟩, hT⟩
        | 25, _ => exact stepV rfl rfl (execPick (b := true) rfl (hdep _ rfl 19 rfl _ rfl _ rfl) (hdep _ rfl 24 rfl _ rfl _ rfl)) ⟨⟨_, rfl, rfl⟩, hT⟩
        | 26, _ => exact stepV rfl rfl (execAsgB rfl (hdep _ rfl 25 rfl _ rfl _ rfl)) ⟨⟨_, rfl, rfl⟩, hT⟩
        | k_ + 27, h_ => exact absurd h_ (by simp)
      intro l a X h1 h2 h3 h4 hall hT
      have t4 : a.eval (.tmp 4) = .bool true := h4 (26, 4) (by decide)
      have A := A.keep h1 h2 h3 (by decide)
      clear h1 h2 h3 h4
      clear hall
      refine wp_ret ?_
      refine bodyPost_ret (results_tmp rfl _ _ _) A.df ⟨?_, F.belW (bel1 _ (BW.trans (hT.mono BW.size)))⟩
      show Ending.returned (a.eval (.tmp 4)) = _
      rw [t4]
end Go.Proofs.YtcffmmeafnapiaaDoor.Rou
