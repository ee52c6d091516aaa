import Derived.Test.YtcffmmeafnapiaaDoorB8e
namespace Go.Proofs.YtcffmmeafnapiaaDoor.Rou
open Go.RowKit Gf8 Aes By8 Cel Oni
/- RouteKeeps: the lists as a family. Written by tools/mkB8f.py. -/

/-- The lists, and the first cell kept behind them. -/
structure LS (W0 W : World) (MA : Nat) (cw : Nat → Nat) (m : Nat) (X : Nat → Value) (nn : Nat → Nat) (ff : Nat → Nat → Nat) (u : Value) : Prop where
  fam : Fam W0.heap.size (m + 1) X nn ff W
  row : W.ownsRow W0.heap.size 22 1 u m (lL X m)
  bel : Below W0.heap.size W0 W
  len : ∀ t, t < m → nn t ≤ 400
  fst : nn m = MA ∧ ∀ l, l < MA → ff m l = cw l
  m20 : 1 ≤ m ∧ m ≤ 20
/-- Where the lists' t-th was made. -/
def piL (N t : Nat) : Nat := if t < 2 then t else if t < 2 + 2 * N then (if t % 2 = 0 then 2 + (t - 2) / 2 else 2 + N + (t - 3) / 2) else t
theorem piL_lt {N k t : Nat} (ht : t < 2 + 2 * N + k) : piL N t < 2 + N + N + k := by
  unfold piL
  split
  · omega
  · split
    · split <;> omega
    · omega
theorem piL_inj {N s t : Nat} (h : s ≠ t) : piL N s ≠ piL N t := by
  unfold piL
  repeat' split
  all_goals omega
theorem piL_out {N t : Nat} (h : 2 + 2 * N ≤ t) : piL N t = t := by
  unfold piL
  rw [if_neg (by omega), if_neg (by omega)]
/-- The four first groups in the order in which they were made. -/
def gX4 (a b : Value) (cl cm : Nat → Value) (N : Nat) : Nat → Value := fun t => if t < 1 + 1 + N then (if t < 1 + 1 then (if t < 1 then a else b) else cl (t - (1 + 1))) else cm (t - (1 + 1 + N))
theorem gX4_pi (a b : Value) (cl cm : Nat → Value) {N t : Nat} (ht : t < 2 + 2 * N) : gX4 a b cl cm N (piL N t) = lX a b cl cm t := by
  unfold gX4 piL lX
  by_cases h0 : t = 0
  · subst h0; simp
  · by_cases h1 : t = 1
    · subst h1
      rw [if_pos (show (1 : Nat) < 2 by omega), if_pos (by omega), if_pos (by omega), if_neg (by omega), if_neg (by omega), if_pos rfl]
    · rw [if_neg (show ¬ t < 2 by omega), if_pos ht, if_neg h0, if_neg h1]
      by_cases h2 : t % 2 = 0
      · rw [if_pos h2, if_pos h2, if_pos (by omega), if_neg (by omega)]
        congr 1
        omega
      · rw [if_neg h2, if_neg h2, if_neg (by omega)]
        congr 1
        omega
theorem fam4 {W0 Wl : World} {MA NW : Nat} {cw : Nat → Nat} {wr_ cc : Nat → Nat → Nat} {a b lv mv : Value} {cl cm : Nat → Value} {b1 b2 b3 b4 : Nat} (L : LQ W0 Wl MA NW cw wr_ cc a b lv mv cl cm b1 b2 b3 b4) (hMA : MA ≤ 320) :
    (∃ nn ff, Fam W0.heap.size (1 + 1 + NW + NW) (gX4 a b cl cm NW) nn ff Wl ∧ ∀ t, nn t ≤ 400) ∧ ∀ t, t < 1 + 1 + NW + NW → ∀ q, (gX4 a b cl cm NW t).ownBlock = some q → q < b4 := by
  obtain ⟨l1, l2, l3, l4, _⟩ := L.le
  have f1 := fam_cat (fam_one L.oa) (fam_one L.ob) (fun t ht q hq => L.ha q hq) l1
  have f2 := fam_cat f1 (fam_way L.wl) (fun t ht q hq => by
    by_cases e : t < 1
    · simp only [if_pos e] at hq; have := L.ha q hq; omega
    · simp only [if_neg e] at hq; exact L.hb q hq) (by omega)
  have f3 := fam_cat f2 (fam_way L.wm) (fun t ht q hq => by
    by_cases e : t < 1 + 1
    · simp only [if_pos e] at hq
      by_cases e2 : t < 1
      · simp only [if_pos e2] at hq; have := L.ha q hq; omega
      · simp only [if_neg e2] at hq; have := L.hb q hq; omega
    · simp only [if_neg e] at hq; exact L.hl (t - (1 + 1)) (by omega) q hq) (by omega)
  refine ⟨⟨_, _, f3, fun t => ?_⟩, fun t ht q hq => ?_⟩
  · show (if t < 1 + 1 + NW then (if t < 1 + 1 then (if t < 1 then MA else MA) else 320) else 320) ≤ 400
    split
    · split
      · split <;> omega
      · omega
    · omega
  · unfold gX4 at hq
    by_cases e0 : t < 1 + 1 + NW
    · rw [if_pos e0] at hq
      by_cases e : t < 1 + 1
      · rw [if_pos e] at hq
        by_cases e2 : t < 1
        · rw [if_pos e2] at hq; have := L.ha q hq; omega
        · rw [if_neg e2] at hq; have := L.hb q hq; omega
      · rw [if_neg e] at hq; have := L.hl (t - (1 + 1)) (by omega) q hq; omega
    · rw [if_neg e0] at hq; exact L.hm (t - (1 + 1 + NW)) (by omega) q hq
theorem cat_lt {m b b' : Nat} {x : Nat → Value} {v : Value} (h : ∀ t, t < m → ∀ q, (x t).ownBlock = some q → q < b) (hv : ∀ q, v.ownBlock = some q → q < b') (hb : b ≤ b') : ∀ t, t < m + 1 → ∀ q, ((fun t => if t < m then x t else v) t).ownBlock = some q → q < b' := by
  intro t ht q hq
  by_cases e : t < m
  · simp only [if_pos e] at hq; have := h t e q hq; omega
  · simp only [if_neg e] at hq; exact hv q hq
theorem ls_none {W0 Wl W : World} {MA NW : Nat} {cw : Nat → Nat} {wr_ cc : Nat → Nat → Nat} {a b lv mv : Value} {cl cm : Nat → Value} {b1 b2 b3 b4 B : Nat} (L : LQ W0 Wl MA NW cw wr_ cc a b lv mv cl cm b1 b2 b3 b4) (hMA : MA ≤ 320) (hN : NW ≤ 8) (hb : Below Wl.heap.size Wl W) {u fv : Value} (hB : Wl.heap.size ≤ B) (hu : W.ownsRow Wl.heap.size 22 1 u (2 + 2 * NW) (lL (lX a b cl cm) (2 + 2 * NW))) (hf : W.ownsRow B 5 1 fv MA (bytesL MA cw)) :
    ∃ X nn ff, LS W0 W MA cw (2 + 2 * NW) X nn ff u ∧ X (2 + 2 * NW) = fv := by
  obtain ⟨⟨nn, ff, f4, hn⟩, lt4⟩ := fam4 L hMA
  obtain ⟨l1, l2, l3, l4, l5⟩ := L.le
  have f5 := fam_cat (f4.on hb) (fam_one hf) (fun t ht q hq => by have := lt4 t ht q hq; omega) (by omega)
  have f6 := fam_perm (k := 2 + 2 * NW + 1) f5 (piL NW) (fun t ht => by have := piL_lt (N := NW) ht; omega) (fun s t _ _ hst => piL_inj hst)
  have out : ¬ piL NW (2 + 2 * NW) < 1 + 1 + NW + NW := by rw [piL_out (Nat.le_refl _)]; omega
  refine ⟨_, _, _, ⟨f6, ?_, (L.on hb).bel, fun t ht => ?_, ⟨?_, fun l hl => ?_⟩, by omega, by omega⟩, ?_⟩
  · rw [lL_congr (2 + 2 * NW) (y := lX a b cl cm) fun t ht => ?_]
    · exact ownW_base hu (by omega)
    · have := piL_lt (N := NW) (k := 0) (t := t) (by omega)
      rw [if_pos (by omega)]
      exact gX4_pi a b cl cm ht
  · have := piL_lt (N := NW) (k := 0) (t := t) (by omega)
    show (if piL NW t < 1 + 1 + NW + NW then nn (piL NW t) else MA) ≤ 400
    split
    · exact hn _
    · omega
  · rw [if_neg out]
  · rw [if_neg out]
  · rw [if_neg out]
theorem ls_two {W0 Wl W : World} {MA NW KN : Nat} {cw kf : Nat → Nat} {wr_ cc : Nat → Nat → Nat} {a b lv mv : Value} {cl cm : Nat → Value} {b1 b2 b3 b4 b5 b6 b7 B : Nat} (L : LQ W0 Wl MA NW cw wr_ cc a b lv mv cl cm b1 b2 b3 b4) (hMA : MA ≤ 320) (hN : NW ≤ 8) (hK : KN ≤ 32) (hb : Below Wl.heap.size Wl W) {u fv xv yv : Value} (h5 : Wl.heap.size ≤ b5) (h6 : b5 ≤ b6) (h7 : b6 ≤ b7) (hB : b7 ≤ B) (hx : W.ownsRow b5 5 1 xv KN (bytesL KN kf)) (hy : W.ownsRow b6 5 1 yv KN (bytesL KN kf)) (lx : ∀ q, xv.ownBlock = some q → q < b6) (ly : ∀ q, yv.ownBlock = some q → q < b7) (hu : W.ownsRow Wl.heap.size 22 1 u (2 + 2 * NW + 2) (lL (lX a b cl cm) (2 + 2 * NW) ++ [xv, yv])) (hf : W.ownsRow B 5 1 fv MA (bytesL MA cw)) :
    ∃ X nn ff, LS W0 W MA cw (2 + 2 * NW + 2) X nn ff u ∧ X (2 + 2 * NW + 2) = fv := by
  obtain ⟨⟨nn, ff, f4, hn⟩, lt4⟩ := fam4 L hMA
  obtain ⟨l1, l2, l3, l4, l5⟩ := L.le
  have f5 := fam_cat (f4.on hb) (fam_one hx) (fun t ht q hq => by have := lt4 t ht q hq; omega) (by omega)
  have lt5 := cat_lt (b := b4) (b' := b6) lt4 lx (by omega)
  have f6 := fam_cat f5 (fam_one hy) lt5 (by omega)
  have lt6 := cat_lt (b := b6) (b' := b7) lt5 ly (by omega)
  have f7 := fam_cat f6 (fam_one hf) (fun t ht q hq => by have := lt6 t ht q hq; omega) (by omega)
  have f8 := fam_perm (k := 2 + 2 * NW + 2 + 1) f7 (piL NW) (fun t ht => by have := piL_lt (N := NW) (k := 3) (t := t) (by omega); omega) (fun s t _ _ hst => piL_inj hst)
  have e0 : piL NW (2 + 2 * NW) = 2 + 2 * NW := piL_out (by omega)
  have e1 : piL NW (2 + 2 * NW + 1) = 2 + 2 * NW + 1 := piL_out (by omega)
  have e2 : piL NW (2 + 2 * NW + 2) = 2 + 2 * NW + 2 := piL_out (by omega)
  have out : ¬ piL NW (2 + 2 * NW + 2) < 1 + 1 + NW + NW + 1 + 1 := by rw [e2]; omega
  refine ⟨_, _, _, ⟨f8, ?_, (L.on hb).bel, fun t ht => ?_, ⟨?_, fun l hl => ?_⟩, by omega, by omega⟩, ?_⟩
  · have e : ∀ {x : Nat → Value}, (∀ t, t < 2 + 2 * NW → x t = lX a b cl cm t) → x (2 + 2 * NW) = xv → x (2 + 2 * NW + 1) = yv → lL x (2 + 2 * NW + 2) = lL (lX a b cl cm) (2 + 2 * NW) ++ [xv, yv] := fun {x} g1 g2 g3 => by
      show lL x (2 + 2 * NW) ++ [x (2 + 2 * NW)] ++ [x (2 + 2 * NW + 1)] = _
      rw [lL_congr (2 + 2 * NW) g1, g2, g3]
      simp
    refine Eq.mpr (congrArg (fun l => W.ownsRow W0.heap.size 22 1 u (2 + 2 * NW + 2) l) (e (fun t ht => ?_) ?_ ?_)) (ownW_base hu (by omega))
    · have := piL_lt (N := NW) (k := 0) (t := t) (by omega)
      rw [if_pos (by omega), if_pos (by omega), if_pos (by omega)]
      exact gX4_pi a b cl cm ht
    · rw [e0, if_pos (by omega), if_pos (by omega), if_neg (by omega)]
    · rw [e1, if_pos (by omega), if_neg (by omega)]
  · show (if piL NW t < 1 + 1 + NW + NW + 1 + 1 then (if piL NW t < 1 + 1 + NW + NW + 1 then (if piL NW t < 1 + 1 + NW + NW then nn (piL NW t) else KN) else KN) else MA) ≤ 400
    split
    · split
      · split
        · exact hn _
        · omega
      · omega
    · omega
  · rw [if_neg out]
  · rw [if_neg out]
  · rw [if_neg out]
set_option maxRecDepth 100000 in
set_option maxHeartbeats 4000000 in
theorem keeps39 (c : RX) (V : World) (W0 : World) (u6 nv : Value) (pg pk : Nat) (cw : Nat → Nat) (MA NW KN : Nat) (wr_ cc : Nat → Nat → Nat) (kf : Nat → Nat) (hNW : NW ≤ 8) (hMA : MA ≤ 320) (hKN : KN ≤ 32) (hcw : ∀ j, j < MA → cw j < 256)
    (aa ba la ma : Option Addr) (ac bc lc mc : Nat) (cl cm : Nat → Value) (b1 b2 b3 b4 : Nat)
    (h : ∀ (a : Act) (W : World) (m : Nat) (X : Nat → Value) (nn : Nat → Nat) (ff : Nat → Nat → Nat) (u : Value), RA c a → LS W0 W MA cw m X nn ff u → a.eval (.tmp 6) = u6 → a.eval (.tmp 10) = nv → a.eval (.tmp 11) = .slice (some ⟨pg, 0, none⟩) (c.n + 2) pk → a.eval (.tmp 21) = u → a.eval (.tmp 27) = X m → (fromR 40 (Tryd.f7.body.getD .skip)).wp Tryd.prog (bodyPost Tryd.prog Tryd.f7 fun e w' => e = .returned (.bool true) ∧ Below V.heap.size V w') a W)
    (a : Act) (W Wl : World) (u : Value) (zs : List (Value × Nat)) (A : RA c a) (L : LQ W0 Wl MA NW cw wr_ cc (.slice aa MA ac) (.slice ba MA bc) (.slice la NW lc) (.slice ma NW mc) cl cm b1 b2 b3 b4) (BW : Below Wl.heap.size Wl W) (OU : W.ownsRow Wl.heap.size 22 1 u (2 + 2 * NW + zs.length) (lL (lX (.slice aa MA ac) (.slice ba MA bc) cl cm) (2 + 2 * NW) ++ zs.map (·.1)))
    (hz : (zs = [] ∧ True) ∨ ∃ xv yv b5 b6 b7, zs = [(xv, KN), (yv, KN)] ∧ Wl.heap.size ≤ b5 ∧ b5 ≤ b6 ∧ b6 ≤ b7 ∧ b7 ≤ W.heap.size ∧ W.ownsRow b5 5 1 xv KN (bytesL KN kf) ∧ W.ownsRow b6 5 1 yv KN (bytesL KN kf) ∧ (∀ q, xv.ownBlock = some q → q < b6) ∧ (∀ q, yv.ownBlock = some q → q < b7))
    (t6 : a.eval (.tmp 6) = u6) (t10 : a.eval (.tmp 10) = nv) (t11 : a.eval (.tmp 11) = .slice (some ⟨pg, 0, none⟩) (c.n + 2) pk) (t12 : a.eval (.tmp 12) = .slice aa MA ac) (t21 : a.eval (.tmp 21) = u) : (fromR 39 (Tryd.f7.body.getD .skip)).wp Tryd.prog (bodyPost Tryd.prog Tryd.f7 fun e w' => e = .returned (.bool true) ∧ Below V.heap.size V w') a W := by
  have ZA := own_sliceZ (L.on BW).oa hcw
  have SA := ZA.sl
  have nA := ZA.nil
  refine wp_seq ?_
  refine wp_region_sq (σ := Nat × Value) 375 [(0, 217), (1, 218), (2, 219), (3, 27)] (fun j_ s X => Below W.heap.size W X ∧ (match j_ with | 0 => True | 1 => X.ownsRow W.heap.size 5 1 (.slice (some ⟨s.1, 0, none⟩) 0 0) 0 (bytesL 0 cw) | 2 => X.ownsRow W.heap.size 5 1 (.slice (some ⟨s.1, 0, none⟩) 0 0) 0 (bytesL 0 cw) | 3 => X.ownsRow W.heap.size 5 1 s.2 MA (bytesL MA cw) | _ => X.ownsRow W.heap.size 5 1 s.2 MA (bytesL MA cw))) (fun s => fun i_ => match i_ with | 0 => .slice (some ⟨s.1, 0, none⟩) 0 0 | 1 => .slice aa MA ac | 2 => s.2 | 3 => s.2 | _ => undef) (0, undef) A.sz (by kernel_rfl) (by decide) (by decide) ⟨Below.refl _ _, trivial⟩ ?_ ?_
  · intro i_ hi_ s a X hf hv hn hS
    match i_, hi_ with
    | 0, _ =>
      exact stepV rfl rfl (execBs0 rfl) ⟨(X.heap.size, s.2), ⟨_, rfl, rfl⟩, ⟨hS.1.trans ((belNew X _).mono hS.1.size), own_base (own_none X cw) hS.1.size⟩, fun i hi => by omega⟩
    | 1, _ => exact stepV rfl rfl (execMvB rfl ((hf 12 (by decide)).trans t12)) ⟨s, ⟨_, rfl, rfl⟩, hS, fun _ _ => rfl⟩
    | 2, _ =>
      refine stepAppN (p := cw) rfl rfl rfl (hv 0 (by omega) _ rfl _ rfl) (hv 1 (by omega) _ rfl _ rfl) hS.2 (sliceN_cg (SA.on hS.1) fun j hj => by rw [Nat.zero_add]) nA (by have := hMA; omega) hS.1.size fun v' W' own' gr => ⟨(s.1, v'), ⟨_, rfl, rfl⟩, ⟨hS.1.grown gr hS.1.size (fun k hk => (hS.2.lt k hk).1), by rw [Nat.zero_add] at own'; exact own'⟩, fun i hi => ?_⟩
      match i, hi with
      | 0, _ => rfl
      | 1, _ => rfl
      | n_ + 2, h_ => omega
    | 3, _ => exact stepV rfl rfl (execAsgB rfl (hv 2 (by omega) _ rfl _ rfl)) ⟨s, ⟨_, rfl, rfl⟩, hS, fun _ _ => rfl⟩
    | k_ + 4, h_ => exact absurd h_ (by simp)
  intro s a X h1 h2 h3 h4 hS
  have hS : Below W.heap.size W X ∧ (X.ownsRow W.heap.size 5 1 s.2 MA (bytesL MA cw)) := hS
  have t6 := (h3 6 (by decide)).trans t6
  have t10 := (h3 10 (by decide)).trans t10
  have t11 := (h3 11 (by decide)).trans t11
  have t21 := (h3 21 (by decide)).trans t21
  have t27 : a.eval (.tmp 27) = s.2 := h4 3 _ rfl _ rfl
  have A := A.keep h1 h2 h3 (by decide)
  clear h1 h2 h3 h4
  obtain ⟨g39, fv⟩ := s
  have t27 : a.eval (.tmp 27) = fv := t27
  obtain ⟨bX, ownF⟩ := hS
  have ownF : X.ownsRow W.heap.size 5 1 fv MA (bytesL MA cw) := ownF
  have BX := BW.trans (bX.mono BW.size)
  rcases hz with ⟨rfl, _⟩ | ⟨xv, yv, b5, b6, b7, rfl, h5, h6, h7, h8, ox, oy, lx, ly⟩
  · obtain ⟨X_, nn, ff, ls, e⟩ := ls_none L hMA hNW BX BW.size (by simpa using ownW_below OU bX) ownF
    exact h a X _ X_ nn ff u A ls t6 t10 t11 t21 (by rw [e]; exact t27)
  · obtain ⟨X_, nn, ff, ls, e⟩ := ls_two L hMA hNW hKN BX h5 h6 h7 h8 (ownsRow_below ox bX) (ownsRow_below oy bX) lx ly (ownW_below OU bX) ownF
    exact h a X _ X_ nn ff u A ls t6 t10 t11 t21 (by rw [e]; exact t27)
end Go.Proofs.YtcffmmeafnapiaaDoor.Rou

namespace Go.Proofs.YtcffmmeafnapiaaDoor.Rou
open Go.RowKit Gf8 Aes By8 Cel Oni
/- RouteKeeps: the lists are marked. Written by tools/mkB8g.py. -/

theorem own_set8 {W : World} {B n g cap m : Nat} {p : Nat → Nat} (z : Nat) (h : W.ownsRow B 5 1 (.slice (some ⟨g, 0, none⟩) n cap) n (bytesL n p)) :
    (W.setCell ⟨g, m, none⟩ (.int .u8 z)).ownsRow B 5 1 (.slice (some ⟨g, 0, none⟩) n cap) n (bytesL n fun j => if j = m then z else p j) := by
  obtain ⟨h0, h1⟩ := h
  rcases h1 with ⟨e, _⟩ | ⟨g', cap', cur, e, hB, hg, hnc, hcm, hcs, ht⟩
  · cases e
  · injection e with e1 _ e3
    injection e1 with e1
    injection e1 with e1 _ _
    subst e1 e3
    refine ⟨by rw [bytesL_len]; omega, .inr ⟨g, cap, cur.setIfInBounds m (.int .u8 z), rfl, hB, ?_, hnc, hcm, by simpa using hcs, ?_⟩⟩
    · rw [setCell_eq_setRow W g m cur 5 _ _ hg]; exact setRow_heap _ _ _ _ _ _ hg
    · have key : ∀ j, j < n → cur.toList[j]? = some (.int .u8 (p j)) := fun j hj => by
        have e := congrArg (fun l => l[j]?) ht
        simp only [bytesL_at n p hj] at e
        rw [List.getElem?_take, if_pos (by omega)] at e
        exact e
      apply List.ext_getElem?
      intro j
      by_cases hj : j < n
      · rw [bytesL_at n _ hj, List.getElem?_take, if_pos (by omega), Array.toList_setIfInBounds, List.getElem?_set]
        by_cases hjm : m = j
        · subst hjm
          have lc := (List.getElem?_eq_some_iff.1 (key m hj)).1
          rw [if_pos rfl, if_pos (by omega), if_pos rfl]
        · rw [if_neg hjm, key j hj, if_neg (fun e => hjm e.symm)]
      · rw [List.getElem?_eq_none (by rw [List.length_take]; omega), List.getElem?_eq_none (by rw [bytesL_len]; omega)]
theorem fam_set8 {B m g cap j : Nat} {x : Nat → Value} {nn : Nat → Nat} {ff : Nat → Nat → Nat} {W : World} (h : Fam B m x nn ff W) {i : Nat} (hi : i < m) (hx : x i = .slice (some ⟨g, 0, none⟩) (nn i) cap) (z : Nat) :
    Fam B m x nn (fun t => if t = i then (fun l => if l = j then z else ff i l) else ff t) (W.setCell ⟨g, j, none⟩ (.int .u8 z)) := by
  have hr := h.rows i hi
  rw [hx] at hr
  obtain ⟨c, hc⟩ := own_type hr (k := g) rfl
  refine ⟨fun t ht => ?_, h.dis⟩
  by_cases e : t = i
  · subst e
    simp only [if_true]
    rw [hx]
    exact own_set8 z hr
  · simp only [if_neg e]
    exact own_stays (h.rows t ht) hc (fun q => h.dis t i ht hi e g q (by rw [hx]; rfl))
theorem fam_cg8 {B m : Nat} {x : Nat → Value} {nn : Nat → Nat} {ff gg : Nat → Nat → Nat} {W : World} (h : Fam B m x nn ff W) (e : ∀ t, t < m → ∀ l, l < nn t → ff t l = gg t l) : Fam B m x nn gg W :=
  ⟨fun t ht => by have h2 := h.rows t ht; rw [bytesL_congr (e t ht)] at h2; exact h2, h.dis⟩
theorem own_at8 {W : World} {B n g cap j : Nat} {p : Nat → Nat} (h : W.ownsRow B 5 1 (.slice (some ⟨g, 0, none⟩) n cap) n (bytesL n p)) (hj : j < n) : W.cell? ⟨g, j, none⟩ = some (.int .u8 (p j)) := by
  obtain ⟨g', cap', e, _, _, hc⟩ := own_cells h (by omega)
  injection e with e1 _ _
  injection e1 with e1
  injection e1 with e1 _ _
  subst e1
  exact hc j hj
/-- A row of another kind stays when a byte is set. -/
theorem ownW_setCell {W : World} {B n s g k : Nat} {t : TypeId} {v z : Value} {xs : List Value} {c : Array Value} (h : W.ownsRow B t s v n xs) (hg : W.heap[g]? = some (.cells c 5)) (ht : t ≠ 5) : (W.setCell ⟨g, k, none⟩ z).ownsRow B t s v n xs := by
  refine ⟨h.1, ?_⟩
  rcases h.2 with h | ⟨r, cap, cur, e, hB, hgr, h1⟩
  · exact Or.inl h
  · refine Or.inr ⟨r, cap, cur, e, hB, ?_, h1⟩
    have ne : r ≠ g := fun e => by
      rw [e, hg] at hgr
      injection hgr with hgr
      injection hgr with _ e5
      exact ht e5.symm
    rw [setCell_eq_setRow W g k c 5 _ _ hg, setRow_other _ _ _ _ ne]
    exact hgr
theorem LS.cg {W0 W : World} {MA : Nat} {cw : Nat → Nat} {m : Nat} {X : Nat → Value} {nn : Nat → Nat} {ff gg : Nat → Nat → Nat} {u : Value} (h : LS W0 W MA cw m X nn ff u) (e : ∀ t, t < m + 1 → ∀ l, l < nn t → ff t l = gg t l) : LS W0 W MA cw m X nn gg u :=
  ⟨fam_cg8 h.fam e, h.row, h.bel, h.len, ⟨h.fst.1, fun l hl => by rw [← e m (by omega) l (by rw [h.fst.1]; exact hl)]; exact h.fst.2 l hl⟩, h.m20⟩
theorem LS.set {W0 W : World} {MA : Nat} {cw : Nat → Nat} {m : Nat} {X : Nat → Value} {nn : Nat → Nat} {ff : Nat → Nat → Nat} {u : Value} (h : LS W0 W MA cw m X nn ff u) {i g cap j : Nat} (hi : i < m) (hx : X i = .slice (some ⟨g, 0, none⟩) (nn i) cap) (z : Nat) : LS W0 (W.setCell ⟨g, j, none⟩ (.int .u8 z)) MA cw m X nn (fun t => if t = i then (fun l => if l = j then z else ff i l) else ff t) u := by
  have hr := h.fam.rows i (by omega)
  rw [hx] at hr
  obtain ⟨cu, hcu⟩ := own_type hr (k := g) rfl
  have hB : W0.heap.size ≤ g := (hr.lt g rfl).1
  refine ⟨fam_set8 h.fam (by omega) hx z, ownW_setCell h.row hcu (by decide), h.bel.setCell (p := ⟨g, j, none⟩) hB _, h.len, ⟨h.fst.1, fun l hl => ?_⟩, h.m20⟩
  rw [if_neg (by omega)]
  exact h.fst.2 l hl
theorem LS.cell {W0 W : World} {MA : Nat} {cw : Nat → Nat} {m ug uc : Nat} {X : Nat → Value} {nn : Nat → Nat} {ff : Nat → Nat → Nat} (h : LS W0 W MA cw m X nn ff (.slice (some ⟨ug, 0, none⟩) m uc)) {i : Nat} (hi : i < m) : W.cell? ⟨ug, 0 + i, none⟩ = some (X i) := by
  rcases h.row.2 with ⟨e, _⟩ | ⟨g, cap, cur, e, _, hg, h1, h2, h3, h4⟩
  · cases e
  · injection e with e1 _ _
    injection e1 with e1
    injection e1 with e1 _ _
    subst e1
    rw [cell_of_row _ _ _ _ _ _ hg, Nat.zero_add, ← Array.getElem?_toList]
    have := lL_get X m i hi
    rw [← h4, List.getElem?_take, if_pos (by omega)] at this
    exact this
/-- The lists ahead of the i-th are marked, and the i-th up to k. -/
def mG (ff : Nat → Nat → Nat) (i k t : Nat) : Nat → Nat := fun l => if t < i ∨ (t = i ∧ l < k) then t + 1 else ff t l
theorem mG_set {ff : Nat → Nat → Nat} {i k : Nat} (hi : i < 20) (t l : Nat) : (if t = i then (fun l => if l = k then (i + 1) % 256 else mG ff i k i l) else mG ff i k t) l = mG ff i (k + 1) t l := by
  by_cases e : t = i
  · subst e
    rw [if_pos rfl]
    show (if l = k then (t + 1) % 256 else mG ff t k t l) = mG ff t (k + 1) t l
    unfold mG
    by_cases h1 : l = k
    · rw [if_pos h1, if_pos (by omega)]; omega
    · rw [if_neg h1]
      by_cases h2 : l < k
      · rw [if_pos (by omega), if_pos (by omega)]
      · rw [if_neg (by omega), if_neg (by omega)]
  · rw [if_neg e]
    unfold mG
    by_cases h : t < i
    · rw [if_pos (by omega), if_pos (by omega)]
    · rw [if_neg (by omega), if_neg (by omega)]
theorem mG_next {ff : Nat → Nat → Nat} {nn : Nat → Nat} {i : Nat} (t l : Nat) (hl : l < nn t) : mG ff i (nn i) t l = mG ff (i + 1) 0 t l := by
  unfold mG
  by_cases e : t = i
  · subst e; rw [if_pos (by omega), if_pos (by omega)]
  · by_cases h : t < i
    · rw [if_pos (by omega), if_pos (by omega)]
    · rw [if_neg (by omega), if_neg (by omega)]
set_option maxRecDepth 100000 in
set_option maxHeartbeats 4000000 in
theorem keeps40 (c : RX) (V : World) (W0 : World) (u6 nv : Value) (pg pk : Nat) (cw : Nat → Nat) (MA m ug uc : Nat) (X : Nat → Value) (nn : Nat → Nat) (ff : Nat → Nat → Nat) (fv : Value)
    (h : ∀ (a : Act) (W : World), RA c a → LS W0 W MA cw m X nn (mG ff m 0) (.slice (some ⟨ug, 0, none⟩) m uc) → a.eval (.tmp 6) = u6 → a.eval (.tmp 10) = nv → a.eval (.tmp 11) = .slice (some ⟨pg, 0, none⟩) (c.n + 2) pk → a.eval (.tmp 21) = .slice (some ⟨ug, 0, none⟩) m uc → a.eval (.tmp 27) = fv → (fromR 47 (Tryd.f7.body.getD .skip)).wp Tryd.prog (bodyPost Tryd.prog Tryd.f7 fun e w' => e = .returned (.bool true) ∧ Below V.heap.size V w') a W)
    (a : Act) (W : World) (A : RA c a) (L : LS W0 W MA cw m X nn ff (.slice (some ⟨ug, 0, none⟩) m uc)) (t6 : a.eval (.tmp 6) = u6) (t10 : a.eval (.tmp 10) = nv) (t11 : a.eval (.tmp 11) = .slice (some ⟨pg, 0, none⟩) (c.n + 2) pk) (t21 : a.eval (.tmp 21) = .slice (some ⟨ug, 0, none⟩) m uc) (t27 : a.eval (.tmp 27) = fv) : (fromR 40 (Tryd.f7.body.getD .skip)).wp Tryd.prog (bodyPost Tryd.prog Tryd.f7 fun e w' => e = .returned (.bool true) ∧ Below V.heap.size V w') a W := by
  refine wp_seq ?_
  refine wp_seq ?_
  refine wp_region_sqK 375 [(0, 28)] (fun i_ => match i_ with | 0 => .int .i64 ((0 : Nat) : Int) | _ => undef) A.sz (by kernel_rfl) (by decide) (by decide) ?_ ?_
  · intro i_ hi_ a hf hv hn
    match i_, hi_ with
    | 0, _ => exact stepV rfl rfl (execAsgB rfl rfl) ⟨⟨_, rfl, rfl⟩, rfl⟩
    | k_ + 1, h_ => exact absurd h_ (by simp)
  intro a h1 h2 h3 h4
  have t6 := (h3 6 (by decide)).trans t6
  have t10 := (h3 10 (by decide)).trans t10
  have t11 := (h3 11 (by decide)).trans t11
  have t21 := (h3 21 (by decide)).trans t21
  have t27 := (h3 27 (by decide)).trans t27
  have t28 : a.eval (.tmp 28) = .int .i64 ((0 : Nat) : Int) := h4 0 _ rfl _ rfl
  have A := A.keep h1 h2 h3 (by decide)
  clear h1 h2 h3 h4
  refine wp_block ?_
  refine wp_loop (fun a W => ∃ i : Nat, i ≤ m ∧ RA c a ∧ (a.eval (.tmp 6) = u6 ∧ a.eval (.tmp 10) = nv ∧ a.eval (.tmp 11) = .slice (some ⟨pg, 0, none⟩) (c.n + 2) pk ∧ a.eval (.tmp 21) = .slice (some ⟨ug, 0, none⟩) m uc ∧ a.eval (.tmp 27) = fv) ∧ a.eval (.tmp 28) = .int .i64 ((i : Nat) : Int) ∧ LS W0 W MA cw m X nn (mG ff i 0) (.slice (some ⟨ug, 0, none⟩) m uc)) (fun a _ => m - (intOf (a.eval (.tmp 28))).toNat) ⟨0, by omega, A, ⟨t6, t10, t11, t21, t27⟩, t28, L.cg fun t _ l _ => by unfold mG; rw [if_neg (by omega)]⟩ ?_
  clear A L t6 t10 t11 t21 t27 t28 a W
  rintro a W ⟨i, hi, A, ⟨t6, t10, t11, t21, t27⟩, t28, L⟩
  have e28 := t28
  refine wp_seq ?_
  refine wp_seq ?_
  refine wp_region_sqK 375 [(0, 220), (1, 221), (2, 222), (3, 223)] (fun i_ => match i_ with | 0 => .int .i64 ((i : Nat) : Int) | 1 => .slice (some ⟨ug, 0, none⟩) m uc | 2 => .int .i64 ((m : Nat) : Int) | 3 => .bool (decide (i < m)) | _ => undef) A.sz (by kernel_rfl) (by decide) (by decide) ?_ ?_
  · intro i_ hi_ a hf hv hn
    match i_, hi_ with
    | 0, _ => exact stepV rfl rfl (execMvB rfl ((hf 28 (by decide)).trans t28)) ⟨⟨_, rfl, rfl⟩, rfl⟩
    | 1, _ => exact stepV rfl rfl (execMvB rfl ((hf 21 (by decide)).trans t21)) ⟨⟨_, rfl, rfl⟩, rfl⟩
    | 2, _ => exact stepV rfl rfl (execLenL (len := m) rfl (hv 1 (by omega) _ rfl _ rfl)) ⟨⟨_, rfl, rfl⟩, rfl⟩
    | 3, _ => exact stepV rfl rfl (execLtW (p := i) (q := m) rfl (hv 0 (by omega) _ rfl _ rfl) (hv 2 (by omega) _ rfl _ rfl)) ⟨⟨_, rfl, rfl⟩, rfl⟩
    | k_ + 4, h_ => exact absurd h_ (by simp)
  intro a h1 h2 h3 h4
  have t6 := (h3 6 (by decide)).trans t6
  have t10 := (h3 10 (by decide)).trans t10
  have t11 := (h3 11 (by decide)).trans t11
  have t21 := (h3 21 (by decide)).trans t21
  have t27 := (h3 27 (by decide)).trans t27
  have t28 := (h3 28 (by decide)).trans t28
  have t223 : a.eval (.tmp 223) = .bool (decide (i < m)) := h4 3 _ rfl _ rfl
  have A := A.keep h1 h2 h3 (by decide)
  clear h1 h2 h3 h4
  by_cases hlt : i < m
  · rw [decide_eq_true hlt] at t223
    refine wp_cond_true t223 ?_
    refine wp_skip ?_
    clear t223
    obtain ⟨xa, xc, ex⟩ := own_shapeJ (L.fam.rows i (by omega))
    have hln := L.len i hlt
    have hm20 := L.m20
    refine wp_seq ?_
    refine wp_block ?_
    refine wp_seq ?_
    refine wp_region_sqK 375 [(0, 29)] (fun i_ => match i_ with | 0 => .int .i64 ((0 : Nat) : Int) | _ => undef) A.sz (by kernel_rfl) (by decide) (by decide) ?_ ?_
    · intro i_ hi_ a hf hv hn
      match i_, hi_ with
      | 0, _ => exact stepV rfl rfl (execAsgB rfl rfl) ⟨⟨_, rfl, rfl⟩, rfl⟩
      | k_ + 1, h_ => exact absurd h_ (by simp)
    intro a h1 h2 h3 h4
    have t6 := (h3 6 (by decide)).trans t6
    have t10 := (h3 10 (by decide)).trans t10
    have t11 := (h3 11 (by decide)).trans t11
    have t21 := (h3 21 (by decide)).trans t21
    have t27 := (h3 27 (by decide)).trans t27
    have t28 := (h3 28 (by decide)).trans t28
    have t29 : a.eval (.tmp 29) = .int .i64 ((0 : Nat) : Int) := h4 0 _ rfl _ rfl
    have A := A.keep h1 h2 h3 (by decide)
    clear h1 h2 h3 h4
    refine wp_block ?_
    refine wp_loop (fun a W => ∃ k : Nat, k ≤ nn i ∧ RA c a ∧ (a.eval (.tmp 6) = u6 ∧ a.eval (.tmp 10) = nv ∧ a.eval (.tmp 11) = .slice (some ⟨pg, 0, none⟩) (c.n + 2) pk ∧ a.eval (.tmp 21) = .slice (some ⟨ug, 0, none⟩) m uc ∧ a.eval (.tmp 27) = fv) ∧ a.eval (.tmp 28) = .int .i64 ((i : Nat) : Int) ∧ a.eval (.tmp 29) = .int .i64 ((k : Nat) : Int) ∧ LS W0 W MA cw m X nn (mG ff i k) (.slice (some ⟨ug, 0, none⟩) m uc)) (fun a _ => nn i - (intOf (a.eval (.tmp 29))).toNat) ⟨0, by omega, A, ⟨t6, t10, t11, t21, t27⟩, t28, t29, L⟩ ?_
    clear A L t6 t10 t11 t21 t27 t28 t29 a W
    rintro a W ⟨k, hk0, A, ⟨t6, t10, t11, t21, t27⟩, t28, t29, L⟩
    have e29 := t29
    have cX := L.cell hlt
    rw [ex] at cX
    refine wp_seq ?_
    refine wp_seq ?_
    refine wp_region_sqK 375 [(0, 226), (1, 227), (2, 228), (3, 229), (4, 230), (5, 231), (6, 232)] (fun i_ => match i_ with | 0 => .int .i64 ((k : Nat) : Int) | 1 => .slice (some ⟨ug, 0, none⟩) m uc | 2 => .int .i64 ((i : Nat) : Int) | 3 => .pointer (some ⟨ug, 0 + i, none⟩) | 4 => .slice xa (nn i) xc | 5 => .int .i64 (((nn i) : Nat) : Int) | 6 => .bool (decide (k < (nn i))) | _ => undef) A.sz (by kernel_rfl) (by decide) (by decide) ?_ ?_
    · intro i_ hi_ a hf hv hn
      match i_, hi_ with
      | 0, _ => exact stepV rfl rfl (execMvB rfl ((hf 29 (by decide)).trans t29)) ⟨⟨_, rfl, rfl⟩, rfl⟩
      | 1, _ => exact stepV rfl rfl (execMvB rfl ((hf 21 (by decide)).trans t21)) ⟨⟨_, rfl, rfl⟩, rfl⟩
      | 2, _ => exact stepV rfl rfl (execMvB rfl ((hf 28 (by decide)).trans t28)) ⟨⟨_, rfl, rfl⟩, rfl⟩
      | 3, _ => exact stepV rfl rfl (execIdxL (k := i) rfl (hv 1 (by omega) _ rfl _ rfl) (hv 2 (by omega) _ rfl _ rfl) (by exact hlt)) ⟨⟨_, rfl, rfl⟩, rfl⟩
      | 4, _ => exact stepV rfl rfl (execLdL rfl (hv 3 (by omega) _ rfl _ rfl) cX) ⟨⟨_, rfl, rfl⟩, rfl⟩
      | 5, _ => exact stepV rfl rfl (execLenV (len := (nn i)) rfl (hv 4 (by omega) _ rfl _ rfl) ⟨_, _, rfl⟩) ⟨⟨_, rfl, rfl⟩, rfl⟩
      | 6, _ => exact stepV rfl rfl (execLtW (p := k) (q := (nn i)) rfl (hv 0 (by omega) _ rfl _ rfl) (hv 5 (by omega) _ rfl _ rfl)) ⟨⟨_, rfl, rfl⟩, rfl⟩
      | k_ + 7, h_ => exact absurd h_ (by simp)
    intro a h1 h2 h3 h4
    have t6 := (h3 6 (by decide)).trans t6
    have t10 := (h3 10 (by decide)).trans t10
    have t11 := (h3 11 (by decide)).trans t11
    have t21 := (h3 21 (by decide)).trans t21
    have t27 := (h3 27 (by decide)).trans t27
    have t28 := (h3 28 (by decide)).trans t28
    have t29 := (h3 29 (by decide)).trans t29
    have t232 : a.eval (.tmp 232) = .bool (decide (k < (nn i))) := h4 6 _ rfl _ rfl
    have A := A.keep h1 h2 h3 (by decide)
    clear h1 h2 h3 h4
    by_cases hk : k < nn i
    · rw [decide_eq_true hk] at t232
      refine wp_cond_true t232 ?_
      refine wp_skip ?_
      clear t232
      have hkl : nn i ≤ 400 := hln
      have LW := L.fam.rows i (by omega)
      obtain ⟨xg, xc2, ex2, _⟩ := own_cells LW (by omega)
      have e3 : xa = some ⟨xg, 0, none⟩ ∧ xc = xc2 := by
        have := ex.symm.trans ex2
        injection this with h1 _ h2
        exact ⟨h1, h2⟩
      obtain ⟨rfl, rfl⟩ := e3
      rw [ex] at LW
      have cB := own_at8 LW hk
      obtain ⟨cu, hcu⟩ := own_type LW (k := xg) rfl
      have LSS := L.set (j := k) hlt ex ((i + 1) % 256)
      refine wp_seq ?_
      refine wp_block ?_
      refine wp_region_sqW 375 [(0, 235), (1, 236), (2, 237), (3, 238), (4, 239), (5, 240), (6, 241), (7, 242), (8, 243)] (fun i_ => match i_ with | 0 => .slice (some ⟨ug, 0, none⟩) m uc | 1 => .int .i64 ((i : Nat) : Int) | 2 => .pointer (some ⟨ug, 0 + i, none⟩) | 3 => .slice (some ⟨xg, 0, none⟩) (nn i) xc | 4 => .int .i64 ((k : Nat) : Int) | 5 => .int .i64 ((i : Nat) : Int) | 6 => .int .i64 ((i + 1 : Nat) : Int) | 7 => .int .u8 (((i + 1) % 256 : Nat) : Int) | 8 => .pointer (some ⟨xg, k, none⟩) | 9 => undef | _ => undef) (fun i_ => match i_ with | 0 => W | 1 => W | 2 => W | 3 => W | 4 => W | 5 => W | 6 => W | 7 => W | 8 => W | 9 => W | _ => (W.setCell ⟨xg, k, none⟩ (.int .u8 (((i + 1) % 256 : Nat) : Int)))) A.sz (by kernel_rfl) (by decide) (by decide) ?_ ?_
      · intro i_ hi_ a hf hv hn
        match i_, hi_ with
        | 0, _ => exact stepV rfl rfl (execMvB rfl ((hf 21 (by decide)).trans t21)) ⟨⟨_, rfl, rfl⟩, rfl⟩
        | 1, _ => exact stepV rfl rfl (execMvB rfl ((hf 28 (by decide)).trans t28)) ⟨⟨_, rfl, rfl⟩, rfl⟩
        | 2, _ => exact stepV rfl rfl (execIdxL (k := i) rfl (hv 0 (by omega) _ rfl _ rfl) (hv 1 (by omega) _ rfl _ rfl) (by exact hlt)) ⟨⟨_, rfl, rfl⟩, rfl⟩
        | 3, _ => exact stepV rfl rfl (execLdL rfl (hv 2 (by omega) _ rfl _ rfl) cX) ⟨⟨_, rfl, rfl⟩, rfl⟩
        | 4, _ => exact stepV rfl rfl (execMvB rfl ((hf 29 (by decide)).trans t29)) ⟨⟨_, rfl, rfl⟩, rfl⟩
        | 5, _ => exact stepV rfl rfl (execMvB rfl ((hf 28 (by decide)).trans t28)) ⟨⟨_, rfl, rfl⟩, rfl⟩
        | 6, _ => exact stepV rfl rfl (execAd8 (p := i) (q := 1) rfl (hv 5 (by omega) _ rfl _ rfl) rfl (by have := L.m20; have := L.len i; omega)) ⟨⟨_, rfl, rfl⟩, rfl⟩
        | 7, _ => exact stepV rfl rfl (execU8 (n := i + 1) rfl (hv 6 (by omega) _ rfl _ rfl)) ⟨⟨_, rfl, rfl⟩, rfl⟩
        | 8, _ => exact stepV rfl rfl (execIdxS0 (k := k) rfl (hv 3 (by omega) _ rfl _ rfl) (hv 4 (by omega) _ rfl _ rfl) (by exact hk)) ⟨⟨_, rfl, rfl⟩, rfl⟩
        | 9, _ => exact stepS rfl rfl (execStB rfl (hv 8 (by omega) _ rfl _ rfl) (hv 7 (by omega) _ rfl _ rfl) cB (frozen4 hcu)) ⟨⟨_, rfl, rfl⟩, rfl⟩
        | k_ + 10, h_ => exact absurd h_ (by simp)
      intro a h1 h2 h3 h4
      have t6 := (h3 6 (by decide)).trans t6
      have t10 := (h3 10 (by decide)).trans t10
      have t11 := (h3 11 (by decide)).trans t11
      have t21 := (h3 21 (by decide)).trans t21
      have t27 := (h3 27 (by decide)).trans t27
      have t28 := (h3 28 (by decide)).trans t28
      have t29 := (h3 29 (by decide)).trans t29
      have A := A.keep h1 h2 h3 (by decide)
      clear h1 h2 h3 h4
      have L := LSS.cg fun t _ l _ => mG_set (by omega) t l
      clear LSS LW cB hcu cX
      revert L
      generalize W.setCell ⟨xg, k, none⟩ (.int .u8 (((i + 1) % 256 : Nat) : Int)) = W
      intro L
      refine wp_region_sqK 375 [(0, 233), (1, 234), (2, 29)] (fun i_ => match i_ with | 0 => .int .i64 ((k : Nat) : Int) | 1 => .int .i64 ((k + 1 : Nat) : Int) | 2 => .int .i64 ((k + 1 : Nat) : Int) | _ => undef) A.sz (by kernel_rfl) (by decide) (by decide) ?_ ?_
      · intro i_ hi_ a hf hv hn
        match i_, hi_ with
        | 0, _ => exact stepV rfl rfl (execMvB rfl ((hn 2 (by omega) _ rfl _ rfl).trans t29)) ⟨⟨_, rfl, rfl⟩, rfl⟩
        | 1, _ => exact stepV rfl rfl (execAd8 (p := k) (q := 1) rfl (hv 0 (by omega) _ rfl _ rfl) rfl (by have := hkl; omega)) ⟨⟨_, rfl, rfl⟩, rfl⟩
        | 2, _ => exact stepV rfl rfl (execAsgB rfl (hv 1 (by omega) _ rfl _ rfl)) ⟨⟨_, rfl, rfl⟩, rfl⟩
        | k_ + 3, h_ => exact absurd h_ (by simp)
      intro a h1 h2 h3 h4
      have t6 := (h3 6 (by decide)).trans t6
      have t10 := (h3 10 (by decide)).trans t10
      have t11 := (h3 11 (by decide)).trans t11
      have t21 := (h3 21 (by decide)).trans t21
      have t27 := (h3 27 (by decide)).trans t27
      have t28 := (h3 28 (by decide)).trans t28
      have t29 : a.eval (.tmp 29) = .int .i64 ((k + 1 : Nat) : Int) := h4 2 _ rfl _ rfl
      have A := A.keep h1 h2 h3 (by decide)
      clear h1 h2 h3 h4
      exact ⟨⟨k + 1, hk, A, ⟨t6, t10, t11, t21, t27⟩, t28, t29, L⟩, by show nn i - (intOf (a.eval (.tmp 29))).toNat < nn i - (intOf (Act.eval _ (.tmp 29))).toNat; rw [t29, e29]; show nn i - (k + 1) < nn i - k; omega⟩
    · rw [decide_eq_false hk] at t232
      refine wp_cond_false t232 ?_
      refine wp_exit ?_
      first | refine exit_in ?_ | refine exit_then (exit_in ?_) | refine exit_then (exit_then (exit_in ?_))
      have ek : k = nn i := by omega
      rw [ek] at L
      have L := L.cg fun t _ l hl => mG_next (ff := ff) (i := i) t l hl
      refine wp_region_sqK 375 [(0, 224), (1, 225), (2, 28)] (fun i_ => match i_ with | 0 => .int .i64 ((i : Nat) : Int) | 1 => .int .i64 ((i + 1 : Nat) : Int) | 2 => .int .i64 ((i + 1 : Nat) : Int) | _ => undef) A.sz (by kernel_rfl) (by decide) (by decide) ?_ ?_
      · intro i_ hi_ a hf hv hn
        match i_, hi_ with
        | 0, _ => exact stepV rfl rfl (execMvB rfl ((hn 2 (by omega) _ rfl _ rfl).trans t28)) ⟨⟨_, rfl, rfl⟩, rfl⟩
        | 1, _ => exact stepV rfl rfl (execAd8 (p := i) (q := 1) rfl (hv 0 (by omega) _ rfl _ rfl) rfl (by have := L.m20; omega)) ⟨⟨_, rfl, rfl⟩, rfl⟩
        | 2, _ => exact stepV rfl rfl (execAsgB rfl (hv 1 (by omega) _ rfl _ rfl)) ⟨⟨_, rfl, rfl⟩, rfl⟩
        | k_ + 3, h_ => exact absurd h_ (by simp)
      intro a h1 h2 h3 h4
      have t6 := (h3 6 (by decide)).trans t6
      have t10 := (h3 10 (by decide)).trans t10
      have t11 := (h3 11 (by decide)).trans t11
      have t21 := (h3 21 (by decide)).trans t21
      have t27 := (h3 27 (by decide)).trans t27
      have t28 : a.eval (.tmp 28) = .int .i64 ((i + 1 : Nat) : Int) := h4 2 _ rfl _ rfl
      have A := A.keep h1 h2 h3 (by decide)
      clear h1 h2 h3 h4
      exact ⟨⟨i + 1, hlt, A, ⟨t6, t10, t11, t21, t27⟩, t28, L⟩, by show m - (intOf (a.eval (.tmp 28))).toNat < m - (intOf (Act.eval _ (.tmp 28))).toNat; rw [t28, e28]; show m - (i + 1) < m - i; omega⟩
  · rw [decide_eq_false hlt] at t223
    refine wp_cond_false t223 ?_
    refine wp_exit ?_
    first | refine exit_in ?_ | refine exit_then (exit_in ?_) | refine exit_then (exit_then (exit_in ?_))
    obtain rfl : i = m := by omega
    exact h a W A L t6 t10 t11 t21 t27
end Go.Proofs.YtcffmmeafnapiaaDoor.Rou
