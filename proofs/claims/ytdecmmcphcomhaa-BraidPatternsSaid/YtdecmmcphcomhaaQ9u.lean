import Derived.Test.YtdecmmcphcomhaaQ9t
namespace Go.Proofs.Ytdecmmcphcomhaa.Brd
open Go.RowKit Gf8 Aes By8 Cel Cf Tap Drw Prm
/- Stage 12's reference: Pattern. Written by tools/mkQ9u.py. -/

theorem updX_o (x : Nat → Value) {m t : Nat} (r : Value) (h : t ≠ m) : updX x m r t = x t := if_neg h
theorem upd_2 (x : Nat → Value) (c j : Nat) (v : Value) : updX (fun j => x (2 + j)) c v j = updX x (2 + c) v (2 + j) := by
  unfold updX
  by_cases h : j = c
  · rw [if_pos h, if_pos (by omega)]
  · rw [if_neg h, if_neg (by omega)]
theorem lV_cg {W : World} {B J : Nat} {v : Value} {y z : Nat → Value} (h : W.ownsRow B 23 1 v J (lL y J)) (e : ∀ j, j < J → y j = z j) : W.ownsRow B 23 1 v J (lL z J) := by
  rw [← lL_congr J e]
  exact h
theorem FmI.offT {B k g o : Nat} {x : Nat → Value} {nn : Nat → Nat} {ff : Nat → Nat → Int} {W : World} {c : Array Value} {u : TypeId} {z : Value} (h : FmI B k x nn ff W) (hg : W.heap[g]? = some (.cells c u)) (hu : u ≠ 3) : FmI B k x nn ff (W.setCell ⟨g, o, none⟩ z) := ⟨fun t ht => own_offT (h.rows t ht) hg hu, h.dis⟩
theorem fm2_of {B m : Nat} {a b : Value} {f g : Nat → Int} {W : World} (h0 : W.ownsRow B 3 1 a m (intsL m f)) (h1 : W.ownsRow B 3 1 b m (intsL m g)) (hd : ∀ k, a.ownBlock = some k → b.ownBlock ≠ some k) : FmI B 2 (x2 a b) (fun _ => m) (f2 f g) W := by
  refine ⟨fun t ht => ?_, fun s t hs ht hst k => ?_⟩
  · match t, ht with
    | 0, _ => exact h0
    | 1, _ => exact h1
    | t + 2, h => omega
  · match s, hs, t, ht, hst with
    | 0, _, 0, _, h => exact absurd rfl h
    | 0, _, 1, _, _ => exact hd k
    | 1, _, 0, _, _ => exact fun e q => hd k q e
    | 1, _, 1, _, h => exact absurd rfl h
    | s + 2, h, _, _, _ => omega
    | _, _, t + 2, h, _ => omega
/-- What is left, the chunks, the visits of each chunk. -/
def xV (v : Value) (t : Nat) : Value := if t = 0 then v else .slice none 0 0
theorem xV_o {v : Value} {t : Nat} (h : t ≠ 0) : xV v t = .slice none 0 0 := if_neg h
def nnV (sf : Nat → Int) (J : Nat) (df : Nat → Int) (i t : Nat) : Nat := if t = 0 then J else if t = 1 then i else cntC (chD (gN sf) J (gN df)) (t - 2) i
def ffV (sf : Nat → Int) (J : Nat) (df : Nat → Int) (m i t : Nat) : Nat → Int :=
  if t = 0 then fun j => (lfD (gN sf) J (gN df) i j : Int) else if t = 1 then pcF sf J df else fun v => (ofD (gN sf) J (gN df) (plC (chD (gN sf) J (gN df)) (t - 2) v m) : Int)
theorem fmV0 (sf : Nat → Int) (J : Nat) (df : Nat → Int) (m : Nat) {B : Nat} {v : Value} {W : World} (h : W.ownsRow B 3 1 v J (intsL J sf)) (hok : okS sf J = true) : FmI B (J + 2) (xV v) (nnV sf J df 0) (ffV sf J df m 0) W := by
  refine ⟨fun t ht => ?_, fun s t hs ht hst b e => ?_⟩
  · by_cases q : t = 0
    · subst q
      show World.ownsRow _ _ _ _ v J (intsL J fun j => ((gN sf j : Nat) : Int))
      rw [← intsL_congr (fun j hj => okS_nn hok hj)]
      exact h
    · have e1 : nnV sf J df 0 t = 0 := by
        unfold nnV
        rw [if_neg q]
        by_cases q1 : t = 1
        · rw [if_pos q1]
        · rw [if_neg q1]
          rfl
      rw [xV_o q, e1]
      exact World.ownsRow_nil _ _ _ _
  · by_cases q : s = 0
    · rw [xV_o (show t ≠ 0 by omega)]
      intro z
      cases z
    · rw [xV_o q] at e
      cases e
theorem nn1_at {sf df : Nat → Int} {J i c : Nat} : updD (nnV sf J df i) 1 1 (2 + c) = cntC (chD (gN sf) J (gN df)) c i := by
  unfold updD nnV
  rw [if_neg (by omega), if_neg (by omega), if_neg (by omega), show 2 + c - 2 = c by omega]
theorem ffV_at {sf df : Nat → Int} {J m i c k : Nat} (hi : i < m) (ec : chD (gN sf) J (gN df) i = c) : ffV sf J df m k (2 + c) (cntC (chD (gN sf) J (gN df)) c i) = (ofD (gN sf) J (gN df) i : Int) := by
  unfold ffV
  rw [if_neg (by omega), if_neg (by omega), show 2 + c - 2 = c by omega]
  show ((ofD _ _ _ (plC _ c _ m) : Nat) : Int) = _
  rw [← ec, plC_is hi]
theorem nnV_next (sf : Nat → Int) (J : Nat) (df : Nat → Int) {i c : Nat} (ec : chD (gN sf) J (gN df) i = c) : ∀ t, t < J + 2 → updD (updD (nnV sf J df i) 1 1) (2 + c) 1 t = nnV sf J df (i + 1) t := fun t _ => by
  by_cases q : t = 2 + c
  · subst q
    have e1 : updD (updD (nnV sf J df i) 1 1) (2 + c) 1 (2 + c) = updD (nnV sf J df i) 1 1 (2 + c) + 1 := if_pos rfl
    rw [e1, nn1_at]
    unfold nnV
    rw [if_neg (by omega), if_neg (by omega), show 2 + c - 2 = c by omega]
    show _ = cntC _ c i + _
    rw [if_pos ec]
  · have e1 : updD (updD (nnV sf J df i) 1 1) (2 + c) 1 t = updD (nnV sf J df i) 1 1 t := if_neg q
    rw [e1]
    unfold updD nnV
    by_cases q1 : t = 1
    · subst q1; rfl
    · rw [if_neg q1]
      by_cases q0 : t = 0
      · rw [if_pos q0, if_pos q0]
      · rw [if_neg q0, if_neg q0, if_neg q1, if_neg q1]
        show _ = cntC _ (t - 2) i + _
        rw [if_neg (by omega)]
        rfl
theorem ffV_next (sf : Nat → Int) (J : Nat) (df : Nat → Int) (m : Nat) {i c q w : Nat} (eq : lfD (gN sf) J (gN df) i c = q) (epj : pj (lfD (gN sf) J (gN df) i) w J = c) (hw : gN df i = w) (t j : Nat) : updF (ffV sf J df m i) 0 c ((q - 1 : Nat) : Int) t j = ffV sf J df m (i + 1) t j := by
  by_cases h : t = 0
  · subst h
    rw [updF_at]
    show (if j = c then ((q - 1 : Nat) : Int) else ((lfD _ _ _ i j : Nat) : Int)) = ((dec1 (lfD (gN sf) J (gN df) i) (pj (lfD (gN sf) J (gN df) i) (gN df i) J) j : Nat) : Int)
    rw [hw, epj]
    by_cases e : j = c
    · subst e
      rw [if_pos rfl, dec1_at, eq]
    · rw [if_neg e, dec1_o e]
  · rw [updF_o h]
    unfold ffV
    rw [if_neg h, if_neg h]
section
variable (sf : Nat → Int) (J : Nat) (df : Nat → Int) (m : Nat)
theorem ffV_fits (hD : ∀ i, i < m → gN df i < m - i) (hbig : ∀ i, i < m → m ≤ 1000000) (j : Nat) : ∀ v, v < nnV sf J df m (2 + j) → -9223372036854775808 ≤ ffV sf J df m m (2 + j) v ∧ ffV sf J df m m (2 + j) v < 9223372036854775808 := fun v hv => by
  have hm : 0 < m := by
    rcases Nat.eq_zero_or_pos m with q | q
    · subst q
      unfold nnV at hv
      rw [if_neg (by omega), if_neg (by omega)] at hv
      exact absurd hv (Nat.not_lt_zero _)
    · exact q
  unfold ffV
  rw [if_neg (by omega), if_neg (by omega)]
  obtain ⟨p, ep⟩ : ∃ p, plC (chD (gN sf) J (gN df)) (2 + j - 2) v m = p := ⟨_, rfl⟩
  have hp : p < m := by rw [← ep]; exact plC_lt hm
  have h1 := hD p hp
  have h2 : ofD (gN sf) J (gN df) p ≤ gN df p := Nat.sub_le _ _
  show _ ≤ ((ofD _ _ _ (plC _ _ v m) : Nat) : Int) ∧ ((ofD _ _ _ (plC _ _ v m) : Nat) : Int) < _
  rw [ep]
  have h3 := hbig p hp
  omega
theorem nnV_at (hp : IsPat (gN sf) J m (chD (gN sf) J (gN df))) {j : Nat} (hj : j < J) : nnV sf J df m (2 + j) = gN sf j := by
  unfold nnV
  rw [if_neg (by omega), if_neg (by omega), show 2 + j - 2 = j by omega]
  exact hp.cnt j hj
theorem ou_len (hn : sumN (gN sf) J = m) (hp : IsPat (gN sf) J m (chD (gN sf) J (gN df))) {j : Nat} (hj : j < J) (hs : sumN (gN sf) J ≤ 256) : sumN (gN sf) j + nnV sf J df m (2 + j) ≤ 17592186044416 := by
  rw [nnV_at sf J df m hp hj]
  have := sumN_at (r := gN sf) hj
  omega
theorem ou_next (hp : IsPat (gN sf) J m (chD (gN sf) J (gN df))) {j B : Nat} (hj : j < J) {v : Value} {W : World} (h : W.ownsRow B 3 1 v (sumN (gN sf) j + nnV sf J df m (2 + j)) (intsL (sumN (gN sf) j + nnV sf J df m (2 + j)) (catI (sumN (gN sf) j) (poF sf J df m) (ffV sf J df m m (2 + j))))) : W.ownsRow B 3 1 v (sumN (gN sf) (j + 1)) (intsL (sumN (gN sf) (j + 1)) (poF sf J df m)) := by
  have e := nnV_at sf J df m hp hj
  rw [e] at h
  rw [← intsL_congr (f := catI (sumN (gN sf) j) (poF sf J df m) (ffV sf J df m m (2 + j))) (fun x hx => ?_)]
  · exact h
  · unfold catI
    by_cases q : x < sumN (gN sf) j
    · rw [if_pos q]
    · rw [if_neg q]
      have hx2 : x < sumN (gN sf) j + gN sf j := hx
      have e2 : pj (gN sf) x J = j := pj_is hj (by omega) hx2
      unfold ffV
      rw [if_neg (by omega), if_neg (by omega), show 2 + j - 2 = j by omega]
      show ((ofD _ _ _ (plC _ j (x - sumN (gN sf) j) m) : Nat) : Int) = ((ofD _ _ _ (plC _ (pj (gN sf) x J) (x - sumN (gN sf) (pj (gN sf) x J)) m) : Nat) : Int)
      rw [e2]
end
set_option maxRecDepth 100000 in
set_option maxHeartbeats 4000000 in
/-- The reference's Pattern. -/
theorem rpattern (sf df : Nat → Int) (J m : Nat) (v u0 : Value) (V : World) (FI : SliceI V v J sf) (hJ17 : J ≤ 17592186044416) (FJ : SliceI V u0 m df) (hm17 : m ≤ 17592186044416) :
    Calls Try.prog 17 #[v, u0] V fun e w' => ∃ r1 r2, e = .returned (.tuple #[r1, r2, .int .i64 ((paE sf J df m : Nat) : Int)]) ∧ FmI V.heap.size 2 (x2 r1 r2) (fun _ => zl (paE sf J df m) m) (f2 (pcF sf J df) (poF sf J df m)) w' ∧ Below V.heap.size V w' := by
  go_enter Try.func17, Try.ntmps17
  refine wp_seq ?_
  refine wp_region_sqK 98 [(0, 4), (1, 5), (2, 6)] (fun i_ => match i_ with | 0 => .slice none 0 0 | 1 => .slice none 0 0 | 2 => .int .i64 ((0 : Nat) : Int) | _ => undef) rfl (by kernel_rfl) (by decide) (by decide) ?_ ?_
  · intro i_ hi_ a hf hv hn
    match i_, hi_ with
    | 0, _ => exact stepV rfl rfl (execAsgB rfl rfl) ⟨⟨_, rfl, rfl⟩, rfl⟩
    | 1, _ => exact stepV rfl rfl (execAsgB rfl rfl) ⟨⟨_, rfl, rfl⟩, rfl⟩
    | 2, _ => exact stepV rfl rfl (execAsgB rfl rfl) ⟨⟨_, rfl, rfl⟩, rfl⟩
    | k_ + 3, h_ => exact absurd h_ (by simp)
  intro a h1 h2 h3 h4
  have t0 : a.eval (.tmp 0) = v := (h3 0 (by decide)).trans rfl
  have t1 : a.eval (.tmp 1) = u0 := (h3 1 (by decide)).trans rfl
  have A : a.tmps.size = 98 ∧ a.defers = [] := ⟨h1, h2⟩
  have BW : Below V.heap.size V V := Below.refl _ _
  clear h1 h2 h3 h4
  have BB := BW
  cases hs : szQ sf J with
  | false =>
    refine wp_seq ?_
    refine wp_region_sq (σ := Unit) 98 [(0, 16), (1, 17), (2, 7)] (fun j_ s X => match j_ with | 0 => Below V.heap.size V X | 1 => Below V.heap.size V X | 2 => Below V.heap.size V X | _ => Below V.heap.size V X) (fun s => fun i_ => match i_ with | 0 => v | 1 => .int .i64 (-1) | 2 => .int .i64 (-1) | _ => undef) () A.1 (by kernel_rfl) (by decide) (by decide) (BB) ?_ ?_
    · intro i_ hi_ s a X hf hv hn hS
      match i_, hi_ with
      | 0, _ => exact stepV rfl rfl (execMvB rfl ((hf 0 (by decide)).trans t0)) ⟨s, ⟨_, rfl, rfl⟩, hS, fun _ _ => rfl⟩
      | 1, _ => exact stepC rfl rfl (execCall1 Try.func29 (by kernel_rfl) (by kernel_rfl) rfl (hv 0 (by decide) _ rfl _ rfl)) ((show toT sf J = -1 by rw [szQ_toT, hs]; rfl) ▸ rtotal sf J _ X (FI.on hS) hJ17) fun e w' hh => ⟨_, hh.1, s, ⟨_, rfl, rfl⟩, (hS).trans ((hh.2).mono (hS).size), fun _ _ => rfl⟩
      | 2, _ => exact stepV rfl rfl (execAsgB rfl (hv 1 (by decide) _ rfl _ rfl)) ⟨s, ⟨_, rfl, rfl⟩, hS, fun _ _ => rfl⟩
      | k_ + 3, h_ => exact absurd h_ (by simp)
    rintro _ a X1 h1 h2 h3 h4 hS
    clear BB
    replace hS : Below V.heap.size V X1 := hS
    have BB := hS
    clear hS
    replace t0 := (h3 0 (by decide)).trans t0
    replace t1 := (h3 1 (by decide)).trans t1
    have t7 : a.eval (.tmp 7) = .int .i64 (-1) := h4 2 _ rfl _ rfl
    replace A := (⟨h1, h2.trans A.2⟩ : a.tmps.size = 98 ∧ a.defers = [])
    clear h1 h2 h3 h4
    refine wp_seq ?_
    refine wp_seq ?_
    refine wp_region_sq (σ := Unit) 98 [(0, 18), (1, 19), (2, 20), (3, 21), (4, 22), (5, 23), (6, 24), (7, 25)] (fun j_ s X => match j_ with | 0 => Below V.heap.size V X | 1 => Below V.heap.size V X | 2 => Below V.heap.size V X | 3 => Below V.heap.size V X | 4 => Below V.heap.size V X | 5 => Below V.heap.size V X | 6 => Below V.heap.size V X | 7 => Below V.heap.size V X | _ => Below V.heap.size V X) (fun s => fun i_ => match i_ with | 0 => .int .i64 (-1) | 1 => .bool true | 2 => .bool true | 3 => undef | 4 => undef | 5 => undef | 6 => undef | 7 => .bool true | _ => undef) () A.1 (by kernel_rfl) (by decide) (by decide) (BB) ?_ ?_
    · intro i_ hi_ s a X hf hv hn hS
      match i_, hi_ with
      | 0, _ => exact stepV rfl rfl (execMvB rfl ((hf 7 (by decide)).trans t7)) ⟨s, ⟨_, rfl, rfl⟩, hS, fun _ _ => rfl⟩
      | 1, _ => exact stepV rfl rfl (execLtCt (p := -1) (q := 0) rfl (hv 0 (by decide) _ rfl _ rfl) (by omega)) ⟨s, ⟨_, rfl, rfl⟩, hS, fun _ _ => rfl⟩
      | 2, _ => exact stepV rfl rfl (execMvB rfl (hv 1 (by decide) _ rfl _ rfl)) ⟨s, ⟨_, rfl, rfl⟩, hS, fun _ _ => rfl⟩
      | 3, _ => exact stepU rfl (unwantedOf rfl (yieldedAt rfl rfl (show a.eval (.tmp 20) = .bool (!false) from (hv 2 (by decide) _ rfl _ rfl)))) ⟨s, ⟨_, rfl, rfl⟩, hS, fun _ _ => rfl⟩
      | 4, _ => exact stepU rfl (unwantedOf rfl (yieldedAt rfl rfl (show a.eval (.tmp 20) = .bool (!false) from (hv 2 (by decide) _ rfl _ rfl)))) ⟨s, ⟨_, rfl, rfl⟩, hS, fun _ _ => rfl⟩
      | 5, _ => exact stepU rfl (unwantedOf rfl (yieldedAt rfl rfl (show a.eval (.tmp 20) = .bool (!false) from (hv 2 (by decide) _ rfl _ rfl)))) ⟨s, ⟨_, rfl, rfl⟩, hS, fun _ _ => rfl⟩
      | 6, _ => exact stepU rfl (unwantedOf rfl (yieldedAt rfl rfl (show a.eval (.tmp 20) = .bool (!false) from (hv 2 (by decide) _ rfl _ rfl)))) ⟨s, ⟨_, rfl, rfl⟩, hS, fun _ _ => rfl⟩
      | 7, _ => exact stepV rfl rfl (execPickT rfl (hv 2 (by decide) _ rfl _ rfl) rfl) ⟨s, ⟨_, rfl, rfl⟩, hS, fun _ _ => rfl⟩
      | k_ + 8, h_ => exact absurd h_ (by simp)
    rintro _ a X2 h1 h2 h3 h4 hS
    clear BB
    replace hS : Below V.heap.size V X2 := hS
    have BB := hS
    clear hS
    replace t0 := (h3 0 (by decide)).trans t0
    replace t1 := (h3 1 (by decide)).trans t1
    replace t7 := (h3 7 (by decide)).trans t7
    have t25 : a.eval (.tmp 25) = .bool true := h4 7 _ rfl _ rfl
    replace A := (⟨h1, h2.trans A.2⟩ : a.tmps.size = 98 ∧ a.defers = [])
    clear h1 h2 h3 h4
    refine wp_cond_true t25 ?_
    refine wp_seq ?_
    refine wp_region_sq (σ := Unit) 98 [(0, 4), (1, 5), (2, 6)] (fun j_ s X => match j_ with | 0 => Below V.heap.size V X | 1 => Below V.heap.size V X | 2 => Below V.heap.size V X | _ => Below V.heap.size V X) (fun s => fun i_ => match i_ with | 0 => .slice none 0 0 | 1 => .slice none 0 0 | 2 => .int .i64 ((2 : Nat) : Int) | _ => undef) () A.1 (by kernel_rfl) (by decide) (by decide) (BB) ?_ ?_
    · intro i_ hi_ s a X hf hv hn hS
      match i_, hi_ with
      | 0, _ => exact stepV rfl rfl (execAsgB rfl rfl) ⟨s, ⟨_, rfl, rfl⟩, hS, fun _ _ => rfl⟩
      | 1, _ => exact stepV rfl rfl (execAsgB rfl rfl) ⟨s, ⟨_, rfl, rfl⟩, hS, fun _ _ => rfl⟩
      | 2, _ => exact stepV rfl rfl (execAsgB rfl rfl) ⟨s, ⟨_, rfl, rfl⟩, hS, fun _ _ => rfl⟩
      | k_ + 3, h_ => exact absurd h_ (by simp)
    rintro _ a X3 h1 h2 h3 h4 hS
    clear BB
    replace hS : Below V.heap.size V X3 := hS
    have BB := hS
    clear hS
    have t4 : a.eval (.tmp 4) = .slice none 0 0 := h4 0 _ rfl _ rfl
    have t5 : a.eval (.tmp 5) = .slice none 0 0 := h4 1 _ rfl _ rfl
    have t6 : a.eval (.tmp 6) = .int .i64 ((2 : Nat) : Int) := h4 2 _ rfl _ rfl
    replace A := (⟨h1, h2.trans A.2⟩ : a.tmps.size = 98 ∧ a.defers = [])
    clear h1 h2 h3 h4
    clear t0 t1 t7
    have hE : paE sf J df m = 2 := paE_no fun q => by have := (paQ_iff.1 q).1; rw [hs] at this; cases this
    rw [hE, zl_no (by decide)]
    refine wp_ret ?_
    repeat (first | with_reducible refine ret_in ?_ | with_reducible refine ret_then ?_)
    refine bodyPost_ret (results_tmp3 rfl _ _ _) A.2 ⟨_, _, ?_, fm2nil _ _ _, BB⟩
    show Ending.returned (.tuple #[a.eval (.tmp 4), a.eval (.tmp 5), a.eval (.tmp 6)]) = _
    rw [t4, t5, t6]
  | true =>
    by_cases hmS : m = sumN (gN sf) J
    · refine wp_seq ?_
      refine wp_region_sq (σ := Unit) 98 [(0, 16), (1, 17), (2, 7)] (fun j_ s X => match j_ with | 0 => Below V.heap.size V X | 1 => Below V.heap.size V X | 2 => Below V.heap.size V X | _ => Below V.heap.size V X) (fun s => fun i_ => match i_ with | 0 => v | 1 => .int .i64 ((sumN (gN sf) J : Nat) : Int) | 2 => .int .i64 ((sumN (gN sf) J : Nat) : Int) | _ => undef) () A.1 (by kernel_rfl) (by decide) (by decide) (BB) ?_ ?_
      · intro i_ hi_ s a X hf hv hn hS
        match i_, hi_ with
        | 0, _ => exact stepV rfl rfl (execMvB rfl ((hf 0 (by decide)).trans t0)) ⟨s, ⟨_, rfl, rfl⟩, hS, fun _ _ => rfl⟩
        | 1, _ => exact stepC rfl rfl (execCall1 Try.func29 (by kernel_rfl) (by kernel_rfl) rfl (hv 0 (by decide) _ rfl _ rfl)) ((show toT sf J = ((sumN (gN sf) J : Nat) : Int) by rw [szQ_toT, if_pos hs]) ▸ rtotal sf J _ X (FI.on hS) hJ17) fun e w' hh => ⟨_, hh.1, s, ⟨_, rfl, rfl⟩, (hS).trans ((hh.2).mono (hS).size), fun _ _ => rfl⟩
        | 2, _ => exact stepV rfl rfl (execAsgB rfl (hv 1 (by decide) _ rfl _ rfl)) ⟨s, ⟨_, rfl, rfl⟩, hS, fun _ _ => rfl⟩
        | k_ + 3, h_ => exact absurd h_ (by simp)
      rintro _ a X1 h1 h2 h3 h4 hS
      clear BB
      replace hS : Below V.heap.size V X1 := hS
      have BB := hS
      clear hS
      replace t0 := (h3 0 (by decide)).trans t0
      replace t1 := (h3 1 (by decide)).trans t1
      have t7 : a.eval (.tmp 7) = .int .i64 ((sumN (gN sf) J : Nat) : Int) := h4 2 _ rfl _ rfl
      replace A := (⟨h1, h2.trans A.2⟩ : a.tmps.size = 98 ∧ a.defers = [])
      clear h1 h2 h3 h4
      refine wp_seq ?_
      refine wp_seq ?_
      refine wp_region_sq (σ := Unit) 98 [(0, 18), (1, 19), (2, 20), (3, 21), (4, 22), (5, 23), (6, 24), (7, 25)] (fun j_ s X => match j_ with | 0 => Below V.heap.size V X | 1 => Below V.heap.size V X | 2 => Below V.heap.size V X | 3 => Below V.heap.size V X | 4 => Below V.heap.size V X | 5 => Below V.heap.size V X | 6 => Below V.heap.size V X | 7 => Below V.heap.size V X | _ => Below V.heap.size V X) (fun s => fun i_ => match i_ with | 0 => .int .i64 ((sumN (gN sf) J : Nat) : Int) | 1 => .bool false | 2 => .bool false | 3 => u0 | 4 => .int .i64 ((m : Nat) : Int) | 5 => .int .i64 ((sumN (gN sf) J : Nat) : Int) | 6 => .bool false | 7 => .bool false | _ => undef) () A.1 (by kernel_rfl) (by decide) (by decide) (BB) ?_ ?_
      · intro i_ hi_ s a X hf hv hn hS
        match i_, hi_ with
        | 0, _ => exact stepV rfl rfl (execMvB rfl ((hf 7 (by decide)).trans t7)) ⟨s, ⟨_, rfl, rfl⟩, hS, fun _ _ => rfl⟩
        | 1, _ => exact stepV rfl rfl (execDec (execLtW (p := sumN (gN sf) J) (q := 0) rfl (hv 0 (by decide) _ rfl _ rfl) rfl) (decide_eq_false (by omega))) ⟨s, ⟨_, rfl, rfl⟩, hS, fun _ _ => rfl⟩
        | 2, _ => exact stepV rfl rfl (execMvB rfl (hv 1 (by decide) _ rfl _ rfl)) ⟨s, ⟨_, rfl, rfl⟩, hS, fun _ _ => rfl⟩
        | 3, _ => exact stepV rfl (wantedOf rfl (yieldedAt rfl rfl (show a.eval (.tmp 20) = .bool false from (hv 2 (by decide) _ rfl _ rfl)))) (execMvB rfl ((hf 1 (by decide)).trans t1)) ⟨s, ⟨_, rfl, rfl⟩, hS, fun _ _ => rfl⟩
        | 4, _ => exact stepV rfl (wantedOf rfl (yieldedAt rfl rfl (show a.eval (.tmp 20) = .bool false from (hv 2 (by decide) _ rfl _ rfl)))) (execLenI (len := m) rfl (hv 3 (by decide) _ rfl _ rfl) ((FJ.on hS)).shp) ⟨s, ⟨_, rfl, rfl⟩, hS, fun _ _ => rfl⟩
        | 5, _ => exact stepV rfl (wantedOf rfl (yieldedAt rfl rfl (show a.eval (.tmp 20) = .bool false from (hv 2 (by decide) _ rfl _ rfl)))) (execMvB rfl ((hf 7 (by decide)).trans t7)) ⟨s, ⟨_, rfl, rfl⟩, hS, fun _ _ => rfl⟩
        | 6, _ => exact stepV rfl (wantedOf rfl (yieldedAt rfl rfl (show a.eval (.tmp 20) = .bool false from (hv 2 (by decide) _ rfl _ rfl)))) (execDec (execNeN (p := m) (q := sumN (gN sf) J) rfl (hv 4 (by decide) _ rfl _ rfl) (hv 5 (by decide) _ rfl _ rfl)) (decide_eq_false (by omega))) ⟨s, ⟨_, rfl, rfl⟩, hS, fun _ _ => rfl⟩
        | 7, _ => exact stepV rfl rfl (execPickF rfl (hv 2 (by decide) _ rfl _ rfl) (hv 6 (by decide) _ rfl _ rfl)) ⟨s, ⟨_, rfl, rfl⟩, hS, fun _ _ => rfl⟩
        | k_ + 8, h_ => exact absurd h_ (by simp)
      rintro _ a X2 h1 h2 h3 h4 hS
      clear BB
      replace hS : Below V.heap.size V X2 := hS
      have BB := hS
      clear hS
      replace t0 := (h3 0 (by decide)).trans t0
      replace t1 := (h3 1 (by decide)).trans t1
      replace t7 := (h3 7 (by decide)).trans t7
      have t25 : a.eval (.tmp 25) = .bool false := h4 7 _ rfl _ rfl
      replace A := (⟨h1, h2.trans A.2⟩ : a.tmps.size = 98 ∧ a.defers = [])
      clear h1 h2 h3 h4
      refine wp_cond_false t25 ?_
      refine wp_skip ?_
      clear t25
      have hok := (szQ_iff.1 hs).2
      have hJ64 := (szQ_iff.1 hs).1.2
      have hJ1 := (szQ_iff.1 hs).1.1
      have hsum := okS_sum hok
      rw [← hmS] at t7
      refine wp_seq ?_
      refine wp_region_sq (σ := Unit) 98 [(0, 8)] (fun j_ s X => match j_ with | 0 => Below V.heap.size V X | _ => Below V.heap.size V X) (fun s => fun i_ => match i_ with | 0 => .slice none 0 0 | _ => undef) () A.1 (by kernel_rfl) (by decide) (by decide) (BB) ?_ ?_
      · intro i_ hi_ s a X hf hv hn hS
        match i_, hi_ with
        | 0, _ => exact stepV rfl rfl (execAsgB rfl rfl) ⟨s, ⟨_, rfl, rfl⟩, hS, fun _ _ => rfl⟩
        | k_ + 1, h_ => exact absurd h_ (by simp)
      rintro _ a X4 h1 h2 h3 h4 hS
      clear BB
      replace hS : Below V.heap.size V X4 := hS
      have BB := hS
      clear hS
      replace t0 := (h3 0 (by decide)).trans t0
      replace t1 := (h3 1 (by decide)).trans t1
      replace t7 := (h3 7 (by decide)).trans t7
      have t8 : a.eval (.tmp 8) = .slice none 0 0 := h4 0 _ rfl _ rfl
      replace A := (⟨h1, h2.trans A.2⟩ : a.tmps.size = 98 ∧ a.defers = [])
      clear h1 h2 h3 h4
      obtain ⟨vb, vo, vc, ev, _, _⟩ := open_sl FI (by omega)
      refine wp_seq ?_
      refine wp_region_sq (σ := Value) 98 [(0, 26), (1, 27), (2, 28), (3, 8)] (fun j_ s X => match j_ with | 0 => Below V.heap.size V X | 1 => Below V.heap.size V X | 2 => Below V.heap.size V X | 3 => Below V.heap.size V X ∧ (X.ownsRow V.heap.size 3 1 s (J) (intsL (J) (sf))) | _ => Below V.heap.size V X ∧ (X.ownsRow V.heap.size 3 1 s (J) (intsL (J) (sf)))) (fun s => fun i_ => match i_ with | 0 => .slice none 0 0 | 1 => v | 2 => s | 3 => s | _ => undef) undef A.1 (by kernel_rfl) (by decide) (by decide) (BB) ?_ ?_
      · intro i_ hi_ s a X hf hv hn hS
        match i_, hi_ with
        | 0, _ => exact stepV rfl rfl (execMvB rfl ((hn 3 (by decide) _ rfl _ rfl).trans t8)) ⟨s, ⟨_, rfl, rfl⟩, hS, fun _ _ => rfl⟩
        | 1, _ => exact stepV rfl rfl (execMvB rfl ((hf 0 (by decide)).trans t0)) ⟨s, ⟨_, rfl, rfl⟩, hS, fun _ _ => rfl⟩
        | 2, _ =>
          refine stepAppIs (f := sf) (g := sf) rfl rfl rfl (hv 0 (by decide) _ rfl _ rfl) (hv 1 (by decide) _ rfl _ rfl) (World.ownsRow_nil _ V.heap.size 3 1) (FI.on hS) (fun l c e => by rw [ev] at e; cases e) (by omega) (hS).size fun v' W' own' gr => ⟨v', ⟨_, rfl, rfl⟩, ⟨(hS).grown gr (hS).size (fun k hk => by cases hk), own_cat0 own'⟩, fun i hi => ?_⟩
          match i, hi with
          | 0, _ => rfl
          | 1, _ => rfl
          | n_ + 2, h_ => omega
        | 3, _ => exact stepV rfl rfl (execAsgB rfl (hv 2 (by decide) _ rfl _ rfl)) ⟨s, ⟨_, rfl, rfl⟩, hS, fun _ _ => rfl⟩
        | k_ + 4, h_ => exact absurd h_ (by simp)
      rintro v28 a X5 h1 h2 h3 h4 hS
      clear BB
      replace hS : Below V.heap.size V X5 ∧ (X5.ownsRow V.heap.size 3 1 v28 (J) (intsL (J) (sf))) := hS
      obtain ⟨BB, FO⟩ := hS
      replace t0 := (h3 0 (by decide)).trans t0
      replace t1 := (h3 1 (by decide)).trans t1
      replace t7 := (h3 7 (by decide)).trans t7
      replace t8 : a.eval (.tmp 8) = v28 := h4 3 _ rfl _ rfl
      replace A := (⟨h1, h2.trans A.2⟩ : a.tmps.size = 98 ∧ a.defers = [])
      clear h1 h2 h3 h4
      refine wp_seq ?_
      refine wp_region_sq (σ := Nat) 98 [(0, 29), (1, 30), (2, 31), (3, 9)] (fun j_ s X => match j_ with | 0 => Below V.heap.size V X ∧ (X.ownsRow V.heap.size 3 1 v28 (J) (intsL (J) (sf))) | 1 => Below V.heap.size V X ∧ (X.ownsRow V.heap.size 3 1 v28 (J) (intsL (J) (sf))) | 2 => Below V.heap.size V X ∧ (X.ownsRow V.heap.size 3 1 v28 (J) (intsL (J) (sf))) | 3 => Below V.heap.size V X ∧ (X.ownsRow V.heap.size 3 1 v28 (J) (intsL (J) (sf))) ∧ (X.ownsRow V.heap.size 23 1 (.slice (some ⟨s, 0, none⟩) J J) J (lL (fun _ => .slice none 0 0) J)) | _ => Below V.heap.size V X ∧ (X.ownsRow V.heap.size 3 1 v28 (J) (intsL (J) (sf))) ∧ (X.ownsRow V.heap.size 23 1 (.slice (some ⟨s, 0, none⟩) J J) J (lL (fun _ => .slice none 0 0) J))) (fun s => fun i_ => match i_ with | 0 => v | 1 => .int .i64 ((J : Nat) : Int) | 2 => .slice (some ⟨s, 0, none⟩) J J | 3 => .slice (some ⟨s, 0, none⟩) J J | _ => undef) 0 A.1 (by kernel_rfl) (by decide) (by decide) ⟨BB, FO⟩ ?_ ?_
      · intro i_ hi_ s a X hf hv hn hS
        match i_, hi_ with
        | 0, _ => exact stepV rfl rfl (execMvB rfl ((hf 0 (by decide)).trans t0)) ⟨s, ⟨_, rfl, rfl⟩, hS, fun _ _ => rfl⟩
        | 1, _ => exact stepV rfl rfl (execLenI (len := J) rfl (hv 0 (by decide) _ rfl _ rfl) ((FI.on hS.1)).shp) ⟨s, ⟨_, rfl, rfl⟩, hS, fun _ _ => rfl⟩
        | 2, _ =>
          refine stepV rfl rfl (execMkLI rfl (hv 1 (by decide) _ rfl _ rfl) (hv 1 (by decide) _ rfl _ rfl) (by omega)) ⟨X.heap.size, ⟨_, rfl, rfl⟩, ⟨(hS.1).trans (((belNew X _)).mono (hS.1).size), (ownD_below hS.2 (belNew X _)), ownD_base (own_mkLI X J (by omega)) (hS.1).size⟩, fun i hi => ?_⟩
          match i, hi with
          | 0, _ => rfl
          | 1, _ => rfl
          | n_ + 2, h_ => omega
        | 3, _ => exact stepV rfl rfl (execAsgB rfl (hv 2 (by decide) _ rfl _ rfl)) ⟨s, ⟨_, rfl, rfl⟩, hS, fun _ _ => rfl⟩
        | k_ + 4, h_ => exact absurd h_ (by simp)
      rintro g31 a X6 h1 h2 h3 h4 hS
      clear BB
      clear FO
      replace hS : Below V.heap.size V X6 ∧ (X6.ownsRow V.heap.size 3 1 v28 (J) (intsL (J) (sf))) ∧ (X6.ownsRow V.heap.size 23 1 (.slice (some ⟨g31, 0, none⟩) J J) J (lL (fun _ => .slice none 0 0) J)) := hS
      obtain ⟨BB, FO, FV⟩ := hS
      replace t0 := (h3 0 (by decide)).trans t0
      replace t1 := (h3 1 (by decide)).trans t1
      replace t7 := (h3 7 (by decide)).trans t7
      replace t8 := (h3 8 (by decide)).trans t8
      have t9 : a.eval (.tmp 9) = .slice (some ⟨g31, 0, none⟩) J J := h4 3 _ rfl _ rfl
      replace A := (⟨h1, h2.trans A.2⟩ : a.tmps.size = 98 ∧ a.defers = [])
      clear h1 h2 h3 h4
      refine wp_seq ?_
      refine wp_region_sq (σ := Unit) 98 [(0, 10)] (fun j_ s X => match j_ with | 0 => Below V.heap.size V X ∧ (X.ownsRow V.heap.size 3 1 v28 (J) (intsL (J) (sf))) ∧ (X.ownsRow V.heap.size 23 1 (.slice (some ⟨g31, 0, none⟩) J J) J (lL (fun _ => .slice none 0 0) J)) | _ => Below V.heap.size V X ∧ (X.ownsRow V.heap.size 3 1 v28 (J) (intsL (J) (sf))) ∧ (X.ownsRow V.heap.size 23 1 (.slice (some ⟨g31, 0, none⟩) J J) J (lL (fun _ => .slice none 0 0) J))) (fun s => fun i_ => match i_ with | 0 => .slice none 0 0 | _ => undef) () A.1 (by kernel_rfl) (by decide) (by decide) ⟨BB, FO, FV⟩ ?_ ?_
      · intro i_ hi_ s a X hf hv hn hS
        match i_, hi_ with
        | 0, _ => exact stepV rfl rfl (execAsgB rfl rfl) ⟨s, ⟨_, rfl, rfl⟩, hS, fun _ _ => rfl⟩
        | k_ + 1, h_ => exact absurd h_ (by simp)
      rintro _ a X7 h1 h2 h3 h4 hS
      clear BB
      clear FO
      clear FV
      replace hS : Below V.heap.size V X7 ∧ (X7.ownsRow V.heap.size 3 1 v28 (J) (intsL (J) (sf))) ∧ (X7.ownsRow V.heap.size 23 1 (.slice (some ⟨g31, 0, none⟩) J J) J (lL (fun _ => .slice none 0 0) J)) := hS
      obtain ⟨BB, FO, FV⟩ := hS
      replace t0 := (h3 0 (by decide)).trans t0
      replace t1 := (h3 1 (by decide)).trans t1
      replace t7 := (h3 7 (by decide)).trans t7
      replace t8 := (h3 8 (by decide)).trans t8
      replace t9 := (h3 9 (by decide)).trans t9
      have t10 : a.eval (.tmp 10) = .slice none 0 0 := h4 0 _ rfl _ rfl
      replace A := (⟨h1, h2.trans A.2⟩ : a.tmps.size = 98 ∧ a.defers = [])
      clear h1 h2 h3 h4
      refine wp_seq ?_
      refine wp_seq ?_
      refine wp_region_sq (σ := Unit) 98 [(0, 11)] (fun j_ s X => match j_ with | 0 => Below V.heap.size V X ∧ (X.ownsRow V.heap.size 3 1 v28 (J) (intsL (J) (sf))) ∧ (X.ownsRow V.heap.size 23 1 (.slice (some ⟨g31, 0, none⟩) J J) J (lL (fun _ => .slice none 0 0) J)) | _ => Below V.heap.size V X ∧ (X.ownsRow V.heap.size 3 1 v28 (J) (intsL (J) (sf))) ∧ (X.ownsRow V.heap.size 23 1 (.slice (some ⟨g31, 0, none⟩) J J) J (lL (fun _ => .slice none 0 0) J))) (fun s => fun i_ => match i_ with | 0 => .int .i64 ((0 : Nat) : Int) | _ => undef) () A.1 (by kernel_rfl) (by decide) (by decide) ⟨BB, FO, FV⟩ ?_ ?_
      · intro i_ hi_ s a X hf hv hn hS
        match i_, hi_ with
        | 0, _ => exact stepV rfl rfl (execAsgB rfl rfl) ⟨s, ⟨_, rfl, rfl⟩, hS, fun _ _ => rfl⟩
        | k_ + 1, h_ => exact absurd h_ (by simp)
      rintro _ a X8 h1 h2 h3 h4 hS
      clear BB
      clear FO
      clear FV
      replace hS : Below V.heap.size V X8 ∧ (X8.ownsRow V.heap.size 3 1 v28 (J) (intsL (J) (sf))) ∧ (X8.ownsRow V.heap.size 23 1 (.slice (some ⟨g31, 0, none⟩) J J) J (lL (fun _ => .slice none 0 0) J)) := hS
      obtain ⟨BB, FO, FV⟩ := hS
      replace t0 := (h3 0 (by decide)).trans t0
      replace t1 := (h3 1 (by decide)).trans t1
      replace t7 := (h3 7 (by decide)).trans t7
      replace t8 := (h3 8 (by decide)).trans t8
      replace t9 := (h3 9 (by decide)).trans t9
      replace t10 := (h3 10 (by decide)).trans t10
      have t11 : a.eval (.tmp 11) = .int .i64 ((0 : Nat) : Int) := h4 0 _ rfl _ rfl
      replace A := (⟨h1, h2.trans A.2⟩ : a.tmps.size = 98 ∧ a.defers = [])
      clear h1 h2 h3 h4
      have FM : (FmI V.heap.size (J + 2) (xV v28) (nnV sf J df 0) (ffV sf J df m 0) X8) := fmV0 sf J df m FO hok
      clear FO
      replace FV : (X8.ownsRow V.heap.size 23 1 (.slice (some ⟨g31, 0, none⟩) J J) J (lL (fun j => (xV v28) (2 + j)) J)) := (by have h_ := FV; rw [lL_congr (y := fun j => xV v28 (2 + j)) J (fun j hj => (xV_o (by omega)).symm)] at h_; exact h_)
      refine wp_block ?_
      refine wp_loop (fun a W => ∃ (i : Nat) (x : Nat → Value), i ≤ m ∧ (allB (faB df m) i = true) ∧ (a.tmps.size = 98 ∧ a.defers = []) ∧ a.eval (.tmp 0) = v ∧ a.eval (.tmp 1) = u0 ∧ a.eval (.tmp 7) = .int .i64 ((m : Nat) : Int) ∧ a.eval (.tmp 8) = x 0 ∧ a.eval (.tmp 9) = .slice (some ⟨g31, 0, none⟩) J J ∧ a.eval (.tmp 10) = x 1 ∧ a.eval (.tmp 11) = .int .i64 ((i : Nat) : Int) ∧ Below V.heap.size V W ∧ (W.ownsRow V.heap.size 23 1 (.slice (some ⟨g31, 0, none⟩) J J) J (lL (fun j => (x) (2 + j)) J)) ∧ (FmI V.heap.size (J + 2) (x) (nnV sf J df i) (ffV sf J df m i) W)) (fun a _ => m - (intOf (a.eval (.tmp 11))).toNat) ⟨0, xV v28, Nat.zero_le _, rfl, A, t0, t1, t7, t8, t9, t10, t11, BB, FV, FM⟩ ?_
      clear A t0 t1 t7 t8 t9 t10 t11 BB FV FM a
      rintro a XL9 ⟨i, x, hi, hall, A, t0, t1, t7, t8, t9, t10, t11, BB, FV, FM⟩
      have esi := t11
      refine wp_seq ?_
      refine wp_seq ?_
      refine wp_region_sq (σ := Unit) 98 [(0, 32), (1, 33), (2, 34)] (fun j_ s X => match j_ with | 0 => Below V.heap.size V X ∧ (X.ownsRow V.heap.size 23 1 (.slice (some ⟨g31, 0, none⟩) J J) J (lL (fun j => (x) (2 + j)) J)) ∧ (FmI V.heap.size (J + 2) (x) (nnV sf J df i) (ffV sf J df m i) X) | 1 => Below V.heap.size V X ∧ (X.ownsRow V.heap.size 23 1 (.slice (some ⟨g31, 0, none⟩) J J) J (lL (fun j => (x) (2 + j)) J)) ∧ (FmI V.heap.size (J + 2) (x) (nnV sf J df i) (ffV sf J df m i) X) | 2 => Below V.heap.size V X ∧ (X.ownsRow V.heap.size 23 1 (.slice (some ⟨g31, 0, none⟩) J J) J (lL (fun j => (x) (2 + j)) J)) ∧ (FmI V.heap.size (J + 2) (x) (nnV sf J df i) (ffV sf J df m i) X) | _ => Below V.heap.size V X ∧ (X.ownsRow V.heap.size 23 1 (.slice (some ⟨g31, 0, none⟩) J J) J (lL (fun j => (x) (2 + j)) J)) ∧ (FmI V.heap.size (J + 2) (x) (nnV sf J df i) (ffV sf J df m i) X)) (fun s => fun i_ => match i_ with | 0 => .int .i64 ((i : Nat) : Int) | 1 => .int .i64 ((m : Nat) : Int) | 2 => .bool (decide (i < m)) | _ => undef) () A.1 (by kernel_rfl) (by decide) (by decide) ⟨BB, FV, FM⟩ ?_ ?_
      · intro i_ hi_ s a X hf hv hn hS
        match i_, hi_ with
        | 0, _ => exact stepV rfl rfl (execMvB rfl ((hf 11 (by decide)).trans t11)) ⟨s, ⟨_, rfl, rfl⟩, hS, fun _ _ => rfl⟩
        | 1, _ => exact stepV rfl rfl (execMvB rfl ((hf 7 (by decide)).trans t7)) ⟨s, ⟨_, rfl, rfl⟩, hS, fun _ _ => rfl⟩
        | 2, _ => exact stepV rfl rfl (execLtW (p := i) (q := m) rfl (hv 0 (by decide) _ rfl _ rfl) (hv 1 (by decide) _ rfl _ rfl)) ⟨s, ⟨_, rfl, rfl⟩, hS, fun _ _ => rfl⟩
        | k_ + 3, h_ => exact absurd h_ (by simp)
      rintro _ a X9 h1 h2 h3 h4 hS
      clear BB
      clear FV
      clear FM
      replace hS : Below V.heap.size V X9 ∧ (X9.ownsRow V.heap.size 23 1 (.slice (some ⟨g31, 0, none⟩) J J) J (lL (fun j => (x) (2 + j)) J)) ∧ (FmI V.heap.size (J + 2) (x) (nnV sf J df i) (ffV sf J df m i) X9) := hS
      obtain ⟨BB, FV, FM⟩ := hS
      replace t0 := (h3 0 (by decide)).trans t0
      replace t1 := (h3 1 (by decide)).trans t1
      replace t7 := (h3 7 (by decide)).trans t7
      replace t8 := (h3 8 (by decide)).trans t8
      replace t9 := (h3 9 (by decide)).trans t9
      replace t10 := (h3 10 (by decide)).trans t10
      replace t11 := (h3 11 (by decide)).trans t11
      have t34 : a.eval (.tmp 34) = .bool (decide (i < m)) := h4 2 _ rfl _ rfl
      replace A := (⟨h1, h2.trans A.2⟩ : a.tmps.size = 98 ∧ a.defers = [])
      clear h1 h2 h3 h4
      by_cases lti : i < m
      · rw [decide_eq_true lti] at t34
        refine wp_cond_true t34 ?_
        refine wp_skip ?_
        clear t34
        refine wp_seq ?_
        refine wp_block ?_
        obtain ⟨ddb, ddo, ddc, edd, hddb, hddc⟩ := open_sl FJ (by omega)
        have cdd : ∀ k, k < m → ∀ X, Below V.heap.size V X → X.cell? ⟨ddb, ddo + k, none⟩ = some (.int .i64 ((df) k)) := fun k hk X hX => by rw [cell_below hX hddb]; exact hddc k hk
        by_cases h1 : df i < 0
        · refine wp_seq ?_
          refine wp_region_sq (σ := Unit) 98 [(0, 37), (1, 38), (2, 39), (3, 40), (4, 12)] (fun j_ s X => match j_ with | 0 => Below V.heap.size V X ∧ (X.ownsRow V.heap.size 23 1 (.slice (some ⟨g31, 0, none⟩) J J) J (lL (fun j => (x) (2 + j)) J)) ∧ (FmI V.heap.size (J + 2) (x) (nnV sf J df i) (ffV sf J df m i) X) | 1 => Below V.heap.size V X ∧ (X.ownsRow V.heap.size 23 1 (.slice (some ⟨g31, 0, none⟩) J J) J (lL (fun j => (x) (2 + j)) J)) ∧ (FmI V.heap.size (J + 2) (x) (nnV sf J df i) (ffV sf J df m i) X) | 2 => Below V.heap.size V X ∧ (X.ownsRow V.heap.size 23 1 (.slice (some ⟨g31, 0, none⟩) J J) J (lL (fun j => (x) (2 + j)) J)) ∧ (FmI V.heap.size (J + 2) (x) (nnV sf J df i) (ffV sf J df m i) X) | 3 => Below V.heap.size V X ∧ (X.ownsRow V.heap.size 23 1 (.slice (some ⟨g31, 0, none⟩) J J) J (lL (fun j => (x) (2 + j)) J)) ∧ (FmI V.heap.size (J + 2) (x) (nnV sf J df i) (ffV sf J df m i) X) | 4 => Below V.heap.size V X ∧ (X.ownsRow V.heap.size 23 1 (.slice (some ⟨g31, 0, none⟩) J J) J (lL (fun j => (x) (2 + j)) J)) ∧ (FmI V.heap.size (J + 2) (x) (nnV sf J df i) (ffV sf J df m i) X) | _ => Below V.heap.size V X ∧ (X.ownsRow V.heap.size 23 1 (.slice (some ⟨g31, 0, none⟩) J J) J (lL (fun j => (x) (2 + j)) J)) ∧ (FmI V.heap.size (J + 2) (x) (nnV sf J df i) (ffV sf J df m i) X)) (fun s => fun i_ => match i_ with | 0 => u0 | 1 => .int .i64 ((i : Nat) : Int) | 2 => .pointer (some ⟨ddb, ddo + i, none⟩) | 3 => .int .i64 (df i) | 4 => .int .i64 (df i) | _ => undef) () A.1 (by kernel_rfl) (by decide) (by decide) ⟨BB, FV, FM⟩ ?_ ?_
          · intro i_ hi_ s a X hf hv hn hS
            match i_, hi_ with
            | 0, _ => exact stepV rfl rfl (execMvB rfl ((hf 1 (by decide)).trans t1)) ⟨s, ⟨_, rfl, rfl⟩, hS, fun _ _ => rfl⟩
            | 1, _ => exact stepV rfl rfl (execMvB rfl ((hf 11 (by decide)).trans t11)) ⟨s, ⟨_, rfl, rfl⟩, hS, fun _ _ => rfl⟩
            | 2, _ => exact stepV rfl rfl (execIdxN (k := i) rfl ((hv 0 (by decide) _ rfl _ rfl).trans edd) (hv 1 (by decide) _ rfl _ rfl) lti) ⟨s, ⟨_, rfl, rfl⟩, hS, fun _ _ => rfl⟩
            | 3, _ => exact stepV rfl rfl (execLd3 rfl (hv 2 (by decide) _ rfl _ rfl) (cdd i lti X hS.1)) ⟨s, ⟨_, rfl, rfl⟩, hS, fun _ _ => rfl⟩
            | 4, _ => exact stepV rfl rfl (execAsgB rfl (hv 3 (by decide) _ rfl _ rfl)) ⟨s, ⟨_, rfl, rfl⟩, hS, fun _ _ => rfl⟩
            | k_ + 5, h_ => exact absurd h_ (by simp)
          rintro _ a X11 h1 h2 h3 h4 hS
          clear BB
          clear FV
          clear FM
          replace hS : Below V.heap.size V X11 ∧ (X11.ownsRow V.heap.size 23 1 (.slice (some ⟨g31, 0, none⟩) J J) J (lL (fun j => (x) (2 + j)) J)) ∧ (FmI V.heap.size (J + 2) (x) (nnV sf J df i) (ffV sf J df m i) X11) := hS
          obtain ⟨BB, FV, FM⟩ := hS
          replace t0 := (h3 0 (by decide)).trans t0
          replace t1 := (h3 1 (by decide)).trans t1
          replace t7 := (h3 7 (by decide)).trans t7
          replace t8 := (h3 8 (by decide)).trans t8
          replace t9 := (h3 9 (by decide)).trans t9
          replace t10 := (h3 10 (by decide)).trans t10
          replace t11 := (h3 11 (by decide)).trans t11
          have t12 : a.eval (.tmp 12) = .int .i64 (df i) := h4 4 _ rfl _ rfl
          replace A := (⟨h1, h2.trans A.2⟩ : a.tmps.size = 98 ∧ a.defers = [])
          clear h1 h2 h3 h4
          refine wp_seq ?_
          refine wp_seq ?_
          refine wp_region_sq (σ := Unit) 98 [(0, 41), (1, 42), (2, 43), (3, 44), (4, 45), (5, 46), (6, 47), (7, 48), (8, 49)] (fun j_ s X => match j_ with | 0 => Below V.heap.size V X ∧ (X.ownsRow V.heap.size 23 1 (.slice (some ⟨g31, 0, none⟩) J J) J (lL (fun j => (x) (2 + j)) J)) ∧ (FmI V.heap.size (J + 2) (x) (nnV sf J df i) (ffV sf J df m i) X) | 1 => Below V.heap.size V X ∧ (X.ownsRow V.heap.size 23 1 (.slice (some ⟨g31, 0, none⟩) J J) J (lL (fun j => (x) (2 + j)) J)) ∧ (FmI V.heap.size (J + 2) (x) (nnV sf J df i) (ffV sf J df m i) X) | 2 => Below V.heap.size V X ∧ (X.ownsRow V.heap.size 23 1 (.slice (some ⟨g31, 0, none⟩) J J) J (lL (fun j => (x) (2 + j)) J)) ∧ (FmI V.heap.size (J + 2) (x) (nnV sf J df i) (ffV sf J df m i) X) | 3 => Below V.heap.size V X ∧ (X.ownsRow V.heap.size 23 1 (.slice (some ⟨g31, 0, none⟩) J J) J (lL (fun j => (x) (2 + j)) J)) ∧ (FmI V.heap.size (J + 2) (x) (nnV sf J df i) (ffV sf J df m i) X) | 4 => Below V.heap.size V X ∧ (X.ownsRow V.heap.size 23 1 (.slice (some ⟨g31, 0, none⟩) J J) J (lL (fun j => (x) (2 + j)) J)) ∧ (FmI V.heap.size (J + 2) (x) (nnV sf J df i) (ffV sf J df m i) X) | 5 => Below V.heap.size V X ∧ (X.ownsRow V.heap.size 23 1 (.slice (some ⟨g31, 0, none⟩) J J) J (lL (fun j => (x) (2 + j)) J)) ∧ (FmI V.heap.size (J + 2) (x) (nnV sf J df i) (ffV sf J df m i) X) | 6 => Below V.heap.size V X ∧ (X.ownsRow V.heap.size 23 1 (.slice (some ⟨g31, 0, none⟩) J J) J (lL (fun j => (x) (2 + j)) J)) ∧ (FmI V.heap.size (J + 2) (x) (nnV sf J df i) (ffV sf J df m i) X) | 7 => Below V.heap.size V X ∧ (X.ownsRow V.heap.size 23 1 (.slice (some ⟨g31, 0, none⟩) J J) J (lL (fun j => (x) (2 + j)) J)) ∧ (FmI V.heap.size (J + 2) (x) (nnV sf J df i) (ffV sf J df m i) X) | 8 => Below V.heap.size V X ∧ (X.ownsRow V.heap.size 23 1 (.slice (some ⟨g31, 0, none⟩) J J) J (lL (fun j => (x) (2 + j)) J)) ∧ (FmI V.heap.size (J + 2) (x) (nnV sf J df i) (ffV sf J df m i) X) | _ => Below V.heap.size V X ∧ (X.ownsRow V.heap.size 23 1 (.slice (some ⟨g31, 0, none⟩) J J) J (lL (fun j => (x) (2 + j)) J)) ∧ (FmI V.heap.size (J + 2) (x) (nnV sf J df i) (ffV sf J df m i) X)) (fun s => fun i_ => match i_ with | 0 => .int .i64 (df i) | 1 => .bool true | 2 => .bool true | 3 => undef | 4 => undef | 5 => undef | 6 => undef | 7 => undef | 8 => .bool true | _ => undef) () A.1 (by kernel_rfl) (by decide) (by decide) ⟨BB, FV, FM⟩ ?_ ?_
          · intro i_ hi_ s a X hf hv hn hS
            match i_, hi_ with
            | 0, _ => exact stepV rfl rfl (execMvB rfl ((hf 12 (by decide)).trans t12)) ⟨s, ⟨_, rfl, rfl⟩, hS, fun _ _ => rfl⟩
            | 1, _ => exact stepV rfl rfl (execLtCt (p := (df i)) (q := 0) rfl (hv 0 (by decide) _ rfl _ rfl) (by exact h1)) ⟨s, ⟨_, rfl, rfl⟩, hS, fun _ _ => rfl⟩
            | 2, _ => exact stepV rfl rfl (execMvB rfl (hv 1 (by decide) _ rfl _ rfl)) ⟨s, ⟨_, rfl, rfl⟩, hS, fun _ _ => rfl⟩
            | 3, _ => exact stepU rfl (unwantedOf rfl (yieldedAt rfl rfl (show a.eval (.tmp 43) = .bool (!false) from (hv 2 (by decide) _ rfl _ rfl)))) ⟨s, ⟨_, rfl, rfl⟩, hS, fun _ _ => rfl⟩
            | 4, _ => exact stepU rfl (unwantedOf rfl (yieldedAt rfl rfl (show a.eval (.tmp 43) = .bool (!false) from (hv 2 (by decide) _ rfl _ rfl)))) ⟨s, ⟨_, rfl, rfl⟩, hS, fun _ _ => rfl⟩
            | 5, _ => exact stepU rfl (unwantedOf rfl (yieldedAt rfl rfl (show a.eval (.tmp 43) = .bool (!false) from (hv 2 (by decide) _ rfl _ rfl)))) ⟨s, ⟨_, rfl, rfl⟩, hS, fun _ _ => rfl⟩
            | 6, _ => exact stepU rfl (unwantedOf rfl (yieldedAt rfl rfl (show a.eval (.tmp 43) = .bool (!false) from (hv 2 (by decide) _ rfl _ rfl)))) ⟨s, ⟨_, rfl, rfl⟩, hS, fun _ _ => rfl⟩
            | 7, _ => exact stepU rfl (unwantedOf rfl (yieldedAt rfl rfl (show a.eval (.tmp 43) = .bool (!false) from (hv 2 (by decide) _ rfl _ rfl)))) ⟨s, ⟨_, rfl, rfl⟩, hS, fun _ _ => rfl⟩
            | 8, _ => exact stepV rfl rfl (execPickT rfl (hv 2 (by decide) _ rfl _ rfl) rfl) ⟨s, ⟨_, rfl, rfl⟩, hS, fun _ _ => rfl⟩
            | k_ + 9, h_ => exact absurd h_ (by simp)
          rintro _ a X12 h1 h2 h3 h4 hS
          clear BB
          clear FV
          clear FM
          replace hS : Below V.heap.size V X12 ∧ (X12.ownsRow V.heap.size 23 1 (.slice (some ⟨g31, 0, none⟩) J J) J (lL (fun j => (x) (2 + j)) J)) ∧ (FmI V.heap.size (J + 2) (x) (nnV sf J df i) (ffV sf J df m i) X12) := hS
          obtain ⟨BB, FV, FM⟩ := hS
          replace t0 := (h3 0 (by decide)).trans t0
          replace t1 := (h3 1 (by decide)).trans t1
          replace t7 := (h3 7 (by decide)).trans t7
          replace t8 := (h3 8 (by decide)).trans t8
          replace t9 := (h3 9 (by decide)).trans t9
          replace t10 := (h3 10 (by decide)).trans t10
          replace t11 := (h3 11 (by decide)).trans t11
          replace t12 := (h3 12 (by decide)).trans t12
          have t49 : a.eval (.tmp 49) = .bool true := h4 8 _ rfl _ rfl
          replace A := (⟨h1, h2.trans A.2⟩ : a.tmps.size = 98 ∧ a.defers = [])
          clear h1 h2 h3 h4
          refine wp_cond_true t49 ?_
          refine wp_seq ?_
          clear FM FV
          refine wp_region_sq (σ := Unit) 98 [(0, 4), (1, 5), (2, 6)] (fun j_ s X => match j_ with | 0 => Below V.heap.size V X | 1 => Below V.heap.size V X | 2 => Below V.heap.size V X | _ => Below V.heap.size V X) (fun s => fun i_ => match i_ with | 0 => .slice none 0 0 | 1 => .slice none 0 0 | 2 => .int .i64 ((2 : Nat) : Int) | _ => undef) () A.1 (by kernel_rfl) (by decide) (by decide) (BB) ?_ ?_
          · intro i_ hi_ s a X hf hv hn hS
            match i_, hi_ with
            | 0, _ => exact stepV rfl rfl (execAsgB rfl rfl) ⟨s, ⟨_, rfl, rfl⟩, hS, fun _ _ => rfl⟩
            | 1, _ => exact stepV rfl rfl (execAsgB rfl rfl) ⟨s, ⟨_, rfl, rfl⟩, hS, fun _ _ => rfl⟩
            | 2, _ => exact stepV rfl rfl (execAsgB rfl rfl) ⟨s, ⟨_, rfl, rfl⟩, hS, fun _ _ => rfl⟩
            | k_ + 3, h_ => exact absurd h_ (by simp)
          rintro _ a X13 h1 h2 h3 h4 hS
          clear BB
          replace hS : Below V.heap.size V X13 := hS
          have BB := hS
          clear hS
          have t4 : a.eval (.tmp 4) = .slice none 0 0 := h4 0 _ rfl _ rfl
          have t5 : a.eval (.tmp 5) = .slice none 0 0 := h4 1 _ rfl _ rfl
          have t6 : a.eval (.tmp 6) = .int .i64 ((2 : Nat) : Int) := h4 2 _ rfl _ rfl
          replace A := (⟨h1, h2.trans A.2⟩ : a.tmps.size = 98 ∧ a.defers = [])
          clear h1 h2 h3 h4
          clear t0 t1 t7 t8 t9 t10 t11 t12
          have hE : paE sf J df m = 2 := paE_no fun q => by have h_ := faQ_iff.1 (paQ_iff.1 q).2.2 i lti; omega
          rw [hE, zl_no (by decide)]
          refine wp_ret ?_
          repeat (first | with_reducible refine ret_in ?_ | with_reducible refine ret_then ?_)
          refine bodyPost_ret (results_tmp3 rfl _ _ _) A.2 ⟨_, _, ?_, fm2nil _ _ _, BB⟩
          show Ending.returned (.tuple #[a.eval (.tmp 4), a.eval (.tmp 5), a.eval (.tmp 6)]) = _
          rw [t4, t5, t6]
        · by_cases h2 : (m : Int) - (i : Int) ≤ df i
          · obtain ⟨w, ew⟩ : ∃ w : Nat, df i = w := ⟨(df i).toNat, by omega⟩
            refine wp_seq ?_
            refine wp_region_sq (σ := Unit) 98 [(0, 37), (1, 38), (2, 39), (3, 40), (4, 12)] (fun j_ s X => match j_ with | 0 => Below V.heap.size V X ∧ (X.ownsRow V.heap.size 23 1 (.slice (some ⟨g31, 0, none⟩) J J) J (lL (fun j => (x) (2 + j)) J)) ∧ (FmI V.heap.size (J + 2) (x) (nnV sf J df i) (ffV sf J df m i) X) | 1 => Below V.heap.size V X ∧ (X.ownsRow V.heap.size 23 1 (.slice (some ⟨g31, 0, none⟩) J J) J (lL (fun j => (x) (2 + j)) J)) ∧ (FmI V.heap.size (J + 2) (x) (nnV sf J df i) (ffV sf J df m i) X) | 2 => Below V.heap.size V X ∧ (X.ownsRow V.heap.size 23 1 (.slice (some ⟨g31, 0, none⟩) J J) J (lL (fun j => (x) (2 + j)) J)) ∧ (FmI V.heap.size (J + 2) (x) (nnV sf J df i) (ffV sf J df m i) X) | 3 => Below V.heap.size V X ∧ (X.ownsRow V.heap.size 23 1 (.slice (some ⟨g31, 0, none⟩) J J) J (lL (fun j => (x) (2 + j)) J)) ∧ (FmI V.heap.size (J + 2) (x) (nnV sf J df i) (ffV sf J df m i) X) | 4 => Below V.heap.size V X ∧ (X.ownsRow V.heap.size 23 1 (.slice (some ⟨g31, 0, none⟩) J J) J (lL (fun j => (x) (2 + j)) J)) ∧ (FmI V.heap.size (J + 2) (x) (nnV sf J df i) (ffV sf J df m i) X) | _ => Below V.heap.size V X ∧ (X.ownsRow V.heap.size 23 1 (.slice (some ⟨g31, 0, none⟩) J J) J (lL (fun j => (x) (2 + j)) J)) ∧ (FmI V.heap.size (J + 2) (x) (nnV sf J df i) (ffV sf J df m i) X)) (fun s => fun i_ => match i_ with | 0 => u0 | 1 => .int .i64 ((i : Nat) : Int) | 2 => .pointer (some ⟨ddb, ddo + i, none⟩) | 3 => .int .i64 ((w : Nat) : Int) | 4 => .int .i64 ((w : Nat) : Int) | _ => undef) () A.1 (by kernel_rfl) (by decide) (by decide) ⟨BB, FV, FM⟩ ?_ ?_
            · intro i_ hi_ s a X hf hv hn hS
              match i_, hi_ with
              | 0, _ => exact stepV rfl rfl (execMvB rfl ((hf 1 (by decide)).trans t1)) ⟨s, ⟨_, rfl, rfl⟩, hS, fun _ _ => rfl⟩
              | 1, _ => exact stepV rfl rfl (execMvB rfl ((hf 11 (by decide)).trans t11)) ⟨s, ⟨_, rfl, rfl⟩, hS, fun _ _ => rfl⟩
              | 2, _ => exact stepV rfl rfl (execIdxN (k := i) rfl ((hv 0 (by decide) _ rfl _ rfl).trans edd) (hv 1 (by decide) _ rfl _ rfl) lti) ⟨s, ⟨_, rfl, rfl⟩, hS, fun _ _ => rfl⟩
              | 3, _ => exact stepV rfl rfl (execLd3 rfl (hv 2 (by decide) _ rfl _ rfl) ((cdd i lti X hS.1).trans (by rw [ew]))) ⟨s, ⟨_, rfl, rfl⟩, hS, fun _ _ => rfl⟩
              | 4, _ => exact stepV rfl rfl (execAsgB rfl (hv 3 (by decide) _ rfl _ rfl)) ⟨s, ⟨_, rfl, rfl⟩, hS, fun _ _ => rfl⟩
              | k_ + 5, h_ => exact absurd h_ (by simp)
            rintro _ a X11 h1 h2 h3 h4 hS
            clear BB
            clear FV
            clear FM
            replace hS : Below V.heap.size V X11 ∧ (X11.ownsRow V.heap.size 23 1 (.slice (some ⟨g31, 0, none⟩) J J) J (lL (fun j => (x) (2 + j)) J)) ∧ (FmI V.heap.size (J + 2) (x) (nnV sf J df i) (ffV sf J df m i) X11) := hS
            obtain ⟨BB, FV, FM⟩ := hS
            replace t0 := (h3 0 (by decide)).trans t0
            replace t1 := (h3 1 (by decide)).trans t1
            replace t7 := (h3 7 (by decide)).trans t7
            replace t8 := (h3 8 (by decide)).trans t8
            replace t9 := (h3 9 (by decide)).trans t9
            replace t10 := (h3 10 (by decide)).trans t10
            replace t11 := (h3 11 (by decide)).trans t11
            have t12 : a.eval (.tmp 12) = .int .i64 ((w : Nat) : Int) := h4 4 _ rfl _ rfl
            replace A := (⟨h1, h2.trans A.2⟩ : a.tmps.size = 98 ∧ a.defers = [])
            clear h1 h2 h3 h4
            refine wp_seq ?_
            refine wp_seq ?_
            refine wp_region_sq (σ := Unit) 98 [(0, 41), (1, 42), (2, 43), (3, 44), (4, 45), (5, 46), (6, 47), (7, 48), (8, 49)] (fun j_ s X => match j_ with | 0 => Below V.heap.size V X ∧ (X.ownsRow V.heap.size 23 1 (.slice (some ⟨g31, 0, none⟩) J J) J (lL (fun j => (x) (2 + j)) J)) ∧ (FmI V.heap.size (J + 2) (x) (nnV sf J df i) (ffV sf J df m i) X) | 1 => Below V.heap.size V X ∧ (X.ownsRow V.heap.size 23 1 (.slice (some ⟨g31, 0, none⟩) J J) J (lL (fun j => (x) (2 + j)) J)) ∧ (FmI V.heap.size (J + 2) (x) (nnV sf J df i) (ffV sf J df m i) X) | 2 => Below V.heap.size V X ∧ (X.ownsRow V.heap.size 23 1 (.slice (some ⟨g31, 0, none⟩) J J) J (lL (fun j => (x) (2 + j)) J)) ∧ (FmI V.heap.size (J + 2) (x) (nnV sf J df i) (ffV sf J df m i) X) | 3 => Below V.heap.size V X ∧ (X.ownsRow V.heap.size 23 1 (.slice (some ⟨g31, 0, none⟩) J J) J (lL (fun j => (x) (2 + j)) J)) ∧ (FmI V.heap.size (J + 2) (x) (nnV sf J df i) (ffV sf J df m i) X) | 4 => Below V.heap.size V X ∧ (X.ownsRow V.heap.size 23 1 (.slice (some ⟨g31, 0, none⟩) J J) J (lL (fun j => (x) (2 + j)) J)) ∧ (FmI V.heap.size (J + 2) (x) (nnV sf J df i) (ffV sf J df m i) X) | 5 => Below V.heap.size V X ∧ (X.ownsRow V.heap.size 23 1 (.slice (some ⟨g31, 0, none⟩) J J) J (lL (fun j => (x) (2 + j)) J)) ∧ (FmI V.heap.size (J + 2) (x) (nnV sf J df i) (ffV sf J df m i) X) | 6 => Below V.heap.size V X ∧ (X.ownsRow V.heap.size 23 1 (.slice (some ⟨g31, 0, none⟩) J J) J (lL (fun j => (x) (2 + j)) J)) ∧ (FmI V.heap.size (J + 2) (x) (nnV sf J df i) (ffV sf J df m i) X) | 7 => Below V.heap.size V X ∧ (X.ownsRow V.heap.size 23 1 (.slice (some ⟨g31, 0, none⟩) J J) J (lL (fun j => (x) (2 + j)) J)) ∧ (FmI V.heap.size (J + 2) (x) (nnV sf J df i) (ffV sf J df m i) X) | 8 => Below V.heap.size V X ∧ (X.ownsRow V.heap.size 23 1 (.slice (some ⟨g31, 0, none⟩) J J) J (lL (fun j => (x) (2 + j)) J)) ∧ (FmI V.heap.size (J + 2) (x) (nnV sf J df i) (ffV sf J df m i) X) | _ => Below V.heap.size V X ∧ (X.ownsRow V.heap.size 23 1 (.slice (some ⟨g31, 0, none⟩) J J) J (lL (fun j => (x) (2 + j)) J)) ∧ (FmI V.heap.size (J + 2) (x) (nnV sf J df i) (ffV sf J df m i) X)) (fun s => fun i_ => match i_ with | 0 => .int .i64 ((w : Nat) : Int) | 1 => .bool false | 2 => .bool false | 3 => .int .i64 ((w : Nat) : Int) | 4 => .int .i64 ((m : Nat) : Int) | 5 => .int .i64 ((i : Nat) : Int) | 6 => .int .i64 ((m - i : Nat) : Int) | 7 => .bool true | 8 => .bool true | _ => undef) () A.1 (by kernel_rfl) (by decide) (by decide) ⟨BB, FV, FM⟩ ?_ ?_
            · intro i_ hi_ s a X hf hv hn hS
              match i_, hi_ with
              | 0, _ => exact stepV rfl rfl (execMvB rfl ((hf 12 (by decide)).trans t12)) ⟨s, ⟨_, rfl, rfl⟩, hS, fun _ _ => rfl⟩
              | 1, _ => exact stepV rfl rfl (execDec (execLtW (p := w) (q := 0) rfl (hv 0 (by decide) _ rfl _ rfl) rfl) (decide_eq_false (by omega))) ⟨s, ⟨_, rfl, rfl⟩, hS, fun _ _ => rfl⟩
              | 2, _ => exact stepV rfl rfl (execMvB rfl (hv 1 (by decide) _ rfl _ rfl)) ⟨s, ⟨_, rfl, rfl⟩, hS, fun _ _ => rfl⟩
              | 3, _ => exact stepV rfl (wantedOf rfl (yieldedAt rfl rfl (show a.eval (.tmp 43) = .bool false from (hv 2 (by decide) _ rfl _ rfl)))) (execMvB rfl ((hf 12 (by decide)).trans t12)) ⟨s, ⟨_, rfl, rfl⟩, hS, fun _ _ => rfl⟩
              | 4, _ => exact stepV rfl (wantedOf rfl (yieldedAt rfl rfl (show a.eval (.tmp 43) = .bool false from (hv 2 (by decide) _ rfl _ rfl)))) (execMvB rfl ((hf 7 (by decide)).trans t7)) ⟨s, ⟨_, rfl, rfl⟩, hS, fun _ _ => rfl⟩
              | 5, _ => exact stepV rfl (wantedOf rfl (yieldedAt rfl rfl (show a.eval (.tmp 43) = .bool false from (hv 2 (by decide) _ rfl _ rfl)))) (execMvB rfl ((hf 11 (by decide)).trans t11)) ⟨s, ⟨_, rfl, rfl⟩, hS, fun _ _ => rfl⟩
              | 6, _ => exact stepV rfl (wantedOf rfl (yieldedAt rfl rfl (show a.eval (.tmp 43) = .bool false from (hv 2 (by decide) _ rfl _ rfl)))) (By8.execSubI (p := m) (q := i) rfl (hv 4 (by decide) _ rfl _ rfl) (hv 5 (by decide) _ rfl _ rfl) (by omega) (by omega)) ⟨s, ⟨_, rfl, rfl⟩, hS, fun _ _ => rfl⟩
              | 7, _ => exact stepV rfl (wantedOf rfl (yieldedAt rfl rfl (show a.eval (.tmp 43) = .bool false from (hv 2 (by decide) _ rfl _ rfl)))) (execDec (execGe8 (p := w) (q := m - i) rfl (hv 3 (by decide) _ rfl _ rfl) (hv 6 (by decide) _ rfl _ rfl)) (decide_eq_true (by omega))) ⟨s, ⟨_, rfl, rfl⟩, hS, fun _ _ => rfl⟩
              | 8, _ => exact stepV rfl rfl (execPickF rfl (hv 2 (by decide) _ rfl _ rfl) (hv 7 (by decide) _ rfl _ rfl)) ⟨s, ⟨_, rfl, rfl⟩, hS, fun _ _ => rfl⟩
              | k_ + 9, h_ => exact absurd h_ (by simp)
            rintro _ a X12 h1 h2 h3 h4 hS
            clear BB
            clear FV
            clear FM
            replace hS : Below V.heap.size V X12 ∧ (X12.ownsRow V.heap.size 23 1 (.slice (some ⟨g31, 0, none⟩) J J) J (lL (fun j => (x) (2 + j)) J)) ∧ (FmI V.heap.size (J + 2) (x) (nnV sf J df i) (ffV sf J df m i) X12) := hS
            obtain ⟨BB, FV, FM⟩ := hS
            replace t0 := (h3 0 (by decide)).trans t0
            replace t1 := (h3 1 (by decide)).trans t1
            replace t7 := (h3 7 (by decide)).trans t7
            replace t8 := (h3 8 (by decide)).trans t8
            replace t9 := (h3 9 (by decide)).trans t9
            replace t10 := (h3 10 (by decide)).trans t10
            replace t11 := (h3 11 (by decide)).trans t11
            replace t12 := (h3 12 (by decide)).trans t12
            have t49 : a.eval (.tmp 49) = .bool true := h4 8 _ rfl _ rfl
            replace A := (⟨h1, h2.trans A.2⟩ : a.tmps.size = 98 ∧ a.defers = [])
            clear h1 h2 h3 h4
            refine wp_cond_true t49 ?_
            refine wp_seq ?_
            clear FM FV
            refine wp_region_sq (σ := Unit) 98 [(0, 4), (1, 5), (2, 6)] (fun j_ s X => match j_ with | 0 => Below V.heap.size V X | 1 => Below V.heap.size V X | 2 => Below V.heap.size V X | _ => Below V.heap.size V X) (fun s => fun i_ => match i_ with | 0 => .slice none 0 0 | 1 => .slice none 0 0 | 2 => .int .i64 ((2 : Nat) : Int) | _ => undef) () A.1 (by kernel_rfl) (by decide) (by decide) (BB) ?_ ?_
            · intro i_ hi_ s a X hf hv hn hS
              match i_, hi_ with
              | 0, _ => exact stepV rfl rfl (execAsgB rfl rfl) ⟨s, ⟨_, rfl, rfl⟩, hS, fun _ _ => rfl⟩
              | 1, _ => exact stepV rfl rfl (execAsgB rfl rfl) ⟨s, ⟨_, rfl, rfl⟩, hS, fun _ _ => rfl⟩
              | 2, _ => exact stepV rfl rfl (execAsgB rfl rfl) ⟨s, ⟨_, rfl, rfl⟩, hS, fun _ _ => rfl⟩
              | k_ + 3, h_ => exact absurd h_ (by simp)
            rintro _ a X13 h1 h2 h3 h4 hS
            clear BB
            replace hS : Below V.heap.size V X13 := hS
            have BB := hS
            clear hS
            have t4 : a.eval (.tmp 4) = .slice none 0 0 := h4 0 _ rfl _ rfl
            have t5 : a.eval (.tmp 5) = .slice none 0 0 := h4 1 _ rfl _ rfl
            have t6 : a.eval (.tmp 6) = .int .i64 ((2 : Nat) : Int) := h4 2 _ rfl _ rfl
            replace A := (⟨h1, h2.trans A.2⟩ : a.tmps.size = 98 ∧ a.defers = [])
            clear h1 h2 h3 h4
            clear t0 t1 t7 t8 t9 t10 t11 t12
            have hE : paE sf J df m = 2 := paE_no fun q => by have h_ := faQ_iff.1 (paQ_iff.1 q).2.2 i lti; omega
            rw [hE, zl_no (by decide)]
            refine wp_ret ?_
            repeat (first | with_reducible refine ret_in ?_ | with_reducible refine ret_then ?_)
            refine bodyPost_ret (results_tmp3 rfl _ _ _) A.2 ⟨_, _, ?_, fm2nil _ _ _, BB⟩
            show Ending.returned (.tuple #[a.eval (.tmp 4), a.eval (.tmp 5), a.eval (.tmp 6)]) = _
            rw [t4, t5, t6]
          · obtain ⟨w, ew⟩ : ∃ w : Nat, df i = w := ⟨(df i).toNat, by omega⟩
            refine wp_seq ?_
            refine wp_region_sq (σ := Unit) 98 [(0, 37), (1, 38), (2, 39), (3, 40), (4, 12)] (fun j_ s X => match j_ with | 0 => Below V.heap.size V X ∧ (X.ownsRow V.heap.size 23 1 (.slice (some ⟨g31, 0, none⟩) J J) J (lL (fun j => (x) (2 + j)) J)) ∧ (FmI V.heap.size (J + 2) (x) (nnV sf J df i) (ffV sf J df m i) X) | 1 => Below V.heap.size V X ∧ (X.ownsRow V.heap.size 23 1 (.slice (some ⟨g31, 0, none⟩) J J) J (lL (fun j => (x) (2 + j)) J)) ∧ (FmI V.heap.size (J + 2) (x) (nnV sf J df i) (ffV sf J df m i) X) | 2 => Below V.heap.size V X ∧ (X.ownsRow V.heap.size 23 1 (.slice (some ⟨g31, 0, none⟩) J J) J (lL (fun j => (x) (2 + j)) J)) ∧ (FmI V.heap.size (J + 2) (x) (nnV sf J df i) (ffV sf J df m i) X) | 3 => Below V.heap.size V X ∧ (X.ownsRow V.heap.size 23 1 (.slice (some ⟨g31, 0, none⟩) J J) J (lL (fun j => (x) (2 + j)) J)) ∧ (FmI V.heap.size (J + 2) (x) (nnV sf J df i) (ffV sf J df m i) X) | 4 => Below V.heap.size V X ∧ (X.ownsRow V.heap.size 23 1 (.slice (some ⟨g31, 0, none⟩) J J) J (lL (fun j => (x) (2 + j)) J)) ∧ (FmI V.heap.size (J + 2) (x) (nnV sf J df i) (ffV sf J df m i) X) | _ => Below V.heap.size V X ∧ (X.ownsRow V.heap.size 23 1 (.slice (some ⟨g31, 0, none⟩) J J) J (lL (fun j => (x) (2 + j)) J)) ∧ (FmI V.heap.size (J + 2) (x) (nnV sf J df i) (ffV sf J df m i) X)) (fun s => fun i_ => match i_ with | 0 => u0 | 1 => .int .i64 ((i : Nat) : Int) | 2 => .pointer (some ⟨ddb, ddo + i, none⟩) | 3 => .int .i64 ((w : Nat) : Int) | 4 => .int .i64 ((w : Nat) : Int) | _ => undef) () A.1 (by kernel_rfl) (by decide) (by decide) ⟨BB, FV, FM⟩ ?_ ?_
            · intro i_ hi_ s a X hf hv hn hS
              match i_, hi_ with
              | 0, _ => exact stepV rfl rfl (execMvB rfl ((hf 1 (by decide)).trans t1)) ⟨s, ⟨_, rfl, rfl⟩, hS, fun _ _ => rfl⟩
              | 1, _ => exact stepV rfl rfl (execMvB rfl ((hf 11 (by decide)).trans t11)) ⟨s, ⟨_, rfl, rfl⟩, hS, fun _ _ => rfl⟩
              | 2, _ => exact stepV rfl rfl (execIdxN (k := i) rfl ((hv 0 (by decide) _ rfl _ rfl).trans edd) (hv 1 (by decide) _ rfl _ rfl) lti) ⟨s, ⟨_, rfl, rfl⟩, hS, fun _ _ => rfl⟩
              | 3, _ => exact stepV rfl rfl (execLd3 rfl (hv 2 (by decide) _ rfl _ rfl) ((cdd i lti X hS.1).trans (by rw [ew]))) ⟨s, ⟨_, rfl, rfl⟩, hS, fun _ _ => rfl⟩
              | 4, _ => exact stepV rfl rfl (execAsgB rfl (hv 3 (by decide) _ rfl _ rfl)) ⟨s, ⟨_, rfl, rfl⟩, hS, fun _ _ => rfl⟩
              | k_ + 5, h_ => exact absurd h_ (by simp)
            rintro _ a X11 h1 h2 h3 h4 hS
            clear BB
            clear FV
            clear FM
            replace hS : Below V.heap.size V X11 ∧ (X11.ownsRow V.heap.size 23 1 (.slice (some ⟨g31, 0, none⟩) J J) J (lL (fun j => (x) (2 + j)) J)) ∧ (FmI V.heap.size (J + 2) (x) (nnV sf J df i) (ffV sf J df m i) X11) := hS
            obtain ⟨BB, FV, FM⟩ := hS
            replace t0 := (h3 0 (by decide)).trans t0
            replace t1 := (h3 1 (by decide)).trans t1
            replace t7 := (h3 7 (by decide)).trans t7
            replace t8 := (h3 8 (by decide)).trans t8
            replace t9 := (h3 9 (by decide)).trans t9
            replace t10 := (h3 10 (by decide)).trans t10
            replace t11 := (h3 11 (by decide)).trans t11
            have t12 : a.eval (.tmp 12) = .int .i64 ((w : Nat) : Int) := h4 4 _ rfl _ rfl
            replace A := (⟨h1, h2.trans A.2⟩ : a.tmps.size = 98 ∧ a.defers = [])
            clear h1 h2 h3 h4
            refine wp_seq ?_
            refine wp_seq ?_
            refine wp_region_sq (σ := Unit) 98 [(0, 41), (1, 42), (2, 43), (3, 44), (4, 45), (5, 46), (6, 47), (7, 48), (8, 49)] (fun j_ s X => match j_ with | 0 => Below V.heap.size V X ∧ (X.ownsRow V.heap.size 23 1 (.slice (some ⟨g31, 0, none⟩) J J) J (lL (fun j => (x) (2 + j)) J)) ∧ (FmI V.heap.size (J + 2) (x) (nnV sf J df i) (ffV sf J df m i) X) | 1 => Below V.heap.size V X ∧ (X.ownsRow V.heap.size 23 1 (.slice (some ⟨g31, 0, none⟩) J J) J (lL (fun j => (x) (2 + j)) J)) ∧ (FmI V.heap.size (J + 2) (x) (nnV sf J df i) (ffV sf J df m i) X) | 2 => Below V.heap.size V X ∧ (X.ownsRow V.heap.size 23 1 (.slice (some ⟨g31, 0, none⟩) J J) J (lL (fun j => (x) (2 + j)) J)) ∧ (FmI V.heap.size (J + 2) (x) (nnV sf J df i) (ffV sf J df m i) X) | 3 => Below V.heap.size V X ∧ (X.ownsRow V.heap.size 23 1 (.slice (some ⟨g31, 0, none⟩) J J) J (lL (fun j => (x) (2 + j)) J)) ∧ (FmI V.heap.size (J + 2) (x) (nnV sf J df i) (ffV sf J df m i) X) | 4 => Below V.heap.size V X ∧ (X.ownsRow V.heap.size 23 1 (.slice (some ⟨g31, 0, none⟩) J J) J (lL (fun j => (x) (2 + j)) J)) ∧ (FmI V.heap.size (J + 2) (x) (nnV sf J df i) (ffV sf J df m i) X) | 5 => Below V.heap.size V X ∧ (X.ownsRow V.heap.size 23 1 (.slice (some ⟨g31, 0, none⟩) J J) J (lL (fun j => (x) (2 + j)) J)) ∧ (FmI V.heap.size (J + 2) (x) (nnV sf J df i) (ffV sf J df m i) X) | 6 => Below V.heap.size V X ∧ (X.ownsRow V.heap.size 23 1 (.slice (some ⟨g31, 0, none⟩) J J) J (lL (fun j => (x) (2 + j)) J)) ∧ (FmI V.heap.size (J + 2) (x) (nnV sf J df i) (ffV sf J df m i) X) | 7 => Below V.heap.size V X ∧ (X.ownsRow V.heap.size 23 1 (.slice (some ⟨g31, 0, none⟩) J J) J (lL (fun j => (x) (2 + j)) J)) ∧ (FmI V.heap.size (J + 2) (x) (nnV sf J df i) (ffV sf J df m i) X) | 8 => Below V.heap.size V X ∧ (X.ownsRow V.heap.size 23 1 (.slice (some ⟨g31, 0, none⟩) J J) J (lL (fun j => (x) (2 + j)) J)) ∧ (FmI V.heap.size (J + 2) (x) (nnV sf J df i) (ffV sf J df m i) X) | _ => Below V.heap.size V X ∧ (X.ownsRow V.heap.size 23 1 (.slice (some ⟨g31, 0, none⟩) J J) J (lL (fun j => (x) (2 + j)) J)) ∧ (FmI V.heap.size (J + 2) (x) (nnV sf J df i) (ffV sf J df m i) X)) (fun s => fun i_ => match i_ with | 0 => .int .i64 ((w : Nat) : Int) | 1 => .bool false | 2 => .bool false | 3 => .int .i64 ((w : Nat) : Int) | 4 => .int .i64 ((m : Nat) : Int) | 5 => .int .i64 ((i : Nat) : Int) | 6 => .int .i64 ((m - i : Nat) : Int) | 7 => .bool false | 8 => .bool false | _ => undef) () A.1 (by kernel_rfl) (by decide) (by decide) ⟨BB, FV, FM⟩ ?_ ?_
            · intro i_ hi_ s a X hf hv hn hS
              match i_, hi_ with
              | 0, _ => exact stepV rfl rfl (execMvB rfl ((hf 12 (by decide)).trans t12)) ⟨s, ⟨_, rfl, rfl⟩, hS, fun _ _ => rfl⟩
              | 1, _ => exact stepV rfl rfl (execDec (execLtW (p := w) (q := 0) rfl (hv 0 (by decide) _ rfl _ rfl) rfl) (decide_eq_false (by omega))) ⟨s, ⟨_, rfl, rfl⟩, hS, fun _ _ => rfl⟩
              | 2, _ => exact stepV rfl rfl (execMvB rfl (hv 1 (by decide) _ rfl _ rfl)) ⟨s, ⟨_, rfl, rfl⟩, hS, fun _ _ => rfl⟩
              | 3, _ => exact stepV rfl (wantedOf rfl (yieldedAt rfl rfl (show a.eval (.tmp 43) = .bool false from (hv 2 (by decide) _ rfl _ rfl)))) (execMvB rfl ((hf 12 (by decide)).trans t12)) ⟨s, ⟨_, rfl, rfl⟩, hS, fun _ _ => rfl⟩
              | 4, _ => exact stepV rfl (wantedOf rfl (yieldedAt rfl rfl (show a.eval (.tmp 43) = .bool false from (hv 2 (by decide) _ rfl _ rfl)))) (execMvB rfl ((hf 7 (by decide)).trans t7)) ⟨s, ⟨_, rfl, rfl⟩, hS, fun _ _ => rfl⟩
              | 5, _ => exact stepV rfl (wantedOf rfl (yieldedAt rfl rfl (show a.eval (.tmp 43) = .bool false from (hv 2 (by decide) _ rfl _ rfl)))) (execMvB rfl ((hf 11 (by decide)).trans t11)) ⟨s, ⟨_, rfl, rfl⟩, hS, fun _ _ => rfl⟩
              | 6, _ => exact stepV rfl (wantedOf rfl (yieldedAt rfl rfl (show a.eval (.tmp 43) = .bool false from (hv 2 (by decide) _ rfl _ rfl)))) (By8.execSubI (p := m) (q := i) rfl (hv 4 (by decide) _ rfl _ rfl) (hv 5 (by decide) _ rfl _ rfl) (by omega) (by omega)) ⟨s, ⟨_, rfl, rfl⟩, hS, fun _ _ => rfl⟩
              | 7, _ => exact stepV rfl (wantedOf rfl (yieldedAt rfl rfl (show a.eval (.tmp 43) = .bool false from (hv 2 (by decide) _ rfl _ rfl)))) (execDec (execGe8 (p := w) (q := m - i) rfl (hv 3 (by decide) _ rfl _ rfl) (hv 6 (by decide) _ rfl _ rfl)) (decide_eq_false (by omega))) ⟨s, ⟨_, rfl, rfl⟩, hS, fun _ _ => rfl⟩
              | 8, _ => exact stepV rfl rfl (execPickF rfl (hv 2 (by decide) _ rfl _ rfl) (hv 7 (by decide) _ rfl _ rfl)) ⟨s, ⟨_, rfl, rfl⟩, hS, fun _ _ => rfl⟩
              | k_ + 9, h_ => exact absurd h_ (by simp)
            rintro _ a X12 h1 h2 h3 h4 hS
            clear BB
            clear FV
            clear FM
            replace hS : Below V.heap.size V X12 ∧ (X12.ownsRow V.heap.size 23 1 (.slice (some ⟨g31, 0, none⟩) J J) J (lL (fun j => (x) (2 + j)) J)) ∧ (FmI V.heap.size (J + 2) (x) (nnV sf J df i) (ffV sf J df m i) X12) := hS
            obtain ⟨BB, FV, FM⟩ := hS
            replace t0 := (h3 0 (by decide)).trans t0
            replace t1 := (h3 1 (by decide)).trans t1
            replace t7 := (h3 7 (by decide)).trans t7
            replace t8 := (h3 8 (by decide)).trans t8
            replace t9 := (h3 9 (by decide)).trans t9
            replace t10 := (h3 10 (by decide)).trans t10
            replace t11 := (h3 11 (by decide)).trans t11
            replace t12 := (h3 12 (by decide)).trans t12
            have t49 : a.eval (.tmp 49) = .bool false := h4 8 _ rfl _ rfl
            replace A := (⟨h1, h2.trans A.2⟩ : a.tmps.size = 98 ∧ a.defers = [])
            clear h1 h2 h3 h4
            refine wp_cond_false t49 ?_
            refine wp_skip ?_
            clear t49
            have hfai : faB df m i = true := decide_eq_true (by omega)
            have hw : gN df i = w := by show (df i).toNat = w; omega
            have hDk : ∀ j, j < i → gN df j < m - j := fun j hj => by have := of_decide_eq_true (allB_iff.1 hall j hj); show (df j).toNat < m - j; omega
            have hsl : sumN (lfD (gN sf) J (gN df) i) J = m - i := lfD_sum hmS.symm (by omega) hDk
            obtain ⟨c, ec⟩ : ∃ c, chD (gN sf) J (gN df) i = c := ⟨_, rfl⟩
            obtain ⟨o_, eo⟩ : ∃ o_, ofD (gN sf) J (gN df) i = o_ := ⟨_, rfl⟩
            have epj : pj (lfD (gN sf) J (gN df) i) w J = c := by rw [← ec, ← hw]; rfl
            obtain ⟨hP1, hP2, hP3⟩ := pj_lt (r := lfD (gN sf) J (gN df) i) (d := w) (J := J) (by omega)
            rw [epj] at hP1 hP2 hP3
            have eo2 : w - sumN (lfD (gN sf) J (gN df) i) c = o_ := by rw [← eo, ← ec, ← hw]; rfl
            obtain ⟨q_, eq⟩ : ∃ q_, lfD (gN sf) J (gN df) i c = q_ := ⟨_, rfl⟩
            have hqJ := sumN_at (r := lfD (gN sf) J (gN df) i) hP1
            have hcn := cnt_le (chD (gN sf) J (gN df)) c i
            obtain ⟨g0, c0, ex0, hB0, _⟩ := ownL_some9 (FM.rows 0 (by omega)) (show 0 < J by omega)
            refine wp_seq ?_
            refine wp_region_sq (σ := Unit) 98 [(0, 13)] (fun j_ s X => match j_ with | 0 => Below V.heap.size V X ∧ (X.ownsRow V.heap.size 23 1 (.slice (some ⟨g31, 0, none⟩) J J) J (lL (fun j => (x) (2 + j)) J)) ∧ (FmI V.heap.size (J + 2) (x) (nnV sf J df i) (ffV sf J df m i) X) | _ => Below V.heap.size V X ∧ (X.ownsRow V.heap.size 23 1 (.slice (some ⟨g31, 0, none⟩) J J) J (lL (fun j => (x) (2 + j)) J)) ∧ (FmI V.heap.size (J + 2) (x) (nnV sf J df i) (ffV sf J df m i) X)) (fun s => fun i_ => match i_ with | 0 => .int .i64 ((0 : Nat) : Int) | _ => undef) () A.1 (by kernel_rfl) (by decide) (by decide) ⟨BB, FV, FM⟩ ?_ ?_
            · intro i_ hi_ s a X hf hv hn hS
              match i_, hi_ with
              | 0, _ => exact stepV rfl rfl (execAsgB rfl rfl) ⟨s, ⟨_, rfl, rfl⟩, hS, fun _ _ => rfl⟩
              | k_ + 1, h_ => exact absurd h_ (by simp)
            rintro _ a X14 h1 h2 h3 h4 hS
            clear BB
            clear FV
            clear FM
            replace hS : Below V.heap.size V X14 ∧ (X14.ownsRow V.heap.size 23 1 (.slice (some ⟨g31, 0, none⟩) J J) J (lL (fun j => (x) (2 + j)) J)) ∧ (FmI V.heap.size (J + 2) (x) (nnV sf J df i) (ffV sf J df m i) X14) := hS
            obtain ⟨BB, FV, FM⟩ := hS
            replace t0 := (h3 0 (by decide)).trans t0
            replace t1 := (h3 1 (by decide)).trans t1
            replace t7 := (h3 7 (by decide)).trans t7
            replace t8 := (h3 8 (by decide)).trans t8
            replace t9 := (h3 9 (by decide)).trans t9
            replace t10 := (h3 10 (by decide)).trans t10
            replace t11 := (h3 11 (by decide)).trans t11
            replace t12 := (h3 12 (by decide)).trans t12
            have t13 : a.eval (.tmp 13) = .int .i64 ((0 : Nat) : Int) := h4 0 _ rfl _ rfl
            replace A := (⟨h1, h2.trans A.2⟩ : a.tmps.size = 98 ∧ a.defers = [])
            clear h1 h2 h3 h4
            refine wp_seq ?_
            refine wp_block ?_
            refine wp_loop (fun a W => ∃ j : Nat, j ≤ c ∧ (a.tmps.size = 98 ∧ a.defers = []) ∧ a.eval (.tmp 0) = v ∧ a.eval (.tmp 1) = u0 ∧ a.eval (.tmp 7) = .int .i64 ((m : Nat) : Int) ∧ a.eval (.tmp 8) = x 0 ∧ a.eval (.tmp 9) = .slice (some ⟨g31, 0, none⟩) J J ∧ a.eval (.tmp 10) = x 1 ∧ a.eval (.tmp 11) = .int .i64 ((i : Nat) : Int) ∧ a.eval (.tmp 12) = .int .i64 ((w - sumN (lfD (gN sf) J (gN df) i) j : Nat) : Int) ∧ a.eval (.tmp 13) = .int .i64 ((j : Nat) : Int) ∧ Below V.heap.size V W ∧ (W.ownsRow V.heap.size 23 1 (.slice (some ⟨g31, 0, none⟩) J J) J (lL (fun j => (x) (2 + j)) J)) ∧ (FmI V.heap.size (J + 2) (x) (nnV sf J df i) (ffV sf J df m i) W)) (fun a _ => c - (intOf (a.eval (.tmp 13))).toNat) ⟨0, Nat.zero_le _, A, t0, t1, t7, t8, t9, t10, t11, t12, t13, BB, FV, FM⟩ ?_
            clear A t0 t1 t7 t8 t9 t10 t11 t12 t13 BB FV FM a
            rintro a XI ⟨j, hj, A, t0, t1, t7, t8, t9, t10, t11, t12, t13, BB, FV, FM⟩
            have esj := t13
            refine wp_seq ?_
            refine wp_seq ?_
            have hjJ : j < J := by omega
            by_cases hltj : j < c
            · have hm := sumN_at (r := lfD (gN sf) J (gN df) i) hltj
              refine wp_region_sq (σ := Unit) 98 [(0, 50), (1, 51), (2, 52), (3, 53), (4, 54), (5, 55)] (fun j_ s X => match j_ with | 0 => Below V.heap.size V X ∧ (X.ownsRow V.heap.size 23 1 (.slice (some ⟨g31, 0, none⟩) J J) J (lL (fun j => (x) (2 + j)) J)) ∧ (FmI V.heap.size (J + 2) (x) (nnV sf J df i) (ffV sf J df m i) X) | 1 => Below V.heap.size V X ∧ (X.ownsRow V.heap.size 23 1 (.slice (some ⟨g31, 0, none⟩) J J) J (lL (fun j => (x) (2 + j)) J)) ∧ (FmI V.heap.size (J + 2) (x) (nnV sf J df i) (ffV sf J df m i) X) | 2 => Below V.heap.size V X ∧ (X.ownsRow V.heap.size 23 1 (.slice (some ⟨g31, 0, none⟩) J J) J (lL (fun j => (x) (2 + j)) J)) ∧ (FmI V.heap.size (J + 2) (x) (nnV sf J df i) (ffV sf J df m i) X) | 3 => Below V.heap.size V X ∧ (X.ownsRow V.heap.size 23 1 (.slice (some ⟨g31, 0, none⟩) J J) J (lL (fun j => (x) (2 + j)) J)) ∧ (FmI V.heap.size (J + 2) (x) (nnV sf J df i) (ffV sf J df m i) X) | 4 => Below V.heap.size V X ∧ (X.ownsRow V.heap.size 23 1 (.slice (some ⟨g31, 0, none⟩) J J) J (lL (fun j => (x) (2 + j)) J)) ∧ (FmI V.heap.size (J + 2) (x) (nnV sf J df i) (ffV sf J df m i) X) | 5 => Below V.heap.size V X ∧ (X.ownsRow V.heap.size 23 1 (.slice (some ⟨g31, 0, none⟩) J J) J (lL (fun j => (x) (2 + j)) J)) ∧ (FmI V.heap.size (J + 2) (x) (nnV sf J df i) (ffV sf J df m i) X) | _ => Below V.heap.size V X ∧ (X.ownsRow V.heap.size 23 1 (.slice (some ⟨g31, 0, none⟩) J J) J (lL (fun j => (x) (2 + j)) J)) ∧ (FmI V.heap.size (J + 2) (x) (nnV sf J df i) (ffV sf J df m i) X)) (fun s => fun i_ => match i_ with | 0 => .int .i64 ((w - sumN (lfD (gN sf) J (gN df) i) j : Nat) : Int) | 1 => x 0 | 2 => .int .i64 ((j : Nat) : Int) | 3 => .pointer (some ⟨g0, 0 + j, none⟩) | 4 => .int .i64 ((lfD (gN sf) J (gN df) i j : Nat) : Int) | 5 => .bool true | _ => undef) () A.1 (by kernel_rfl) (by decide) (by decide) ⟨BB, FV, FM⟩ ?_ ?_
              · intro i_ hi_ s a X hf hv hn hS
                match i_, hi_ with
                | 0, _ => exact stepV rfl rfl (execMvB rfl ((hf 12 (by decide)).trans t12)) ⟨s, ⟨_, rfl, rfl⟩, hS, fun _ _ => rfl⟩
                | 1, _ => exact stepV rfl rfl (execMvB rfl ((hf 8 (by decide)).trans t8)) ⟨s, ⟨_, rfl, rfl⟩, hS, fun _ _ => rfl⟩
                | 2, _ => exact stepV rfl rfl (execMvB rfl ((hf 13 (by decide)).trans t13)) ⟨s, ⟨_, rfl, rfl⟩, hS, fun _ _ => rfl⟩
                | 3, _ => exact stepV rfl rfl (execIdxN (k := j) rfl ((hv 1 (by decide) _ rfl _ rfl).trans ex0) (hv 2 (by decide) _ rfl _ rfl) hjJ) ⟨s, ⟨_, rfl, rfl⟩, hS, fun _ _ => rfl⟩
                | 4, _ => exact stepV rfl rfl (execLd3 rfl (hv 3 (by decide) _ rfl _ rfl) (hS.2.2.cell (t := 0) (by omega) ex0 hjJ).1) ⟨s, ⟨_, rfl, rfl⟩, hS, fun _ _ => rfl⟩
                | 5, _ => exact stepV rfl rfl (execDec (execGe8 (p := w - sumN (lfD (gN sf) J (gN df) i) j) (q := lfD (gN sf) J (gN df) i j) rfl (hv 0 (by decide) _ rfl _ rfl) (hv 4 (by decide) _ rfl _ rfl)) (decide_eq_true (by omega))) ⟨s, ⟨_, rfl, rfl⟩, hS, fun _ _ => rfl⟩
                | k_ + 6, h_ => exact absurd h_ (by simp)
              rintro _ a X15 h1 h2 h3 h4 hS
              clear BB
              clear FV
              clear FM
              replace hS : Below V.heap.size V X15 ∧ (X15.ownsRow V.heap.size 23 1 (.slice (some ⟨g31, 0, none⟩) J J) J (lL (fun j => (x) (2 + j)) J)) ∧ (FmI V.heap.size (J + 2) (x) (nnV sf J df i) (ffV sf J df m i) X15) := hS
              obtain ⟨BB, FV, FM⟩ := hS
              replace t0 := (h3 0 (by decide)).trans t0
              replace t1 := (h3 1 (by decide)).trans t1
              replace t7 := (h3 7 (by decide)).trans t7
              replace t8 := (h3 8 (by decide)).trans t8
              replace t9 := (h3 9 (by decide)).trans t9
              replace t10 := (h3 10 (by decide)).trans t10
              replace t11 := (h3 11 (by decide)).trans t11
              replace t12 := (h3 12 (by decide)).trans t12
              replace t13 := (h3 13 (by decide)).trans t13
              have t55 : a.eval (.tmp 55) = .bool true := h4 5 _ rfl _ rfl
              replace A := (⟨h1, h2.trans A.2⟩ : a.tmps.size = 98 ∧ a.defers = [])
              clear h1 h2 h3 h4
              refine wp_cond_true t55 ?_
              refine wp_skip ?_
              clear t55
              refine wp_block ?_
              refine wp_seq ?_
              refine wp_region_sq (σ := Unit) 98 [(0, 56), (1, 57), (2, 58), (3, 59), (4, 60), (5, 61), (6, 12)] (fun j_ s X => match j_ with | 0 => Below V.heap.size V X ∧ (X.ownsRow V.heap.size 23 1 (.slice (some ⟨g31, 0, none⟩) J J) J (lL (fun j => (x) (2 + j)) J)) ∧ (FmI V.heap.size (J + 2) (x) (nnV sf J df i) (ffV sf J df m i) X) | 1 => Below V.heap.size V X ∧ (X.ownsRow V.heap.size 23 1 (.slice (some ⟨g31, 0, none⟩) J J) J (lL (fun j => (x) (2 + j)) J)) ∧ (FmI V.heap.size (J + 2) (x) (nnV sf J df i) (ffV sf J df m i) X) | 2 => Below V.heap.size V X ∧ (X.ownsRow V.heap.size 23 1 (.slice (some ⟨g31, 0, none⟩) J J) J (lL (fun j => (x) (2 + j)) J)) ∧ (FmI V.heap.size (J + 2) (x) (nnV sf J df i) (ffV sf J df m i) X) | 3 => Below V.heap.size V X ∧ (X.ownsRow V.heap.size 23 1 (.slice (some ⟨g31, 0, none⟩) J J) J (lL (fun j => (x) (2 + j)) J)) ∧ (FmI V.heap.size (J + 2) (x) (nnV sf J df i) (ffV sf J df m i) X) | 4 => Below V.heap.size V X ∧ (X.ownsRow V.heap.size 23 1 (.slice (some ⟨g31, 0, none⟩) J J) J (lL (fun j => (x) (2 + j)) J)) ∧ (FmI V.heap.size (J + 2) (x) (nnV sf J df i) (ffV sf J df m i) X) | 5 => Below V.heap.size V X ∧ (X.ownsRow V.heap.size 23 1 (.slice (some ⟨g31, 0, none⟩) J J) J (lL (fun j => (x) (2 + j)) J)) ∧ (FmI V.heap.size (J + 2) (x) (nnV sf J df i) (ffV sf J df m i) X) | 6 => Below V.heap.size V X ∧ (X.ownsRow V.heap.size 23 1 (.slice (some ⟨g31, 0, none⟩) J J) J (lL (fun j => (x) (2 + j)) J)) ∧ (FmI V.heap.size (J + 2) (x) (nnV sf J df i) (ffV sf J df m i) X) | _ => Below V.heap.size V X ∧ (X.ownsRow V.heap.size 23 1 (.slice (some ⟨g31, 0, none⟩) J J) J (lL (fun j => (x) (2 + j)) J)) ∧ (FmI V.heap.size (J + 2) (x) (nnV sf J df i) (ffV sf J df m i) X)) (fun s => fun i_ => match i_ with | 0 => .int .i64 ((w - sumN (lfD (gN sf) J (gN df) i) j : Nat) : Int) | 1 => x 0 | 2 => .int .i64 ((j : Nat) : Int) | 3 => .pointer (some ⟨g0, 0 + j, none⟩) | 4 => .int .i64 ((lfD (gN sf) J (gN df) i j : Nat) : Int) | 5 => .int .i64 ((w - sumN (lfD (gN sf) J (gN df) i) j - (lfD (gN sf) J (gN df) i j) : Nat) : Int) | 6 => .int .i64 ((w - sumN (lfD (gN sf) J (gN df) i) j - (lfD (gN sf) J (gN df) i j) : Nat) : Int) | _ => undef) () A.1 (by kernel_rfl) (by decide) (by decide) ⟨BB, FV, FM⟩ ?_ ?_
              · intro i_ hi_ s a X hf hv hn hS
                match i_, hi_ with
                | 0, _ => exact stepV rfl rfl (execMvB rfl ((hn 6 (by decide) _ rfl _ rfl).trans t12)) ⟨s, ⟨_, rfl, rfl⟩, hS, fun _ _ => rfl⟩
                | 1, _ => exact stepV rfl rfl (execMvB rfl ((hf 8 (by decide)).trans t8)) ⟨s, ⟨_, rfl, rfl⟩, hS, fun _ _ => rfl⟩
                | 2, _ => exact stepV rfl rfl (execMvB rfl ((hf 13 (by decide)).trans t13)) ⟨s, ⟨_, rfl, rfl⟩, hS, fun _ _ => rfl⟩
                | 3, _ => exact stepV rfl rfl (execIdxN (k := j) rfl ((hv 1 (by decide) _ rfl _ rfl).trans ex0) (hv 2 (by decide) _ rfl _ rfl) hjJ) ⟨s, ⟨_, rfl, rfl⟩, hS, fun _ _ => rfl⟩
                | 4, _ => exact stepV rfl rfl (execLd3 rfl (hv 3 (by decide) _ rfl _ rfl) (hS.2.2.cell (t := 0) (by omega) ex0 hjJ).1) ⟨s, ⟨_, rfl, rfl⟩, hS, fun _ _ => rfl⟩
                | 5, _ => exact stepV rfl rfl (By8.execSubI (p := w - sumN (lfD (gN sf) J (gN df) i) j) (q := lfD (gN sf) J (gN df) i j) rfl (hv 0 (by decide) _ rfl _ rfl) (hv 4 (by decide) _ rfl _ rfl) (by omega) (by omega)) ⟨s, ⟨_, rfl, rfl⟩, hS, fun _ _ => rfl⟩
                | 6, _ => exact stepV rfl rfl (execAsgB rfl (hv 5 (by decide) _ rfl _ rfl)) ⟨s, ⟨_, rfl, rfl⟩, hS, fun _ _ => rfl⟩
                | k_ + 7, h_ => exact absurd h_ (by simp)
              rintro _ a X16 h1 h2 h3 h4 hS
              clear BB
              clear FV
              clear FM
              replace hS : Below V.heap.size V X16 ∧ (X16.ownsRow V.heap.size 23 1 (.slice (some ⟨g31, 0, none⟩) J J) J (lL (fun j => (x) (2 + j)) J)) ∧ (FmI V.heap.size (J + 2) (x) (nnV sf J df i) (ffV sf J df m i) X16) := hS
              obtain ⟨BB, FV, FM⟩ := hS
              replace t0 := (h3 0 (by decide)).trans t0
              replace t1 := (h3 1 (by decide)).trans t1
              replace t7 := (h3 7 (by decide)).trans t7
              replace t8 := (h3 8 (by decide)).trans t8
              replace t9 := (h3 9 (by decide)).trans t9
              replace t10 := (h3 10 (by decide)).trans t10
              replace t11 := (h3 11 (by decide)).trans t11
              replace t12 : a.eval (.tmp 12) = .int .i64 ((w - sumN (lfD (gN sf) J (gN df) i) j - (lfD (gN sf) J (gN df) i j) : Nat) : Int) := h4 6 _ rfl _ rfl
              replace t13 := (h3 13 (by decide)).trans t13
              replace A := (⟨h1, h2.trans A.2⟩ : a.tmps.size = 98 ∧ a.defers = [])
              clear h1 h2 h3 h4
              refine wp_region_sq (σ := Unit) 98 [(0, 62), (1, 63), (2, 13)] (fun j_ s X => match j_ with | 0 => Below V.heap.size V X ∧ (X.ownsRow V.heap.size 23 1 (.slice (some ⟨g31, 0, none⟩) J J) J (lL (fun j => (x) (2 + j)) J)) ∧ (FmI V.heap.size (J + 2) (x) (nnV sf J df i) (ffV sf J df m i) X) | 1 => Below V.heap.size V X ∧ (X.ownsRow V.heap.size 23 1 (.slice (some ⟨g31, 0, none⟩) J J) J (lL (fun j => (x) (2 + j)) J)) ∧ (FmI V.heap.size (J + 2) (x) (nnV sf J df i) (ffV sf J df m i) X) | 2 => Below V.heap.size V X ∧ (X.ownsRow V.heap.size 23 1 (.slice (some ⟨g31, 0, none⟩) J J) J (lL (fun j => (x) (2 + j)) J)) ∧ (FmI V.heap.size (J + 2) (x) (nnV sf J df i) (ffV sf J df m i) X) | _ => Below V.heap.size V X ∧ (X.ownsRow V.heap.size 23 1 (.slice (some ⟨g31, 0, none⟩) J J) J (lL (fun j => (x) (2 + j)) J)) ∧ (FmI V.heap.size (J + 2) (x) (nnV sf J df i) (ffV sf J df m i) X)) (fun s => fun i_ => match i_ with | 0 => .int .i64 ((j : Nat) : Int) | 1 => .int .i64 ((j + 1 : Nat) : Int) | 2 => .int .i64 ((j + 1 : Nat) : Int) | _ => undef) () A.1 (by kernel_rfl) (by decide) (by decide) ⟨BB, FV, FM⟩ ?_ ?_
              · intro i_ hi_ s a X hf hv hn hS
                match i_, hi_ with
                | 0, _ => exact stepV rfl rfl (execMvB rfl ((hn 2 (by decide) _ rfl _ rfl).trans t13)) ⟨s, ⟨_, rfl, rfl⟩, hS, fun _ _ => rfl⟩
                | 1, _ => exact stepV rfl rfl (execAd8 (p := j) (q := 1) rfl (hv 0 (by decide) _ rfl _ rfl) rfl (by omega)) ⟨s, ⟨_, rfl, rfl⟩, hS, fun _ _ => rfl⟩
                | 2, _ => exact stepV rfl rfl (execAsgB rfl (hv 1 (by decide) _ rfl _ rfl)) ⟨s, ⟨_, rfl, rfl⟩, hS, fun _ _ => rfl⟩
                | k_ + 3, h_ => exact absurd h_ (by simp)
              rintro _ a X17 h1 h2 h3 h4 hS
              clear BB
              clear FV
              clear FM
              replace hS : Below V.heap.size V X17 ∧ (X17.ownsRow V.heap.size 23 1 (.slice (some ⟨g31, 0, none⟩) J J) J (lL (fun j => (x) (2 + j)) J)) ∧ (FmI V.heap.size (J + 2) (x) (nnV sf J df i) (ffV sf J df m i) X17) := hS
              obtain ⟨BB, FV, FM⟩ := hS
              replace t0 := (h3 0 (by decide)).trans t0
              replace t1 := (h3 1 (by decide)).trans t1
              replace t7 := (h3 7 (by decide)).trans t7
              replace t8 := (h3 8 (by decide)).trans t8
              replace t9 := (h3 9 (by decide)).trans t9
              replace t10 := (h3 10 (by decide)).trans t10
              replace t11 := (h3 11 (by decide)).trans t11
              replace t12 := (h3 12 (by decide)).trans t12
              replace t13 : a.eval (.tmp 13) = .int .i64 ((j + 1 : Nat) : Int) := h4 2 _ rfl _ rfl
              replace A := (⟨h1, h2.trans A.2⟩ : a.tmps.size = 98 ∧ a.defers = [])
              clear h1 h2 h3 h4
              have e1 : w - sumN (lfD (gN sf) J (gN df) i) j - lfD (gN sf) J (gN df) i j = w - sumN (lfD (gN sf) J (gN df) i) (j + 1) := by show _ = w - (sumN (lfD (gN sf) J (gN df) i) j + lfD (gN sf) J (gN df) i j); omega
              rw [e1] at t12
              refine ⟨⟨j + 1, by omega, A, t0, t1, t7, t8, t9, t10, t11, t12, t13, BB, FV, FM⟩, ?_⟩
              show c - (intOf (a.eval (.tmp 13))).toNat < c - (intOf (Act.eval _ (.tmp 13))).toNat
              rw [t13, esj]
              show c - (j + 1) < c - j
              omega
            · have hjc0 : c = j := by omega
              rw [hjc0] at hP2 hP3
              refine wp_region_sq (σ := Unit) 98 [(0, 50), (1, 51), (2, 52), (3, 53), (4, 54), (5, 55)] (fun j_ s X => match j_ with | 0 => Below V.heap.size V X ∧ (X.ownsRow V.heap.size 23 1 (.slice (some ⟨g31, 0, none⟩) J J) J (lL (fun j => (x) (2 + j)) J)) ∧ (FmI V.heap.size (J + 2) (x) (nnV sf J df i) (ffV sf J df m i) X) | 1 => Below V.heap.size V X ∧ (X.ownsRow V.heap.size 23 1 (.slice (some ⟨g31, 0, none⟩) J J) J (lL (fun j => (x) (2 + j)) J)) ∧ (FmI V.heap.size (J + 2) (x) (nnV sf J df i) (ffV sf J df m i) X) | 2 => Below V.heap.size V X ∧ (X.ownsRow V.heap.size 23 1 (.slice (some ⟨g31, 0, none⟩) J J) J (lL (fun j => (x) (2 + j)) J)) ∧ (FmI V.heap.size (J + 2) (x) (nnV sf J df i) (ffV sf J df m i) X) | 3 => Below V.heap.size V X ∧ (X.ownsRow V.heap.size 23 1 (.slice (some ⟨g31, 0, none⟩) J J) J (lL (fun j => (x) (2 + j)) J)) ∧ (FmI V.heap.size (J + 2) (x) (nnV sf J df i) (ffV sf J df m i) X) | 4 => Below V.heap.size V X ∧ (X.ownsRow V.heap.size 23 1 (.slice (some ⟨g31, 0, none⟩) J J) J (lL (fun j => (x) (2 + j)) J)) ∧ (FmI V.heap.size (J + 2) (x) (nnV sf J df i) (ffV sf J df m i) X) | 5 => Below V.heap.size V X ∧ (X.ownsRow V.heap.size 23 1 (.slice (some ⟨g31, 0, none⟩) J J) J (lL (fun j => (x) (2 + j)) J)) ∧ (FmI V.heap.size (J + 2) (x) (nnV sf J df i) (ffV sf J df m i) X) | _ => Below V.heap.size V X ∧ (X.ownsRow V.heap.size 23 1 (.slice (some ⟨g31, 0, none⟩) J J) J (lL (fun j => (x) (2 + j)) J)) ∧ (FmI V.heap.size (J + 2) (x) (nnV sf J df i) (ffV sf J df m i) X)) (fun s => fun i_ => match i_ with | 0 => .int .i64 ((w - sumN (lfD (gN sf) J (gN df) i) j : Nat) : Int) | 1 => x 0 | 2 => .int .i64 ((j : Nat) : Int) | 3 => .pointer (some ⟨g0, 0 + j, none⟩) | 4 => .int .i64 ((lfD (gN sf) J (gN df) i j : Nat) : Int) | 5 => .bool false | _ => undef) () A.1 (by kernel_rfl) (by decide) (by decide) ⟨BB, FV, FM⟩ ?_ ?_
              · intro i_ hi_ s a X hf hv hn hS
                match i_, hi_ with
                | 0, _ => exact stepV rfl rfl (execMvB rfl ((hf 12 (by decide)).trans t12)) ⟨s, ⟨_, rfl, rfl⟩, hS, fun _ _ => rfl⟩
                | 1, _ => exact stepV rfl rfl (execMvB rfl ((hf 8 (by decide)).trans t8)) ⟨s, ⟨_, rfl, rfl⟩, hS, fun _ _ => rfl⟩
                | 2, _ => exact stepV rfl rfl (execMvB rfl ((hf 13 (by decide)).trans t13)) ⟨s, ⟨_, rfl, rfl⟩, hS, fun _ _ => rfl⟩
                | 3, _ => exact stepV rfl rfl (execIdxN (k := j) rfl ((hv 1 (by decide) _ rfl _ rfl).trans ex0) (hv 2 (by decide) _ rfl _ rfl) hjJ) ⟨s, ⟨_, rfl, rfl⟩, hS, fun _ _ => rfl⟩
                | 4, _ => exact stepV rfl rfl (execLd3 rfl (hv 3 (by decide) _ rfl _ rfl) (hS.2.2.cell (t := 0) (by omega) ex0 hjJ).1) ⟨s, ⟨_, rfl, rfl⟩, hS, fun _ _ => rfl⟩
                | 5, _ => exact stepV rfl rfl (execDec (execGe8 (p := w - sumN (lfD (gN sf) J (gN df) i) j) (q := lfD (gN sf) J (gN df) i j) rfl (hv 0 (by decide) _ rfl _ rfl) (hv 4 (by decide) _ rfl _ rfl)) (decide_eq_false (by omega))) ⟨s, ⟨_, rfl, rfl⟩, hS, fun _ _ => rfl⟩
                | k_ + 6, h_ => exact absurd h_ (by simp)
              rintro _ a X15 h1 h2 h3 h4 hS
              clear BB
              clear FV
              clear FM
              replace hS : Below V.heap.size V X15 ∧ (X15.ownsRow V.heap.size 23 1 (.slice (some ⟨g31, 0, none⟩) J J) J (lL (fun j => (x) (2 + j)) J)) ∧ (FmI V.heap.size (J + 2) (x) (nnV sf J df i) (ffV sf J df m i) X15) := hS
              obtain ⟨BB, FV, FM⟩ := hS
              replace t0 := (h3 0 (by decide)).trans t0
              replace t1 := (h3 1 (by decide)).trans t1
              replace t7 := (h3 7 (by decide)).trans t7
              replace t8 := (h3 8 (by decide)).trans t8
              replace t9 := (h3 9 (by decide)).trans t9
              replace t10 := (h3 10 (by decide)).trans t10
              replace t11 := (h3 11 (by decide)).trans t11
              replace t12 := (h3 12 (by decide)).trans t12
              replace t13 := (h3 13 (by decide)).trans t13
              have t55 : a.eval (.tmp 55) = .bool false := h4 5 _ rfl _ rfl
              replace A := (⟨h1, h2.trans A.2⟩ : a.tmps.size = 98 ∧ a.defers = [])
              clear h1 h2 h3 h4
              refine wp_cond_false t55 ?_
              refine wp_exit ?_
              first | with_reducible refine exit_in ?_ | with_reducible refine exit_then (exit_in ?_) | with_reducible refine exit_then (exit_then (exit_in ?_)) | refine exit_in ?_ | refine exit_then (exit_in ?_) | refine exit_then (exit_then (exit_in ?_))
              clear t55 esj
              have hjc : j = c := by omega
              rw [hjc] at t12 t13
              rw [← hjc0] at hP2 hP3
              rw [eo2] at t12
              refine wp_seq ?_
              refine wp_region_sq (σ := Nat × Value) 98 [(0, 64), (1, 65), (2, 66), (3, 67), (4, 10)] (fun j_ s X => match j_ with | 0 => Below V.heap.size V X ∧ (X.ownsRow V.heap.size 23 1 (.slice (some ⟨g31, 0, none⟩) J J) J (lL (fun j => (x) (2 + j)) J)) ∧ (FmI V.heap.size (J + 2) (x) (nnV sf J df i) (ffV sf J df m i) X) | 1 => Below V.heap.size V X ∧ (X.ownsRow V.heap.size 23 1 (.slice (some ⟨g31, 0, none⟩) J J) J (lL (fun j => (x) (2 + j)) J)) ∧ (FmI V.heap.size (J + 2) (x) (nnV sf J df i) (ffV sf J df m i) X) | 2 => Below V.heap.size V X ∧ (X.ownsRow V.heap.size 23 1 (.slice (some ⟨g31, 0, none⟩) J J) J (lL (fun j => (x) (2 + j)) J)) ∧ (FmI V.heap.size (J + 2) (x) (nnV sf J df i) (ffV sf J df m i) X) | 3 => Below V.heap.size V X ∧ (X.ownsRow V.heap.size 23 1 (.slice (some ⟨g31, 0, none⟩) J J) J (lL (fun j => (x) (2 + j)) J)) ∧ (FmI V.heap.size (J + 2) (x) (nnV sf J df i) (ffV sf J df m i) X) ∧ (X.heap[s.1]? = some (.cells #[.int .i64 (((c : Nat) : Int))] 3)) | 4 => Below V.heap.size V X ∧ (X.ownsRow V.heap.size 23 1 (.slice (some ⟨g31, 0, none⟩) J J) J (lL (fun j => (updX x 1 s.2) (2 + j)) J)) ∧ (FmI V.heap.size (J + 2) (updX x 1 s.2) (updD (nnV sf J df i) 1 1) (ffV sf J df m i) X) | _ => Below V.heap.size V X ∧ (X.ownsRow V.heap.size 23 1 (.slice (some ⟨g31, 0, none⟩) J J) J (lL (fun j => (updX x 1 s.2) (2 + j)) J)) ∧ (FmI V.heap.size (J + 2) (updX x 1 s.2) (updD (nnV sf J df i) 1 1) (ffV sf J df m i) X)) (fun s => fun i_ => match i_ with | 0 => x 1 | 1 => .int .i64 ((c : Nat) : Int) | 2 => .slice (some ⟨s.1, 0, none⟩) 1 1 | 3 => s.2 | 4 => s.2 | _ => undef) (0, undef) A.1 (by kernel_rfl) (by decide) (by decide) ⟨BB, FV, FM⟩ ?_ ?_
              · intro i_ hi_ s a X hf hv hn hS
                match i_, hi_ with
                | 0, _ => exact stepV rfl rfl (execMvB rfl ((hn 4 (by decide) _ rfl _ rfl).trans t10)) ⟨s, ⟨_, rfl, rfl⟩, hS, fun _ _ => rfl⟩
                | 1, _ => exact stepV rfl rfl (execMvB rfl ((hf 13 (by decide)).trans t13)) ⟨s, ⟨_, rfl, rfl⟩, hS, fun _ _ => rfl⟩
                | 2, _ =>
                  refine stepV rfl rfl (execBsI (z := ((c : Nat) : Int)) rfl (hv 1 (by decide) _ rfl _ rfl)) ⟨(X.heap.size, s.2), ⟨_, rfl, rfl⟩, ⟨(hS.1).trans (((belNew X _)).mono (hS.1).size), (ownD_below hS.2.1 (belNew X _)), (hS.2.2.on (belNew X _)), heapNew X _⟩, fun i hi => ?_⟩
                  match i, hi with
                  | 0, _ => rfl
                  | 1, _ => rfl
                  | n_ + 2, h_ => omega
                | 3, _ =>
                  refine stepFm (x := x) (k := J + 2) (t := 1) (l := 1) (q := fun _ => ((c : Nat) : Int)) rfl rfl rfl (hv 0 (by decide) _ rfl _ rfl) (hv 2 (by decide) _ rfl _ rfl) hS.2.2.1 (by omega) (lit_sl hS.2.2.2 (by omega)) ⟨_, _, rfl⟩ (by omega) (show i + 1 ≤ _ by omega) (hS.1).size fun v' W' fm' gr => ⟨(s.1, v'), ⟨_, rfl, rfl⟩, ⟨(hS.1).grown gr (hS.1).size (fun k hk => ((hS.2.2.1.rows 1 (by omega)).lt k hk).1), lV_cg (own_overT hS.2.1 (hS.2.2.1.rows 1 (by omega)) gr (by decide)) (fun j hj => (updX_o x v' (show 2 + j ≠ 1 by omega)).symm), FmI.app1 fm' (by show _ = pcF sf J df i; rw [← ec]; rfl)⟩, fun i hi => ?_⟩
                  match i, hi with
                  | 0, _ => rfl
                  | 1, _ => rfl
                  | 2, _ => rfl
                  | n_ + 3, h_ => omega
                | 4, _ => exact stepV rfl rfl (execAsgB rfl (hv 3 (by decide) _ rfl _ rfl)) ⟨s, ⟨_, rfl, rfl⟩, hS, fun _ _ => rfl⟩
                | k_ + 5, h_ => exact absurd h_ (by simp)
              rintro ⟨g66, v67⟩ a X18 h1 h2 h3 h4 hS
              clear BB
              clear FV
              clear FM
              replace hS : Below V.heap.size V X18 ∧ (X18.ownsRow V.heap.size 23 1 (.slice (some ⟨g31, 0, none⟩) J J) J (lL (fun j => (updX x 1 v67) (2 + j)) J)) ∧ (FmI V.heap.size (J + 2) (updX x 1 v67) (updD (nnV sf J df i) 1 1) (ffV sf J df m i) X18) := hS
              obtain ⟨BB, FV1, FM1⟩ := hS
              replace t0 := (h3 0 (by decide)).trans t0
              replace t1 := (h3 1 (by decide)).trans t1
              replace t7 := (h3 7 (by decide)).trans t7
              replace t8 := (h3 8 (by decide)).trans t8
              replace t9 := (h3 9 (by decide)).trans t9
              replace t10 : a.eval (.tmp 10) = v67 := h4 4 _ rfl _ rfl
              replace t11 := (h3 11 (by decide)).trans t11
              replace t12 := (h3 12 (by decide)).trans t12
              replace t13 := (h3 13 (by decide)).trans t13
              replace A := (⟨h1, h2.trans A.2⟩ : a.tmps.size = 98 ∧ a.defers = [])
              clear h1 h2 h3 h4
              refine wp_seq ?_
              refine wp_region_sq (σ := Nat × Value) 98 [(0, 68), (1, 69), (2, 70), (3, 71), (4, 72), (5, 73), (6, 74), (7, 75), (8, 76), (9, 77)] (fun j_ s X => match j_ with | 0 => Below V.heap.size V X ∧ (X.ownsRow V.heap.size 23 1 (.slice (some ⟨g31, 0, none⟩) J J) J (lL (fun j => (updX x 1 v67) (2 + j)) J)) ∧ (FmI V.heap.size (J + 2) (updX x 1 v67) (updD (nnV sf J df i) 1 1) (ffV sf J df m i) X) | 1 => Below V.heap.size V X ∧ (X.ownsRow V.heap.size 23 1 (.slice (some ⟨g31, 0, none⟩) J J) J (lL (fun j => (updX x 1 v67) (2 + j)) J)) ∧ (FmI V.heap.size (J + 2) (updX x 1 v67) (updD (nnV sf J df i) 1 1) (ffV sf J df m i) X) | 2 => Below V.heap.size V X ∧ (X.ownsRow V.heap.size 23 1 (.slice (some ⟨g31, 0, none⟩) J J) J (lL (fun j => (updX x 1 v67) (2 + j)) J)) ∧ (FmI V.heap.size (J + 2) (updX x 1 v67) (updD (nnV sf J df i) 1 1) (ffV sf J df m i) X) | 3 => Below V.heap.size V X ∧ (X.ownsRow V.heap.size 23 1 (.slice (some ⟨g31, 0, none⟩) J J) J (lL (fun j => (updX x 1 v67) (2 + j)) J)) ∧ (FmI V.heap.size (J + 2) (updX x 1 v67) (updD (nnV sf J df i) 1 1) (ffV sf J df m i) X) | 4 => Below V.heap.size V X ∧ (X.ownsRow V.heap.size 23 1 (.slice (some ⟨g31, 0, none⟩) J J) J (lL (fun j => (updX x 1 v67) (2 + j)) J)) ∧ (FmI V.heap.size (J + 2) (updX x 1 v67) (updD (nnV sf J df i) 1 1) (ffV sf J df m i) X) | 5 => Below V.heap.size V X ∧ (X.ownsRow V.heap.size 23 1 (.slice (some ⟨g31, 0, none⟩) J J) J (lL (fun j => (updX x 1 v67) (2 + j)) J)) ∧ (FmI V.heap.size (J + 2) (updX x 1 v67) (updD (nnV sf J df i) 1 1) (ffV sf J df m i) X) | 6 => Below V.heap.size V X ∧ (X.ownsRow V.heap.size 23 1 (.slice (some ⟨g31, 0, none⟩) J J) J (lL (fun j => (updX x 1 v67) (2 + j)) J)) ∧ (FmI V.heap.size (J + 2) (updX x 1 v67) (updD (nnV sf J df i) 1 1) (ffV sf J df m i) X) | 7 => Below V.heap.size V X ∧ (X.ownsRow V.heap.size 23 1 (.slice (some ⟨g31, 0, none⟩) J J) J (lL (fun j => (updX x 1 v67) (2 + j)) J)) ∧ (FmI V.heap.size (J + 2) (updX x 1 v67) (updD (nnV sf J df i) 1 1) (ffV sf J df m i) X) | 8 => Below V.heap.size V X ∧ (X.ownsRow V.heap.size 23 1 (.slice (some ⟨g31, 0, none⟩) J J) J (lL (fun j => (updX x 1 v67) (2 + j)) J)) ∧ (FmI V.heap.size (J + 2) (updX x 1 v67) (updD (nnV sf J df i) 1 1) (ffV sf J df m i) X) ∧ (X.heap[s.1]? = some (.cells #[.int .i64 (((o_ : Nat) : Int))] 3)) | 9 => Below V.heap.size V X ∧ (X.ownsRow V.heap.size 23 1 (.slice (some ⟨g31, 0, none⟩) J J) J (lL (fun j => (updX x 1 v67) (2 + j)) J)) ∧ (FmI V.heap.size (J + 2) (updX (updX x 1 v67) (2 + c) s.2) (nnV sf J df (i + 1)) (ffV sf J df m i) X) | 10 => Below V.heap.size V X ∧ (X.ownsRow V.heap.size 23 1 (.slice (some ⟨g31, 0, none⟩) J J) J (lL (fun j => (updX x 1 v67) (2 + j)) J)) ∧ (FmI V.heap.size (J + 2) (updX (updX x 1 v67) (2 + c) s.2) (nnV sf J df (i + 1)) (ffV sf J df m i) X) | _ => Below V.heap.size V X ∧ (X.ownsRow V.heap.size 23 1 (.slice (some ⟨g31, 0, none⟩) J J) J (lL (fun j => (updX (updX x 1 v67) (2 + c) s.2) (2 + j)) J)) ∧ (FmI V.heap.size (J + 2) (updX (updX x 1 v67) (2 + c) s.2) (nnV sf J df (i + 1)) (ffV sf J df m i) X)) (fun s => fun i_ => match i_ with | 0 => .slice (some ⟨g31, 0, none⟩) J J | 1 => .int .i64 ((c : Nat) : Int) | 2 => .slice (some ⟨g31, 0, none⟩) J J | 3 => .int .i64 ((c : Nat) : Int) | 4 => .pointer (some ⟨g31, 0 + c, none⟩) | 5 => (updX x 1 v67) (2 + c) | 6 => .int .i64 ((o_ : Nat) : Int) | 7 => .slice (some ⟨s.1, 0, none⟩) 1 1 | 8 => s.2 | 9 => .pointer (some ⟨g31, 0 + c, none⟩) | 10 => undef | _ => undef) (0, undef) A.1 (by kernel_rfl) (by decide) (by decide) ⟨BB, FV1, FM1⟩ ?_ ?_
              · intro i_ hi_ s a X hf hv hn hS
                match i_, hi_ with
                | 0, _ => exact stepV rfl rfl (execMvB rfl ((hf 9 (by decide)).trans t9)) ⟨s, ⟨_, rfl, rfl⟩, hS, fun _ _ => rfl⟩
                | 1, _ => exact stepV rfl rfl (execMvB rfl ((hf 13 (by decide)).trans t13)) ⟨s, ⟨_, rfl, rfl⟩, hS, fun _ _ => rfl⟩
                | 2, _ => exact stepV rfl rfl (execMvB rfl ((hf 9 (by decide)).trans t9)) ⟨s, ⟨_, rfl, rfl⟩, hS, fun _ _ => rfl⟩
                | 3, _ => exact stepV rfl rfl (execMvB rfl ((hf 13 (by decide)).trans t13)) ⟨s, ⟨_, rfl, rfl⟩, hS, fun _ _ => rfl⟩
                | 4, _ => exact stepV rfl rfl (execIdxLI (k := c) rfl (hv 2 (by decide) _ rfl _ rfl) (hv 3 (by decide) _ rfl _ rfl) hP1) ⟨s, ⟨_, rfl, rfl⟩, hS, fun _ _ => rfl⟩
                | 5, _ => exact stepV rfl rfl (execLdLI (v := (updX x 1 v67) (2 + c)) rfl (hv 4 (by decide) _ rfl _ rfl) (ownL_cellI hS.2.1 hP1)) ⟨s, ⟨_, rfl, rfl⟩, hS, fun _ _ => rfl⟩
                | 6, _ => exact stepV rfl rfl (execMvB rfl ((hf 12 (by decide)).trans t12)) ⟨s, ⟨_, rfl, rfl⟩, hS, fun _ _ => rfl⟩
                | 7, _ =>
                  refine stepV rfl rfl (execBsI (z := ((o_ : Nat) : Int)) rfl (hv 6 (by decide) _ rfl _ rfl)) ⟨(X.heap.size, s.2), ⟨_, rfl, rfl⟩, ⟨(hS.1).trans (((belNew X _)).mono (hS.1).size), (ownD_below hS.2.1 (belNew X _)), (hS.2.2.on (belNew X _)), heapNew X _⟩, fun i hi => ?_⟩
                  match i, hi with
                  | 0, _ => rfl
                  | 1, _ => rfl
                  | 2, _ => rfl
                  | 3, _ => rfl
                  | 4, _ => rfl
                  | 5, _ => rfl
                  | 6, _ => rfl
                  | n_ + 7, h_ => omega
                | 8, _ =>
                  refine stepFm (x := updX x 1 v67) (k := J + 2) (t := 2 + c) (l := 1) (q := fun _ => ((o_ : Nat) : Int)) rfl rfl rfl (hv 5 (by decide) _ rfl _ rfl) (hv 7 (by decide) _ rfl _ rfl) hS.2.2.1 (by omega) (lit_sl hS.2.2.2 (by omega)) ⟨_, _, rfl⟩ (by omega) (by rw [nn1_at]; omega) (hS.1).size fun v' W' fm' gr => ⟨(s.1, v'), ⟨_, rfl, rfl⟩, ⟨(hS.1).grown gr (hS.1).size (fun k hk => ((hS.2.2.1.rows (2 + c) (by omega)).lt k hk).1), (own_overT hS.2.1 (hS.2.2.1.rows (2 + c) (by omega)) gr (by decide)), FmI.cgN (FmI.app1 fm' (by rw [nn1_at, ffV_at lti ec, eo])) (nnV_next sf J df ec)⟩, fun i hi => ?_⟩
                  match i, hi with
                  | 0, _ => rfl
                  | 1, _ => rfl
                  | 2, _ => rfl
                  | 3, _ => rfl
                  | 4, _ => rfl
                  | 5, _ => rfl
                  | 6, _ => rfl
                  | 7, _ => rfl
                  | n_ + 8, h_ => omega
                | 9, _ => exact stepV rfl rfl (execIdxLI (k := c) rfl (hv 0 (by decide) _ rfl _ rfl) (hv 1 (by decide) _ rfl _ rfl) hP1) ⟨s, ⟨_, rfl, rfl⟩, hS, fun _ _ => rfl⟩
                | 10, _ =>
                  obtain ⟨cu_, hg_, hgB_⟩ := own_cur hS.2.1
                  refine stepS rfl rfl (execStLI rfl (hv 9 (by decide) _ rfl _ rfl) (hv 8 (by decide) _ rfl _ rfl) (by have h_ := hS.2.2.rows (2 + c) (by omega); rw [updX_at] at h_; exact shp3 h_) (ownL_cellI hS.2.1 hP1) (frozen4 hg_)) ⟨s, ⟨_, rfl, rfl⟩, ⟨(hS.1).setCell hgB_ _, lV_cg (ownL_setI hS.2.1) (fun j hj => upd_2 (updX x 1 v67) c j s.2), FmI.offT hS.2.2 hg_ (by decide)⟩, fun i hi => ?_⟩
                  match i, hi with
                  | 0, _ => rfl
                  | 1, _ => rfl
                  | 2, _ => rfl
                  | 3, _ => rfl
                  | 4, _ => rfl
                  | 5, _ => rfl
                  | 6, _ => rfl
                  | 7, _ => rfl
                  | 8, _ => rfl
                  | 9, _ => rfl
                  | n_ + 10, h_ => omega
                | k_ + 11, h_ => exact absurd h_ (by simp)
              rintro ⟨g75, v76⟩ a X19 h1 h2 h3 h4 hS
              clear BB
              clear FV1
              clear FM1
              replace hS : Below V.heap.size V X19 ∧ (X19.ownsRow V.heap.size 23 1 (.slice (some ⟨g31, 0, none⟩) J J) J (lL (fun j => (updX (updX x 1 v67) (2 + c) v76) (2 + j)) J)) ∧ (FmI V.heap.size (J + 2) (updX (updX x 1 v67) (2 + c) v76) (nnV sf J df (i + 1)) (ffV sf J df m i) X19) := hS
              obtain ⟨BB, FV2, FM3⟩ := hS
              replace t0 := (h3 0 (by decide)).trans t0
              replace t1 := (h3 1 (by decide)).trans t1
              replace t7 := (h3 7 (by decide)).trans t7
              replace t8 := (h3 8 (by decide)).trans t8
              replace t9 := (h3 9 (by decide)).trans t9
              replace t10 := (h3 10 (by decide)).trans t10
              replace t11 := (h3 11 (by decide)).trans t11
              replace t13 := (h3 13 (by decide)).trans t13
              replace A := (⟨h1, h2.trans A.2⟩ : a.tmps.size = 98 ∧ a.defers = [])
              clear h1 h2 h3 h4
              clear t12
              have y0 : (updX (updX x 1 v67) (2 + c) v76) 0 = x 0 := by rw [updX_o _ _ (by omega), updX_o _ _ (by omega)]
              have y1 : (updX (updX x 1 v67) (2 + c) v76) 1 = v67 := by rw [updX_o _ _ (by omega), updX_at]
              have ey0 : (updX (updX x 1 v67) (2 + c) v76) 0 = .slice (some ⟨g0, 0, none⟩) J c0 := y0.trans ex0
              refine wp_region_sq (σ := Unit) 98 [(0, 78), (1, 79), (2, 80), (3, 81), (4, 82), (5, 83)] (fun j_ s X => match j_ with | 0 => Below V.heap.size V X ∧ (X.ownsRow V.heap.size 23 1 (.slice (some ⟨g31, 0, none⟩) J J) J (lL (fun j => (updX (updX x 1 v67) (2 + c) v76) (2 + j)) J)) ∧ (FmI V.heap.size (J + 2) (updX (updX x 1 v67) (2 + c) v76) (nnV sf J df (i + 1)) (ffV sf J df m i) X) | 1 => Below V.heap.size V X ∧ (X.ownsRow V.heap.size 23 1 (.slice (some ⟨g31, 0, none⟩) J J) J (lL (fun j => (updX (updX x 1 v67) (2 + c) v76) (2 + j)) J)) ∧ (FmI V.heap.size (J + 2) (updX (updX x 1 v67) (2 + c) v76) (nnV sf J df (i + 1)) (ffV sf J df m i) X) | 2 => Below V.heap.size V X ∧ (X.ownsRow V.heap.size 23 1 (.slice (some ⟨g31, 0, none⟩) J J) J (lL (fun j => (updX (updX x 1 v67) (2 + c) v76) (2 + j)) J)) ∧ (FmI V.heap.size (J + 2) (updX (updX x 1 v67) (2 + c) v76) (nnV sf J df (i + 1)) (ffV sf J df m i) X) | 3 => Below V.heap.size V X ∧ (X.ownsRow V.heap.size 23 1 (.slice (some ⟨g31, 0, none⟩) J J) J (lL (fun j => (updX (updX x 1 v67) (2 + c) v76) (2 + j)) J)) ∧ (FmI V.heap.size (J + 2) (updX (updX x 1 v67) (2 + c) v76) (nnV sf J df (i + 1)) (ffV sf J df m i) X) | 4 => Below V.heap.size V X ∧ (X.ownsRow V.heap.size 23 1 (.slice (some ⟨g31, 0, none⟩) J J) J (lL (fun j => (updX (updX x 1 v67) (2 + c) v76) (2 + j)) J)) ∧ (FmI V.heap.size (J + 2) (updX (updX x 1 v67) (2 + c) v76) (nnV sf J df (i + 1)) (ffV sf J df m i) X) | 5 => Below V.heap.size V X ∧ (X.ownsRow V.heap.size 23 1 (.slice (some ⟨g31, 0, none⟩) J J) J (lL (fun j => (updX (updX x 1 v67) (2 + c) v76) (2 + j)) J)) ∧ (FmI V.heap.size (J + 2) (updX (updX x 1 v67) (2 + c) v76) (nnV sf J df (i + 1)) (ffV sf J df m i) X) | 6 => Below V.heap.size V X ∧ (X.ownsRow V.heap.size 23 1 (.slice (some ⟨g31, 0, none⟩) J J) J (lL (fun j => (updX (updX x 1 v67) (2 + c) v76) (2 + j)) J)) ∧ (FmI V.heap.size (J + 2) (updX (updX x 1 v67) (2 + c) v76) (nnV sf J df (i + 1)) (ffV sf J df m i) X) | _ => Below V.heap.size V X ∧ (X.ownsRow V.heap.size 23 1 (.slice (some ⟨g31, 0, none⟩) J J) J (lL (fun j => (updX (updX x 1 v67) (2 + c) v76) (2 + j)) J)) ∧ (FmI V.heap.size (J + 2) (updX (updX x 1 v67) (2 + c) v76) (nnV sf J df (i + 1)) (updF (ffV sf J df m i) 0 c ((q_ - 1 : Nat) : Int)) X)) (fun s => fun i_ => match i_ with | 0 => x 0 | 1 => .int .i64 ((c : Nat) : Int) | 2 => .pointer (some ⟨g0, 0 + c, none⟩) | 3 => .int .i64 ((q_ : Nat) : Int) | 4 => .int .i64 ((q_ - 1 : Nat) : Int) | 5 => .pointer (some ⟨g0, 0 + c, none⟩) | 6 => undef | _ => undef) () A.1 (by kernel_rfl) (by decide) (by decide) ⟨BB, FV2, FM3⟩ ?_ ?_
              · intro i_ hi_ s a X hf hv hn hS
                match i_, hi_ with
                | 0, _ => exact stepV rfl rfl (execMvB rfl ((hf 8 (by decide)).trans t8)) ⟨s, ⟨_, rfl, rfl⟩, hS, fun _ _ => rfl⟩
                | 1, _ => exact stepV rfl rfl (execMvB rfl ((hf 13 (by decide)).trans t13)) ⟨s, ⟨_, rfl, rfl⟩, hS, fun _ _ => rfl⟩
                | 2, _ => exact stepV rfl rfl (execIdxN (k := c) rfl ((hv 0 (by decide) _ rfl _ rfl).trans ex0) (hv 1 (by decide) _ rfl _ rfl) hP1) ⟨s, ⟨_, rfl, rfl⟩, hS, fun _ _ => rfl⟩
                | 3, _ => exact stepV rfl rfl (execLd3 rfl (hv 2 (by decide) _ rfl _ rfl) ((hS.2.2.cell (t := 0) (by omega) ey0 hP1).1.trans (by rw [← eq]; rfl))) ⟨s, ⟨_, rfl, rfl⟩, hS, fun _ _ => rfl⟩
                | 4, _ => exact stepV rfl rfl (By8.execSubI (p := q_) (q := 1) rfl (hv 3 (by decide) _ rfl _ rfl) rfl (by omega) (by omega)) ⟨s, ⟨_, rfl, rfl⟩, hS, fun _ _ => rfl⟩
                | 5, _ => exact stepV rfl rfl (execIdxN (k := c) rfl ((hv 0 (by decide) _ rfl _ rfl).trans ex0) (hv 1 (by decide) _ rfl _ rfl) hP1) ⟨s, ⟨_, rfl, rfl⟩, hS, fun _ _ => rfl⟩
                | 6, _ =>
                  obtain ⟨hc_, hf_⟩ := hS.2.2.cell (t := 0) (by omega) ey0 hP1
                  refine stepS rfl rfl (execStI9 rfl (hv 5 (by decide) _ rfl _ rfl) (hv 4 (by decide) _ rfl _ rfl) hc_ hf_) ⟨s, ⟨_, rfl, rfl⟩, ⟨(hS.1).setCell hB0 _, (own_offB hS.2.1 (fun z => FmI.notT hS.2.2 (t := 0) (by omega) (own_cur hS.2.1).choose_spec.1 (by decide) (by rw [ey0]; exact z.symm))), hS.2.2.set (t := 0) (by omega) ey0 _⟩, fun i hi => ?_⟩
                  match i, hi with
                  | 0, _ => rfl
                  | 1, _ => rfl
                  | 2, _ => rfl
                  | 3, _ => rfl
                  | 4, _ => rfl
                  | 5, _ => rfl
                  | n_ + 6, h_ => omega
                | k_ + 7, h_ => exact absurd h_ (by simp)
              rintro _ a X20 h1 h2 h3 h4 hS
              clear BB
              clear FV2
              clear FM3
              replace hS : Below V.heap.size V X20 ∧ (X20.ownsRow V.heap.size 23 1 (.slice (some ⟨g31, 0, none⟩) J J) J (lL (fun j => (updX (updX x 1 v67) (2 + c) v76) (2 + j)) J)) ∧ (FmI V.heap.size (J + 2) (updX (updX x 1 v67) (2 + c) v76) (nnV sf J df (i + 1)) (updF (ffV sf J df m i) 0 c ((q_ - 1 : Nat) : Int)) X20) := hS
              obtain ⟨BB, FV2, FM4⟩ := hS
              replace t0 := (h3 0 (by decide)).trans t0
              replace t1 := (h3 1 (by decide)).trans t1
              replace t7 := (h3 7 (by decide)).trans t7
              replace t8 := (h3 8 (by decide)).trans t8
              replace t9 := (h3 9 (by decide)).trans t9
              replace t10 := (h3 10 (by decide)).trans t10
              replace t11 := (h3 11 (by decide)).trans t11
              replace A := (⟨h1, h2.trans A.2⟩ : a.tmps.size = 98 ∧ a.defers = [])
              clear h1 h2 h3 h4
              clear t13
              have FM5 : (FmI V.heap.size (J + 2) (updX (updX x 1 v67) (2 + c) v76) (nnV sf J df (i + 1)) (ffV sf J df m (i + 1)) X20) := FmI.cgF FM4 (fun t ht j _ => ffV_next sf J df m eq epj hw t j)
              clear FM4
              rw [← y0] at t8
              rw [← y1] at t10
              refine wp_region_sq (σ := Unit) 98 [(0, 35), (1, 36), (2, 11)] (fun j_ s X => match j_ with | 0 => Below V.heap.size V X ∧ (X.ownsRow V.heap.size 23 1 (.slice (some ⟨g31, 0, none⟩) J J) J (lL (fun j => (updX (updX x 1 v67) (2 + c) v76) (2 + j)) J)) ∧ (FmI V.heap.size (J + 2) (updX (updX x 1 v67) (2 + c) v76) (nnV sf J df (i + 1)) (ffV sf J df m (i + 1)) X) | 1 => Below V.heap.size V X ∧ (X.ownsRow V.heap.size 23 1 (.slice (some ⟨g31, 0, none⟩) J J) J (lL (fun j => (updX (updX x 1 v67) (2 + c) v76) (2 + j)) J)) ∧ (FmI V.heap.size (J + 2) (updX (updX x 1 v67) (2 + c) v76) (nnV sf J df (i + 1)) (ffV sf J df m (i + 1)) X) | 2 => Below V.heap.size V X ∧ (X.ownsRow V.heap.size 23 1 (.slice (some ⟨g31, 0, none⟩) J J) J (lL (fun j => (updX (updX x 1 v67) (2 + c) v76) (2 + j)) J)) ∧ (FmI V.heap.size (J + 2) (updX (updX x 1 v67) (2 + c) v76) (nnV sf J df (i + 1)) (ffV sf J df m (i + 1)) X) | _ => Below V.heap.size V X ∧ (X.ownsRow V.heap.size 23 1 (.slice (some ⟨g31, 0, none⟩) J J) J (lL (fun j => (updX (updX x 1 v67) (2 + c) v76) (2 + j)) J)) ∧ (FmI V.heap.size (J + 2) (updX (updX x 1 v67) (2 + c) v76) (nnV sf J df (i + 1)) (ffV sf J df m (i + 1)) X)) (fun s => fun i_ => match i_ with | 0 => .int .i64 ((i : Nat) : Int) | 1 => .int .i64 ((i + 1 : Nat) : Int) | 2 => .int .i64 ((i + 1 : Nat) : Int) | _ => undef) () A.1 (by kernel_rfl) (by decide) (by decide) ⟨BB, FV2, FM5⟩ ?_ ?_
              · intro i_ hi_ s a X hf hv hn hS
                match i_, hi_ with
                | 0, _ => exact stepV rfl rfl (execMvB rfl ((hn 2 (by decide) _ rfl _ rfl).trans t11)) ⟨s, ⟨_, rfl, rfl⟩, hS, fun _ _ => rfl⟩
                | 1, _ => exact stepV rfl rfl (execAd8 (p := i) (q := 1) rfl (hv 0 (by decide) _ rfl _ rfl) rfl (by omega)) ⟨s, ⟨_, rfl, rfl⟩, hS, fun _ _ => rfl⟩
                | 2, _ => exact stepV rfl rfl (execAsgB rfl (hv 1 (by decide) _ rfl _ rfl)) ⟨s, ⟨_, rfl, rfl⟩, hS, fun _ _ => rfl⟩
                | k_ + 3, h_ => exact absurd h_ (by simp)
              rintro _ a X10 h1 h2 h3 h4 hS
              clear BB
              clear FV2
              clear FM5
              replace hS : Below V.heap.size V X10 ∧ (X10.ownsRow V.heap.size 23 1 (.slice (some ⟨g31, 0, none⟩) J J) J (lL (fun j => (updX (updX x 1 v67) (2 + c) v76) (2 + j)) J)) ∧ (FmI V.heap.size (J + 2) (updX (updX x 1 v67) (2 + c) v76) (nnV sf J df (i + 1)) (ffV sf J df m (i + 1)) X10) := hS
              obtain ⟨BB, FV2, FM5⟩ := hS
              replace t0 := (h3 0 (by decide)).trans t0
              replace t1 := (h3 1 (by decide)).trans t1
              replace t7 := (h3 7 (by decide)).trans t7
              replace t8 := (h3 8 (by decide)).trans t8
              replace t9 := (h3 9 (by decide)).trans t9
              replace t10 := (h3 10 (by decide)).trans t10
              replace t11 : a.eval (.tmp 11) = .int .i64 ((i + 1 : Nat) : Int) := h4 2 _ rfl _ rfl
              replace A := (⟨h1, h2.trans A.2⟩ : a.tmps.size = 98 ∧ a.defers = [])
              clear h1 h2 h3 h4
              exact ⟨⟨i + 1, updX (updX x 1 v67) (2 + c) v76, lti, allB_succ hall hfai, A, t0, t1, t7, t8, t9, t10, t11, BB, FV2, FM5⟩, by show m - (intOf (a.eval (.tmp 11))).toNat < m - (intOf (Act.eval _ (.tmp 11))).toNat; rw [t11, esi]; show m - (i + 1) < m - i; omega⟩
      · rw [decide_eq_false lti] at t34
        refine wp_cond_false t34 ?_
        refine wp_exit ?_
        first | with_reducible refine exit_in ?_ | with_reducible refine exit_then (exit_in ?_) | with_reducible refine exit_then (exit_then (exit_in ?_)) | refine exit_in ?_ | refine exit_then (exit_in ?_) | refine exit_then (exit_then (exit_in ?_))
        clear t34 esi
        have him : i = m := by omega
        rw [him] at hall FM
        have hpa : paQ sf J df m = true := paQ_iff.2 ⟨hs, hmS, hall⟩
        obtain ⟨hsm, hDr⟩ := pa_draws hpa
        have hpt := chD_pat hsm hDr
        clear t0 t1 t7 t8 t11
        refine wp_seq ?_
        refine wp_region_sq (σ := Unit) 98 [(0, 14)] (fun j_ s X => match j_ with | 0 => Below V.heap.size V X ∧ (X.ownsRow V.heap.size 23 1 (.slice (some ⟨g31, 0, none⟩) J J) J (lL (fun j => (x) (2 + j)) J)) ∧ (FmI V.heap.size (J + 2) (x) (nnV sf J df m) (ffV sf J df m m) X) | _ => Below V.heap.size V X ∧ (X.ownsRow V.heap.size 23 1 (.slice (some ⟨g31, 0, none⟩) J J) J (lL (fun j => (x) (2 + j)) J)) ∧ (FmI V.heap.size (J + 2) (x) (nnV sf J df m) (ffV sf J df m m) X)) (fun s => fun i_ => match i_ with | 0 => .slice none 0 0 | _ => undef) () A.1 (by kernel_rfl) (by decide) (by decide) ⟨BB, FV, FM⟩ ?_ ?_
        · intro i_ hi_ s a X hf hv hn hS
          match i_, hi_ with
          | 0, _ => exact stepV rfl rfl (execAsgB rfl rfl) ⟨s, ⟨_, rfl, rfl⟩, hS, fun _ _ => rfl⟩
          | k_ + 1, h_ => exact absurd h_ (by simp)
        rintro _ a X21 h1 h2 h3 h4 hS
        clear BB
        clear FV
        clear FM
        replace hS : Below V.heap.size V X21 ∧ (X21.ownsRow V.heap.size 23 1 (.slice (some ⟨g31, 0, none⟩) J J) J (lL (fun j => (x) (2 + j)) J)) ∧ (FmI V.heap.size (J + 2) (x) (nnV sf J df m) (ffV sf J df m m) X21) := hS
        obtain ⟨BB, FV, FM⟩ := hS
        replace t9 := (h3 9 (by decide)).trans t9
        replace t10 := (h3 10 (by decide)).trans t10
        have t14 : a.eval (.tmp 14) = .slice none 0 0 := h4 0 _ rfl _ rfl
        replace A := (⟨h1, h2.trans A.2⟩ : a.tmps.size = 98 ∧ a.defers = [])
        clear h1 h2 h3 h4
        refine wp_seq ?_
        refine wp_seq ?_
        refine wp_region_sq (σ := Unit) 98 [(0, 15)] (fun j_ s X => match j_ with | 0 => Below V.heap.size V X ∧ (X.ownsRow V.heap.size 23 1 (.slice (some ⟨g31, 0, none⟩) J J) J (lL (fun j => (x) (2 + j)) J)) ∧ (FmI V.heap.size (J + 2) (x) (nnV sf J df m) (ffV sf J df m m) X) | _ => Below V.heap.size V X ∧ (X.ownsRow V.heap.size 23 1 (.slice (some ⟨g31, 0, none⟩) J J) J (lL (fun j => (x) (2 + j)) J)) ∧ (FmI V.heap.size (J + 2) (x) (nnV sf J df m) (ffV sf J df m m) X)) (fun s => fun i_ => match i_ with | 0 => .int .i64 ((0 : Nat) : Int) | _ => undef) () A.1 (by kernel_rfl) (by decide) (by decide) ⟨BB, FV, FM⟩ ?_ ?_
        · intro i_ hi_ s a X hf hv hn hS
          match i_, hi_ with
          | 0, _ => exact stepV rfl rfl (execAsgB rfl rfl) ⟨s, ⟨_, rfl, rfl⟩, hS, fun _ _ => rfl⟩
          | k_ + 1, h_ => exact absurd h_ (by simp)
        rintro _ a X22 h1 h2 h3 h4 hS
        clear BB
        clear FV
        clear FM
        replace hS : Below V.heap.size V X22 ∧ (X22.ownsRow V.heap.size 23 1 (.slice (some ⟨g31, 0, none⟩) J J) J (lL (fun j => (x) (2 + j)) J)) ∧ (FmI V.heap.size (J + 2) (x) (nnV sf J df m) (ffV sf J df m m) X22) := hS
        obtain ⟨BB, FV, FM⟩ := hS
        replace t9 := (h3 9 (by decide)).trans t9
        replace t10 := (h3 10 (by decide)).trans t10
        replace t14 := (h3 14 (by decide)).trans t14
        have t15 : a.eval (.tmp 15) = .int .i64 ((0 : Nat) : Int) := h4 0 _ rfl _ rfl
        replace A := (⟨h1, h2.trans A.2⟩ : a.tmps.size = 98 ∧ a.defers = [])
        clear h1 h2 h3 h4
        have hlt : ∀ t, t < J + 2 → ∀ b, (x t).ownBlock = some b → b < X22.heap.size := fun t ht b q => ((FM.rows t ht).lt b q).2
        have hXC := BB.size
        have FU : X22.ownsRow X22.heap.size 3 1 (.slice none 0 0) 0 (intsL 0 (poF sf J df m)) := World.ownsRow_nil _ _ _ _
        have FXs : X22.heap.size ≤ X22.heap.size := Nat.le_refl _
        refine wp_block ?_
        refine wp_loop (fun a W => ∃ (j : Nat) (u : Value), j ≤ J ∧ (a.tmps.size = 98 ∧ a.defers = []) ∧ a.eval (.tmp 9) = .slice (some ⟨g31, 0, none⟩) J J ∧ a.eval (.tmp 10) = x 1 ∧ a.eval (.tmp 14) = u ∧ a.eval (.tmp 15) = .int .i64 ((j : Nat) : Int) ∧ Below V.heap.size V W ∧ (W.ownsRow V.heap.size 23 1 (.slice (some ⟨g31, 0, none⟩) J J) J (lL (fun j => (x) (2 + j)) J)) ∧ (FmI V.heap.size (J + 2) (x) (nnV sf J df m) (ffV sf J df m m) W) ∧ (W.ownsRow X22.heap.size 3 1 u (sumN (gN sf) j) (intsL (sumN (gN sf) j) (poF sf J df m))) ∧ (X22.heap.size ≤ W.heap.size)) (fun a _ => J - (intOf (a.eval (.tmp 15))).toNat) ⟨0, _, Nat.zero_le _, A, t9, t10, t14, t15, BB, FV, FM, FU, FXs⟩ ?_
        clear A t9 t10 t14 t15 BB FV FM FU FXs a
        rintro a XL23 ⟨j, u, hj, A, t9, t10, t14, t15, BB, FV, FM, FU, FXs⟩
        have esj := t15
        refine wp_seq ?_
        refine wp_seq ?_
        refine wp_region_sq (σ := Unit) 98 [(0, 84), (1, 85), (2, 86), (3, 87)] (fun j_ s X => match j_ with | 0 => Below V.heap.size V X ∧ (X.ownsRow V.heap.size 23 1 (.slice (some ⟨g31, 0, none⟩) J J) J (lL (fun j => (x) (2 + j)) J)) ∧ (FmI V.heap.size (J + 2) (x) (nnV sf J df m) (ffV sf J df m m) X) ∧ (X.ownsRow X22.heap.size 3 1 u (sumN (gN sf) j) (intsL (sumN (gN sf) j) (poF sf J df m))) ∧ (X22.heap.size ≤ X.heap.size) | 1 => Below V.heap.size V X ∧ (X.ownsRow V.heap.size 23 1 (.slice (some ⟨g31, 0, none⟩) J J) J (lL (fun j => (x) (2 + j)) J)) ∧ (FmI V.heap.size (J + 2) (x) (nnV sf J df m) (ffV sf J df m m) X) ∧ (X.ownsRow X22.heap.size 3 1 u (sumN (gN sf) j) (intsL (sumN (gN sf) j) (poF sf J df m))) ∧ (X22.heap.size ≤ X.heap.size) | 2 => Below V.heap.size V X ∧ (X.ownsRow V.heap.size 23 1 (.slice (some ⟨g31, 0, none⟩) J J) J (lL (fun j => (x) (2 + j)) J)) ∧ (FmI V.heap.size (J + 2) (x) (nnV sf J df m) (ffV sf J df m m) X) ∧ (X.ownsRow X22.heap.size 3 1 u (sumN (gN sf) j) (intsL (sumN (gN sf) j) (poF sf J df m))) ∧ (X22.heap.size ≤ X.heap.size) | 3 => Below V.heap.size V X ∧ (X.ownsRow V.heap.size 23 1 (.slice (some ⟨g31, 0, none⟩) J J) J (lL (fun j => (x) (2 + j)) J)) ∧ (FmI V.heap.size (J + 2) (x) (nnV sf J df m) (ffV sf J df m m) X) ∧ (X.ownsRow X22.heap.size 3 1 u (sumN (gN sf) j) (intsL (sumN (gN sf) j) (poF sf J df m))) ∧ (X22.heap.size ≤ X.heap.size) | _ => Below V.heap.size V X ∧ (X.ownsRow V.heap.size 23 1 (.slice (some ⟨g31, 0, none⟩) J J) J (lL (fun j => (x) (2 + j)) J)) ∧ (FmI V.heap.size (J + 2) (x) (nnV sf J df m) (ffV sf J df m m) X) ∧ (X.ownsRow X22.heap.size 3 1 u (sumN (gN sf) j) (intsL (sumN (gN sf) j) (poF sf J df m))) ∧ (X22.heap.size ≤ X.heap.size)) (fun s => fun i_ => match i_ with | 0 => .int .i64 ((j : Nat) : Int) | 1 => .slice (some ⟨g31, 0, none⟩) J J | 2 => .int .i64 ((J : Nat) : Int) | 3 => .bool (decide (j < J)) | _ => undef) () A.1 (by kernel_rfl) (by decide) (by decide) ⟨BB, FV, FM, FU, FXs⟩ ?_ ?_
        · intro i_ hi_ s a X hf hv hn hS
          match i_, hi_ with
          | 0, _ => exact stepV rfl rfl (execMvB rfl ((hf 15 (by decide)).trans t15)) ⟨s, ⟨_, rfl, rfl⟩, hS, fun _ _ => rfl⟩
          | 1, _ => exact stepV rfl rfl (execMvB rfl ((hf 9 (by decide)).trans t9)) ⟨s, ⟨_, rfl, rfl⟩, hS, fun _ _ => rfl⟩
          | 2, _ => exact stepV rfl rfl (execLenLI (len := J) rfl (hv 1 (by decide) _ rfl _ rfl) ⟨_, _, rfl⟩) ⟨s, ⟨_, rfl, rfl⟩, hS, fun _ _ => rfl⟩
          | 3, _ => exact stepV rfl rfl (execLtW (p := j) (q := J) rfl (hv 0 (by decide) _ rfl _ rfl) (hv 2 (by decide) _ rfl _ rfl)) ⟨s, ⟨_, rfl, rfl⟩, hS, fun _ _ => rfl⟩
          | k_ + 4, h_ => exact absurd h_ (by simp)
        rintro _ a X23 h1 h2 h3 h4 hS
        clear BB
        clear FV
        clear FM
        clear FU
        clear FXs
        replace hS : Below V.heap.size V X23 ∧ (X23.ownsRow V.heap.size 23 1 (.slice (some ⟨g31, 0, none⟩) J J) J (lL (fun j => (x) (2 + j)) J)) ∧ (FmI V.heap.size (J + 2) (x) (nnV sf J df m) (ffV sf J df m m) X23) ∧ (X23.ownsRow X22.heap.size 3 1 u (sumN (gN sf) j) (intsL (sumN (gN sf) j) (poF sf J df m))) ∧ (X22.heap.size ≤ X23.heap.size) := hS
        obtain ⟨BB, FV, FM, FU, FXs⟩ := hS
        replace t9 := (h3 9 (by decide)).trans t9
        replace t10 := (h3 10 (by decide)).trans t10
        replace t14 := (h3 14 (by decide)).trans t14
        replace t15 := (h3 15 (by decide)).trans t15
        have t87 : a.eval (.tmp 87) = .bool (decide (j < J)) := h4 3 _ rfl _ rfl
        replace A := (⟨h1, h2.trans A.2⟩ : a.tmps.size = 98 ∧ a.defers = [])
        clear h1 h2 h3 h4
        by_cases ltj : j < J
        · rw [decide_eq_true ltj] at t87
          refine wp_cond_true t87 ?_
          refine wp_skip ?_
          clear t87
          refine wp_seq ?_
          refine wp_block ?_
          refine wp_region_sq (σ := Value) 98 [(0, 90), (1, 91), (2, 92), (3, 93), (4, 94), (5, 95), (6, 14)] (fun j_ s X => match j_ with | 0 => Below V.heap.size V X ∧ (X.ownsRow V.heap.size 23 1 (.slice (some ⟨g31, 0, none⟩) J J) J (lL (fun j => (x) (2 + j)) J)) ∧ (FmI V.heap.size (J + 2) (x) (nnV sf J df m) (ffV sf J df m m) X) ∧ (X.ownsRow X22.heap.size 3 1 u (sumN (gN sf) j) (intsL (sumN (gN sf) j) (poF sf J df m))) ∧ (X22.heap.size ≤ X.heap.size) | 1 => Below V.heap.size V X ∧ (X.ownsRow V.heap.size 23 1 (.slice (some ⟨g31, 0, none⟩) J J) J (lL (fun j => (x) (2 + j)) J)) ∧ (FmI V.heap.size (J + 2) (x) (nnV sf J df m) (ffV sf J df m m) X) ∧ (X.ownsRow X22.heap.size 3 1 u (sumN (gN sf) j) (intsL (sumN (gN sf) j) (poF sf J df m))) ∧ (X22.heap.size ≤ X.heap.size) | 2 => Below V.heap.size V X ∧ (X.ownsRow V.heap.size 23 1 (.slice (some ⟨g31, 0, none⟩) J J) J (lL (fun j => (x) (2 + j)) J)) ∧ (FmI V.heap.size (J + 2) (x) (nnV sf J df m) (ffV sf J df m m) X) ∧ (X.ownsRow X22.heap.size 3 1 u (sumN (gN sf) j) (intsL (sumN (gN sf) j) (poF sf J df m))) ∧ (X22.heap.size ≤ X.heap.size) | 3 => Below V.heap.size V X ∧ (X.ownsRow V.heap.size 23 1 (.slice (some ⟨g31, 0, none⟩) J J) J (lL (fun j => (x) (2 + j)) J)) ∧ (FmI V.heap.size (J + 2) (x) (nnV sf J df m) (ffV sf J df m m) X) ∧ (X.ownsRow X22.heap.size 3 1 u (sumN (gN sf) j) (intsL (sumN (gN sf) j) (poF sf J df m))) ∧ (X22.heap.size ≤ X.heap.size) | 4 => Below V.heap.size V X ∧ (X.ownsRow V.heap.size 23 1 (.slice (some ⟨g31, 0, none⟩) J J) J (lL (fun j => (x) (2 + j)) J)) ∧ (FmI V.heap.size (J + 2) (x) (nnV sf J df m) (ffV sf J df m m) X) ∧ (X.ownsRow X22.heap.size 3 1 u (sumN (gN sf) j) (intsL (sumN (gN sf) j) (poF sf J df m))) ∧ (X22.heap.size ≤ X.heap.size) | 5 => Below V.heap.size V X ∧ (X.ownsRow V.heap.size 23 1 (.slice (some ⟨g31, 0, none⟩) J J) J (lL (fun j => (x) (2 + j)) J)) ∧ (FmI V.heap.size (J + 2) (x) (nnV sf J df m) (ffV sf J df m m) X) ∧ (X.ownsRow X22.heap.size 3 1 u (sumN (gN sf) j) (intsL (sumN (gN sf) j) (poF sf J df m))) ∧ (X22.heap.size ≤ X.heap.size) | 6 => Below V.heap.size V X ∧ (X.ownsRow V.heap.size 23 1 (.slice (some ⟨g31, 0, none⟩) J J) J (lL (fun j => (x) (2 + j)) J)) ∧ (FmI V.heap.size (J + 2) (x) (nnV sf J df m) (ffV sf J df m m) X) ∧ (X22.heap.size ≤ X.heap.size) ∧ (X.ownsRow X22.heap.size 3 1 s (sumN (gN sf) (j + 1)) (intsL (sumN (gN sf) (j + 1)) (poF sf J df m))) | _ => Below V.heap.size V X ∧ (X.ownsRow V.heap.size 23 1 (.slice (some ⟨g31, 0, none⟩) J J) J (lL (fun j => (x) (2 + j)) J)) ∧ (FmI V.heap.size (J + 2) (x) (nnV sf J df m) (ffV sf J df m m) X) ∧ (X22.heap.size ≤ X.heap.size) ∧ (X.ownsRow X22.heap.size 3 1 s (sumN (gN sf) (j + 1)) (intsL (sumN (gN sf) (j + 1)) (poF sf J df m)))) (fun s => fun i_ => match i_ with | 0 => u | 1 => .slice (some ⟨g31, 0, none⟩) J J | 2 => .int .i64 ((j : Nat) : Int) | 3 => .pointer (some ⟨g31, 0 + j, none⟩) | 4 => x (2 + j) | 5 => s | 6 => s | _ => undef) undef A.1 (by kernel_rfl) (by decide) (by decide) ⟨BB, FV, FM, FU, FXs⟩ ?_ ?_
          · intro i_ hi_ s a X hf hv hn hS
            match i_, hi_ with
            | 0, _ => exact stepV rfl rfl (execMvB rfl ((hn 6 (by decide) _ rfl _ rfl).trans t14)) ⟨s, ⟨_, rfl, rfl⟩, hS, fun _ _ => rfl⟩
            | 1, _ => exact stepV rfl rfl (execMvB rfl ((hf 9 (by decide)).trans t9)) ⟨s, ⟨_, rfl, rfl⟩, hS, fun _ _ => rfl⟩
            | 2, _ => exact stepV rfl rfl (execMvB rfl ((hf 15 (by decide)).trans t15)) ⟨s, ⟨_, rfl, rfl⟩, hS, fun _ _ => rfl⟩
            | 3, _ => exact stepV rfl rfl (execIdxLI (k := j) rfl (hv 1 (by decide) _ rfl _ rfl) (hv 2 (by decide) _ rfl _ rfl) ltj) ⟨s, ⟨_, rfl, rfl⟩, hS, fun _ _ => rfl⟩
            | 4, _ => exact stepV rfl rfl (execLdLI (v := x (2 + j)) rfl (hv 3 (by decide) _ rfl _ rfl) (ownL_cellI hS.2.1 ltj)) ⟨s, ⟨_, rfl, rfl⟩, hS, fun _ _ => rfl⟩
            | 5, _ =>
              refine stepAppIs (f := poF sf J df m) (g := ffV sf J df m m (2 + j)) rfl rfl rfl (hv 0 (by decide) _ rfl _ rfl) (hv 4 (by decide) _ rfl _ rfl) hS.2.2.2.1 (own_ints (hS.2.2.1.rows (2 + j) (by omega)) (ffV_fits sf J df m hDr (fun _ _ => by omega) j)) (own_nilI (hS.2.2.1.rows (2 + j) (by omega))) (ou_len sf J df m hsm hpt ltj hsum) hS.2.2.2.2 fun v' W' own' gr => ⟨v', ⟨_, rfl, rfl⟩, ⟨(hS.1).grown gr (hS.1).size (fun k hk => Nat.le_trans hXC (hS.2.2.2.1.lt k hk).1), own_overT hS.2.1 hS.2.2.2.1 gr (by decide), hS.2.2.1.over hlt hS.2.2.2.1 gr, Nat.le_trans hS.2.2.2.2 gr.size, ou_next sf J df m hpt ltj own'⟩, fun i hi => ?_⟩
              match i, hi with
              | 0, _ => rfl
              | 1, _ => rfl
              | 2, _ => rfl
              | 3, _ => rfl
              | 4, _ => rfl
              | n_ + 5, h_ => omega
            | 6, _ => exact stepV rfl rfl (execAsgB rfl (hv 5 (by decide) _ rfl _ rfl)) ⟨s, ⟨_, rfl, rfl⟩, hS, fun _ _ => rfl⟩
            | k_ + 7, h_ => exact absurd h_ (by simp)
          rintro v95 a X25 h1 h2 h3 h4 hS
          clear BB
          clear FV
          clear FM
          clear FU
          clear FXs
          replace hS : Below V.heap.size V X25 ∧ (X25.ownsRow V.heap.size 23 1 (.slice (some ⟨g31, 0, none⟩) J J) J (lL (fun j => (x) (2 + j)) J)) ∧ (FmI V.heap.size (J + 2) (x) (nnV sf J df m) (ffV sf J df m m) X25) ∧ (X22.heap.size ≤ X25.heap.size) ∧ (X25.ownsRow X22.heap.size 3 1 v95 (sumN (gN sf) (j + 1)) (intsL (sumN (gN sf) (j + 1)) (poF sf J df m))) := hS
          obtain ⟨BB, FV, FM, FXs, FU2⟩ := hS
          replace t9 := (h3 9 (by decide)).trans t9
          replace t10 := (h3 10 (by decide)).trans t10
          replace t14 : a.eval (.tmp 14) = v95 := h4 6 _ rfl _ rfl
          replace t15 := (h3 15 (by decide)).trans t15
          replace A := (⟨h1, h2.trans A.2⟩ : a.tmps.size = 98 ∧ a.defers = [])
          clear h1 h2 h3 h4
          refine wp_region_sq (σ := Unit) 98 [(0, 88), (1, 89), (2, 15)] (fun j_ s X => match j_ with | 0 => Below V.heap.size V X ∧ (X.ownsRow V.heap.size 23 1 (.slice (some ⟨g31, 0, none⟩) J J) J (lL (fun j => (x) (2 + j)) J)) ∧ (FmI V.heap.size (J + 2) (x) (nnV sf J df m) (ffV sf J df m m) X) ∧ (X22.heap.size ≤ X.heap.size) ∧ (X.ownsRow X22.heap.size 3 1 v95 (sumN (gN sf) (j + 1)) (intsL (sumN (gN sf) (j + 1)) (poF sf J df m))) | 1 => Below V.heap.size V X ∧ (X.ownsRow V.heap.size 23 1 (.slice (some ⟨g31, 0, none⟩) J J) J (lL (fun j => (x) (2 + j)) J)) ∧ (FmI V.heap.size (J + 2) (x) (nnV sf J df m) (ffV sf J df m m) X) ∧ (X22.heap.size ≤ X.heap.size) ∧ (X.ownsRow X22.heap.size 3 1 v95 (sumN (gN sf) (j + 1)) (intsL (sumN (gN sf) (j + 1)) (poF sf J df m))) | 2 => Below V.heap.size V X ∧ (X.ownsRow V.heap.size 23 1 (.slice (some ⟨g31, 0, none⟩) J J) J (lL (fun j => (x) (2 + j)) J)) ∧ (FmI V.heap.size (J + 2) (x) (nnV sf J df m) (ffV sf J df m m) X) ∧ (X22.heap.size ≤ X.heap.size) ∧ (X.ownsRow X22.heap.size 3 1 v95 (sumN (gN sf) (j + 1)) (intsL (sumN (gN sf) (j + 1)) (poF sf J df m))) | _ => Below V.heap.size V X ∧ (X.ownsRow V.heap.size 23 1 (.slice (some ⟨g31, 0, none⟩) J J) J (lL (fun j => (x) (2 + j)) J)) ∧ (FmI V.heap.size (J + 2) (x) (nnV sf J df m) (ffV sf J df m m) X) ∧ (X22.heap.size ≤ X.heap.size) ∧ (X.ownsRow X22.heap.size 3 1 v95 (sumN (gN sf) (j + 1)) (intsL (sumN (gN sf) (j + 1)) (poF sf J df m)))) (fun s => fun i_ => match i_ with | 0 => .int .i64 ((j : Nat) : Int) | 1 => .int .i64 ((j + 1 : Nat) : Int) | 2 => .int .i64 ((j + 1 : Nat) : Int) | _ => undef) () A.1 (by kernel_rfl) (by decide) (by decide) ⟨BB, FV, FM, FXs, FU2⟩ ?_ ?_
          · intro i_ hi_ s a X hf hv hn hS
            match i_, hi_ with
            | 0, _ => exact stepV rfl rfl (execMvB rfl ((hn 2 (by decide) _ rfl _ rfl).trans t15)) ⟨s, ⟨_, rfl, rfl⟩, hS, fun _ _ => rfl⟩
            | 1, _ => exact stepV rfl rfl (execAd8 (p := j) (q := 1) rfl (hv 0 (by decide) _ rfl _ rfl) rfl (by omega)) ⟨s, ⟨_, rfl, rfl⟩, hS, fun _ _ => rfl⟩
            | 2, _ => exact stepV rfl rfl (execAsgB rfl (hv 1 (by decide) _ rfl _ rfl)) ⟨s, ⟨_, rfl, rfl⟩, hS, fun _ _ => rfl⟩
            | k_ + 3, h_ => exact absurd h_ (by simp)
          rintro _ a X24 h1 h2 h3 h4 hS
          clear BB
          clear FV
          clear FM
          clear FXs
          clear FU2
          replace hS : Below V.heap.size V X24 ∧ (X24.ownsRow V.heap.size 23 1 (.slice (some ⟨g31, 0, none⟩) J J) J (lL (fun j => (x) (2 + j)) J)) ∧ (FmI V.heap.size (J + 2) (x) (nnV sf J df m) (ffV sf J df m m) X24) ∧ (X22.heap.size ≤ X24.heap.size) ∧ (X24.ownsRow X22.heap.size 3 1 v95 (sumN (gN sf) (j + 1)) (intsL (sumN (gN sf) (j + 1)) (poF sf J df m))) := hS
          obtain ⟨BB, FV, FM, FXs, FU2⟩ := hS
          replace t9 := (h3 9 (by decide)).trans t9
          replace t10 := (h3 10 (by decide)).trans t10
          replace t14 := (h3 14 (by decide)).trans t14
          replace t15 : a.eval (.tmp 15) = .int .i64 ((j + 1 : Nat) : Int) := h4 2 _ rfl _ rfl
          replace A := (⟨h1, h2.trans A.2⟩ : a.tmps.size = 98 ∧ a.defers = [])
          clear h1 h2 h3 h4
          exact ⟨⟨j + 1, _, ltj, A, t9, t10, t14, t15, BB, FV, FM, FU2, FXs⟩, by show J - (intOf (a.eval (.tmp 15))).toNat < J - (intOf (Act.eval _ (.tmp 15))).toNat; rw [t15, esj]; show J - (j + 1) < J - j; omega⟩
        · rw [decide_eq_false ltj] at t87
          refine wp_cond_false t87 ?_
          refine wp_exit ?_
          first | with_reducible refine exit_in ?_ | with_reducible refine exit_then (exit_in ?_) | with_reducible refine exit_then (exit_then (exit_in ?_)) | refine exit_in ?_ | refine exit_then (exit_in ?_) | refine exit_then (exit_then (exit_in ?_))
          clear t87 esj
          have hjJ : j = J := by omega
          rw [hjJ, hsm] at FU
          clear t9 t15 FV FXs
          refine wp_seq ?_
          refine wp_region_sq (σ := Unit) 98 [(0, 96), (1, 97), (2, 4), (3, 5), (4, 6)] (fun j_ s X => match j_ with | 0 => Below V.heap.size V X ∧ (FmI V.heap.size (J + 2) (x) (nnV sf J df m) (ffV sf J df m m) X) ∧ (X.ownsRow X22.heap.size 3 1 u m (intsL m (poF sf J df m))) | 1 => Below V.heap.size V X ∧ (FmI V.heap.size (J + 2) (x) (nnV sf J df m) (ffV sf J df m m) X) ∧ (X.ownsRow X22.heap.size 3 1 u m (intsL m (poF sf J df m))) | 2 => Below V.heap.size V X ∧ (FmI V.heap.size (J + 2) (x) (nnV sf J df m) (ffV sf J df m m) X) ∧ (X.ownsRow X22.heap.size 3 1 u m (intsL m (poF sf J df m))) | 3 => Below V.heap.size V X ∧ (FmI V.heap.size (J + 2) (x) (nnV sf J df m) (ffV sf J df m m) X) ∧ (X.ownsRow X22.heap.size 3 1 u m (intsL m (poF sf J df m))) | 4 => Below V.heap.size V X ∧ (FmI V.heap.size (J + 2) (x) (nnV sf J df m) (ffV sf J df m m) X) ∧ (X.ownsRow X22.heap.size 3 1 u m (intsL m (poF sf J df m))) | _ => Below V.heap.size V X ∧ (FmI V.heap.size (J + 2) (x) (nnV sf J df m) (ffV sf J df m m) X) ∧ (X.ownsRow X22.heap.size 3 1 u m (intsL m (poF sf J df m)))) (fun s => fun i_ => match i_ with | 0 => x 1 | 1 => u | 2 => x 1 | 3 => u | 4 => .int .i64 ((0 : Nat) : Int) | _ => undef) () A.1 (by kernel_rfl) (by decide) (by decide) ⟨BB, FM, FU⟩ ?_ ?_
          · intro i_ hi_ s a X hf hv hn hS
            match i_, hi_ with
            | 0, _ => exact stepV rfl rfl (execMvB rfl ((hf 10 (by decide)).trans t10)) ⟨s, ⟨_, rfl, rfl⟩, hS, fun _ _ => rfl⟩
            | 1, _ => exact stepV rfl rfl (execMvB rfl ((hf 14 (by decide)).trans t14)) ⟨s, ⟨_, rfl, rfl⟩, hS, fun _ _ => rfl⟩
            | 2, _ => exact stepV rfl rfl (execAsgB rfl (hv 0 (by decide) _ rfl _ rfl)) ⟨s, ⟨_, rfl, rfl⟩, hS, fun _ _ => rfl⟩
            | 3, _ => exact stepV rfl rfl (execAsgB rfl (hv 1 (by decide) _ rfl _ rfl)) ⟨s, ⟨_, rfl, rfl⟩, hS, fun _ _ => rfl⟩
            | 4, _ => exact stepV rfl rfl (execAsgB rfl rfl) ⟨s, ⟨_, rfl, rfl⟩, hS, fun _ _ => rfl⟩
            | k_ + 5, h_ => exact absurd h_ (by simp)
          rintro _ a X26 h1 h2 h3 h4 hS
          clear BB
          clear FM
          clear FU
          replace hS : Below V.heap.size V X26 ∧ (FmI V.heap.size (J + 2) (x) (nnV sf J df m) (ffV sf J df m m) X26) ∧ (X26.ownsRow X22.heap.size 3 1 u m (intsL m (poF sf J df m))) := hS
          obtain ⟨BB, FM, FU⟩ := hS
          have t4 : a.eval (.tmp 4) = x 1 := h4 2 _ rfl _ rfl
          have t5 : a.eval (.tmp 5) = u := h4 3 _ rfl _ rfl
          have t6 : a.eval (.tmp 6) = .int .i64 ((0 : Nat) : Int) := h4 4 _ rfl _ rfl
          replace A := (⟨h1, h2.trans A.2⟩ : a.tmps.size = 98 ∧ a.defers = [])
          clear h1 h2 h3 h4
          clear t10 t14
          have hE : paE sf J df m = 0 := paE_ok hpa
          rw [hE, zl_ok]
          refine wp_ret ?_
          refine bodyPost_ret (results_tmp3 rfl _ _ _) A.2 ⟨x 1, u, ?_, fm2_of (FM.rows 1 (by omega)) (ownD_base FU hXC) (fun b q1 q2 => by have := hlt 1 (by omega) b q1; have := (FU.lt b q2).1; omega), BB⟩
          show Ending.returned (.tuple #[a.eval (.tmp 4), a.eval (.tmp 5), a.eval (.tmp 6)]) = _
          rw [t4, t5, t6]
    · refine wp_seq ?_
      refine wp_region_sq (σ := Unit) 98 [(0, 16), (1, 17), (2, 7)] (fun j_ s X => match j_ with | 0 => Below V.heap.size V X | 1 => Below V.heap.size V X | 2 => Below V.heap.size V X | _ => Below V.heap.size V X) (fun s => fun i_ => match i_ with | 0 => v | 1 => .int .i64 ((sumN (gN sf) J : Nat) : Int) | 2 => .int .i64 ((sumN (gN sf) J : Nat) : Int) | _ => undef) () A.1 (by kernel_rfl) (by decide) (by decide) (BB) ?_ ?_
      · intro i_ hi_ s a X hf hv hn hS
        match i_, hi_ with
        | 0, _ => exact stepV rfl rfl (execMvB rfl ((hf 0 (by decide)).trans t0)) ⟨s, ⟨_, rfl, rfl⟩, hS, fun _ _ => rfl⟩
        | 1, _ => exact stepC rfl rfl (execCall1 Try.func29 (by kernel_rfl) (by kernel_rfl) rfl (hv 0 (by decide) _ rfl _ rfl)) ((show toT sf J = ((sumN (gN sf) J : Nat) : Int) by rw [szQ_toT, if_pos hs]) ▸ rtotal sf J _ X (FI.on hS) hJ17) fun e w' hh => ⟨_, hh.1, s, ⟨_, rfl, rfl⟩, (hS).trans ((hh.2).mono (hS).size), fun _ _ => rfl⟩
        | 2, _ => exact stepV rfl rfl (execAsgB rfl (hv 1 (by decide) _ rfl _ rfl)) ⟨s, ⟨_, rfl, rfl⟩, hS, fun _ _ => rfl⟩
        | k_ + 3, h_ => exact absurd h_ (by simp)
      rintro _ a X1 h1 h2 h3 h4 hS
      clear BB
      replace hS : Below V.heap.size V X1 := hS
      have BB := hS
      clear hS
      replace t0 := (h3 0 (by decide)).trans t0
      replace t1 := (h3 1 (by decide)).trans t1
      have t7 : a.eval (.tmp 7) = .int .i64 ((sumN (gN sf) J : Nat) : Int) := h4 2 _ rfl _ rfl
      replace A := (⟨h1, h2.trans A.2⟩ : a.tmps.size = 98 ∧ a.defers = [])
      clear h1 h2 h3 h4
      refine wp_seq ?_
      refine wp_seq ?_
      refine wp_region_sq (σ := Unit) 98 [(0, 18), (1, 19), (2, 20), (3, 21), (4, 22), (5, 23), (6, 24), (7, 25)] (fun j_ s X => match j_ with | 0 => Below V.heap.size V X | 1 => Below V.heap.size V X | 2 => Below V.heap.size V X | 3 => Below V.heap.size V X | 4 => Below V.heap.size V X | 5 => Below V.heap.size V X | 6 => Below V.heap.size V X | 7 => Below V.heap.size V X | _ => Below V.heap.size V X) (fun s => fun i_ => match i_ with | 0 => .int .i64 ((sumN (gN sf) J : Nat) : Int) | 1 => .bool false | 2 => .bool false | 3 => u0 | 4 => .int .i64 ((m : Nat) : Int) | 5 => .int .i64 ((sumN (gN sf) J : Nat) : Int) | 6 => .bool true | 7 => .bool true | _ => undef) () A.1 (by kernel_rfl) (by decide) (by decide) (BB) ?_ ?_
      · intro i_ hi_ s a X hf hv hn hS
        match i_, hi_ with
        | 0, _ => exact stepV rfl rfl (execMvB rfl ((hf 7 (by decide)).trans t7)) ⟨s, ⟨_, rfl, rfl⟩, hS, fun _ _ => rfl⟩
        | 1, _ => exact stepV rfl rfl (execDec (execLtW (p := sumN (gN sf) J) (q := 0) rfl (hv 0 (by decide) _ rfl _ rfl) rfl) (decide_eq_false (by omega))) ⟨s, ⟨_, rfl, rfl⟩, hS, fun _ _ => rfl⟩
        | 2, _ => exact stepV rfl rfl (execMvB rfl (hv 1 (by decide) _ rfl _ rfl)) ⟨s, ⟨_, rfl, rfl⟩, hS, fun _ _ => rfl⟩
        | 3, _ => exact stepV rfl (wantedOf rfl (yieldedAt rfl rfl (show a.eval (.tmp 20) = .bool false from (hv 2 (by decide) _ rfl _ rfl)))) (execMvB rfl ((hf 1 (by decide)).trans t1)) ⟨s, ⟨_, rfl, rfl⟩, hS, fun _ _ => rfl⟩
        | 4, _ => exact stepV rfl (wantedOf rfl (yieldedAt rfl rfl (show a.eval (.tmp 20) = .bool false from (hv 2 (by decide) _ rfl _ rfl)))) (execLenI (len := m) rfl (hv 3 (by decide) _ rfl _ rfl) (FJ).shp) ⟨s, ⟨_, rfl, rfl⟩, hS, fun _ _ => rfl⟩
        | 5, _ => exact stepV rfl (wantedOf rfl (yieldedAt rfl rfl (show a.eval (.tmp 20) = .bool false from (hv 2 (by decide) _ rfl _ rfl)))) (execMvB rfl ((hf 7 (by decide)).trans t7)) ⟨s, ⟨_, rfl, rfl⟩, hS, fun _ _ => rfl⟩
        | 6, _ => exact stepV rfl (wantedOf rfl (yieldedAt rfl rfl (show a.eval (.tmp 20) = .bool false from (hv 2 (by decide) _ rfl _ rfl)))) (execDec (execNeN (p := m) (q := sumN (gN sf) J) rfl (hv 4 (by decide) _ rfl _ rfl) (hv 5 (by decide) _ rfl _ rfl)) (decide_eq_true (by omega))) ⟨s, ⟨_, rfl, rfl⟩, hS, fun _ _ => rfl⟩
        | 7, _ => exact stepV rfl rfl (execPickF rfl (hv 2 (by decide) _ rfl _ rfl) (hv 6 (by decide) _ rfl _ rfl)) ⟨s, ⟨_, rfl, rfl⟩, hS, fun _ _ => rfl⟩
        | k_ + 8, h_ => exact absurd h_ (by simp)
      rintro _ a X2 h1 h2 h3 h4 hS
      clear BB
      replace hS : Below V.heap.size V X2 := hS
      have BB := hS
      clear hS
      replace t0 := (h3 0 (by decide)).trans t0
      replace t1 := (h3 1 (by decide)).trans t1
      replace t7 := (h3 7 (by decide)).trans t7
      have t25 : a.eval (.tmp 25) = .bool true := h4 7 _ rfl _ rfl
      replace A := (⟨h1, h2.trans A.2⟩ : a.tmps.size = 98 ∧ a.defers = [])
      clear h1 h2 h3 h4
      refine wp_cond_true t25 ?_
      refine wp_seq ?_
      refine wp_region_sq (σ := Unit) 98 [(0, 4), (1, 5), (2, 6)] (fun j_ s X => match j_ with | 0 => Below V.heap.size V X | 1 => Below V.heap.size V X | 2 => Below V.heap.size V X | _ => Below V.heap.size V X) (fun s => fun i_ => match i_ with | 0 => .slice none 0 0 | 1 => .slice none 0 0 | 2 => .int .i64 ((2 : Nat) : Int) | _ => undef) () A.1 (by kernel_rfl) (by decide) (by decide) (BB) ?_ ?_
      · intro i_ hi_ s a X hf hv hn hS
        match i_, hi_ with
        | 0, _ => exact stepV rfl rfl (execAsgB rfl rfl) ⟨s, ⟨_, rfl, rfl⟩, hS, fun _ _ => rfl⟩
        | 1, _ => exact stepV rfl rfl (execAsgB rfl rfl) ⟨s, ⟨_, rfl, rfl⟩, hS, fun _ _ => rfl⟩
        | 2, _ => exact stepV rfl rfl (execAsgB rfl rfl) ⟨s, ⟨_, rfl, rfl⟩, hS, fun _ _ => rfl⟩
        | k_ + 3, h_ => exact absurd h_ (by simp)
      rintro _ a X3 h1 h2 h3 h4 hS
      clear BB
      replace hS : Below V.heap.size V X3 := hS
      have BB := hS
      clear hS
      have t4 : a.eval (.tmp 4) = .slice none 0 0 := h4 0 _ rfl _ rfl
      have t5 : a.eval (.tmp 5) = .slice none 0 0 := h4 1 _ rfl _ rfl
      have t6 : a.eval (.tmp 6) = .int .i64 ((2 : Nat) : Int) := h4 2 _ rfl _ rfl
      replace A := (⟨h1, h2.trans A.2⟩ : a.tmps.size = 98 ∧ a.defers = [])
      clear h1 h2 h3 h4
      clear t0 t1 t7
      have hE : paE sf J df m = 2 := paE_no fun q => hmS (paQ_iff.1 q).2.1
      rw [hE, zl_no (by decide)]
      refine wp_ret ?_
      repeat (first | with_reducible refine ret_in ?_ | with_reducible refine ret_then ?_)
      refine bodyPost_ret (results_tmp3 rfl _ _ _) A.2 ⟨_, _, ?_, fm2nil _ _ _, BB⟩
      show Ending.returned (.tuple #[a.eval (.tmp 4), a.eval (.tmp 5), a.eval (.tmp 6)]) = _
      rw [t4, t5, t6]
end Go.Proofs.Ytdecmmcphcomhaa.Brd
