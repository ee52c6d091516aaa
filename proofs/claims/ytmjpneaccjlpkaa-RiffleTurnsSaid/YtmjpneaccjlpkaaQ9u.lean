import Derived.Test.YtmjpneaccjlpkaaF9b
import Derived.Test.YtmjpneaccjlpkaaQ9t
namespace Go.Proofs.Ytmjpneaccjlpkaa.Brd
open Go.RowKit Gf8 Aes By8 Cel Cf Tap Drw Prm
/- Stage 12's reference: Pattern. Written by tools/mkQ9u.py. -/
theorem updX_o (x : Nat → Value) {m t : Nat} (r : Value) (h : t ≠ m) : updX x m r t = x t := if_neg h
theorem upd_2 (x : Nat → Value) (c j : Nat) (v : Value) : updX (fun j => x (2 + j)) c v j = updX x (2 + c) v (2 + j) := by
 unfold updX
 by_cases h : j = c
 ·rw [if_pos h, if_pos (by omega)]
 ·rw [if_neg h, if_neg (by omega)]
theorem lV_cg {W : World} {B J : Nat} {v : Value} {y z : Nat → Value} (h : W.ownsRow B 24 1 v J (lL y J)) (e : ∀ j, j < J → y j = z j) : W.ownsRow B 24 1 v J (lL z J) := by
 rw [← lL_congr J e]
 exact h
theorem FmI.offT {B k g o : Nat} {x : Nat → Value} {nn : Nat → Nat} {ff : Nat → Nat → Int} {W : World} {c : Array Value} {u : TypeId} {z : Value} (h : FmI B k x nn ff W) (hg : W.heap[g]? = some (.cells c u)) (hu : u ≠ 3) : FmI B k x nn ff (W.setCell ⟨g, o, none⟩ z) := ⟨fun t ht => own_offT (h.rows t ht) hg hu, h.dis⟩
theorem fm2_of {B m : Nat} {a b : Value} {f g : Nat → Int} {W : World} (h0 : W.ownsRow B 3 1 a m (intsL m f)) (h1 : W.ownsRow B 3 1 b m (intsL m g)) (hd : ∀ k, a.ownBlock = some k → b.ownBlock ≠ some k) : FmI B 2 (x2 a b) (fun _ => m) (f2 f g) W := by
 refine ⟨fun t ht => ?_, fun s t hs ht hst k => ?_⟩
 ·match t, ht with
  | 0, _ => exact h0
  | 1, _ => exact h1
  | t + 2, h => omega
 ·match s, hs, t, ht, hst with
  | 0, _, 0, _, h => exact absurd rfl h
  | 0, _, 1, _, _ => exact hd k
  | 1, _, 0, _, _ => exact fun e q => hd k q e
  | 1, _, 1, _, h => exact absurd rfl h
  | s + 2, h, _, _, _ => omega
  | _, _, t + 2, h, _ => omega
def xV (v : Value) (t : Nat) : Value := if t = 0 then v else .slice none 0 0
theorem xV_o {v : Value} {t : Nat} (h : t ≠ 0) : xV v t = .slice none 0 0 := if_neg h
def nnV (sf : Nat → Int) (J : Nat) (df : Nat → Int) (i t : Nat) : Nat := if t = 0 then J else if t = 1 then i else cntC (chD (gN sf) J (gN df)) (t - 2) i
def ffV (sf : Nat → Int) (J : Nat) (df : Nat → Int) (m i t : Nat) : Nat → Int :=
 if t = 0 then fun j => (lfD (gN sf) J (gN df) i j : Int) else if t = 1 then pcF sf J df else fun v => (ofD (gN sf) J (gN df) (plC (chD (gN sf) J (gN df)) (t - 2) v m) : Int)
theorem fmV0 (sf : Nat → Int) (J : Nat) (df : Nat → Int) (m : Nat) {B : Nat} {v : Value} {W : World} (h : W.ownsRow B 3 1 v J (intsL J sf)) (hok : okS sf J = true) : FmI B (J + 2) (xV v) (nnV sf J df 0) (ffV sf J df m 0) W := by
 refine ⟨fun t ht => ?_, fun s t hs ht hst b e => ?_⟩
 ·by_cases q : t = 0
  ·subst q
   show World.ownsRow _ _ _ _ v J (intsL J fun j => ((gN sf j : Nat) : Int))
   rw [← intsL_congr (fun j hj => okS_nn hok hj)]
   exact h
  ·have e1 : nnV sf J df 0 t = 0 := by
    unfold nnV
    rw [if_neg q]
    by_cases q1 : t = 1
    ·rw [if_pos q1]
    ·rw [if_neg q1]
     rfl
   rw [xV_o q, e1]
   exact World.ownsRow_nil _ _ _ _
 ·by_cases q : s = 0
  ·rw [xV_o (show t ≠ 0 by omega)]
   intro z
   cases z
  ·rw [xV_o q] at e
   cases e
theorem nn1_at {sf df : Nat → Int} {J i c : Nat} : updD (nnV sf J df i) 1 1 (2 + c) = cntC (chD (gN sf) J (gN df)) c i := by
 unfold updD nnV
 rw [if_neg (by omega), if_neg (by omega), if_neg (by omega), show 2 + c - 2 = c by omega]
theorem ffV_at {sf df : Nat → Int} {J m i c k : Nat} (hi : i < m) (ec : chD (gN sf) J (gN df) i = c) : ffV sf J df m k (2 + c) (cntC (chD (gN sf) J (gN df)) c i) = (ofD (gN sf) J (gN df) i : Int) := by
 unfold ffV
 rw [if_neg (by omega), if_neg (by omega), show 2 + c - 2 = c by omega]
 show ((ofD _ _ _ (plC _ c _ m) : Nat) : Int) = _
 rw [← ec, plC_is hi]
theorem nnV_next (sf : Nat → Int) (J : Nat) (df : Nat → Int) {i c : Nat} (ec : chD (gN sf) J (gN df) i = c) : ∀ t, t < J + 2 → updD (updD (nnV sf J df i) 1 1) (2 + c) 1 t = nnV sf J df (i + 1) t := fun t _ => by
 by_cases q : t = 2 + c
 ·subst q
  have e1 : updD (updD (nnV sf J df i) 1 1) (2 + c) 1 (2 + c) = updD (nnV sf J df i) 1 1 (2 + c) + 1 := if_pos rfl
  rw [e1, nn1_at]
  unfold nnV
  rw [if_neg (by omega), if_neg (by omega), show 2 + c - 2 = c by omega]
  show _ = cntC _ c i + _
  rw [if_pos ec]
 ·have e1 : updD (updD (nnV sf J df i) 1 1) (2 + c) 1 t = updD (nnV sf J df i) 1 1 t := if_neg q
  rw [e1]
  unfold updD nnV
  by_cases q1 : t = 1
  ·subst q1; rfl
  ·rw [if_neg q1]
   by_cases q0 : t = 0
   ·rw [if_pos q0, if_pos q0]
   ·rw [if_neg q0, if_neg q0, if_neg q1, if_neg q1]
    show _ = cntC _ (t - 2) i + _
    rw [if_neg (by omega)]
    rfl
theorem ffV_next (sf : Nat → Int) (J : Nat) (df : Nat → Int) (m : Nat) {i c q w : Nat} (eq : lfD (gN sf) J (gN df) i c = q) (epj : pj (lfD (gN sf) J (gN df) i) w J = c) (hw : gN df i = w) (t j : Nat) : updF (ffV sf J df m i) 0 c ((q - 1 : Nat) : Int) t j = ffV sf J df m (i + 1) t j := by
 by_cases h : t = 0
 ·subst h
  rw [updF_at]
  show (if j = c then ((q - 1 : Nat) : Int) else ((lfD _ _ _ i j : Nat) : Int)) = ((dec1 (lfD (gN sf) J (gN df) i) (pj (lfD (gN sf) J (gN df) i) (gN df i) J) j : Nat) : Int)
  rw [hw, epj]
  by_cases e : j = c
  ·subst e
   rw [if_pos rfl, dec1_at, eq]
  ·rw [if_neg e, dec1_o e]
 ·rw [updF_o h]
  unfold ffV
  rw [if_neg h, if_neg h]
section
variable (sf : Nat → Int) (J : Nat) (df : Nat → Int) (m : Nat)
theorem ffV_fits (hD : ∀ i, i < m → gN df i < m - i) (hbig : ∀ i, i < m → m ≤ 1000000) (j : Nat) : ∀ v, v < nnV sf J df m (2 + j) → -9223372036854775808 ≤ ffV sf J df m m (2 + j) v ∧ ffV sf J df m m (2 + j) v < 9223372036854775808 := fun v hv => by
 have hm : 0 < m := by
  rcases Nat.eq_zero_or_pos m with q | q
  ·subst q
   unfold nnV at hv
   rw [if_neg (by omega), if_neg (by omega)] at hv
   exact absurd hv (Nat.not_lt_zero _)
  ·exact q
 unfold ffV
 rw [if_neg (by omega), if_neg (by omega)]
 obtain ⟨p, ep⟩ : ∃ p, plC (chD (gN sf) J (gN df)) (2 + j - 2) v m = p := ⟨_, rfl⟩
 have hp : p < m := by rw [← ep]; exact plC_lt hm
 have h1 := hD p hp
 have h2 : ofD (gN sf) J (gN df) p ≤ gN df p := Nat.sub_le _ _
 show _ ≤ ((ofD _ _ _ (plC _ _ v m) : Nat) : Int) ∧ ((ofD _ _ _ (plC _ _ v m) : Nat) : Int) < _
 rw [ep]
 have h3 := hbig p hp
 omega
theorem nnV_at (hp : IsPat (gN sf) J m (chD (gN sf) J (gN df))) {j : Nat} (hj : j < J) : nnV sf J df m (2 + j) = gN sf j := by
 unfold nnV
 rw [if_neg (by omega), if_neg (by omega), show 2 + j - 2 = j by omega]
 exact hp.cnt j hj
theorem ou_len (hn : sumN (gN sf) J = m) (hp : IsPat (gN sf) J m (chD (gN sf) J (gN df))) {j : Nat} (hj : j < J) (hs : sumN (gN sf) J ≤ 256) : sumN (gN sf) j + nnV sf J df m (2 + j) ≤ 17592186044416 := by
 rw [nnV_at sf J df m hp hj]
 have := sumN_at (r := gN sf) hj
 omega
theorem ou_next (hp : IsPat (gN sf) J m (chD (gN sf) J (gN df))) {j B : Nat} (hj : j < J) {v : Value} {W : World} (h : W.ownsRow B 3 1 v (sumN (gN sf) j + nnV sf J df m (2 + j)) (intsL (sumN (gN sf) j + nnV sf J df m (2 + j)) (catI (sumN (gN sf) j) (poF sf J df m) (ffV sf J df m m (2 + j))))) : W.ownsRow B 3 1 v (sumN (gN sf) (j + 1)) (intsL (sumN (gN sf) (j + 1)) (poF sf J df m)) := by
 have e := nnV_at sf J df m hp hj
 rw [e] at h
 rw [← intsL_congr (f := catI (sumN (gN sf) j) (poF sf J df m) (ffV sf J df m m (2 + j))) (fun x hx => ?_)]
 ·exact h
 ·unfold catI
  by_cases q : x < sumN (gN sf) j
  ·rw [if_pos q]
  ·rw [if_neg q]
   have hx2 : x < sumN (gN sf) j + gN sf j := hx
   have e2 : pj (gN sf) x J = j := pj_is hj (by omega) hx2
   unfold ffV
   rw [if_neg (by omega), if_neg (by omega), show 2 + j - 2 = j by omega]
   show ((ofD _ _ _ (plC _ j (x - sumN (gN sf) j) m) : Nat) : Int) = ((ofD _ _ _ (plC _ (pj (gN sf) x J) (x - sumN (gN sf) (pj (gN sf) x J)) m) : Nat) : Int)
   rw [e2]
end
set_option maxRecDepth 100000 in
set_option maxHeartbeats 4000000 in
theorem rpattern (sf df : Nat → Int) (J m : Nat) (v u0 : Value) (V : World) (FI : SliceI V v J sf) (hJ17 : J ≤ 17592186044416) (FJ : SliceI V u0 m df) (hm17 : m ≤ 17592186044416) :
  Calls Try.prog 52 #[v, u0] V fun e w' => ∃ r1 r2, e = .returned (.tuple #[r1, r2, .int .i64 ((paE sf J df m : Nat) : Int)]) ∧ FmI V.heap.size 2 (x2 r1 r2) (fun _ => zl (paE sf J df m) m) (f2 (pcF sf J df) (poF sf J df m)) w' ∧ Below V.heap.size V w' := by
 go_enter Try.func52, Try.ntmps52
 refine wp_seq ?_
 refine wo_ 98 [(0, v), (1, u0)] ?_
 rintro a A ⟨t0, t1, -⟩
 refine wi_ A (h2_ t0 t1) (rf_ [] (h2_ t0 t1) ?_)
 rintro a A - ⟨t0, t1, -⟩
 have BW : Below V.heap.size V V := Below.refl _ _
 have BB := BW
 cases hs : szQ sf J with
 | false =>
  refine wp_seq ?_
  refine wi_ A (h2_ t0 t1) (rc_ 1 ((show toT sf J = -1 by rw [szQ_toT, hs]; rfl) ▸ rtotal sf J _ V (FI.on BB) hJ17) (cb_ fun X1 bQ => ?_))
  replace BB := BB.trans (bQ.mono BB.size)
  clear bQ
  refine rf_ [(7, .int .i64 (-1))] (h2_ t0 t1) ?_
  rintro a A ⟨t7, -⟩ ⟨t0, t1, -⟩
  refine wp_seq (wp_seq ?_)
  refine wi_ A (h3_ t0 t1 t7) (rv_ 1 (.bool true) (fun a e => execLtCt (p := -1) (q := 0) rfl (e _) (by omega)) (rf_ [(25, .bool true)] (h3_ t0 t1 t7) ?_))
  rintro a A ⟨t25, -⟩ ⟨t0, t1, t7, -⟩
  refine wp_cond_true t25 ?_
  refine wp_seq ?_
  refine wi_ A (h3_ t0 t1 t7) (rg_ [(4, .slice none 0 0), (5, .slice none 0 0), (6, .int .i64 ((2 : Nat) : Int))] ?_)
  rintro a A ⟨t4, t5, t6, -⟩
  have hE : paE sf J df m = 2 := paE_no fun q => by have := (paQ_iff.1 q).1; rw [hs] at this; cases this
  rw [hE, zl_no (by decide)]
  refine wp_ret ?_
  repeat (first | with_reducible refine ret_in ?_ | with_reducible refine ret_then ?_)
  refine bodyPost_ret (results_tmp3 rfl _ _ _) A.2 ⟨_, _, ?_, fm2nil _ _ _, BB⟩
  show Ending.returned (.tuple #[a.eval (.tmp 4), a.eval (.tmp 5), a.eval (.tmp 6)]) = _
  rw [t4, t5, t6]
 | true =>
  by_cases hmS : m = sumN (gN sf) J
  ·refine wp_seq ?_
   refine wi_ A (h2_ t0 t1) (rc_ 1 ((show toT sf J = ((sumN (gN sf) J : Nat) : Int) by rw [szQ_toT, if_pos hs]) ▸ rtotal sf J _ V (FI.on BB) hJ17) (cb_ fun X1 bQ => ?_))
   replace BB := BB.trans (bQ.mono BB.size)
   clear bQ
   refine rf_ [(7, .int .i64 ((sumN (gN sf) J : Nat) : Int))] (h2_ t0 t1) ?_
   rintro a A ⟨t7, -⟩ ⟨t0, t1, -⟩
   refine wp_seq (wp_seq ?_)
   refine wi_ A (h3_ t0 t1 t7) (rv_ 1 (.bool false) (fun a e => execDec (execLtW (p := sumN (gN sf) J) (q := 0) rfl (e _) rfl) (decide_eq_false (by omega))) (rv_ 4 (.int .i64 ((m : Nat) : Int)) (fun a e => execLenI (len := m) rfl (e _) ((FJ.on BB)).shp) (rv_ 6 (.bool false) (fun a e => execDec (execNeN (p := m) (q := sumN (gN sf) J) rfl (e _) (e _)) (decide_eq_false (by omega))) (rf_ [(25, .bool false)] (h3_ t0 t1 t7) ?_))))
   rintro a A ⟨t25, -⟩ ⟨t0, t1, t7, -⟩
   refine wp_cond_false t25 (wp_skip ?_)
   clear t25
   have hok := (szQ_iff.1 hs).2
   have hJ64 := (szQ_iff.1 hs).1.2
   have hJ1 := (szQ_iff.1 hs).1.1
   have hsum := okS_sum hok
   rw [← hmS] at t7
   refine wp_seq ?_
   refine wi_ A (h3_ t0 t1 t7) (rf_ [(8, .slice none 0 0)] (h3_ t0 t1 t7) ?_)
   rintro a A ⟨t8, -⟩ ⟨t0, t1, t7, -⟩
   obtain ⟨vb, vo, vc, ev, _, _⟩ := open_sl FI (by omega)
   refine wp_seq ?_
   refine wi_ A (h4_ t0 t1 t7 t8) (rs_ 2 (fun a e => ?_))
   refine stepAppIs (f := sf) (g := sf) rfl rfl rfl (e _) (e _) (World.ownsRow_nil _ V.heap.size 3 1) (FI.on BB) (fun l c e => by rw [ev] at e; cases e) (by omega) (BB).size fun v28 X5 own' gr => ⟨_, ⟨_, rfl, rfl⟩, eqw ?_⟩
   obtain ⟨BB, FO⟩ : Below V.heap.size V X5 ∧ (X5.ownsRow V.heap.size 3 1 v28 (J) (intsL (J) (sf))) := ⟨(BB).grown gr (BB).size (fun k hk => by cases hk), own_cat0 own'⟩
   clear e a
   refine rf_ [(8, v28)] (h3_ t0 t1 t7) ?_
   rintro a A ⟨t8, -⟩ ⟨t0, t1, t7, -⟩
   refine wp_seq ?_
   obtain ⟨g31, egg31⟩ : ∃ z_ : Nat, X5.heap.size = z_ := ⟨_, rfl⟩
   refine wi_ A (h4_ t0 t1 t7 t8) (rv_ 1 (.int .i64 ((J : Nat) : Int)) (fun a e => execLenI (len := J) rfl (e _) ((FI.on BB)).shp) (rs_ 2 (fun a e => ?_)))
   refine stepV rfl rfl (execMkLI rfl (e _) (e _) (by omega)) ⟨.slice (some ⟨g31, 0, none⟩) J J, ⟨_, rfl, by subst egg31; rfl⟩, fun X6 hX => ?_⟩
   have bQ : Below X5.heap.size X5 X6 := by subst hX egg31; exact (belNew X5 _)
   have FV : (X6.ownsRow V.heap.size 24 1 (.slice (some ⟨g31, 0, none⟩) J J) J (lL (fun _ => .slice none 0 0) J)) := by subst hX egg31; exact ownD_base (own_mkLI X5 J (by omega)) (BB).size
   replace FO := (ownD_below FO bQ)
   replace BB := BB.trans (bQ.mono BB.size)
   clear bQ hX egg31 e a
   refine rf_ [(9, .slice (some ⟨g31, 0, none⟩) J J)] (h4_ t0 t1 t7 t8) ?_
   rintro a A ⟨t9, -⟩ ⟨t0, t1, t7, t8, -⟩
   refine wp_seq ?_
   refine wi_ A (h5_ t0 t1 t7 t8 t9) (rf_ [(10, .slice none 0 0)] (h5_ t0 t1 t7 t8 t9) ?_)
   rintro a A ⟨t10, -⟩ ⟨t0, t1, t7, t8, t9, -⟩
   refine wp_seq (wp_seq ?_)
   refine wi_ A (h6_ t0 t1 t7 t8 t9 t10) (rf_ [(11, .int .i64 ((0 : Nat) : Int))] (h6_ t0 t1 t7 t8 t9 t10) ?_)
   rintro a A ⟨t11, -⟩ ⟨t0, t1, t7, t8, t9, t10, -⟩
   have FM : (FmI V.heap.size (J + 2) (xV v28) (nnV sf J df 0) (ffV sf J df m 0) X6) := fmV0 sf J df m FO hok
   clear FO
   replace FV : (X6.ownsRow V.heap.size 24 1 (.slice (some ⟨g31, 0, none⟩) J J) J (lL (fun j => (xV v28) (2 + j)) J)) := (by have h_ := FV; rw [lL_congr (y := fun j => xV v28 (2 + j)) J (fun j hj => (xV_o (by omega)).symm)] at h_; exact h_)
   refine wp_block ?_
   refine wp_loop (fun a W => ∃ (i : Nat) (x : Nat → Value), i ≤ m ∧ (allB (faB df m) i = true) ∧ (a.tmps.size = 98 ∧ a.defers = []) ∧ a.eval (.tmp 0) = v ∧ a.eval (.tmp 1) = u0 ∧ a.eval (.tmp 7) = .int .i64 ((m : Nat) : Int) ∧ a.eval (.tmp 8) = x 0 ∧ a.eval (.tmp 9) = .slice (some ⟨g31, 0, none⟩) J J ∧ a.eval (.tmp 10) = x 1 ∧ a.eval (.tmp 11) = .int .i64 ((i : Nat) : Int) ∧ Below V.heap.size V W ∧ (W.ownsRow V.heap.size 24 1 (.slice (some ⟨g31, 0, none⟩) J J) J (lL (fun j => (x) (2 + j)) J)) ∧ (FmI V.heap.size (J + 2) (x) (nnV sf J df i) (ffV sf J df m i) W)) (fun a _ => m - (intOf (a.eval (.tmp 11))).toNat) ⟨0, xV v28, Nat.zero_le _, rfl, A, t0, t1, t7, t8, t9, t10, t11, BB, FV, FM⟩ ?_
   rintro a XL9 ⟨i, x, hi, hall, A, t0, t1, t7, t8, t9, t10, t11, BB, FV, FM⟩
   have esi := t11
   refine wp_seq (wp_seq ?_)
   refine wi_ A (h7_ t0 t1 t7 t8 t9 t10 t11) (rv_ 2 (.bool (decide (i < m))) (fun a e => execLtW (p := i) (q := m) rfl (e _) (e _)) (rf_ [(34, .bool (decide (i < m)))] (h7_ t0 t1 t7 t8 t9 t10 t11) ?_))
   rintro a A ⟨t34, -⟩ ⟨t0, t1, t7, t8, t9, t10, t11, -⟩
   by_cases lti : i < m
   ·rw [decide_eq_true lti] at t34
    refine wp_cond_true t34 (wp_skip ?_)
    clear t34
    refine wp_seq (wp_block ?_)
    obtain ⟨ddb, ddo, ddc, edd, hddb, hddc⟩ := open_sl FJ (by omega)
    have cdd : ∀ k, k < m → ∀ X, Below V.heap.size V X → X.cell? ⟨ddb, ddo + k, none⟩ = some (.int .i64 ((df) k)) := fun k hk X hX => by rw [cell_below hX hddb]; exact hddc k hk
    by_cases h1 : df i < 0
    ·refine wp_seq ?_
     refine wi_ A (h7_ t0 t1 t7 t8 t9 t10 t11) (rv_ 2 (.pointer (some ⟨ddb, ddo + i, none⟩)) (fun a e => execIdxN (k := i) rfl ((e _).trans edd) (e _) lti) (rv_ 3 (.int .i64 (df i)) (fun a e => execLd3 rfl (e _) (cdd i lti XL9 BB)) (rf_ [(12, .int .i64 (df i))] (h7_ t0 t1 t7 t8 t9 t10 t11) ?_)))
     rintro a A ⟨t12, -⟩ ⟨t0, t1, t7, t8, t9, t10, t11, -⟩
     refine wp_seq (wp_seq ?_)
     refine wi_ A (h8_ t0 t1 t7 t8 t9 t10 t11 t12) (rv_ 1 (.bool true) (fun a e => execLtCt (p := (df i)) (q := 0) rfl (e _) (by exact h1)) (rf_ [(49, .bool true)] (h8_ t0 t1 t7 t8 t9 t10 t11 t12) ?_))
     rintro a A ⟨t49, -⟩ ⟨t0, t1, t7, t8, t9, t10, t11, t12, -⟩
     refine wp_cond_true t49 ?_
     refine wp_seq ?_
     clear FM FV
     refine wi_ A (h8_ t0 t1 t7 t8 t9 t10 t11 t12) (rg_ [(4, .slice none 0 0), (5, .slice none 0 0), (6, .int .i64 ((2 : Nat) : Int))] ?_)
     rintro a A ⟨t4, t5, t6, -⟩
     have hE : paE sf J df m = 2 := paE_no fun q => by have h_ := faQ_iff.1 (paQ_iff.1 q).2.2 i lti; omega
     rw [hE, zl_no (by decide)]
     refine wp_ret ?_
     repeat (first | with_reducible refine ret_in ?_ | with_reducible refine ret_then ?_)
     refine bodyPost_ret (results_tmp3 rfl _ _ _) A.2 ⟨_, _, ?_, fm2nil _ _ _, BB⟩
     show Ending.returned (.tuple #[a.eval (.tmp 4), a.eval (.tmp 5), a.eval (.tmp 6)]) = _
     rw [t4, t5, t6]
    ·by_cases h2 : (m : Int) - (i : Int) ≤ df i
     ·obtain ⟨w, ew⟩ : ∃ w : Nat, df i = w := ⟨(df i).toNat, by omega⟩
      refine wp_seq ?_
      refine wi_ A (h7_ t0 t1 t7 t8 t9 t10 t11) (rv_ 2 (.pointer (some ⟨ddb, ddo + i, none⟩)) (fun a e => execIdxN (k := i) rfl ((e _).trans edd) (e _) lti) (rv_ 3 (.int .i64 ((w : Nat) : Int)) (fun a e => execLd3 rfl (e _) ((cdd i lti XL9 BB).trans (by rw [ew]))) (rf_ [(12, .int .i64 ((w : Nat) : Int))] (h7_ t0 t1 t7 t8 t9 t10 t11) ?_)))
      rintro a A ⟨t12, -⟩ ⟨t0, t1, t7, t8, t9, t10, t11, -⟩
      refine wp_seq (wp_seq ?_)
      refine wi_ A (h8_ t0 t1 t7 t8 t9 t10 t11 t12) (rv_ 1 (.bool false) (fun a e => execDec (execLtW (p := w) (q := 0) rfl (e _) rfl) (decide_eq_false (by omega))) (rv_ 6 (.int .i64 ((m - i : Nat) : Int)) (fun a e => By8.execSubI (p := m) (q := i) rfl (e _) (e _) (by omega) (by omega)) (rv_ 7 (.bool true) (fun a e => execDec (execGe8 (p := w) (q := m - i) rfl (e _) (e _)) (decide_eq_true (by omega))) (rf_ [(49, .bool true)] (h8_ t0 t1 t7 t8 t9 t10 t11 t12) ?_))))
      rintro a A ⟨t49, -⟩ ⟨t0, t1, t7, t8, t9, t10, t11, t12, -⟩
      refine wp_cond_true t49 ?_
      refine wp_seq ?_
      clear FM FV
      refine wi_ A (h8_ t0 t1 t7 t8 t9 t10 t11 t12) (rg_ [(4, .slice none 0 0), (5, .slice none 0 0), (6, .int .i64 ((2 : Nat) : Int))] ?_)
      rintro a A ⟨t4, t5, t6, -⟩
      have hE : paE sf J df m = 2 := paE_no fun q => by have h_ := faQ_iff.1 (paQ_iff.1 q).2.2 i lti; omega
      rw [hE, zl_no (by decide)]
      refine wp_ret ?_
      repeat (first | with_reducible refine ret_in ?_ | with_reducible refine ret_then ?_)
      refine bodyPost_ret (results_tmp3 rfl _ _ _) A.2 ⟨_, _, ?_, fm2nil _ _ _, BB⟩
      show Ending.returned (.tuple #[a.eval (.tmp 4), a.eval (.tmp 5), a.eval (.tmp 6)]) = _
      rw [t4, t5, t6]
     ·obtain ⟨w, ew⟩ : ∃ w : Nat, df i = w := ⟨(df i).toNat, by omega⟩
      refine wp_seq ?_
      refine wi_ A (h7_ t0 t1 t7 t8 t9 t10 t11) (rv_ 2 (.pointer (some ⟨ddb, ddo + i, none⟩)) (fun a e => execIdxN (k := i) rfl ((e _).trans edd) (e _) lti) (rv_ 3 (.int .i64 ((w : Nat) : Int)) (fun a e => execLd3 rfl (e _) ((cdd i lti XL9 BB).trans (by rw [ew]))) (rf_ [(12, .int .i64 ((w : Nat) : Int))] (h7_ t0 t1 t7 t8 t9 t10 t11) ?_)))
      rintro a A ⟨t12, -⟩ ⟨t0, t1, t7, t8, t9, t10, t11, -⟩
      refine wp_seq (wp_seq ?_)
      refine wi_ A (h8_ t0 t1 t7 t8 t9 t10 t11 t12) (rv_ 1 (.bool false) (fun a e => execDec (execLtW (p := w) (q := 0) rfl (e _) rfl) (decide_eq_false (by omega))) (rv_ 6 (.int .i64 ((m - i : Nat) : Int)) (fun a e => By8.execSubI (p := m) (q := i) rfl (e _) (e _) (by omega) (by omega)) (rv_ 7 (.bool false) (fun a e => execDec (execGe8 (p := w) (q := m - i) rfl (e _) (e _)) (decide_eq_false (by omega))) (rf_ [(49, .bool false)] (h8_ t0 t1 t7 t8 t9 t10 t11 t12) ?_))))
      rintro a A ⟨t49, -⟩ ⟨t0, t1, t7, t8, t9, t10, t11, t12, -⟩
      refine wp_cond_false t49 (wp_skip ?_)
      clear t49
      have hfai : faB df m i = true := decide_eq_true (by omega)
      have hw : gN df i = w := by show (df i).toNat = w; omega
      have hDk : ∀ j, j < i → gN df j < m - j := fun j hj => by have := of_decide_eq_true (allB_iff.1 hall j hj); show (df j).toNat < m - j; omega
      have hsl : sumN (lfD (gN sf) J (gN df) i) J = m - i := lfD_sum hmS.symm (by omega) hDk
      obtain ⟨c, ec⟩ : ∃ c, chD (gN sf) J (gN df) i = c := ⟨_, rfl⟩
      obtain ⟨o_, eo⟩ : ∃ o_, ofD (gN sf) J (gN df) i = o_ := ⟨_, rfl⟩
      have epj : pj (lfD (gN sf) J (gN df) i) w J = c := by rw [← ec, ← hw]; rfl
      obtain ⟨hP1, hP2, hP3⟩ := pj_lt (r := lfD (gN sf) J (gN df) i) (d := w) (J := J) (by omega)
      rw [epj] at hP1 hP2 hP3
      have eo2 : w - sumN (lfD (gN sf) J (gN df) i) c = o_ := by rw [← eo, ← ec, ← hw]; rfl
      obtain ⟨q_, eq⟩ : ∃ q_, lfD (gN sf) J (gN df) i c = q_ := ⟨_, rfl⟩
      have hqJ := sumN_at (r := lfD (gN sf) J (gN df) i) hP1
      have hcn := cnt_le (chD (gN sf) J (gN df)) c i
      obtain ⟨g0, c0, ex0, hB0, _⟩ := ownL_some9 (FM.rows 0 (by omega)) (show 0 < J by omega)
      refine wp_seq ?_
      refine wi_ A (h8_ t0 t1 t7 t8 t9 t10 t11 t12) (rf_ [(13, .int .i64 ((0 : Nat) : Int))] (h8_ t0 t1 t7 t8 t9 t10 t11 t12) ?_)
      rintro a A ⟨t13, -⟩ ⟨t0, t1, t7, t8, t9, t10, t11, t12, -⟩
      refine wp_seq (wp_block ?_)
      refine wp_loop (fun a W => ∃ j : Nat, j ≤ c ∧ (a.tmps.size = 98 ∧ a.defers = []) ∧ a.eval (.tmp 0) = v ∧ a.eval (.tmp 1) = u0 ∧ a.eval (.tmp 7) = .int .i64 ((m : Nat) : Int) ∧ a.eval (.tmp 8) = x 0 ∧ a.eval (.tmp 9) = .slice (some ⟨g31, 0, none⟩) J J ∧ a.eval (.tmp 10) = x 1 ∧ a.eval (.tmp 11) = .int .i64 ((i : Nat) : Int) ∧ a.eval (.tmp 12) = .int .i64 ((w - sumN (lfD (gN sf) J (gN df) i) j : Nat) : Int) ∧ a.eval (.tmp 13) = .int .i64 ((j : Nat) : Int) ∧ Below V.heap.size V W ∧ (W.ownsRow V.heap.size 24 1 (.slice (some ⟨g31, 0, none⟩) J J) J (lL (fun j => (x) (2 + j)) J)) ∧ (FmI V.heap.size (J + 2) (x) (nnV sf J df i) (ffV sf J df m i) W)) (fun a _ => c - (intOf (a.eval (.tmp 13))).toNat) ⟨0, Nat.zero_le _, A, t0, t1, t7, t8, t9, t10, t11, t12, t13, BB, FV, FM⟩ ?_
      rintro a XI ⟨j, hj, A, t0, t1, t7, t8, t9, t10, t11, t12, t13, BB, FV, FM⟩
      have esj := t13
      refine wp_seq (wp_seq ?_)
      have hjJ : j < J := by omega
      by_cases hltj : j < c
      ·have hm := sumN_at (r := lfD (gN sf) J (gN df) i) hltj
       refine wi_ A (h9_ t0 t1 t7 t8 t9 t10 t11 t12 t13) (rv_ 3 (.pointer (some ⟨g0, 0 + j, none⟩)) (fun a e => execIdxN (k := j) rfl ((e _).trans ex0) (e _) hjJ) (rv_ 4 (.int .i64 ((lfD (gN sf) J (gN df) i j : Nat) : Int)) (fun a e => execLd3 rfl (e _) (FM.cell (t := 0) (by omega) ex0 hjJ).1) (rv_ 5 (.bool true) (fun a e => execDec (execGe8 (p := w - sumN (lfD (gN sf) J (gN df) i) j) (q := lfD (gN sf) J (gN df) i j) rfl (e _) (e _)) (decide_eq_true (by omega))) (rf_ [(55, .bool true)] (h9_ t0 t1 t7 t8 t9 t10 t11 t12 t13) ?_))))
       rintro a A ⟨t55, -⟩ ⟨t0, t1, t7, t8, t9, t10, t11, t12, t13, -⟩
       refine wp_cond_true t55 (wp_skip ?_)
       clear t55
       refine wp_block ?_
       refine wp_seq ?_
       refine wi_ A (h9_ t0 t1 t7 t8 t9 t10 t11 t12 t13) (rv_ 3 (.pointer (some ⟨g0, 0 + j, none⟩)) (fun a e => execIdxN (k := j) rfl ((e _).trans ex0) (e _) hjJ) (rv_ 4 (.int .i64 ((lfD (gN sf) J (gN df) i j : Nat) : Int)) (fun a e => execLd3 rfl (e _) (FM.cell (t := 0) (by omega) ex0 hjJ).1) (rv_ 5 (.int .i64 ((w - sumN (lfD (gN sf) J (gN df) i) j - (lfD (gN sf) J (gN df) i j) : Nat) : Int)) (fun a e => By8.execSubI (p := w - sumN (lfD (gN sf) J (gN df) i) j) (q := lfD (gN sf) J (gN df) i j) rfl (e _) (e _) (by omega) (by omega)) (rf_ [(12, .int .i64 ((w - sumN (lfD (gN sf) J (gN df) i) j - (lfD (gN sf) J (gN df) i j) : Nat) : Int))] (h8_ t0 t1 t7 t8 t9 t10 t11 t13) ?_))))
       rintro a A ⟨t12, -⟩ ⟨t0, t1, t7, t8, t9, t10, t11, t13, -⟩
       refine wi_ A (h9_ t0 t1 t7 t8 t9 t10 t11 t12 t13) (rv_ 1 (.int .i64 ((j + 1 : Nat) : Int)) (fun a e => execAd8 (p := j) (q := 1) rfl (e _) rfl (by omega)) (rf_ [(13, .int .i64 ((j + 1 : Nat) : Int))] (h8_ t0 t1 t7 t8 t9 t10 t11 t12) ?_))
       rintro a A ⟨t13, -⟩ ⟨t0, t1, t7, t8, t9, t10, t11, t12, -⟩
       have e1 : w - sumN (lfD (gN sf) J (gN df) i) j - lfD (gN sf) J (gN df) i j = w - sumN (lfD (gN sf) J (gN df) i) (j + 1) := by show _ = w - (sumN (lfD (gN sf) J (gN df) i) j + lfD (gN sf) J (gN df) i j); omega
       rw [e1] at t12
       refine ⟨⟨j + 1, by omega, A, t0, t1, t7, t8, t9, t10, t11, t12, t13, BB, FV, FM⟩, ?_⟩
       show c - (intOf (a.eval (.tmp 13))).toNat < c - (intOf (Act.eval _ (.tmp 13))).toNat
       rw [t13, esj]
       show c - (j + 1) < c - j
       omega
      ·have hjc0 : c = j := by omega
       rw [hjc0] at hP2 hP3
       refine wi_ A (h9_ t0 t1 t7 t8 t9 t10 t11 t12 t13) (rv_ 3 (.pointer (some ⟨g0, 0 + j, none⟩)) (fun a e => execIdxN (k := j) rfl ((e _).trans ex0) (e _) hjJ) (rv_ 4 (.int .i64 ((lfD (gN sf) J (gN df) i j : Nat) : Int)) (fun a e => execLd3 rfl (e _) (FM.cell (t := 0) (by omega) ex0 hjJ).1) (rv_ 5 (.bool false) (fun a e => execDec (execGe8 (p := w - sumN (lfD (gN sf) J (gN df) i) j) (q := lfD (gN sf) J (gN df) i j) rfl (e _) (e _)) (decide_eq_false (by omega))) (rf_ [(55, .bool false)] (h9_ t0 t1 t7 t8 t9 t10 t11 t12 t13) ?_))))
       rintro a A ⟨t55, -⟩ ⟨t0, t1, t7, t8, t9, t10, t11, t12, t13, -⟩
       refine wp_cond_false t55 ?_
       refine wp_exit ?_
       first | with_reducible refine exit_in ?_ | with_reducible refine exit_then (exit_in ?_) | with_reducible refine exit_then (exit_then (exit_in ?_)) | refine exit_in ?_ | refine exit_then (exit_in ?_) | refine exit_then (exit_then (exit_in ?_))
       clear t55 esj
       have hjc : j = c := by omega
       rw [hjc] at t12 t13
       rw [← hjc0] at hP2 hP3
       rw [eo2] at t12
       refine wp_seq ?_
       obtain ⟨g66, egg66⟩ : ∃ z_ : Nat, XI.heap.size = z_ := ⟨_, rfl⟩
       refine wi_ A (h9_ t0 t1 t7 t8 t9 t10 t11 t12 t13) (rs_ 2 (fun a e => ?_))
       refine stepV rfl rfl (execBsI (z := ((c : Nat) : Int)) rfl (e _)) ⟨.slice (some ⟨g66, 0, none⟩) 1 1, ⟨_, rfl, by subst egg66; rfl⟩, fun X18_1 hX => ?_⟩
       have bQ : Below XI.heap.size XI X18_1 := by subst hX egg66; exact (belNew XI _)
       have Fg66 : (X18_1.heap[g66]? = some (.cells #[.int .i64 (((c : Nat) : Int))] 3)) := by subst hX egg66; exact heapNew XI _
       replace FV := (ownD_below FV bQ)
       replace FM := (FM.on bQ)
       replace BB := BB.trans (bQ.mono BB.size)
       clear bQ hX egg66 e a
       refine rs_ 3 (fun a e => ?_)
       refine stepFm (x := x) (k := J + 2) (t := 1) (l := 1) (q := fun _ => ((c : Nat) : Int)) rfl rfl rfl (e _) (e _) FM (by omega) (lit_sl Fg66 (by omega)) ⟨_, _, rfl⟩ (by omega) (show i + 1 ≤ _ by omega) (BB).size fun v67 X18 fm' gr => ⟨_, ⟨_, rfl, rfl⟩, eqw ?_⟩
       obtain ⟨BB, FV1, FM1⟩ : Below V.heap.size V X18 ∧ (X18.ownsRow V.heap.size 24 1 (.slice (some ⟨g31, 0, none⟩) J J) J (lL (fun j => (updX x 1 v67) (2 + j)) J)) ∧ (FmI V.heap.size (J + 2) (updX x 1 v67) (updD (nnV sf J df i) 1 1) (ffV sf J df m i) X18) := ⟨(BB).grown gr (BB).size (fun k hk => ((FM.rows 1 (by omega)).lt k hk).1), lV_cg (own_overT FV (FM.rows 1 (by omega)) gr (by decide)) (fun j hj => (updX_o x v67 (show 2 + j ≠ 1 by omega)).symm), FmI.app1 fm' (by show _ = pcF sf J df i; rw [← ec]; rfl)⟩
       clear FV FM Fg66 e a
       refine rf_ [(10, v67)] (h8_ t0 t1 t7 t8 t9 t11 t12 t13) ?_
       rintro a A ⟨t10, -⟩ ⟨t0, t1, t7, t8, t9, t11, t12, t13, -⟩
       refine wp_seq ?_
       obtain ⟨g75, egg75⟩ : ∃ z_ : Nat, X18.heap.size = z_ := ⟨_, rfl⟩
       refine wi_ A (h9_ t0 t1 t7 t8 t9 t10 t11 t12 t13) (rv_ 4 (.pointer (some ⟨g31, 0 + c, none⟩)) (fun a e => execIdxLI (k := c) rfl (e _) (e _) hP1) (rv_ 5 ((updX x 1 v67) (2 + c)) (fun a e => execLdLI (v := (updX x 1 v67) (2 + c)) rfl (e _) (ownL_cellI FV1 hP1)) (rs_ 7 (fun a e => ?_))))
       refine stepV rfl rfl (execBsI (z := ((o_ : Nat) : Int)) rfl (e _)) ⟨.slice (some ⟨g75, 0, none⟩) 1 1, ⟨_, rfl, by subst egg75; rfl⟩, fun X19_1 hX => ?_⟩
       have bQ : Below X18.heap.size X18 X19_1 := by subst hX egg75; exact (belNew X18 _)
       have Fg75 : (X19_1.heap[g75]? = some (.cells #[.int .i64 (((o_ : Nat) : Int))] 3)) := by subst hX egg75; exact heapNew X18 _
       replace FV1 := (ownD_below FV1 bQ)
       replace FM1 := (FM1.on bQ)
       replace BB := BB.trans (bQ.mono BB.size)
       clear bQ hX egg75 e a
       refine rs_ 8 (fun a e => ?_)
       refine stepFm (x := updX x 1 v67) (k := J + 2) (t := 2 + c) (l := 1) (q := fun _ => ((o_ : Nat) : Int)) rfl rfl rfl (e _) (e _) FM1 (by omega) (lit_sl Fg75 (by omega)) ⟨_, _, rfl⟩ (by omega) (by rw [nn1_at]; omega) (BB).size fun v76 X19_2 fm' gr => ⟨_, ⟨_, rfl, rfl⟩, eqw ?_⟩
       obtain ⟨BB, FV1, FM2⟩ : Below V.heap.size V X19_2 ∧ (X19_2.ownsRow V.heap.size 24 1 (.slice (some ⟨g31, 0, none⟩) J J) J (lL (fun j => (updX x 1 v67) (2 + j)) J)) ∧ (FmI V.heap.size (J + 2) (updX (updX x 1 v67) (2 + c) v76) (nnV sf J df (i + 1)) (ffV sf J df m i) X19_2) := ⟨(BB).grown gr (BB).size (fun k hk => ((FM1.rows (2 + c) (by omega)).lt k hk).1), (own_overT FV1 (FM1.rows (2 + c) (by omega)) gr (by decide)), FmI.cgN (FmI.app1 fm' (by rw [nn1_at, ffV_at lti ec, eo])) (nnV_next sf J df ec)⟩
       clear FM1 Fg75 e a
       refine rv_ 9 (.pointer (some ⟨g31, 0 + c, none⟩)) (fun a e => execIdxLI (k := c) rfl (e _) (e _) hP1) (rs_ 10 (fun a e => ?_))
       obtain ⟨cu_, hg_, hgB_⟩ := own_cur FV1
       refine stepS rfl rfl (execStLI rfl (e _) (e _) (by have h_ := FM2.rows (2 + c) (by omega); rw [updX_at] at h_; exact shp3 h_) (ownL_cellI FV1 hP1) (frozen4 hg_)) ⟨_, ⟨_, rfl, rfl⟩, fun X19 hX => ?_⟩
       obtain ⟨BB, FV2, FM3⟩ : Below V.heap.size V X19 ∧ (X19.ownsRow V.heap.size 24 1 (.slice (some ⟨g31, 0, none⟩) J J) J (lL (fun j => (updX (updX x 1 v67) (2 + c) v76) (2 + j)) J)) ∧ (FmI V.heap.size (J + 2) (updX (updX x 1 v67) (2 + c) v76) (nnV sf J df (i + 1)) (ffV sf J df m i) X19) := by subst hX; exact ⟨(BB).setCell hgB_ _, lV_cg (ownL_setI FV1) (fun j hj => upd_2 (updX x 1 v67) c j v76), FmI.offT FM2 hg_ (by decide)⟩
       clear FV1 FM2 hX e a
       refine rf_ [] (h8_ t0 t1 t7 t8 t9 t10 t11 t13) ?_
       rintro a A - ⟨t0, t1, t7, t8, t9, t10, t11, t13, -⟩
       have y0 : (updX (updX x 1 v67) (2 + c) v76) 0 = x 0 := by rw [updX_o _ _ (by omega), updX_o _ _ (by omega)]
       have y1 : (updX (updX x 1 v67) (2 + c) v76) 1 = v67 := by rw [updX_o _ _ (by omega), updX_at]
       have ey0 : (updX (updX x 1 v67) (2 + c) v76) 0 = .slice (some ⟨g0, 0, none⟩) J c0 := y0.trans ex0
       refine wi_ A (h8_ t0 t1 t7 t8 t9 t10 t11 t13) (rv_ 2 (.pointer (some ⟨g0, 0 + c, none⟩)) (fun a e => execIdxN (k := c) rfl ((e _).trans ex0) (e _) hP1) (rv_ 3 (.int .i64 ((q_ : Nat) : Int)) (fun a e => execLd3 rfl (e _) ((FM3.cell (t := 0) (by omega) ey0 hP1).1.trans (by rw [← eq]; rfl))) (rv_ 4 (.int .i64 ((q_ - 1 : Nat) : Int)) (fun a e => By8.execSubI (p := q_) (q := 1) rfl (e _) rfl (by omega) (by omega)) (rv_ 5 (.pointer (some ⟨g0, 0 + c, none⟩)) (fun a e => execIdxN (k := c) rfl ((e _).trans ex0) (e _) hP1) (rs_ 6 (fun a e => ?_))))))
       obtain ⟨hc_, hf_⟩ := FM3.cell (t := 0) (by omega) ey0 hP1
       refine stepS rfl rfl (execStI9 rfl (e _) (e _) hc_ hf_) ⟨_, ⟨_, rfl, rfl⟩, fun X20 hX => ?_⟩
       obtain ⟨BB, FV2, FM4⟩ : Below V.heap.size V X20 ∧ (X20.ownsRow V.heap.size 24 1 (.slice (some ⟨g31, 0, none⟩) J J) J (lL (fun j => (updX (updX x 1 v67) (2 + c) v76) (2 + j)) J)) ∧ (FmI V.heap.size (J + 2) (updX (updX x 1 v67) (2 + c) v76) (nnV sf J df (i + 1)) (updF (ffV sf J df m i) 0 c ((q_ - 1 : Nat) : Int)) X20) := by subst hX; exact ⟨(BB).setCell hB0 _, (own_offB FV2 (fun z => FmI.notT FM3 (t := 0) (by omega) (own_cur FV2).choose_spec.1 (by decide) (by rw [ey0]; exact z.symm))), FM3.set (t := 0) (by omega) ey0 _⟩
       clear FM3 hX e a
       refine rf_ [] (h7_ t0 t1 t7 t8 t9 t10 t11) ?_
       rintro a A - ⟨t0, t1, t7, t8, t9, t10, t11, -⟩
       have FM5 : (FmI V.heap.size (J + 2) (updX (updX x 1 v67) (2 + c) v76) (nnV sf J df (i + 1)) (ffV sf J df m (i + 1)) X20) := FmI.cgF FM4 (fun t ht j _ => ffV_next sf J df m eq epj hw t j)
       clear FM4
       rw [← y0] at t8
       rw [← y1] at t10
       refine wi_ A (h7_ t0 t1 t7 t8 t9 t10 t11) (rv_ 1 (.int .i64 ((i + 1 : Nat) : Int)) (fun a e => execAd8 (p := i) (q := 1) rfl (e _) rfl (by omega)) (rf_ [(11, .int .i64 ((i + 1 : Nat) : Int))] (h6_ t0 t1 t7 t8 t9 t10) ?_))
       rintro a A ⟨t11, -⟩ ⟨t0, t1, t7, t8, t9, t10, -⟩
       exact ⟨⟨i + 1, updX (updX x 1 v67) (2 + c) v76, lti, allB_succ hall hfai, A, t0, t1, t7, t8, t9, t10, t11, BB, FV2, FM5⟩, by show m - (intOf (a.eval (.tmp 11))).toNat < m - (intOf (Act.eval _ (.tmp 11))).toNat; rw [t11, esi]; show m - (i + 1) < m - i; omega⟩
   ·rw [decide_eq_false lti] at t34
    refine wp_cond_false t34 ?_
    refine wp_exit ?_
    first | with_reducible refine exit_in ?_ | with_reducible refine exit_then (exit_in ?_) | with_reducible refine exit_then (exit_then (exit_in ?_)) | refine exit_in ?_ | refine exit_then (exit_in ?_) | refine exit_then (exit_then (exit_in ?_))
    clear t34 esi
    have him : i = m := by omega
    rw [him] at hall FM
    have hpa : paQ sf J df m = true := paQ_iff.2 ⟨hs, hmS, hall⟩
    obtain ⟨hsm, hDr⟩ := pa_draws hpa
    have hpt := chD_pat hsm hDr
    clear t0 t1 t7 t8 t11
    refine wp_seq ?_
    refine wi_ A (h2_ t9 t10) (rf_ [(14, .slice none 0 0)] (h2_ t9 t10) ?_)
    rintro a A ⟨t14, -⟩ ⟨t9, t10, -⟩
    refine wp_seq (wp_seq ?_)
    refine wi_ A (h3_ t9 t10 t14) (rf_ [(15, .int .i64 ((0 : Nat) : Int))] (h3_ t9 t10 t14) ?_)
    rintro a A ⟨t15, -⟩ ⟨t9, t10, t14, -⟩
    have hlt : ∀ t, t < J + 2 → ∀ b, (x t).ownBlock = some b → b < XL9.heap.size := fun t ht b q => ((FM.rows t ht).lt b q).2
    have hXC := BB.size
    have FU : XL9.ownsRow XL9.heap.size 3 1 (.slice none 0 0) 0 (intsL 0 (poF sf J df m)) := World.ownsRow_nil _ _ _ _
    have FXs : XL9.heap.size ≤ XL9.heap.size := Nat.le_refl _
    refine wp_block ?_
    refine wp_loop (fun a W => ∃ (j : Nat) (u : Value), j ≤ J ∧ (a.tmps.size = 98 ∧ a.defers = []) ∧ a.eval (.tmp 9) = .slice (some ⟨g31, 0, none⟩) J J ∧ a.eval (.tmp 10) = x 1 ∧ a.eval (.tmp 14) = u ∧ a.eval (.tmp 15) = .int .i64 ((j : Nat) : Int) ∧ Below V.heap.size V W ∧ (W.ownsRow V.heap.size 24 1 (.slice (some ⟨g31, 0, none⟩) J J) J (lL (fun j => (x) (2 + j)) J)) ∧ (FmI V.heap.size (J + 2) (x) (nnV sf J df m) (ffV sf J df m m) W) ∧ (W.ownsRow XL9.heap.size 3 1 u (sumN (gN sf) j) (intsL (sumN (gN sf) j) (poF sf J df m))) ∧ (XL9.heap.size ≤ W.heap.size)) (fun a _ => J - (intOf (a.eval (.tmp 15))).toNat) ⟨0, _, Nat.zero_le _, A, t9, t10, t14, t15, BB, FV, FM, FU, FXs⟩ ?_
    rintro a XL23 ⟨j, u, hj, A, t9, t10, t14, t15, BB, FV, FM, FU, FXs⟩
    have esj := t15
    refine wp_seq (wp_seq ?_)
    refine wi_ A (h4_ t9 t10 t14 t15) (rv_ 2 (.int .i64 ((J : Nat) : Int)) (fun a e => execLenLI (len := J) rfl (e _) ⟨_, _, rfl⟩) (rv_ 3 (.bool (decide (j < J))) (fun a e => execLtW (p := j) (q := J) rfl (e _) (e _)) (rf_ [(87, .bool (decide (j < J)))] (h4_ t9 t10 t14 t15) ?_)))
    rintro a A ⟨t87, -⟩ ⟨t9, t10, t14, t15, -⟩
    by_cases ltj : j < J
    ·rw [decide_eq_true ltj] at t87
     refine wp_cond_true t87 (wp_skip ?_)
     clear t87
     refine wp_seq (wp_block ?_)
     refine wi_ A (h4_ t9 t10 t14 t15) (rv_ 3 (.pointer (some ⟨g31, 0 + j, none⟩)) (fun a e => execIdxLI (k := j) rfl (e _) (e _) ltj) (rv_ 4 (x (2 + j)) (fun a e => execLdLI (v := x (2 + j)) rfl (e _) (ownL_cellI FV ltj)) (rs_ 5 (fun a e => ?_))))
     refine stepAppIs (f := poF sf J df m) (g := ffV sf J df m m (2 + j)) rfl rfl rfl (e _) (e _) FU (own_ints (FM.rows (2 + j) (by omega)) (ffV_fits sf J df m hDr (fun _ _ => by omega) j)) (own_nilI (FM.rows (2 + j) (by omega))) (ou_len sf J df m hsm hpt ltj hsum) FXs fun v95 X25 own' gr => ⟨_, ⟨_, rfl, rfl⟩, eqw ?_⟩
     obtain ⟨BB, FV, FM, FXs, FU2⟩ : Below V.heap.size V X25 ∧ (X25.ownsRow V.heap.size 24 1 (.slice (some ⟨g31, 0, none⟩) J J) J (lL (fun j => (x) (2 + j)) J)) ∧ (FmI V.heap.size (J + 2) (x) (nnV sf J df m) (ffV sf J df m m) X25) ∧ (XL9.heap.size ≤ X25.heap.size) ∧ (X25.ownsRow XL9.heap.size 3 1 v95 (sumN (gN sf) (j + 1)) (intsL (sumN (gN sf) (j + 1)) (poF sf J df m))) := ⟨(BB).grown gr (BB).size (fun k hk => Nat.le_trans hXC (FU.lt k hk).1), own_overT FV FU gr (by decide), FM.over hlt FU gr, Nat.le_trans FXs gr.size, ou_next sf J df m hpt ltj own'⟩
     clear FU e a
     refine rf_ [(14, v95)] (h3_ t9 t10 t15) ?_
     rintro a A ⟨t14, -⟩ ⟨t9, t10, t15, -⟩
     refine wi_ A (h4_ t9 t10 t14 t15) (rv_ 1 (.int .i64 ((j + 1 : Nat) : Int)) (fun a e => execAd8 (p := j) (q := 1) rfl (e _) rfl (by omega)) (rf_ [(15, .int .i64 ((j + 1 : Nat) : Int))] (h3_ t9 t10 t14) ?_))
     rintro a A ⟨t15, -⟩ ⟨t9, t10, t14, -⟩
     exact ⟨⟨j + 1, _, ltj, A, t9, t10, t14, t15, BB, FV, FM, FU2, FXs⟩, by show J - (intOf (a.eval (.tmp 15))).toNat < J - (intOf (Act.eval _ (.tmp 15))).toNat; rw [t15, esj]; show J - (j + 1) < J - j; omega⟩
    ·rw [decide_eq_false ltj] at t87
     refine wp_cond_false t87 ?_
     refine wp_exit ?_
     first | with_reducible refine exit_in ?_ | with_reducible refine exit_then (exit_in ?_) | with_reducible refine exit_then (exit_then (exit_in ?_)) | refine exit_in ?_ | refine exit_then (exit_in ?_) | refine exit_then (exit_then (exit_in ?_))
     clear t87 esj
     have hjJ : j = J := by omega
     rw [hjJ, hsm] at FU
     clear t9 t15 FV FXs
     refine wp_seq ?_
     refine wi_ A (h2_ t10 t14) (rg_ [(4, x 1), (5, u), (6, .int .i64 ((0 : Nat) : Int))] ?_)
     rintro a A ⟨t4, t5, t6, -⟩
     have hE : paE sf J df m = 0 := paE_ok hpa
     rw [hE, zl_ok]
     refine wp_ret ?_
     refine bodyPost_ret (results_tmp3 rfl _ _ _) A.2 ⟨x 1, u, ?_, fm2_of (FM.rows 1 (by omega)) (ownD_base FU hXC) (fun b q1 q2 => by have := hlt 1 (by omega) b q1; have := (FU.lt b q2).1; omega), BB⟩
     show Ending.returned (.tuple #[a.eval (.tmp 4), a.eval (.tmp 5), a.eval (.tmp 6)]) = _
     rw [t4, t5, t6]
  ·refine wp_seq ?_
   refine wi_ A (h2_ t0 t1) (rc_ 1 ((show toT sf J = ((sumN (gN sf) J : Nat) : Int) by rw [szQ_toT, if_pos hs]) ▸ rtotal sf J _ V (FI.on BB) hJ17) (cb_ fun X1 bQ => ?_))
   replace BB := BB.trans (bQ.mono BB.size)
   clear bQ
   refine rf_ [(7, .int .i64 ((sumN (gN sf) J : Nat) : Int))] (h2_ t0 t1) ?_
   rintro a A ⟨t7, -⟩ ⟨t0, t1, -⟩
   refine wp_seq (wp_seq ?_)
   refine wi_ A (h3_ t0 t1 t7) (rv_ 1 (.bool false) (fun a e => execDec (execLtW (p := sumN (gN sf) J) (q := 0) rfl (e _) rfl) (decide_eq_false (by omega))) (rv_ 4 (.int .i64 ((m : Nat) : Int)) (fun a e => execLenI (len := m) rfl (e _) (FJ).shp) (rv_ 6 (.bool true) (fun a e => execDec (execNeN (p := m) (q := sumN (gN sf) J) rfl (e _) (e _)) (decide_eq_true (by omega))) (rf_ [(25, .bool true)] (h3_ t0 t1 t7) ?_))))
   rintro a A ⟨t25, -⟩ ⟨t0, t1, t7, -⟩
   refine wp_cond_true t25 ?_
   refine wp_seq ?_
   refine wi_ A (h3_ t0 t1 t7) (rg_ [(4, .slice none 0 0), (5, .slice none 0 0), (6, .int .i64 ((2 : Nat) : Int))] ?_)
   rintro a A ⟨t4, t5, t6, -⟩
   have hE : paE sf J df m = 2 := paE_no fun q => hmS (paQ_iff.1 q).2.1
   rw [hE, zl_no (by decide)]
   refine wp_ret ?_
   repeat (first | with_reducible refine ret_in ?_ | with_reducible refine ret_then ?_)
   refine bodyPost_ret (results_tmp3 rfl _ _ _) A.2 ⟨_, _, ?_, fm2nil _ _ _, BB⟩
   show Ending.returned (.tuple #[a.eval (.tmp 4), a.eval (.tmp 5), a.eval (.tmp 6)]) = _
   rw [t4, t5, t6]
end Go.Proofs.Ytmjpneaccjlpkaa.Brd
