import Derived.Test.YtdecmmcphcomhaaQ9s
namespace Go.Proofs.Ytdecmmcphcomhaa.Brd
open Go.RowKit Gf8 Aes By8 Cel Cf Tap Drw Prm
/- Stage 12's reference: Draws. Written by tools/mkQ9t.py. -/

theorem lit_sl {W : World} {g : Nat} {z : Int} (h : W.heap[g]? = some (.cells #[.int .i64 z] 3)) (hz : -9223372036854775808 ≤ z ∧ z < 9223372036854775808) : SliceI W (.slice (some ⟨g, 0, none⟩) 1 1) 1 (fun _ => z) := by
  refine ⟨⟨_, _, rfl, Nat.le_refl _, by unfold maxLen; omega, fun _ => ⟨g, 0, rfl, (Array.getElem?_eq_some_iff.1 h).1, fun j hj => ?_⟩⟩, fun j _ => hz⟩
  rw [cell_of_row _ _ _ _ _ _ h, show j = 0 by omega]
  rfl
section
variable {B k : Nat} {x : Nat → Value} {nn : Nat → Nat} {ff : Nat → Nat → Int} {W : World}
/-- One number more in a row whose numbers are known ahead. -/
theorem FmI.app1 {t : Nat} {z : Int} (h : FmI B k x (updD nn t 1) (updG ff t (catI (nn t) (ff t) (fun _ => z))) W) (ez : z = ff t (nn t)) : FmI B k x (updD nn t 1) ff W := by
  refine FmI.cgF h fun s hs j hj => ?_
  by_cases e : s = t
  · subst e
    have hj2 : j < nn s + 1 := by
      have : updD nn s 1 s = nn s + 1 := if_pos rfl
      omega
    show (if s = s then catI (nn s) (ff s) (fun _ => z) else ff s) j = ff s j
    rw [if_pos rfl]
    unfold catI
    by_cases q : j < nn s
    · rw [if_pos q]
    · rw [if_neg q, ez, show j = nn s by omega]
  · show (if s = t then catI (nn t) (ff t) (fun _ => z) else ff s) j = ff s j
    rw [if_neg e]
/-- A row of no numbers is begun anew. -/
theorem FmI.renew {t : Nat} (h : FmI B k x nn ff W) (_ht : t < k) (hz : nn t = 0) : FmI B k (updX x t (.slice none 0 0)) nn ff W := by
  have xo : ∀ s, s ≠ t → updX x t (.slice none 0 0) s = x s := fun s hs => if_neg hs
  have xt : updX x t (.slice none 0 0) t = .slice none 0 0 := if_pos rfl
  refine ⟨fun s hs => ?_, fun s u hs hu hsu b e => ?_⟩
  · by_cases q : s = t
    · subst q
      rw [xt, hz]
      exact World.ownsRow_nil _ _ _ _
    · rw [xo s q]
      exact h.rows s hs
  · by_cases q : s = t
    · subst q
      rw [xt] at e
      cases e
    · rw [xo s q] at e
      by_cases q2 : u = t
      · subst q2
        rw [xt]
        intro e2
        cases e2
      · rw [xo u q2]
        exact h.dis s u hs hu hsu b e
end
/-- Three rows: what is left, the next visits, the draws. -/
def nnR (J i t : Nat) : Nat := if t < 2 then J else i
def ffR (sf cf vf : Nat → Int) (i t : Nat) : Nat → Int :=
  if t = 0 then fun j => (lefC (gN sf) (gN cf) i j : Int) else if t = 1 then fun j => ((sumN (gN sf) j + cntC (gN cf) j i : Nat) : Int) else dwF sf cf vf
theorem ffR_next (sf cf vf : Nat → Int) {i c p q : Nat} (ec : gN cf i = c) (ep : sumN (gN sf) c + cntC (gN cf) c i = p) (eq : lefC (gN sf) (gN cf) i c = q) :
    ∀ t, t < 3 → ∀ j, updF (updF (ffR sf cf vf i) 0 c ((q - 1 : Nat) : Int)) 1 c ((p + 1 : Nat) : Int) t j = ffR sf cf vf (i + 1) t j := fun t ht j => by
  match t, ht with
  | 0, _ =>
    rw [updF_o (by omega), updF_at]
    show (if j = c then ((q - 1 : Nat) : Int) else ((lefC _ _ i j : Nat) : Int)) = ((lefC (gN sf) (gN cf) (i + 1) j : Nat) : Int)
    rw [lefC_succ, ec]
    by_cases e : j = c
    · subst e
      rw [if_pos rfl, dec1_at, eq]
    · rw [if_neg e, dec1_o e]
  | 1, _ =>
    rw [updF_at, updF_o (by omega)]
    show (if j = c then ((p + 1 : Nat) : Int) else ((sumN (gN sf) j + cntC _ j i : Nat) : Int)) = ((sumN (gN sf) j + (cntC (gN cf) j i + if gN cf i = j then 1 else 0) : Nat) : Int)
    rw [ec]
    by_cases e : j = c
    · subst e
      rw [if_pos rfl, if_pos rfl, ← ep, Nat.add_assoc]
    · rw [if_neg e, if_neg (fun z => e z.symm), Nat.add_zero]
  | 2, _ => rw [updF_o (by omega), updF_o (by omega)]; rfl
  | t + 3, h => omega
set_option maxRecDepth 100000 in
set_option maxHeartbeats 4000000 in
/-- The reference's Draws. -/
theorem rdraws12 (sf cf vf : Nat → Int) (J n m : Nat) (v u0 u1 : Value) (V : World) (FI : SliceI V v J sf) (hJ17 : J ≤ 17592186044416) (FJ : SliceI V u0 n cf) (hn17 : n ≤ 17592186044416) (FK : SliceI V u1 m vf) :
    Calls Try.prog 18 #[v, u0, u1] V fun e w' => ∃ r, e = .returned (.tuple #[r, .int .i64 ((drE sf J cf n vf m : Nat) : Int)]) ∧ w'.ownsRow V.heap.size 3 1 r (zl (drE sf J cf n vf m) n) (intsL (zl (drE sf J cf n vf m) n) (dwF sf cf vf)) ∧ Below V.heap.size V w' := by
  go_enter Try.func18, Try.ntmps18
  refine wp_seq ?_
  refine wp_region_sqK 128 [(0, 6), (1, 7)] (fun i_ => match i_ with | 0 => .slice none 0 0 | 1 => .int .i64 ((0 : Nat) : Int) | _ => undef) rfl (by kernel_rfl) (by decide) (by decide) ?_ ?_
  · intro i_ hi_ a hf hv hn
    match i_, hi_ with
    | 0, _ => exact stepV rfl rfl (execAsgB rfl rfl) ⟨⟨_, rfl, rfl⟩, rfl⟩
    | 1, _ => exact stepV rfl rfl (execAsgB rfl rfl) ⟨⟨_, rfl, rfl⟩, rfl⟩
    | k_ + 2, h_ => exact absurd h_ (by simp)
  intro a h1 h2 h3 h4
  have t0 : a.eval (.tmp 0) = v := (h3 0 (by decide)).trans rfl
  have t1 : a.eval (.tmp 1) = u0 := (h3 1 (by decide)).trans rfl
  have t2 : a.eval (.tmp 2) = u1 := (h3 2 (by decide)).trans rfl
  have A : a.tmps.size = 128 ∧ a.defers = [] := ⟨h1, h2⟩
  have BW : Below V.heap.size V V := Below.refl _ _
  clear h1 h2 h3 h4
  have BB := BW
  cases hs : szQ sf J with
  | false =>
    refine wp_seq ?_
    refine wp_region_sq (σ := Unit) 128 [(0, 19), (1, 20), (2, 8)] (fun j_ s X => match j_ with | 0 => Below V.heap.size V X | 1 => Below V.heap.size V X | 2 => Below V.heap.size V X | _ => Below V.heap.size V X) (fun s => fun i_ => match i_ with | 0 => v | 1 => .int .i64 (-1) | 2 => .int .i64 (-1) | _ => undef) () A.1 (by kernel_rfl) (by decide) (by decide) (BB) ?_ ?_
    · intro i_ hi_ s a X hf hv hn hS
      match i_, hi_ with
      | 0, _ => exact stepV rfl rfl (execMvB rfl ((hf 0 (by decide)).trans t0)) ⟨s, ⟨_, rfl, rfl⟩, hS, fun _ _ => rfl⟩
      | 1, _ => exact stepC rfl rfl (execCall1 Try.func29 (by kernel_rfl) (by kernel_rfl) rfl (hv 0 (by decide) _ rfl _ rfl)) ((show toT sf J = -1 by rw [szQ_toT, hs]; rfl) ▸ rtotal sf J _ X (FI.on hS) hJ17) fun e w' hh => ⟨_, hh.1, s, ⟨_, rfl, rfl⟩, (hS).trans ((hh.2).mono (hS).size), fun _ _ => rfl⟩
      | 2, _ => exact stepV rfl rfl (execAsgB rfl (hv 1 (by decide) _ rfl _ rfl)) ⟨s, ⟨_, rfl, rfl⟩, hS, fun _ _ => rfl⟩
      | k_ + 3, h_ => exact absurd h_ (by simp)
    rintro _ a X1 h1 h2 h3 h4 hS
    clear BB
    replace hS : Below V.heap.size V X1 := hS
    have BB := hS
    clear hS
    replace t0 := (h3 0 (by decide)).trans t0
    replace t1 := (h3 1 (by decide)).trans t1
    replace t2 := (h3 2 (by decide)).trans t2
    have t8 : a.eval (.tmp 8) = .int .i64 (-1) := h4 2 _ rfl _ rfl
    replace A := (⟨h1, h2.trans A.2⟩ : a.tmps.size = 128 ∧ a.defers = [])
    clear h1 h2 h3 h4
    refine wp_seq ?_
    refine wp_seq ?_
    refine wp_region_sq (σ := Unit) 128 [(0, 21), (1, 22), (2, 23), (3, 24), (4, 25), (5, 26), (6, 27), (7, 28), (8, 29), (9, 30), (10, 31), (11, 32), (12, 33), (13, 34)] (fun j_ s X => match j_ with | 0 => Below V.heap.size V X | 1 => Below V.heap.size V X | 2 => Below V.heap.size V X | 3 => Below V.heap.size V X | 4 => Below V.heap.size V X | 5 => Below V.heap.size V X | 6 => Below V.heap.size V X | 7 => Below V.heap.size V X | 8 => Below V.heap.size V X | 9 => Below V.heap.size V X | 10 => Below V.heap.size V X | 11 => Below V.heap.size V X | 12 => Below V.heap.size V X | 13 => Below V.heap.size V X | _ => Below V.heap.size V X) (fun s => fun i_ => match i_ with | 0 => .int .i64 (-1) | 1 => .bool true | 2 => .bool true | 3 => undef | 4 => undef | 5 => undef | 6 => undef | 7 => .bool true | 8 => .bool true | 9 => undef | 10 => undef | 11 => undef | 12 => undef | 13 => .bool true | _ => undef) () A.1 (by kernel_rfl) (by decide) (by decide) (BB) ?_ ?_
    · intro i_ hi_ s a X hf hv hn hS
      match i_, hi_ with
      | 0, _ => exact stepV rfl rfl (execMvB rfl ((hf 8 (by decide)).trans t8)) ⟨s, ⟨_, rfl, rfl⟩, hS, fun _ _ => rfl⟩
      | 1, _ => exact stepV rfl rfl (execLtCt (p := -1) (q := 0) rfl (hv 0 (by decide) _ rfl _ rfl) (by omega)) ⟨s, ⟨_, rfl, rfl⟩, hS, fun _ _ => rfl⟩
      | 2, _ => exact stepV rfl rfl (execMvB rfl (hv 1 (by decide) _ rfl _ rfl)) ⟨s, ⟨_, rfl, rfl⟩, hS, fun _ _ => rfl⟩
      | 3, _ => exact stepU rfl (unwantedOf rfl (yieldedAt rfl rfl (show a.eval (.tmp 23) = .bool (!false) from (hv 2 (by decide) _ rfl _ rfl)))) ⟨s, ⟨_, rfl, rfl⟩, hS, fun _ _ => rfl⟩
      | 4, _ => exact stepU rfl (unwantedOf rfl (yieldedAt rfl rfl (show a.eval (.tmp 23) = .bool (!false) from (hv 2 (by decide) _ rfl _ rfl)))) ⟨s, ⟨_, rfl, rfl⟩, hS, fun _ _ => rfl⟩
      | 5, _ => exact stepU rfl (unwantedOf rfl (yieldedAt rfl rfl (show a.eval (.tmp 23) = .bool (!false) from (hv 2 (by decide) _ rfl _ rfl)))) ⟨s, ⟨_, rfl, rfl⟩, hS, fun _ _ => rfl⟩
      | 6, _ => exact stepU rfl (unwantedOf rfl (yieldedAt rfl rfl (show a.eval (.tmp 23) = .bool (!false) from (hv 2 (by decide) _ rfl _ rfl)))) ⟨s, ⟨_, rfl, rfl⟩, hS, fun _ _ => rfl⟩
      | 7, _ => exact stepV rfl rfl (execPickT rfl (hv 2 (by decide) _ rfl _ rfl) rfl) ⟨s, ⟨_, rfl, rfl⟩, hS, fun _ _ => rfl⟩
      | 8, _ => exact stepV rfl rfl (execMvB rfl (hv 7 (by decide) _ rfl _ rfl)) ⟨s, ⟨_, rfl, rfl⟩, hS, fun _ _ => rfl⟩
      | 9, _ => exact stepU rfl (unwantedOf rfl (yieldedAt rfl rfl (show a.eval (.tmp 29) = .bool (!false) from (hv 8 (by decide) _ rfl _ rfl)))) ⟨s, ⟨_, rfl, rfl⟩, hS, fun _ _ => rfl⟩
      | 10, _ => exact stepU rfl (unwantedOf rfl (yieldedAt rfl rfl (show a.eval (.tmp 29) = .bool (!false) from (hv 8 (by decide) _ rfl _ rfl)))) ⟨s, ⟨_, rfl, rfl⟩, hS, fun _ _ => rfl⟩
      | 11, _ => exact stepU rfl (unwantedOf rfl (yieldedAt rfl rfl (show a.eval (.tmp 29) = .bool (!false) from (hv 8 (by decide) _ rfl _ rfl)))) ⟨s, ⟨_, rfl, rfl⟩, hS, fun _ _ => rfl⟩
      | 12, _ => exact stepU rfl (unwantedOf rfl (yieldedAt rfl rfl (show a.eval (.tmp 29) = .bool (!false) from (hv 8 (by decide) _ rfl _ rfl)))) ⟨s, ⟨_, rfl, rfl⟩, hS, fun _ _ => rfl⟩
      | 13, _ => exact stepV rfl rfl (execPickT rfl (hv 8 (by decide) _ rfl _ rfl) rfl) ⟨s, ⟨_, rfl, rfl⟩, hS, fun _ _ => rfl⟩
      | k_ + 14, h_ => exact absurd h_ (by simp)
    rintro _ a X2 h1 h2 h3 h4 hS
    clear BB
    replace hS : Below V.heap.size V X2 := hS
    have BB := hS
    clear hS
    replace t0 := (h3 0 (by decide)).trans t0
    replace t1 := (h3 1 (by decide)).trans t1
    replace t2 := (h3 2 (by decide)).trans t2
    replace t8 := (h3 8 (by decide)).trans t8
    have t34 : a.eval (.tmp 34) = .bool true := h4 13 _ rfl _ rfl
    replace A := (⟨h1, h2.trans A.2⟩ : a.tmps.size = 128 ∧ a.defers = [])
    clear h1 h2 h3 h4
    refine wp_cond_true t34 ?_
    refine wp_seq ?_
    refine wp_region_sq (σ := Unit) 128 [(0, 6), (1, 7)] (fun j_ s X => match j_ with | 0 => Below V.heap.size V X | 1 => Below V.heap.size V X | _ => Below V.heap.size V X) (fun s => fun i_ => match i_ with | 0 => .slice none 0 0 | 1 => .int .i64 ((2 : Nat) : Int) | _ => undef) () A.1 (by kernel_rfl) (by decide) (by decide) (BB) ?_ ?_
    · intro i_ hi_ s a X hf hv hn hS
      match i_, hi_ with
      | 0, _ => exact stepV rfl rfl (execAsgB rfl rfl) ⟨s, ⟨_, rfl, rfl⟩, hS, fun _ _ => rfl⟩
      | 1, _ => exact stepV rfl rfl (execAsgB rfl rfl) ⟨s, ⟨_, rfl, rfl⟩, hS, fun _ _ => rfl⟩
      | k_ + 2, h_ => exact absurd h_ (by simp)
    rintro _ a X3 h1 h2 h3 h4 hS
    clear BB
    replace hS : Below V.heap.size V X3 := hS
    have BB := hS
    clear hS
    have t6 : a.eval (.tmp 6) = .slice none 0 0 := h4 0 _ rfl _ rfl
    have t7 : a.eval (.tmp 7) = .int .i64 ((2 : Nat) : Int) := h4 1 _ rfl _ rfl
    replace A := (⟨h1, h2.trans A.2⟩ : a.tmps.size = 128 ∧ a.defers = [])
    clear h1 h2 h3 h4
    clear t0 t1 t2 t8
    have hE : drE sf J cf n vf m = 2 := drE_no fun q => by have := (drQ_iff.1 q).1; rw [hs] at this; cases this
    rw [hE, zl_no (by decide)]
    refine wp_ret ?_
    repeat (first | with_reducible refine ret_in ?_ | with_reducible refine ret_then ?_)
    refine bodyPost_ret (results_tmp2 rfl _ _ _) A.2 ⟨_, ?_, World.ownsRow_nil _ _ _ _, BB⟩
    show Ending.returned (.tuple #[a.eval (.tmp 6), a.eval (.tmp 7)]) = _
    rw [t6, t7]
  | true =>
    by_cases hnS : n = sumN (gN sf) J
    · by_cases hmS : m = sumN (gN sf) J
      · refine wp_seq ?_
        refine wp_region_sq (σ := Unit) 128 [(0, 19), (1, 20), (2, 8)] (fun j_ s X => match j_ with | 0 => Below V.heap.size V X | 1 => Below V.heap.size V X | 2 => Below V.heap.size V X | _ => Below V.heap.size V X) (fun s => fun i_ => match i_ with | 0 => v | 1 => .int .i64 ((sumN (gN sf) J : Nat) : Int) | 2 => .int .i64 ((sumN (gN sf) J : Nat) : Int) | _ => undef) () A.1 (by kernel_rfl) (by decide) (by decide) (BB) ?_ ?_
        · intro i_ hi_ s a X hf hv hn hS
          match i_, hi_ with
          | 0, _ => exact stepV rfl rfl (execMvB rfl ((hf 0 (by decide)).trans t0)) ⟨s, ⟨_, rfl, rfl⟩, hS, fun _ _ => rfl⟩
          | 1, _ => exact stepC rfl rfl (execCall1 Try.func29 (by kernel_rfl) (by kernel_rfl) rfl (hv 0 (by decide) _ rfl _ rfl)) ((show toT sf J = ((sumN (gN sf) J : Nat) : Int) by rw [szQ_toT, if_pos hs]) ▸ rtotal sf J _ X (FI.on hS) hJ17) fun e w' hh => ⟨_, hh.1, s, ⟨_, rfl, rfl⟩, (hS).trans ((hh.2).mono (hS).size), fun _ _ => rfl⟩
          | 2, _ => exact stepV rfl rfl (execAsgB rfl (hv 1 (by decide) _ rfl _ rfl)) ⟨s, ⟨_, rfl, rfl⟩, hS, fun _ _ => rfl⟩
          | k_ + 3, h_ => exact absurd h_ (by simp)
        rintro _ a X1 h1 h2 h3 h4 hS
        clear BB
        replace hS : Below V.heap.size V X1 := hS
        have BB := hS
        clear hS
        replace t0 := (h3 0 (by decide)).trans t0
        replace t1 := (h3 1 (by decide)).trans t1
        replace t2 := (h3 2 (by decide)).trans t2
        have t8 : a.eval (.tmp 8) = .int .i64 ((sumN (gN sf) J : Nat) : Int) := h4 2 _ rfl _ rfl
        replace A := (⟨h1, h2.trans A.2⟩ : a.tmps.size = 128 ∧ a.defers = [])
        clear h1 h2 h3 h4
        refine wp_seq ?_
        refine wp_seq ?_
        refine wp_region_sq (σ := Unit) 128 [(0, 21), (1, 22), (2, 23), (3, 24), (4, 25), (5, 26), (6, 27), (7, 28), (8, 29), (9, 30), (10, 31), (11, 32), (12, 33), (13, 34)] (fun j_ s X => match j_ with | 0 => Below V.heap.size V X | 1 => Below V.heap.size V X | 2 => Below V.heap.size V X | 3 => Below V.heap.size V X | 4 => Below V.heap.size V X | 5 => Below V.heap.size V X | 6 => Below V.heap.size V X | 7 => Below V.heap.size V X | 8 => Below V.heap.size V X | 9 => Below V.heap.size V X | 10 => Below V.heap.size V X | 11 => Below V.heap.size V X | 12 => Below V.heap.size V X | 13 => Below V.heap.size V X | _ => Below V.heap.size V X) (fun s => fun i_ => match i_ with | 0 => .int .i64 ((sumN (gN sf) J : Nat) : Int) | 1 => .bool false | 2 => .bool false | 3 => u0 | 4 => .int .i64 ((n : Nat) : Int) | 5 => .int .i64 ((sumN (gN sf) J : Nat) : Int) | 6 => .bool false | 7 => .bool false | 8 => .bool false | 9 => u1 | 10 => .int .i64 ((m : Nat) : Int) | 11 => .int .i64 ((sumN (gN sf) J : Nat) : Int) | 12 => .bool false | 13 => .bool false | _ => undef) () A.1 (by kernel_rfl) (by decide) (by decide) (BB) ?_ ?_
        · intro i_ hi_ s a X hf hv hn hS
          match i_, hi_ with
          | 0, _ => exact stepV rfl rfl (execMvB rfl ((hf 8 (by decide)).trans t8)) ⟨s, ⟨_, rfl, rfl⟩, hS, fun _ _ => rfl⟩
          | 1, _ => exact stepV rfl rfl (execDec (execLtW (p := sumN (gN sf) J) (q := 0) rfl (hv 0 (by decide) _ rfl _ rfl) rfl) (decide_eq_false (by omega))) ⟨s, ⟨_, rfl, rfl⟩, hS, fun _ _ => rfl⟩
          | 2, _ => exact stepV rfl rfl (execMvB rfl (hv 1 (by decide) _ rfl _ rfl)) ⟨s, ⟨_, rfl, rfl⟩, hS, fun _ _ => rfl⟩
          | 3, _ => exact stepV rfl (wantedOf rfl (yieldedAt rfl rfl (show a.eval (.tmp 23) = .bool false from (hv 2 (by decide) _ rfl _ rfl)))) (execMvB rfl ((hf 1 (by decide)).trans t1)) ⟨s, ⟨_, rfl, rfl⟩, hS, fun _ _ => rfl⟩
          | 4, _ => exact stepV rfl (wantedOf rfl (yieldedAt rfl rfl (show a.eval (.tmp 23) = .bool false from (hv 2 (by decide) _ rfl _ rfl)))) (execLenI (len := n) rfl (hv 3 (by decide) _ rfl _ rfl) ((FJ.on hS)).shp) ⟨s, ⟨_, rfl, rfl⟩, hS, fun _ _ => rfl⟩
          | 5, _ => exact stepV rfl (wantedOf rfl (yieldedAt rfl rfl (show a.eval (.tmp 23) = .bool false from (hv 2 (by decide) _ rfl _ rfl)))) (execMvB rfl ((hf 8 (by decide)).trans t8)) ⟨s, ⟨_, rfl, rfl⟩, hS, fun _ _ => rfl⟩
          | 6, _ => exact stepV rfl (wantedOf rfl (yieldedAt rfl rfl (show a.eval (.tmp 23) = .bool false from (hv 2 (by decide) _ rfl _ rfl)))) (execDec (execNeN (p := n) (q := sumN (gN sf) J) rfl (hv 4 (by decide) _ rfl _ rfl) (hv 5 (by decide) _ rfl _ rfl)) (decide_eq_false (by omega))) ⟨s, ⟨_, rfl, rfl⟩, hS, fun _ _ => rfl⟩
          | 7, _ => exact stepV rfl rfl (execPickF rfl (hv 2 (by decide) _ rfl _ rfl) (hv 6 (by decide) _ rfl _ rfl)) ⟨s, ⟨_, rfl, rfl⟩, hS, fun _ _ => rfl⟩
          | 8, _ => exact stepV rfl rfl (execMvB rfl (hv 7 (by decide) _ rfl _ rfl)) ⟨s, ⟨_, rfl, rfl⟩, hS, fun _ _ => rfl⟩
          | 9, _ => exact stepV rfl (wantedOf rfl (yieldedAt rfl rfl (show a.eval (.tmp 29) = .bool false from (hv 8 (by decide) _ rfl _ rfl)))) (execMvB rfl ((hf 2 (by decide)).trans t2)) ⟨s, ⟨_, rfl, rfl⟩, hS, fun _ _ => rfl⟩
          | 10, _ => exact stepV rfl (wantedOf rfl (yieldedAt rfl rfl (show a.eval (.tmp 29) = .bool false from (hv 8 (by decide) _ rfl _ rfl)))) (execLenI (len := m) rfl (hv 9 (by decide) _ rfl _ rfl) ((FK.on hS)).shp) ⟨s, ⟨_, rfl, rfl⟩, hS, fun _ _ => rfl⟩
          | 11, _ => exact stepV rfl (wantedOf rfl (yieldedAt rfl rfl (show a.eval (.tmp 29) = .bool false from (hv 8 (by decide) _ rfl _ rfl)))) (execMvB rfl ((hf 8 (by decide)).trans t8)) ⟨s, ⟨_, rfl, rfl⟩, hS, fun _ _ => rfl⟩
          | 12, _ => exact stepV rfl (wantedOf rfl (yieldedAt rfl rfl (show a.eval (.tmp 29) = .bool false from (hv 8 (by decide) _ rfl _ rfl)))) (execDec (execNeN (p := m) (q := sumN (gN sf) J) rfl (hv 10 (by decide) _ rfl _ rfl) (hv 11 (by decide) _ rfl _ rfl)) (decide_eq_false (by omega))) ⟨s, ⟨_, rfl, rfl⟩, hS, fun _ _ => rfl⟩
          | 13, _ => exact stepV rfl rfl (execPickF rfl (hv 8 (by decide) _ rfl _ rfl) (hv 12 (by decide) _ rfl _ rfl)) ⟨s, ⟨_, rfl, rfl⟩, hS, fun _ _ => rfl⟩
          | k_ + 14, h_ => exact absurd h_ (by simp)
        rintro _ a X2 h1 h2 h3 h4 hS
        clear BB
        replace hS : Below V.heap.size V X2 := hS
        have BB := hS
        clear hS
        replace t0 := (h3 0 (by decide)).trans t0
        replace t1 := (h3 1 (by decide)).trans t1
        replace t2 := (h3 2 (by decide)).trans t2
        replace t8 := (h3 8 (by decide)).trans t8
        have t34 : a.eval (.tmp 34) = .bool false := h4 13 _ rfl _ rfl
        replace A := (⟨h1, h2.trans A.2⟩ : a.tmps.size = 128 ∧ a.defers = [])
        clear h1 h2 h3 h4
        refine wp_cond_false t34 ?_
        refine wp_skip ?_
        clear t34
        have hok := (szQ_iff.1 hs).2
        have hJ64 := (szQ_iff.1 hs).1.2
        have hsum := okS_sum hok
        rw [← hnS] at t8
        refine wp_seq ?_
        refine wp_region_sq (σ := Unit) 128 [(0, 9), (1, 10)] (fun j_ s X => match j_ with | 0 => Below V.heap.size V X | 1 => Below V.heap.size V X | _ => Below V.heap.size V X) (fun s => fun i_ => match i_ with | 0 => .slice none 0 0 | 1 => .slice none 0 0 | _ => undef) () A.1 (by kernel_rfl) (by decide) (by decide) (BB) ?_ ?_
        · intro i_ hi_ s a X hf hv hn hS
          match i_, hi_ with
          | 0, _ => exact stepV rfl rfl (execAsgB rfl rfl) ⟨s, ⟨_, rfl, rfl⟩, hS, fun _ _ => rfl⟩
          | 1, _ => exact stepV rfl rfl (execAsgB rfl rfl) ⟨s, ⟨_, rfl, rfl⟩, hS, fun _ _ => rfl⟩
          | k_ + 2, h_ => exact absurd h_ (by simp)
        rintro _ a X4 h1 h2 h3 h4 hS
        clear BB
        replace hS : Below V.heap.size V X4 := hS
        have BB := hS
        clear hS
        replace t0 := (h3 0 (by decide)).trans t0
        replace t1 := (h3 1 (by decide)).trans t1
        replace t2 := (h3 2 (by decide)).trans t2
        replace t8 := (h3 8 (by decide)).trans t8
        have t9 : a.eval (.tmp 9) = .slice none 0 0 := h4 0 _ rfl _ rfl
        have t10 : a.eval (.tmp 10) = .slice none 0 0 := h4 1 _ rfl _ rfl
        replace A := (⟨h1, h2.trans A.2⟩ : a.tmps.size = 128 ∧ a.defers = [])
        clear h1 h2 h3 h4
        have FM : (FmI V.heap.size 3 (fun _ => .slice none 0 0) (nnR 0 0) (ffR sf cf vf 0) X4) := FmI.cgN (FmI.nils _ _ _ _) (fun t ht => by match t, ht with | 0, _ => rfl | 1, _ => rfl | 2, _ => rfl | t + 3, h => omega)
        refine wp_seq ?_
        refine wp_region_sq (σ := Unit) 128 [(0, 11)] (fun j_ s X => match j_ with | 0 => Below V.heap.size V X ∧ (FmI V.heap.size 3 (fun _ => .slice none 0 0) (nnR 0 0) (ffR sf cf vf 0) X) | _ => Below V.heap.size V X ∧ (FmI V.heap.size 3 (fun _ => .slice none 0 0) (nnR 0 0) (ffR sf cf vf 0) X)) (fun s => fun i_ => match i_ with | 0 => .int .i64 ((0 : Nat) : Int) | _ => undef) () A.1 (by kernel_rfl) (by decide) (by decide) ⟨BB, FM⟩ ?_ ?_
        · intro i_ hi_ s a X hf hv hn hS
          match i_, hi_ with
          | 0, _ => exact stepV rfl rfl (execAsgB rfl rfl) ⟨s, ⟨_, rfl, rfl⟩, hS, fun _ _ => rfl⟩
          | k_ + 1, h_ => exact absurd h_ (by simp)
        rintro _ a X5 h1 h2 h3 h4 hS
        clear BB
        clear FM
        replace hS : Below V.heap.size V X5 ∧ (FmI V.heap.size 3 (fun _ => .slice none 0 0) (nnR 0 0) (ffR sf cf vf 0) X5) := hS
        obtain ⟨BB, FM⟩ := hS
        replace t0 := (h3 0 (by decide)).trans t0
        replace t1 := (h3 1 (by decide)).trans t1
        replace t2 := (h3 2 (by decide)).trans t2
        replace t8 := (h3 8 (by decide)).trans t8
        replace t9 := (h3 9 (by decide)).trans t9
        replace t10 := (h3 10 (by decide)).trans t10
        have t11 : a.eval (.tmp 11) = .int .i64 ((0 : Nat) : Int) := h4 0 _ rfl _ rfl
        replace A := (⟨h1, h2.trans A.2⟩ : a.tmps.size = 128 ∧ a.defers = [])
        clear h1 h2 h3 h4
        refine wp_seq ?_
        refine wp_seq ?_
        refine wp_region_sq (σ := Unit) 128 [(0, 12)] (fun j_ s X => match j_ with | 0 => Below V.heap.size V X ∧ (FmI V.heap.size 3 (fun _ => .slice none 0 0) (nnR 0 0) (ffR sf cf vf 0) X) | _ => Below V.heap.size V X ∧ (FmI V.heap.size 3 (fun _ => .slice none 0 0) (nnR 0 0) (ffR sf cf vf 0) X)) (fun s => fun i_ => match i_ with | 0 => .int .i64 ((0 : Nat) : Int) | _ => undef) () A.1 (by kernel_rfl) (by decide) (by decide) ⟨BB, FM⟩ ?_ ?_
        · intro i_ hi_ s a X hf hv hn hS
          match i_, hi_ with
          | 0, _ => exact stepV rfl rfl (execAsgB rfl rfl) ⟨s, ⟨_, rfl, rfl⟩, hS, fun _ _ => rfl⟩
          | k_ + 1, h_ => exact absurd h_ (by simp)
        rintro _ a X6 h1 h2 h3 h4 hS
        clear BB
        clear FM
        replace hS : Below V.heap.size V X6 ∧ (FmI V.heap.size 3 (fun _ => .slice none 0 0) (nnR 0 0) (ffR sf cf vf 0) X6) := hS
        obtain ⟨BB, FM⟩ := hS
        replace t0 := (h3 0 (by decide)).trans t0
        replace t1 := (h3 1 (by decide)).trans t1
        replace t2 := (h3 2 (by decide)).trans t2
        replace t8 := (h3 8 (by decide)).trans t8
        replace t9 := (h3 9 (by decide)).trans t9
        replace t10 := (h3 10 (by decide)).trans t10
        replace t11 := (h3 11 (by decide)).trans t11
        have t12 : a.eval (.tmp 12) = .int .i64 ((0 : Nat) : Int) := h4 0 _ rfl _ rfl
        replace A := (⟨h1, h2.trans A.2⟩ : a.tmps.size = 128 ∧ a.defers = [])
        clear h1 h2 h3 h4
        refine wp_block ?_
        refine wp_loop (fun a W => ∃ (i : Nat) (x : Nat → Value), i ≤ J ∧ (a.tmps.size = 128 ∧ a.defers = []) ∧ a.eval (.tmp 0) = v ∧ a.eval (.tmp 1) = u0 ∧ a.eval (.tmp 2) = u1 ∧ a.eval (.tmp 8) = .int .i64 ((n : Nat) : Int) ∧ a.eval (.tmp 9) = x 0 ∧ a.eval (.tmp 10) = x 1 ∧ a.eval (.tmp 11) = .int .i64 ((sumN (gN sf) i : Nat) : Int) ∧ a.eval (.tmp 12) = .int .i64 ((i : Nat) : Int) ∧ Below V.heap.size V W ∧ (FmI V.heap.size 3 (x) (nnR i 0) (ffR sf cf vf 0) W)) (fun a _ => J - (intOf (a.eval (.tmp 12))).toNat) ⟨0, (fun _ => .slice none 0 0), Nat.zero_le _, A, t0, t1, t2, t8, t9, t10, t11, t12, BB, FM⟩ ?_
        clear A t0 t1 t2 t8 t9 t10 t11 t12 BB FM a
        rintro a XL7 ⟨i, x, hi, A, t0, t1, t2, t8, t9, t10, t11, t12, BB, FM⟩
        have esi := t12
        refine wp_seq ?_
        refine wp_seq ?_
        refine wp_region_sq (σ := Unit) 128 [(0, 35), (1, 36), (2, 37), (3, 38)] (fun j_ s X => match j_ with | 0 => Below V.heap.size V X ∧ (FmI V.heap.size 3 (x) (nnR i 0) (ffR sf cf vf 0) X) | 1 => Below V.heap.size V X ∧ (FmI V.heap.size 3 (x) (nnR i 0) (ffR sf cf vf 0) X) | 2 => Below V.heap.size V X ∧ (FmI V.heap.size 3 (x) (nnR i 0) (ffR sf cf vf 0) X) | 3 => Below V.heap.size V X ∧ (FmI V.heap.size 3 (x) (nnR i 0) (ffR sf cf vf 0) X) | _ => Below V.heap.size V X ∧ (FmI V.heap.size 3 (x) (nnR i 0) (ffR sf cf vf 0) X)) (fun s => fun i_ => match i_ with | 0 => .int .i64 ((i : Nat) : Int) | 1 => v | 2 => .int .i64 ((J : Nat) : Int) | 3 => .bool (decide (i < J)) | _ => undef) () A.1 (by kernel_rfl) (by decide) (by decide) ⟨BB, FM⟩ ?_ ?_
        · intro i_ hi_ s a X hf hv hn hS
          match i_, hi_ with
          | 0, _ => exact stepV rfl rfl (execMvB rfl ((hf 12 (by decide)).trans t12)) ⟨s, ⟨_, rfl, rfl⟩, hS, fun _ _ => rfl⟩
          | 1, _ => exact stepV rfl rfl (execMvB rfl ((hf 0 (by decide)).trans t0)) ⟨s, ⟨_, rfl, rfl⟩, hS, fun _ _ => rfl⟩
          | 2, _ => exact stepV rfl rfl (execLenI (len := J) rfl (hv 1 (by decide) _ rfl _ rfl) ((FI.on hS.1)).shp) ⟨s, ⟨_, rfl, rfl⟩, hS, fun _ _ => rfl⟩
          | 3, _ => exact stepV rfl rfl (execLtW (p := i) (q := J) rfl (hv 0 (by decide) _ rfl _ rfl) (hv 2 (by decide) _ rfl _ rfl)) ⟨s, ⟨_, rfl, rfl⟩, hS, fun _ _ => rfl⟩
          | k_ + 4, h_ => exact absurd h_ (by simp)
        rintro _ a X7 h1 h2 h3 h4 hS
        clear BB
        clear FM
        replace hS : Below V.heap.size V X7 ∧ (FmI V.heap.size 3 (x) (nnR i 0) (ffR sf cf vf 0) X7) := hS
        obtain ⟨BB, FM⟩ := hS
        replace t0 := (h3 0 (by decide)).trans t0
        replace t1 := (h3 1 (by decide)).trans t1
        replace t2 := (h3 2 (by decide)).trans t2
        replace t8 := (h3 8 (by decide)).trans t8
        replace t9 := (h3 9 (by decide)).trans t9
        replace t10 := (h3 10 (by decide)).trans t10
        replace t11 := (h3 11 (by decide)).trans t11
        replace t12 := (h3 12 (by decide)).trans t12
        have t38 : a.eval (.tmp 38) = .bool (decide (i < J)) := h4 3 _ rfl _ rfl
        replace A := (⟨h1, h2.trans A.2⟩ : a.tmps.size = 128 ∧ a.defers = [])
        clear h1 h2 h3 h4
        by_cases lti : i < J
        · rw [decide_eq_true lti] at t38
          refine wp_cond_true t38 ?_
          refine wp_skip ?_
          clear t38
          refine wp_seq ?_
          refine wp_block ?_
          obtain ⟨ssb, sso, ssc, ess, hssb, hssc⟩ := open_sl FI (by omega)
          have css : ∀ k, k < J → ∀ X, Below V.heap.size V X → X.cell? ⟨ssb, sso + k, none⟩ = some (.int .i64 ((sf) k)) := fun k hk X hX => by rw [cell_below hX hssb]; exact hssc k hk
          have hsj := okS_nn hok lti
          have hsa := sumN_at (r := gN sf) lti
          refine wp_seq ?_
          refine wp_region_sq (σ := Nat × Value) 128 [(0, 41), (1, 42), (2, 43), (3, 44), (4, 45), (5, 46), (6, 47), (7, 9)] (fun j_ s X => match j_ with | 0 => Below V.heap.size V X ∧ (FmI V.heap.size 3 (x) (nnR i 0) (ffR sf cf vf 0) X) | 1 => Below V.heap.size V X ∧ (FmI V.heap.size 3 (x) (nnR i 0) (ffR sf cf vf 0) X) | 2 => Below V.heap.size V X ∧ (FmI V.heap.size 3 (x) (nnR i 0) (ffR sf cf vf 0) X) | 3 => Below V.heap.size V X ∧ (FmI V.heap.size 3 (x) (nnR i 0) (ffR sf cf vf 0) X) | 4 => Below V.heap.size V X ∧ (FmI V.heap.size 3 (x) (nnR i 0) (ffR sf cf vf 0) X) | 5 => Below V.heap.size V X ∧ (FmI V.heap.size 3 (x) (nnR i 0) (ffR sf cf vf 0) X) | 6 => Below V.heap.size V X ∧ (FmI V.heap.size 3 (x) (nnR i 0) (ffR sf cf vf 0) X) ∧ (X.heap[s.1]? = some (.cells #[.int .i64 (((gN sf i : Nat) : Int))] 3)) | 7 => Below V.heap.size V X ∧ (FmI V.heap.size 3 (updX x 0 s.2) (updD (nnR i 0) 0 1) (ffR sf cf vf 0) X) | _ => Below V.heap.size V X ∧ (FmI V.heap.size 3 (updX x 0 s.2) (updD (nnR i 0) 0 1) (ffR sf cf vf 0) X)) (fun s => fun i_ => match i_ with | 0 => x 0 | 1 => v | 2 => .int .i64 ((i : Nat) : Int) | 3 => .pointer (some ⟨ssb, sso + i, none⟩) | 4 => .int .i64 ((gN sf i : Nat) : Int) | 5 => .slice (some ⟨s.1, 0, none⟩) 1 1 | 6 => s.2 | 7 => s.2 | _ => undef) (0, undef) A.1 (by kernel_rfl) (by decide) (by decide) ⟨BB, FM⟩ ?_ ?_
          · intro i_ hi_ s a X hf hv hn hS
            match i_, hi_ with
            | 0, _ => exact stepV rfl rfl (execMvB rfl ((hn 7 (by decide) _ rfl _ rfl).trans t9)) ⟨s, ⟨_, rfl, rfl⟩, hS, fun _ _ => rfl⟩
            | 1, _ => exact stepV rfl rfl (execMvB rfl ((hf 0 (by decide)).trans t0)) ⟨s, ⟨_, rfl, rfl⟩, hS, fun _ _ => rfl⟩
            | 2, _ => exact stepV rfl rfl (execMvB rfl ((hf 12 (by decide)).trans t12)) ⟨s, ⟨_, rfl, rfl⟩, hS, fun _ _ => rfl⟩
            | 3, _ => exact stepV rfl rfl (execIdxN (k := i) rfl ((hv 1 (by decide) _ rfl _ rfl).trans ess) (hv 2 (by decide) _ rfl _ rfl) lti) ⟨s, ⟨_, rfl, rfl⟩, hS, fun _ _ => rfl⟩
            | 4, _ => exact stepV rfl rfl (execLd3 rfl (hv 3 (by decide) _ rfl _ rfl) ((css i lti X hS.1).trans (by rw [hsj]))) ⟨s, ⟨_, rfl, rfl⟩, hS, fun _ _ => rfl⟩
            | 5, _ =>
              refine stepV rfl rfl (execBsI (z := ((gN sf i : Nat) : Int)) rfl (hv 4 (by decide) _ rfl _ rfl)) ⟨(X.heap.size, s.2), ⟨_, rfl, rfl⟩, ⟨(hS.1).trans (((belNew X _)).mono (hS.1).size), (hS.2.on (belNew X _)), heapNew X _⟩, fun i hi => ?_⟩
              match i, hi with
              | 0, _ => rfl
              | 1, _ => rfl
              | 2, _ => rfl
              | 3, _ => rfl
              | 4, _ => rfl
              | n_ + 5, h_ => omega
            | 6, _ =>
              refine stepFm (x := x) (k := 3) (t := 0) (l := 1) (q := fun _ => ((gN sf i : Nat) : Int)) rfl rfl rfl (hv 0 (by decide) _ rfl _ rfl) (hv 5 (by decide) _ rfl _ rfl) hS.2.1 (by omega) (lit_sl hS.2.2 (by omega)) ⟨_, _, rfl⟩ (by omega) (show i + 1 ≤ _ by omega) (hS.1).size fun v' W' fm' gr => ⟨(s.1, v'), ⟨_, rfl, rfl⟩, ⟨(hS.1).grown gr (hS.1).size (fun k hk => ((hS.2.1.rows 0 (by omega)).lt k hk).1), FmI.app1 fm' rfl⟩, fun i hi => ?_⟩
              match i, hi with
              | 0, _ => rfl
              | 1, _ => rfl
              | 2, _ => rfl
              | 3, _ => rfl
              | 4, _ => rfl
              | 5, _ => rfl
              | n_ + 6, h_ => omega
            | 7, _ => exact stepV rfl rfl (execAsgB rfl (hv 6 (by decide) _ rfl _ rfl)) ⟨s, ⟨_, rfl, rfl⟩, hS, fun _ _ => rfl⟩
            | k_ + 8, h_ => exact absurd h_ (by simp)
          rintro ⟨g46, v47⟩ a X9 h1 h2 h3 h4 hS
          clear BB
          clear FM
          replace hS : Below V.heap.size V X9 ∧ (FmI V.heap.size 3 (updX x 0 v47) (updD (nnR i 0) 0 1) (ffR sf cf vf 0) X9) := hS
          obtain ⟨BB, FM1⟩ := hS
          replace t0 := (h3 0 (by decide)).trans t0
          replace t1 := (h3 1 (by decide)).trans t1
          replace t2 := (h3 2 (by decide)).trans t2
          replace t8 := (h3 8 (by decide)).trans t8
          replace t9 : a.eval (.tmp 9) = v47 := h4 7 _ rfl _ rfl
          replace t10 := (h3 10 (by decide)).trans t10
          replace t11 := (h3 11 (by decide)).trans t11
          replace t12 := (h3 12 (by decide)).trans t12
          replace A := (⟨h1, h2.trans A.2⟩ : a.tmps.size = 128 ∧ a.defers = [])
          clear h1 h2 h3 h4
          refine wp_seq ?_
          refine wp_region_sq (σ := Nat × Value) 128 [(0, 48), (1, 49), (2, 50), (3, 51), (4, 10)] (fun j_ s X => match j_ with | 0 => Below V.heap.size V X ∧ (FmI V.heap.size 3 (updX x 0 v47) (updD (nnR i 0) 0 1) (ffR sf cf vf 0) X) | 1 => Below V.heap.size V X ∧ (FmI V.heap.size 3 (updX x 0 v47) (updD (nnR i 0) 0 1) (ffR sf cf vf 0) X) | 2 => Below V.heap.size V X ∧ (FmI V.heap.size 3 (updX x 0 v47) (updD (nnR i 0) 0 1) (ffR sf cf vf 0) X) | 3 => Below V.heap.size V X ∧ (FmI V.heap.size 3 (updX x 0 v47) (updD (nnR i 0) 0 1) (ffR sf cf vf 0) X) ∧ (X.heap[s.1]? = some (.cells #[.int .i64 (((sumN (gN sf) i : Nat) : Int))] 3)) | 4 => Below V.heap.size V X ∧ (FmI V.heap.size 3 (updX (updX x 0 v47) 1 s.2) (updD (updD (nnR i 0) 0 1) 1 1) (ffR sf cf vf 0) X) | _ => Below V.heap.size V X ∧ (FmI V.heap.size 3 (updX (updX x 0 v47) 1 s.2) (updD (updD (nnR i 0) 0 1) 1 1) (ffR sf cf vf 0) X)) (fun s => fun i_ => match i_ with | 0 => x 1 | 1 => .int .i64 ((sumN (gN sf) i : Nat) : Int) | 2 => .slice (some ⟨s.1, 0, none⟩) 1 1 | 3 => s.2 | 4 => s.2 | _ => undef) (0, undef) A.1 (by kernel_rfl) (by decide) (by decide) ⟨BB, FM1⟩ ?_ ?_
          · intro i_ hi_ s a X hf hv hn hS
            match i_, hi_ with
            | 0, _ => exact stepV rfl rfl (execMvB rfl ((hn 4 (by decide) _ rfl _ rfl).trans t10)) ⟨s, ⟨_, rfl, rfl⟩, hS, fun _ _ => rfl⟩
            | 1, _ => exact stepV rfl rfl (execMvB rfl ((hf 11 (by decide)).trans t11)) ⟨s, ⟨_, rfl, rfl⟩, hS, fun _ _ => rfl⟩
            | 2, _ =>
              refine stepV rfl rfl (execBsI (z := ((sumN (gN sf) i : Nat) : Int)) rfl (hv 1 (by decide) _ rfl _ rfl)) ⟨(X.heap.size, s.2), ⟨_, rfl, rfl⟩, ⟨(hS.1).trans (((belNew X _)).mono (hS.1).size), (hS.2.on (belNew X _)), heapNew X _⟩, fun i hi => ?_⟩
              match i, hi with
              | 0, _ => rfl
              | 1, _ => rfl
              | n_ + 2, h_ => omega
            | 3, _ =>
              refine stepFm (x := updX x 0 v47) (k := 3) (t := 1) (l := 1) (q := fun _ => ((sumN (gN sf) i : Nat) : Int)) rfl rfl rfl (hv 0 (by decide) _ rfl _ rfl) (hv 2 (by decide) _ rfl _ rfl) hS.2.1 (by omega) (lit_sl hS.2.2 (by omega)) ⟨_, _, rfl⟩ (by omega) (show i + 1 ≤ _ by omega) (hS.1).size fun v' W' fm' gr => ⟨(s.1, v'), ⟨_, rfl, rfl⟩, ⟨(hS.1).grown gr (hS.1).size (fun k hk => ((hS.2.1.rows 1 (by omega)).lt k hk).1), FmI.app1 fm' rfl⟩, fun i hi => ?_⟩
              match i, hi with
              | 0, _ => rfl
              | 1, _ => rfl
              | 2, _ => rfl
              | n_ + 3, h_ => omega
            | 4, _ => exact stepV rfl rfl (execAsgB rfl (hv 3 (by decide) _ rfl _ rfl)) ⟨s, ⟨_, rfl, rfl⟩, hS, fun _ _ => rfl⟩
            | k_ + 5, h_ => exact absurd h_ (by simp)
          rintro ⟨g50, v51⟩ a X10 h1 h2 h3 h4 hS
          clear BB
          clear FM1
          replace hS : Below V.heap.size V X10 ∧ (FmI V.heap.size 3 (updX (updX x 0 v47) 1 v51) (updD (updD (nnR i 0) 0 1) 1 1) (ffR sf cf vf 0) X10) := hS
          obtain ⟨BB, FM2⟩ := hS
          replace t0 := (h3 0 (by decide)).trans t0
          replace t1 := (h3 1 (by decide)).trans t1
          replace t2 := (h3 2 (by decide)).trans t2
          replace t8 := (h3 8 (by decide)).trans t8
          replace t9 := (h3 9 (by decide)).trans t9
          replace t10 : a.eval (.tmp 10) = v51 := h4 4 _ rfl _ rfl
          replace t11 := (h3 11 (by decide)).trans t11
          replace t12 := (h3 12 (by decide)).trans t12
          replace A := (⟨h1, h2.trans A.2⟩ : a.tmps.size = 128 ∧ a.defers = [])
          clear h1 h2 h3 h4
          refine wp_region_sq (σ := Unit) 128 [(0, 52), (1, 53), (2, 54), (3, 55), (4, 56), (5, 57), (6, 11)] (fun j_ s X => match j_ with | 0 => Below V.heap.size V X ∧ (FmI V.heap.size 3 (updX (updX x 0 v47) 1 v51) (updD (updD (nnR i 0) 0 1) 1 1) (ffR sf cf vf 0) X) | 1 => Below V.heap.size V X ∧ (FmI V.heap.size 3 (updX (updX x 0 v47) 1 v51) (updD (updD (nnR i 0) 0 1) 1 1) (ffR sf cf vf 0) X) | 2 => Below V.heap.size V X ∧ (FmI V.heap.size 3 (updX (updX x 0 v47) 1 v51) (updD (updD (nnR i 0) 0 1) 1 1) (ffR sf cf vf 0) X) | 3 => Below V.heap.size V X ∧ (FmI V.heap.size 3 (updX (updX x 0 v47) 1 v51) (updD (updD (nnR i 0) 0 1) 1 1) (ffR sf cf vf 0) X) | 4 => Below V.heap.size V X ∧ (FmI V.heap.size 3 (updX (updX x 0 v47) 1 v51) (updD (updD (nnR i 0) 0 1) 1 1) (ffR sf cf vf 0) X) | 5 => Below V.heap.size V X ∧ (FmI V.heap.size 3 (updX (updX x 0 v47) 1 v51) (updD (updD (nnR i 0) 0 1) 1 1) (ffR sf cf vf 0) X) | 6 => Below V.heap.size V X ∧ (FmI V.heap.size 3 (updX (updX x 0 v47) 1 v51) (updD (updD (nnR i 0) 0 1) 1 1) (ffR sf cf vf 0) X) | _ => Below V.heap.size V X ∧ (FmI V.heap.size 3 (updX (updX x 0 v47) 1 v51) (updD (updD (nnR i 0) 0 1) 1 1) (ffR sf cf vf 0) X)) (fun s => fun i_ => match i_ with | 0 => .int .i64 ((sumN (gN sf) i : Nat) : Int) | 1 => v | 2 => .int .i64 ((i : Nat) : Int) | 3 => .pointer (some ⟨ssb, sso + i, none⟩) | 4 => .int .i64 ((gN sf i : Nat) : Int) | 5 => .int .i64 ((sumN (gN sf) i + gN sf i : Nat) : Int) | 6 => .int .i64 ((sumN (gN sf) i + gN sf i : Nat) : Int) | _ => undef) () A.1 (by kernel_rfl) (by decide) (by decide) ⟨BB, FM2⟩ ?_ ?_
          · intro i_ hi_ s a X hf hv hn hS
            match i_, hi_ with
            | 0, _ => exact stepV rfl rfl (execMvB rfl ((hn 6 (by decide) _ rfl _ rfl).trans t11)) ⟨s, ⟨_, rfl, rfl⟩, hS, fun _ _ => rfl⟩
            | 1, _ => exact stepV rfl rfl (execMvB rfl ((hf 0 (by decide)).trans t0)) ⟨s, ⟨_, rfl, rfl⟩, hS, fun _ _ => rfl⟩
            | 2, _ => exact stepV rfl rfl (execMvB rfl ((hf 12 (by decide)).trans t12)) ⟨s, ⟨_, rfl, rfl⟩, hS, fun _ _ => rfl⟩
            | 3, _ => exact stepV rfl rfl (execIdxN (k := i) rfl ((hv 1 (by decide) _ rfl _ rfl).trans ess) (hv 2 (by decide) _ rfl _ rfl) lti) ⟨s, ⟨_, rfl, rfl⟩, hS, fun _ _ => rfl⟩
            | 4, _ => exact stepV rfl rfl (execLd3 rfl (hv 3 (by decide) _ rfl _ rfl) ((css i lti X hS.1).trans (by rw [hsj]))) ⟨s, ⟨_, rfl, rfl⟩, hS, fun _ _ => rfl⟩
            | 5, _ => exact stepV rfl rfl (execAd8 (p := sumN (gN sf) i) (q := gN sf i) rfl (hv 0 (by decide) _ rfl _ rfl) (hv 4 (by decide) _ rfl _ rfl) (by omega)) ⟨s, ⟨_, rfl, rfl⟩, hS, fun _ _ => rfl⟩
            | 6, _ => exact stepV rfl rfl (execAsgB rfl (hv 5 (by decide) _ rfl _ rfl)) ⟨s, ⟨_, rfl, rfl⟩, hS, fun _ _ => rfl⟩
            | k_ + 7, h_ => exact absurd h_ (by simp)
          rintro _ a X11 h1 h2 h3 h4 hS
          clear BB
          clear FM2
          replace hS : Below V.heap.size V X11 ∧ (FmI V.heap.size 3 (updX (updX x 0 v47) 1 v51) (updD (updD (nnR i 0) 0 1) 1 1) (ffR sf cf vf 0) X11) := hS
          obtain ⟨BB, FM2⟩ := hS
          replace t0 := (h3 0 (by decide)).trans t0
          replace t1 := (h3 1 (by decide)).trans t1
          replace t2 := (h3 2 (by decide)).trans t2
          replace t8 := (h3 8 (by decide)).trans t8
          replace t9 := (h3 9 (by decide)).trans t9
          replace t10 := (h3 10 (by decide)).trans t10
          replace t11 : a.eval (.tmp 11) = .int .i64 ((sumN (gN sf) i + gN sf i : Nat) : Int) := h4 6 _ rfl _ rfl
          replace t12 := (h3 12 (by decide)).trans t12
          replace A := (⟨h1, h2.trans A.2⟩ : a.tmps.size = 128 ∧ a.defers = [])
          clear h1 h2 h3 h4
          have FM3 : (FmI V.heap.size 3 (updX (updX x 0 v47) 1 v51) (nnR (i + 1) 0) (ffR sf cf vf 0) X11) := FmI.cgN FM2 (fun t ht => by match t, ht with | 0, _ => rfl | 1, _ => rfl | 2, _ => rfl | t + 3, h => omega)
          clear FM2
          refine wp_region_sq (σ := Unit) 128 [(0, 39), (1, 40), (2, 12)] (fun j_ s X => match j_ with | 0 => Below V.heap.size V X ∧ (FmI V.heap.size 3 (updX (updX x 0 v47) 1 v51) (nnR (i + 1) 0) (ffR sf cf vf 0) X) | 1 => Below V.heap.size V X ∧ (FmI V.heap.size 3 (updX (updX x 0 v47) 1 v51) (nnR (i + 1) 0) (ffR sf cf vf 0) X) | 2 => Below V.heap.size V X ∧ (FmI V.heap.size 3 (updX (updX x 0 v47) 1 v51) (nnR (i + 1) 0) (ffR sf cf vf 0) X) | _ => Below V.heap.size V X ∧ (FmI V.heap.size 3 (updX (updX x 0 v47) 1 v51) (nnR (i + 1) 0) (ffR sf cf vf 0) X)) (fun s => fun i_ => match i_ with | 0 => .int .i64 ((i : Nat) : Int) | 1 => .int .i64 ((i + 1 : Nat) : Int) | 2 => .int .i64 ((i + 1 : Nat) : Int) | _ => undef) () A.1 (by kernel_rfl) (by decide) (by decide) ⟨BB, FM3⟩ ?_ ?_
          · intro i_ hi_ s a X hf hv hn hS
            match i_, hi_ with
            | 0, _ => exact stepV rfl rfl (execMvB rfl ((hn 2 (by decide) _ rfl _ rfl).trans t12)) ⟨s, ⟨_, rfl, rfl⟩, hS, fun _ _ => rfl⟩
            | 1, _ => exact stepV rfl rfl (execAd8 (p := i) (q := 1) rfl (hv 0 (by decide) _ rfl _ rfl) rfl (by omega)) ⟨s, ⟨_, rfl, rfl⟩, hS, fun _ _ => rfl⟩
            | 2, _ => exact stepV rfl rfl (execAsgB rfl (hv 1 (by decide) _ rfl _ rfl)) ⟨s, ⟨_, rfl, rfl⟩, hS, fun _ _ => rfl⟩
            | k_ + 3, h_ => exact absurd h_ (by simp)
          rintro _ a X8 h1 h2 h3 h4 hS
          clear BB
          clear FM3
          replace hS : Below V.heap.size V X8 ∧ (FmI V.heap.size 3 (updX (updX x 0 v47) 1 v51) (nnR (i + 1) 0) (ffR sf cf vf 0) X8) := hS
          obtain ⟨BB, FM3⟩ := hS
          replace t0 := (h3 0 (by decide)).trans t0
          replace t1 := (h3 1 (by decide)).trans t1
          replace t2 := (h3 2 (by decide)).trans t2
          replace t8 := (h3 8 (by decide)).trans t8
          replace t9 := (h3 9 (by decide)).trans t9
          replace t10 := (h3 10 (by decide)).trans t10
          replace t11 := (h3 11 (by decide)).trans t11
          replace t12 : a.eval (.tmp 12) = .int .i64 ((i + 1 : Nat) : Int) := h4 2 _ rfl _ rfl
          replace A := (⟨h1, h2.trans A.2⟩ : a.tmps.size = 128 ∧ a.defers = [])
          clear h1 h2 h3 h4
          exact ⟨⟨i + 1, updX (updX x 0 v47) 1 v51, lti, A, t0, t1, t2, t8, t9, t10, t11, t12, BB, FM3⟩, by show J - (intOf (a.eval (.tmp 12))).toNat < J - (intOf (Act.eval _ (.tmp 12))).toNat; rw [t12, esi]; show J - (i + 1) < J - i; omega⟩
        · rw [decide_eq_false lti] at t38
          refine wp_cond_false t38 ?_
          refine wp_exit ?_
          first | with_reducible refine exit_in ?_ | with_reducible refine exit_then (exit_in ?_) | with_reducible refine exit_then (exit_then (exit_in ?_)) | refine exit_in ?_ | refine exit_then (exit_in ?_) | refine exit_then (exit_then (exit_in ?_))
          clear t38 esi
          have hiJ : i = J := by omega
          rw [hiJ] at FM
          clear t11 t12
          refine wp_seq ?_
          refine wp_region_sq (σ := Unit) 128 [(0, 13)] (fun j_ s X => match j_ with | 0 => Below V.heap.size V X ∧ (FmI V.heap.size 3 (x) (nnR J 0) (ffR sf cf vf 0) X) | _ => Below V.heap.size V X ∧ (FmI V.heap.size 3 (x) (nnR J 0) (ffR sf cf vf 0) X)) (fun s => fun i_ => match i_ with | 0 => .slice none 0 0 | _ => undef) () A.1 (by kernel_rfl) (by decide) (by decide) ⟨BB, FM⟩ ?_ ?_
          · intro i_ hi_ s a X hf hv hn hS
            match i_, hi_ with
            | 0, _ => exact stepV rfl rfl (execAsgB rfl rfl) ⟨s, ⟨_, rfl, rfl⟩, hS, fun _ _ => rfl⟩
            | k_ + 1, h_ => exact absurd h_ (by simp)
          rintro _ a X12 h1 h2 h3 h4 hS
          clear BB
          clear FM
          replace hS : Below V.heap.size V X12 ∧ (FmI V.heap.size 3 (x) (nnR J 0) (ffR sf cf vf 0) X12) := hS
          obtain ⟨BB, FM⟩ := hS
          replace t0 := (h3 0 (by decide)).trans t0
          replace t1 := (h3 1 (by decide)).trans t1
          replace t2 := (h3 2 (by decide)).trans t2
          replace t8 := (h3 8 (by decide)).trans t8
          replace t9 := (h3 9 (by decide)).trans t9
          replace t10 := (h3 10 (by decide)).trans t10
          have t13 : a.eval (.tmp 13) = .slice none 0 0 := h4 0 _ rfl _ rfl
          replace A := (⟨h1, h2.trans A.2⟩ : a.tmps.size = 128 ∧ a.defers = [])
          clear h1 h2 h3 h4
          refine wp_seq ?_
          refine wp_seq ?_
          refine wp_region_sq (σ := Unit) 128 [(0, 14)] (fun j_ s X => match j_ with | 0 => Below V.heap.size V X ∧ (FmI V.heap.size 3 (x) (nnR J 0) (ffR sf cf vf 0) X) | _ => Below V.heap.size V X ∧ (FmI V.heap.size 3 (x) (nnR J 0) (ffR sf cf vf 0) X)) (fun s => fun i_ => match i_ with | 0 => .int .i64 ((0 : Nat) : Int) | _ => undef) () A.1 (by kernel_rfl) (by decide) (by decide) ⟨BB, FM⟩ ?_ ?_
          · intro i_ hi_ s a X hf hv hn hS
            match i_, hi_ with
            | 0, _ => exact stepV rfl rfl (execAsgB rfl rfl) ⟨s, ⟨_, rfl, rfl⟩, hS, fun _ _ => rfl⟩
            | k_ + 1, h_ => exact absurd h_ (by simp)
          rintro _ a X13 h1 h2 h3 h4 hS
          clear BB
          clear FM
          replace hS : Below V.heap.size V X13 ∧ (FmI V.heap.size 3 (x) (nnR J 0) (ffR sf cf vf 0) X13) := hS
          obtain ⟨BB, FM⟩ := hS
          replace t0 := (h3 0 (by decide)).trans t0
          replace t1 := (h3 1 (by decide)).trans t1
          replace t2 := (h3 2 (by decide)).trans t2
          replace t8 := (h3 8 (by decide)).trans t8
          replace t9 := (h3 9 (by decide)).trans t9
          replace t10 := (h3 10 (by decide)).trans t10
          replace t13 := (h3 13 (by decide)).trans t13
          have t14 : a.eval (.tmp 14) = .int .i64 ((0 : Nat) : Int) := h4 0 _ rfl _ rfl
          replace A := (⟨h1, h2.trans A.2⟩ : a.tmps.size = 128 ∧ a.defers = [])
          clear h1 h2 h3 h4
          have FMb : (FmI V.heap.size 3 (updX x 2 (.slice none 0 0)) (nnR J 0) (ffR sf cf vf 0) X13) := FmI.renew FM (by omega) rfl
          clear FM
          refine wp_block ?_
          refine wp_loop (fun a W => ∃ (p : Nat) (y : Nat → Value), p ≤ n ∧ (allB (rdB sf J cf vf) p = true) ∧ (a.tmps.size = 128 ∧ a.defers = []) ∧ a.eval (.tmp 0) = v ∧ a.eval (.tmp 1) = u0 ∧ a.eval (.tmp 2) = u1 ∧ a.eval (.tmp 8) = .int .i64 ((n : Nat) : Int) ∧ a.eval (.tmp 9) = y 0 ∧ a.eval (.tmp 10) = y 1 ∧ a.eval (.tmp 13) = y 2 ∧ a.eval (.tmp 14) = .int .i64 ((p : Nat) : Int) ∧ Below V.heap.size V W ∧ (FmI V.heap.size 3 (y) (nnR J p) (ffR sf cf vf p) W)) (fun a _ => n - (intOf (a.eval (.tmp 14))).toNat) ⟨0, updX x 2 (.slice none 0 0), Nat.zero_le _, rfl, A, t0, t1, t2, t8, t9, t10, t13, t14, BB, FMb⟩ ?_
          clear A t0 t1 t2 t8 t9 t10 t13 t14 BB FMb a
          rintro a XL14 ⟨p, y, hp, hrd, A, t0, t1, t2, t8, t9, t10, t13, t14, BB, FMb⟩
          have esp := t14
          refine wp_seq ?_
          refine wp_seq ?_
          refine wp_region_sq (σ := Unit) 128 [(0, 58), (1, 59), (2, 60)] (fun j_ s X => match j_ with | 0 => Below V.heap.size V X ∧ (FmI V.heap.size 3 (y) (nnR J p) (ffR sf cf vf p) X) | 1 => Below V.heap.size V X ∧ (FmI V.heap.size 3 (y) (nnR J p) (ffR sf cf vf p) X) | 2 => Below V.heap.size V X ∧ (FmI V.heap.size 3 (y) (nnR J p) (ffR sf cf vf p) X) | _ => Below V.heap.size V X ∧ (FmI V.heap.size 3 (y) (nnR J p) (ffR sf cf vf p) X)) (fun s => fun i_ => match i_ with | 0 => .int .i64 ((p : Nat) : Int) | 1 => .int .i64 ((n : Nat) : Int) | 2 => .bool (decide (p < n)) | _ => undef) () A.1 (by kernel_rfl) (by decide) (by decide) ⟨BB, FMb⟩ ?_ ?_
          · intro i_ hi_ s a X hf hv hn hS
            match i_, hi_ with
            | 0, _ => exact stepV rfl rfl (execMvB rfl ((hf 14 (by decide)).trans t14)) ⟨s, ⟨_, rfl, rfl⟩, hS, fun _ _ => rfl⟩
            | 1, _ => exact stepV rfl rfl (execMvB rfl ((hf 8 (by decide)).trans t8)) ⟨s, ⟨_, rfl, rfl⟩, hS, fun _ _ => rfl⟩
            | 2, _ => exact stepV rfl rfl (execLtW (p := p) (q := n) rfl (hv 0 (by decide) _ rfl _ rfl) (hv 1 (by decide) _ rfl _ rfl)) ⟨s, ⟨_, rfl, rfl⟩, hS, fun _ _ => rfl⟩
            | k_ + 3, h_ => exact absurd h_ (by simp)
          rintro _ a X14 h1 h2 h3 h4 hS
          clear BB
          clear FMb
          replace hS : Below V.heap.size V X14 ∧ (FmI V.heap.size 3 (y) (nnR J p) (ffR sf cf vf p) X14) := hS
          obtain ⟨BB, FMb⟩ := hS
          replace t0 := (h3 0 (by decide)).trans t0
          replace t1 := (h3 1 (by decide)).trans t1
          replace t2 := (h3 2 (by decide)).trans t2
          replace t8 := (h3 8 (by decide)).trans t8
          replace t9 := (h3 9 (by decide)).trans t9
          replace t10 := (h3 10 (by decide)).trans t10
          replace t13 := (h3 13 (by decide)).trans t13
          replace t14 := (h3 14 (by decide)).trans t14
          have t60 : a.eval (.tmp 60) = .bool (decide (p < n)) := h4 2 _ rfl _ rfl
          replace A := (⟨h1, h2.trans A.2⟩ : a.tmps.size = 128 ∧ a.defers = [])
          clear h1 h2 h3 h4
          by_cases ltp : p < n
          · rw [decide_eq_true ltp] at t60
            refine wp_cond_true t60 ?_
            refine wp_skip ?_
            clear t60
            refine wp_seq ?_
            refine wp_block ?_
            obtain ⟨ccb, cco, ccc, ecc, hccb, hccc⟩ := open_sl FJ (by omega)
            have ccc : ∀ k, k < n → ∀ X, Below V.heap.size V X → X.cell? ⟨ccb, cco + k, none⟩ = some (.int .i64 ((cf) k)) := fun k hk X hX => by rw [cell_below hX hccb]; exact hccc k hk
            by_cases h1 : cf p < 0
            · refine wp_seq ?_
              refine wp_region_sq (σ := Unit) 128 [(0, 63), (1, 64), (2, 65), (3, 66), (4, 15)] (fun j_ s X => match j_ with | 0 => Below V.heap.size V X ∧ (FmI V.heap.size 3 (y) (nnR J p) (ffR sf cf vf p) X) | 1 => Below V.heap.size V X ∧ (FmI V.heap.size 3 (y) (nnR J p) (ffR sf cf vf p) X) | 2 => Below V.heap.size V X ∧ (FmI V.heap.size 3 (y) (nnR J p) (ffR sf cf vf p) X) | 3 => Below V.heap.size V X ∧ (FmI V.heap.size 3 (y) (nnR J p) (ffR sf cf vf p) X) | 4 => Below V.heap.size V X ∧ (FmI V.heap.size 3 (y) (nnR J p) (ffR sf cf vf p) X) | _ => Below V.heap.size V X ∧ (FmI V.heap.size 3 (y) (nnR J p) (ffR sf cf vf p) X)) (fun s => fun i_ => match i_ with | 0 => u0 | 1 => .int .i64 ((p : Nat) : Int) | 2 => .pointer (some ⟨ccb, cco + p, none⟩) | 3 => .int .i64 (cf p) | 4 => .int .i64 (cf p) | _ => undef) () A.1 (by kernel_rfl) (by decide) (by decide) ⟨BB, FMb⟩ ?_ ?_
              · intro i_ hi_ s a X hf hv hn hS
                match i_, hi_ with
                | 0, _ => exact stepV rfl rfl (execMvB rfl ((hf 1 (by decide)).trans t1)) ⟨s, ⟨_, rfl, rfl⟩, hS, fun _ _ => rfl⟩
                | 1, _ => exact stepV rfl rfl (execMvB rfl ((hf 14 (by decide)).trans t14)) ⟨s, ⟨_, rfl, rfl⟩, hS, fun _ _ => rfl⟩
                | 2, _ => exact stepV rfl rfl (execIdxN (k := p) rfl ((hv 0 (by decide) _ rfl _ rfl).trans ecc) (hv 1 (by decide) _ rfl _ rfl) ltp) ⟨s, ⟨_, rfl, rfl⟩, hS, fun _ _ => rfl⟩
                | 3, _ => exact stepV rfl rfl (execLd3 rfl (hv 2 (by decide) _ rfl _ rfl) (ccc p ltp X hS.1)) ⟨s, ⟨_, rfl, rfl⟩, hS, fun _ _ => rfl⟩
                | 4, _ => exact stepV rfl rfl (execAsgB rfl (hv 3 (by decide) _ rfl _ rfl)) ⟨s, ⟨_, rfl, rfl⟩, hS, fun _ _ => rfl⟩
                | k_ + 5, h_ => exact absurd h_ (by simp)
              rintro _ a X16 h1 h2 h3 h4 hS
              clear BB
              clear FMb
              replace hS : Below V.heap.size V X16 ∧ (FmI V.heap.size 3 (y) (nnR J p) (ffR sf cf vf p) X16) := hS
              obtain ⟨BB, FMb⟩ := hS
              replace t0 := (h3 0 (by decide)).trans t0
              replace t1 := (h3 1 (by decide)).trans t1
              replace t2 := (h3 2 (by decide)).trans t2
              replace t8 := (h3 8 (by decide)).trans t8
              replace t9 := (h3 9 (by decide)).trans t9
              replace t10 := (h3 10 (by decide)).trans t10
              replace t13 := (h3 13 (by decide)).trans t13
              replace t14 := (h3 14 (by decide)).trans t14
              have t15 : a.eval (.tmp 15) = .int .i64 (cf p) := h4 4 _ rfl _ rfl
              replace A := (⟨h1, h2.trans A.2⟩ : a.tmps.size = 128 ∧ a.defers = [])
              clear h1 h2 h3 h4
              refine wp_seq ?_
              refine wp_seq ?_
              refine wp_region_sq (σ := Unit) 128 [(0, 67), (1, 68), (2, 69), (3, 70), (4, 71), (5, 72), (6, 73), (7, 74), (8, 75), (9, 76), (10, 77), (11, 78), (12, 79), (13, 80), (14, 81)] (fun j_ s X => match j_ with | 0 => Below V.heap.size V X ∧ (FmI V.heap.size 3 (y) (nnR J p) (ffR sf cf vf p) X) | 1 => Below V.heap.size V X ∧ (FmI V.heap.size 3 (y) (nnR J p) (ffR sf cf vf p) X) | 2 => Below V.heap.size V X ∧ (FmI V.heap.size 3 (y) (nnR J p) (ffR sf cf vf p) X) | 3 => Below V.heap.size V X ∧ (FmI V.heap.size 3 (y) (nnR J p) (ffR sf cf vf p) X) | 4 => Below V.heap.size V X ∧ (FmI V.heap.size 3 (y) (nnR J p) (ffR sf cf vf p) X) | 5 => Below V.heap.size V X ∧ (FmI V.heap.size 3 (y) (nnR J p) (ffR sf cf vf p) X) | 6 => Below V.heap.size V X ∧ (FmI V.heap.size 3 (y) (nnR J p) (ffR sf cf vf p) X) | 7 => Below V.heap.size V X ∧ (FmI V.heap.size 3 (y) (nnR J p) (ffR sf cf vf p) X) | 8 => Below V.heap.size V X ∧ (FmI V.heap.size 3 (y) (nnR J p) (ffR sf cf vf p) X) | 9 => Below V.heap.size V X ∧ (FmI V.heap.size 3 (y) (nnR J p) (ffR sf cf vf p) X) | 10 => Below V.heap.size V X ∧ (FmI V.heap.size 3 (y) (nnR J p) (ffR sf cf vf p) X) | 11 => Below V.heap.size V X ∧ (FmI V.heap.size 3 (y) (nnR J p) (ffR sf cf vf p) X) | 12 => Below V.heap.size V X ∧ (FmI V.heap.size 3 (y) (nnR J p) (ffR sf cf vf p) X) | 13 => Below V.heap.size V X ∧ (FmI V.heap.size 3 (y) (nnR J p) (ffR sf cf vf p) X) | 14 => Below V.heap.size V X ∧ (FmI V.heap.size 3 (y) (nnR J p) (ffR sf cf vf p) X) | _ => Below V.heap.size V X ∧ (FmI V.heap.size 3 (y) (nnR J p) (ffR sf cf vf p) X)) (fun s => fun i_ => match i_ with | 0 => .int .i64 (cf p) | 1 => .bool true | 2 => .bool true | 3 => undef | 4 => undef | 5 => undef | 6 => undef | 7 => .bool true | 8 => .bool true | 9 => undef | 10 => undef | 11 => undef | 12 => undef | 13 => undef | 14 => .bool true | _ => undef) () A.1 (by kernel_rfl) (by decide) (by decide) ⟨BB, FMb⟩ ?_ ?_
              · intro i_ hi_ s a X hf hv hn hS
                match i_, hi_ with
                | 0, _ => exact stepV rfl rfl (execMvB rfl ((hf 15 (by decide)).trans t15)) ⟨s, ⟨_, rfl, rfl⟩, hS, fun _ _ => rfl⟩
                | 1, _ => exact stepV rfl rfl (execLtCt (p := (cf p)) (q := 0) rfl (hv 0 (by decide) _ rfl _ rfl) (by exact h1)) ⟨s, ⟨_, rfl, rfl⟩, hS, fun _ _ => rfl⟩
                | 2, _ => exact stepV rfl rfl (execMvB rfl (hv 1 (by decide) _ rfl _ rfl)) ⟨s, ⟨_, rfl, rfl⟩, hS, fun _ _ => rfl⟩
                | 3, _ => exact stepU rfl (unwantedOf rfl (yieldedAt rfl rfl (show a.eval (.tmp 69) = .bool (!false) from (hv 2 (by decide) _ rfl _ rfl)))) ⟨s, ⟨_, rfl, rfl⟩, hS, fun _ _ => rfl⟩
                | 4, _ => exact stepU rfl (unwantedOf rfl (yieldedAt rfl rfl (show a.eval (.tmp 69) = .bool (!false) from (hv 2 (by decide) _ rfl _ rfl)))) ⟨s, ⟨_, rfl, rfl⟩, hS, fun _ _ => rfl⟩
                | 5, _ => exact stepU rfl (unwantedOf rfl (yieldedAt rfl rfl (show a.eval (.tmp 69) = .bool (!false) from (hv 2 (by decide) _ rfl _ rfl)))) ⟨s, ⟨_, rfl, rfl⟩, hS, fun _ _ => rfl⟩
                | 6, _ => exact stepU rfl (unwantedOf rfl (yieldedAt rfl rfl (show a.eval (.tmp 69) = .bool (!false) from (hv 2 (by decide) _ rfl _ rfl)))) ⟨s, ⟨_, rfl, rfl⟩, hS, fun _ _ => rfl⟩
                | 7, _ => exact stepV rfl rfl (execPickT rfl (hv 2 (by decide) _ rfl _ rfl) rfl) ⟨s, ⟨_, rfl, rfl⟩, hS, fun _ _ => rfl⟩
                | 8, _ => exact stepV rfl rfl (execMvB rfl (hv 7 (by decide) _ rfl _ rfl)) ⟨s, ⟨_, rfl, rfl⟩, hS, fun _ _ => rfl⟩
                | 9, _ => exact stepU rfl (unwantedOf rfl (yieldedAt rfl rfl (show a.eval (.tmp 75) = .bool (!false) from (hv 8 (by decide) _ rfl _ rfl)))) ⟨s, ⟨_, rfl, rfl⟩, hS, fun _ _ => rfl⟩
                | 10, _ => exact stepU rfl (unwantedOf rfl (yieldedAt rfl rfl (show a.eval (.tmp 75) = .bool (!false) from (hv 8 (by decide) _ rfl _ rfl)))) ⟨s, ⟨_, rfl, rfl⟩, hS, fun _ _ => rfl⟩
                | 11, _ => exact stepU rfl (unwantedOf rfl (yieldedAt rfl rfl (show a.eval (.tmp 75) = .bool (!false) from (hv 8 (by decide) _ rfl _ rfl)))) ⟨s, ⟨_, rfl, rfl⟩, hS, fun _ _ => rfl⟩
                | 12, _ => exact stepU rfl (unwantedOf rfl (yieldedAt rfl rfl (show a.eval (.tmp 75) = .bool (!false) from (hv 8 (by decide) _ rfl _ rfl)))) ⟨s, ⟨_, rfl, rfl⟩, hS, fun _ _ => rfl⟩
                | 13, _ => exact stepU rfl (unwantedOf rfl (yieldedAt rfl rfl (show a.eval (.tmp 75) = .bool (!false) from (hv 8 (by decide) _ rfl _ rfl)))) ⟨s, ⟨_, rfl, rfl⟩, hS, fun _ _ => rfl⟩
                | 14, _ => exact stepV rfl rfl (execPickT rfl (hv 8 (by decide) _ rfl _ rfl) rfl) ⟨s, ⟨_, rfl, rfl⟩, hS, fun _ _ => rfl⟩
                | k_ + 15, h_ => exact absurd h_ (by simp)
              rintro _ a X17 h1 h2 h3 h4 hS
              clear BB
              clear FMb
              replace hS : Below V.heap.size V X17 ∧ (FmI V.heap.size 3 (y) (nnR J p) (ffR sf cf vf p) X17) := hS
              obtain ⟨BB, FMb⟩ := hS
              replace t0 := (h3 0 (by decide)).trans t0
              replace t1 := (h3 1 (by decide)).trans t1
              replace t2 := (h3 2 (by decide)).trans t2
              replace t8 := (h3 8 (by decide)).trans t8
              replace t9 := (h3 9 (by decide)).trans t9
              replace t10 := (h3 10 (by decide)).trans t10
              replace t13 := (h3 13 (by decide)).trans t13
              replace t14 := (h3 14 (by decide)).trans t14
              replace t15 := (h3 15 (by decide)).trans t15
              have t81 : a.eval (.tmp 81) = .bool true := h4 14 _ rfl _ rfl
              replace A := (⟨h1, h2.trans A.2⟩ : a.tmps.size = 128 ∧ a.defers = [])
              clear h1 h2 h3 h4
              refine wp_cond_true t81 ?_
              refine wp_seq ?_
              clear FMb
              refine wp_region_sq (σ := Unit) 128 [(0, 6), (1, 7)] (fun j_ s X => match j_ with | 0 => Below V.heap.size V X | 1 => Below V.heap.size V X | _ => Below V.heap.size V X) (fun s => fun i_ => match i_ with | 0 => .slice none 0 0 | 1 => .int .i64 ((2 : Nat) : Int) | _ => undef) () A.1 (by kernel_rfl) (by decide) (by decide) (BB) ?_ ?_
              · intro i_ hi_ s a X hf hv hn hS
                match i_, hi_ with
                | 0, _ => exact stepV rfl rfl (execAsgB rfl rfl) ⟨s, ⟨_, rfl, rfl⟩, hS, fun _ _ => rfl⟩
                | 1, _ => exact stepV rfl rfl (execAsgB rfl rfl) ⟨s, ⟨_, rfl, rfl⟩, hS, fun _ _ => rfl⟩
                | k_ + 2, h_ => exact absurd h_ (by simp)
              rintro _ a X18 h1 h2 h3 h4 hS
              clear BB
              replace hS : Below V.heap.size V X18 := hS
              have BB := hS
              clear hS
              have t6 : a.eval (.tmp 6) = .slice none 0 0 := h4 0 _ rfl _ rfl
              have t7 : a.eval (.tmp 7) = .int .i64 ((2 : Nat) : Int) := h4 1 _ rfl _ rfl
              replace A := (⟨h1, h2.trans A.2⟩ : a.tmps.size = 128 ∧ a.defers = [])
              clear h1 h2 h3 h4
              clear t0 t1 t2 t8 t9 t10 t13 t14 t15
              have hE : drE sf J cf n vf m = 2 := drE_no fun q => by have h_ := (rdB_iff.1 (allB_iff.1 ((rd_dr hs).2 q).2.2 p ltp)).1; omega
              rw [hE, zl_no (by decide)]
              refine wp_ret ?_
              repeat (first | with_reducible refine ret_in ?_ | with_reducible refine ret_then ?_)
              refine bodyPost_ret (results_tmp2 rfl _ _ _) A.2 ⟨_, ?_, World.ownsRow_nil _ _ _ _, BB⟩
              show Ending.returned (.tuple #[a.eval (.tmp 6), a.eval (.tmp 7)]) = _
              rw [t6, t7]
            · by_cases h2 : (J : Int) ≤ cf p
              · obtain ⟨c, ec0⟩ : ∃ c : Nat, cf p = c := ⟨(cf p).toNat, by omega⟩
                have ec : gN cf p = c := by show (cf p).toNat = c; omega
                refine wp_seq ?_
                refine wp_region_sq (σ := Unit) 128 [(0, 63), (1, 64), (2, 65), (3, 66), (4, 15)] (fun j_ s X => match j_ with | 0 => Below V.heap.size V X ∧ (FmI V.heap.size 3 (y) (nnR J p) (ffR sf cf vf p) X) | 1 => Below V.heap.size V X ∧ (FmI V.heap.size 3 (y) (nnR J p) (ffR sf cf vf p) X) | 2 => Below V.heap.size V X ∧ (FmI V.heap.size 3 (y) (nnR J p) (ffR sf cf vf p) X) | 3 => Below V.heap.size V X ∧ (FmI V.heap.size 3 (y) (nnR J p) (ffR sf cf vf p) X) | 4 => Below V.heap.size V X ∧ (FmI V.heap.size 3 (y) (nnR J p) (ffR sf cf vf p) X) | _ => Below V.heap.size V X ∧ (FmI V.heap.size 3 (y) (nnR J p) (ffR sf cf vf p) X)) (fun s => fun i_ => match i_ with | 0 => u0 | 1 => .int .i64 ((p : Nat) : Int) | 2 => .pointer (some ⟨ccb, cco + p, none⟩) | 3 => .int .i64 ((c : Nat) : Int) | 4 => .int .i64 ((c : Nat) : Int) | _ => undef) () A.1 (by kernel_rfl) (by decide) (by decide) ⟨BB, FMb⟩ ?_ ?_
                · intro i_ hi_ s a X hf hv hn hS
                  match i_, hi_ with
                  | 0, _ => exact stepV rfl rfl (execMvB rfl ((hf 1 (by decide)).trans t1)) ⟨s, ⟨_, rfl, rfl⟩, hS, fun _ _ => rfl⟩
                  | 1, _ => exact stepV rfl rfl (execMvB rfl ((hf 14 (by decide)).trans t14)) ⟨s, ⟨_, rfl, rfl⟩, hS, fun _ _ => rfl⟩
                  | 2, _ => exact stepV rfl rfl (execIdxN (k := p) rfl ((hv 0 (by decide) _ rfl _ rfl).trans ecc) (hv 1 (by decide) _ rfl _ rfl) ltp) ⟨s, ⟨_, rfl, rfl⟩, hS, fun _ _ => rfl⟩
                  | 3, _ => exact stepV rfl rfl (execLd3 rfl (hv 2 (by decide) _ rfl _ rfl) ((ccc p ltp X hS.1).trans (by rw [ec0]))) ⟨s, ⟨_, rfl, rfl⟩, hS, fun _ _ => rfl⟩
                  | 4, _ => exact stepV rfl rfl (execAsgB rfl (hv 3 (by decide) _ rfl _ rfl)) ⟨s, ⟨_, rfl, rfl⟩, hS, fun _ _ => rfl⟩
                  | k_ + 5, h_ => exact absurd h_ (by simp)
                rintro _ a X16 h1 h2 h3 h4 hS
                clear BB
                clear FMb
                replace hS : Below V.heap.size V X16 ∧ (FmI V.heap.size 3 (y) (nnR J p) (ffR sf cf vf p) X16) := hS
                obtain ⟨BB, FMb⟩ := hS
                replace t0 := (h3 0 (by decide)).trans t0
                replace t1 := (h3 1 (by decide)).trans t1
                replace t2 := (h3 2 (by decide)).trans t2
                replace t8 := (h3 8 (by decide)).trans t8
                replace t9 := (h3 9 (by decide)).trans t9
                replace t10 := (h3 10 (by decide)).trans t10
                replace t13 := (h3 13 (by decide)).trans t13
                replace t14 := (h3 14 (by decide)).trans t14
                have t15 : a.eval (.tmp 15) = .int .i64 ((c : Nat) : Int) := h4 4 _ rfl _ rfl
                replace A := (⟨h1, h2.trans A.2⟩ : a.tmps.size = 128 ∧ a.defers = [])
                clear h1 h2 h3 h4
                refine wp_seq ?_
                refine wp_seq ?_
                refine wp_region_sq (σ := Unit) 128 [(0, 67), (1, 68), (2, 69), (3, 70), (4, 71), (5, 72), (6, 73), (7, 74), (8, 75), (9, 76), (10, 77), (11, 78), (12, 79), (13, 80), (14, 81)] (fun j_ s X => match j_ with | 0 => Below V.heap.size V X ∧ (FmI V.heap.size 3 (y) (nnR J p) (ffR sf cf vf p) X) | 1 => Below V.heap.size V X ∧ (FmI V.heap.size 3 (y) (nnR J p) (ffR sf cf vf p) X) | 2 => Below V.heap.size V X ∧ (FmI V.heap.size 3 (y) (nnR J p) (ffR sf cf vf p) X) | 3 => Below V.heap.size V X ∧ (FmI V.heap.size 3 (y) (nnR J p) (ffR sf cf vf p) X) | 4 => Below V.heap.size V X ∧ (FmI V.heap.size 3 (y) (nnR J p) (ffR sf cf vf p) X) | 5 => Below V.heap.size V X ∧ (FmI V.heap.size 3 (y) (nnR J p) (ffR sf cf vf p) X) | 6 => Below V.heap.size V X ∧ (FmI V.heap.size 3 (y) (nnR J p) (ffR sf cf vf p) X) | 7 => Below V.heap.size V X ∧ (FmI V.heap.size 3 (y) (nnR J p) (ffR sf cf vf p) X) | 8 => Below V.heap.size V X ∧ (FmI V.heap.size 3 (y) (nnR J p) (ffR sf cf vf p) X) | 9 => Below V.heap.size V X ∧ (FmI V.heap.size 3 (y) (nnR J p) (ffR sf cf vf p) X) | 10 => Below V.heap.size V X ∧ (FmI V.heap.size 3 (y) (nnR J p) (ffR sf cf vf p) X) | 11 => Below V.heap.size V X ∧ (FmI V.heap.size 3 (y) (nnR J p) (ffR sf cf vf p) X) | 12 => Below V.heap.size V X ∧ (FmI V.heap.size 3 (y) (nnR J p) (ffR sf cf vf p) X) | 13 => Below V.heap.size V X ∧ (FmI V.heap.size 3 (y) (nnR J p) (ffR sf cf vf p) X) | 14 => Below V.heap.size V X ∧ (FmI V.heap.size 3 (y) (nnR J p) (ffR sf cf vf p) X) | _ => Below V.heap.size V X ∧ (FmI V.heap.size 3 (y) (nnR J p) (ffR sf cf vf p) X)) (fun s => fun i_ => match i_ with | 0 => .int .i64 ((c : Nat) : Int) | 1 => .bool false | 2 => .bool false | 3 => .int .i64 ((c : Nat) : Int) | 4 => v | 5 => .int .i64 ((J : Nat) : Int) | 6 => .bool true | 7 => .bool true | 8 => .bool true | 9 => undef | 10 => undef | 11 => undef | 12 => undef | 13 => undef | 14 => .bool true | _ => undef) () A.1 (by kernel_rfl) (by decide) (by decide) ⟨BB, FMb⟩ ?_ ?_
                · intro i_ hi_ s a X hf hv hn hS
                  match i_, hi_ with
                  | 0, _ => exact stepV rfl rfl (execMvB rfl ((hf 15 (by decide)).trans t15)) ⟨s, ⟨_, rfl, rfl⟩, hS, fun _ _ => rfl⟩
                  | 1, _ => exact stepV rfl rfl (execDec (execLtW (p := c) (q := 0) rfl (hv 0 (by decide) _ rfl _ rfl) rfl) (decide_eq_false (by omega))) ⟨s, ⟨_, rfl, rfl⟩, hS, fun _ _ => rfl⟩
                  | 2, _ => exact stepV rfl rfl (execMvB rfl (hv 1 (by decide) _ rfl _ rfl)) ⟨s, ⟨_, rfl, rfl⟩, hS, fun _ _ => rfl⟩
                  | 3, _ => exact stepV rfl (wantedOf rfl (yieldedAt rfl rfl (show a.eval (.tmp 69) = .bool false from (hv 2 (by decide) _ rfl _ rfl)))) (execMvB rfl ((hf 15 (by decide)).trans t15)) ⟨s, ⟨_, rfl, rfl⟩, hS, fun _ _ => rfl⟩
                  | 4, _ => exact stepV rfl (wantedOf rfl (yieldedAt rfl rfl (show a.eval (.tmp 69) = .bool false from (hv 2 (by decide) _ rfl _ rfl)))) (execMvB rfl ((hf 0 (by decide)).trans t0)) ⟨s, ⟨_, rfl, rfl⟩, hS, fun _ _ => rfl⟩
                  | 5, _ => exact stepV rfl (wantedOf rfl (yieldedAt rfl rfl (show a.eval (.tmp 69) = .bool false from (hv 2 (by decide) _ rfl _ rfl)))) (execLenI (len := J) rfl (hv 4 (by decide) _ rfl _ rfl) ((FI.on hS.1)).shp) ⟨s, ⟨_, rfl, rfl⟩, hS, fun _ _ => rfl⟩
                  | 6, _ => exact stepV rfl (wantedOf rfl (yieldedAt rfl rfl (show a.eval (.tmp 69) = .bool false from (hv 2 (by decide) _ rfl _ rfl)))) (execDec (execGe8 (p := c) (q := J) rfl (hv 3 (by decide) _ rfl _ rfl) (hv 5 (by decide) _ rfl _ rfl)) (decide_eq_true (by omega))) ⟨s, ⟨_, rfl, rfl⟩, hS, fun _ _ => rfl⟩
                  | 7, _ => exact stepV rfl rfl (execPickF rfl (hv 2 (by decide) _ rfl _ rfl) (hv 6 (by decide) _ rfl _ rfl)) ⟨s, ⟨_, rfl, rfl⟩, hS, fun _ _ => rfl⟩
                  | 8, _ => exact stepV rfl rfl (execMvB rfl (hv 7 (by decide) _ rfl _ rfl)) ⟨s, ⟨_, rfl, rfl⟩, hS, fun _ _ => rfl⟩
                  | 9, _ => exact stepU rfl (unwantedOf rfl (yieldedAt rfl rfl (show a.eval (.tmp 75) = .bool (!false) from (hv 8 (by decide) _ rfl _ rfl)))) ⟨s, ⟨_, rfl, rfl⟩, hS, fun _ _ => rfl⟩
                  | 10, _ => exact stepU rfl (unwantedOf rfl (yieldedAt rfl rfl (show a.eval (.tmp 75) = .bool (!false) from (hv 8 (by decide) _ rfl _ rfl)))) ⟨s, ⟨_, rfl, rfl⟩, hS, fun _ _ => rfl⟩
                  | 11, _ => exact stepU rfl (unwantedOf rfl (yieldedAt rfl rfl (show a.eval (.tmp 75) = .bool (!false) from (hv 8 (by decide) _ rfl _ rfl)))) ⟨s, ⟨_, rfl, rfl⟩, hS, fun _ _ => rfl⟩
                  | 12, _ => exact stepU rfl (unwantedOf rfl (yieldedAt rfl rfl (show a.eval (.tmp 75) = .bool (!false) from (hv 8 (by decide) _ rfl _ rfl)))) ⟨s, ⟨_, rfl, rfl⟩, hS, fun _ _ => rfl⟩
                  | 13, _ => exact stepU rfl (unwantedOf rfl (yieldedAt rfl rfl (show a.eval (.tmp 75) = .bool (!false) from (hv 8 (by decide) _ rfl _ rfl)))) ⟨s, ⟨_, rfl, rfl⟩, hS, fun _ _ => rfl⟩
                  | 14, _ => exact stepV rfl rfl (execPickT rfl (hv 8 (by decide) _ rfl _ rfl) rfl) ⟨s, ⟨_, rfl, rfl⟩, hS, fun _ _ => rfl⟩
                  | k_ + 15, h_ => exact absurd h_ (by simp)
                rintro _ a X17 h1 h2 h3 h4 hS
                clear BB
                clear FMb
                replace hS : Below V.heap.size V X17 ∧ (FmI V.heap.size 3 (y) (nnR J p) (ffR sf cf vf p) X17) := hS
                obtain ⟨BB, FMb⟩ := hS
                replace t0 := (h3 0 (by decide)).trans t0
                replace t1 := (h3 1 (by decide)).trans t1
                replace t2 := (h3 2 (by decide)).trans t2
                replace t8 := (h3 8 (by decide)).trans t8
                replace t9 := (h3 9 (by decide)).trans t9
                replace t10 := (h3 10 (by decide)).trans t10
                replace t13 := (h3 13 (by decide)).trans t13
                replace t14 := (h3 14 (by decide)).trans t14
                replace t15 := (h3 15 (by decide)).trans t15
                have t81 : a.eval (.tmp 81) = .bool true := h4 14 _ rfl _ rfl
                replace A := (⟨h1, h2.trans A.2⟩ : a.tmps.size = 128 ∧ a.defers = [])
                clear h1 h2 h3 h4
                refine wp_cond_true t81 ?_
                refine wp_seq ?_
                clear FMb
                refine wp_region_sq (σ := Unit) 128 [(0, 6), (1, 7)] (fun j_ s X => match j_ with | 0 => Below V.heap.size V X | 1 => Below V.heap.size V X | _ => Below V.heap.size V X) (fun s => fun i_ => match i_ with | 0 => .slice none 0 0 | 1 => .int .i64 ((2 : Nat) : Int) | _ => undef) () A.1 (by kernel_rfl) (by decide) (by decide) (BB) ?_ ?_
                · intro i_ hi_ s a X hf hv hn hS
                  match i_, hi_ with
                  | 0, _ => exact stepV rfl rfl (execAsgB rfl rfl) ⟨s, ⟨_, rfl, rfl⟩, hS, fun _ _ => rfl⟩
                  | 1, _ => exact stepV rfl rfl (execAsgB rfl rfl) ⟨s, ⟨_, rfl, rfl⟩, hS, fun _ _ => rfl⟩
                  | k_ + 2, h_ => exact absurd h_ (by simp)
                rintro _ a X18 h1 h2 h3 h4 hS
                clear BB
                replace hS : Below V.heap.size V X18 := hS
                have BB := hS
                clear hS
                have t6 : a.eval (.tmp 6) = .slice none 0 0 := h4 0 _ rfl _ rfl
                have t7 : a.eval (.tmp 7) = .int .i64 ((2 : Nat) : Int) := h4 1 _ rfl _ rfl
                replace A := (⟨h1, h2.trans A.2⟩ : a.tmps.size = 128 ∧ a.defers = [])
                clear h1 h2 h3 h4
                clear t0 t1 t2 t8 t9 t10 t13 t14 t15
                have hE : drE sf J cf n vf m = 2 := drE_no fun q => by have h_ := (rdB_iff.1 (allB_iff.1 ((rd_dr hs).2 q).2.2 p ltp)).1; omega
                rw [hE, zl_no (by decide)]
                refine wp_ret ?_
                repeat (first | with_reducible refine ret_in ?_ | with_reducible refine ret_then ?_)
                refine bodyPost_ret (results_tmp2 rfl _ _ _) A.2 ⟨_, ?_, World.ownsRow_nil _ _ _ _, BB⟩
                show Ending.returned (.tuple #[a.eval (.tmp 6), a.eval (.tmp 7)]) = _
                rw [t6, t7]
              · by_cases h3 : lefC (gN sf) (gN cf) p (gN cf p) = 0
                · obtain ⟨c, ec0⟩ : ∃ c : Nat, cf p = c := ⟨(cf p).toNat, by omega⟩
                  have ec : gN cf p = c := by show (cf p).toNat = c; omega
                  have hcJ : c < J := by omega
                  obtain ⟨g0, c0, ey0, hB0, _⟩ := ownL_some9 (FMb.rows 0 (by omega)) (show 0 < J by omega)
                  obtain ⟨g1, c1, ey1, hB1, _⟩ := ownL_some9 (FMb.rows 1 (by omega)) (show 0 < J by omega)
                  obtain ⟨q_, eq⟩ : ∃ q_, lefC (gN sf) (gN cf) p c = q_ := ⟨_, rfl⟩
                  obtain ⟨p_, ep⟩ : ∃ p_, sumN (gN sf) c + cntC (gN cf) c p = p_ := ⟨_, rfl⟩
                  have hsc := sumN_at (r := gN sf) hcJ
                  have hp0 : poC (gN sf) (gN cf) p = p_ := by rw [← ep, ← ec]; rfl
                  refine wp_seq ?_
                  refine wp_region_sq (σ := Unit) 128 [(0, 63), (1, 64), (2, 65), (3, 66), (4, 15)] (fun j_ s X => match j_ with | 0 => Below V.heap.size V X ∧ (FmI V.heap.size 3 (y) (nnR J p) (ffR sf cf vf p) X) | 1 => Below V.heap.size V X ∧ (FmI V.heap.size 3 (y) (nnR J p) (ffR sf cf vf p) X) | 2 => Below V.heap.size V X ∧ (FmI V.heap.size 3 (y) (nnR J p) (ffR sf cf vf p) X) | 3 => Below V.heap.size V X ∧ (FmI V.heap.size 3 (y) (nnR J p) (ffR sf cf vf p) X) | 4 => Below V.heap.size V X ∧ (FmI V.heap.size 3 (y) (nnR J p) (ffR sf cf vf p) X) | _ => Below V.heap.size V X ∧ (FmI V.heap.size 3 (y) (nnR J p) (ffR sf cf vf p) X)) (fun s => fun i_ => match i_ with | 0 => u0 | 1 => .int .i64 ((p : Nat) : Int) | 2 => .pointer (some ⟨ccb, cco + p, none⟩) | 3 => .int .i64 ((c : Nat) : Int) | 4 => .int .i64 ((c : Nat) : Int) | _ => undef) () A.1 (by kernel_rfl) (by decide) (by decide) ⟨BB, FMb⟩ ?_ ?_
                  · intro i_ hi_ s a X hf hv hn hS
                    match i_, hi_ with
                    | 0, _ => exact stepV rfl rfl (execMvB rfl ((hf 1 (by decide)).trans t1)) ⟨s, ⟨_, rfl, rfl⟩, hS, fun _ _ => rfl⟩
                    | 1, _ => exact stepV rfl rfl (execMvB rfl ((hf 14 (by decide)).trans t14)) ⟨s, ⟨_, rfl, rfl⟩, hS, fun _ _ => rfl⟩
                    | 2, _ => exact stepV rfl rfl (execIdxN (k := p) rfl ((hv 0 (by decide) _ rfl _ rfl).trans ecc) (hv 1 (by decide) _ rfl _ rfl) ltp) ⟨s, ⟨_, rfl, rfl⟩, hS, fun _ _ => rfl⟩
                    | 3, _ => exact stepV rfl rfl (execLd3 rfl (hv 2 (by decide) _ rfl _ rfl) ((ccc p ltp X hS.1).trans (by rw [ec0]))) ⟨s, ⟨_, rfl, rfl⟩, hS, fun _ _ => rfl⟩
                    | 4, _ => exact stepV rfl rfl (execAsgB rfl (hv 3 (by decide) _ rfl _ rfl)) ⟨s, ⟨_, rfl, rfl⟩, hS, fun _ _ => rfl⟩
                    | k_ + 5, h_ => exact absurd h_ (by simp)
                  rintro _ a X16 h1 h2 h3 h4 hS
                  clear BB
                  clear FMb
                  replace hS : Below V.heap.size V X16 ∧ (FmI V.heap.size 3 (y) (nnR J p) (ffR sf cf vf p) X16) := hS
                  obtain ⟨BB, FMb⟩ := hS
                  replace t0 := (h3 0 (by decide)).trans t0
                  replace t1 := (h3 1 (by decide)).trans t1
                  replace t2 := (h3 2 (by decide)).trans t2
                  replace t8 := (h3 8 (by decide)).trans t8
                  replace t9 := (h3 9 (by decide)).trans t9
                  replace t10 := (h3 10 (by decide)).trans t10
                  replace t13 := (h3 13 (by decide)).trans t13
                  replace t14 := (h3 14 (by decide)).trans t14
                  have t15 : a.eval (.tmp 15) = .int .i64 ((c : Nat) : Int) := h4 4 _ rfl _ rfl
                  replace A := (⟨h1, h2.trans A.2⟩ : a.tmps.size = 128 ∧ a.defers = [])
                  clear h1 h2 h3 h4
                  refine wp_seq ?_
                  refine wp_seq ?_
                  have hq0 : q_ = 0 := by rw [← eq, ← ec]; exact h3
                  refine wp_region_sq (σ := Unit) 128 [(0, 67), (1, 68), (2, 69), (3, 70), (4, 71), (5, 72), (6, 73), (7, 74), (8, 75), (9, 76), (10, 77), (11, 78), (12, 79), (13, 80), (14, 81)] (fun j_ s X => match j_ with | 0 => Below V.heap.size V X ∧ (FmI V.heap.size 3 (y) (nnR J p) (ffR sf cf vf p) X) | 1 => Below V.heap.size V X ∧ (FmI V.heap.size 3 (y) (nnR J p) (ffR sf cf vf p) X) | 2 => Below V.heap.size V X ∧ (FmI V.heap.size 3 (y) (nnR J p) (ffR sf cf vf p) X) | 3 => Below V.heap.size V X ∧ (FmI V.heap.size 3 (y) (nnR J p) (ffR sf cf vf p) X) | 4 => Below V.heap.size V X ∧ (FmI V.heap.size 3 (y) (nnR J p) (ffR sf cf vf p) X) | 5 => Below V.heap.size V X ∧ (FmI V.heap.size 3 (y) (nnR J p) (ffR sf cf vf p) X) | 6 => Below V.heap.size V X ∧ (FmI V.heap.size 3 (y) (nnR J p) (ffR sf cf vf p) X) | 7 => Below V.heap.size V X ∧ (FmI V.heap.size 3 (y) (nnR J p) (ffR sf cf vf p) X) | 8 => Below V.heap.size V X ∧ (FmI V.heap.size 3 (y) (nnR J p) (ffR sf cf vf p) X) | 9 => Below V.heap.size V X ∧ (FmI V.heap.size 3 (y) (nnR J p) (ffR sf cf vf p) X) | 10 => Below V.heap.size V X ∧ (FmI V.heap.size 3 (y) (nnR J p) (ffR sf cf vf p) X) | 11 => Below V.heap.size V X ∧ (FmI V.heap.size 3 (y) (nnR J p) (ffR sf cf vf p) X) | 12 => Below V.heap.size V X ∧ (FmI V.heap.size 3 (y) (nnR J p) (ffR sf cf vf p) X) | 13 => Below V.heap.size V X ∧ (FmI V.heap.size 3 (y) (nnR J p) (ffR sf cf vf p) X) | 14 => Below V.heap.size V X ∧ (FmI V.heap.size 3 (y) (nnR J p) (ffR sf cf vf p) X) | _ => Below V.heap.size V X ∧ (FmI V.heap.size 3 (y) (nnR J p) (ffR sf cf vf p) X)) (fun s => fun i_ => match i_ with | 0 => .int .i64 ((c : Nat) : Int) | 1 => .bool false | 2 => .bool false | 3 => .int .i64 ((c : Nat) : Int) | 4 => v | 5 => .int .i64 ((J : Nat) : Int) | 6 => .bool false | 7 => .bool false | 8 => .bool false | 9 => y 0 | 10 => .int .i64 ((c : Nat) : Int) | 11 => .pointer (some ⟨g0, 0 + c, none⟩) | 12 => .int .i64 ((q_ : Nat) : Int) | 13 => .bool true | 14 => .bool true | _ => undef) () A.1 (by kernel_rfl) (by decide) (by decide) ⟨BB, FMb⟩ ?_ ?_
                  · intro i_ hi_ s a X hf hv hn hS
                    match i_, hi_ with
                    | 0, _ => exact stepV rfl rfl (execMvB rfl ((hf 15 (by decide)).trans t15)) ⟨s, ⟨_, rfl, rfl⟩, hS, fun _ _ => rfl⟩
                    | 1, _ => exact stepV rfl rfl (execDec (execLtW (p := c) (q := 0) rfl (hv 0 (by decide) _ rfl _ rfl) rfl) (decide_eq_false (by omega))) ⟨s, ⟨_, rfl, rfl⟩, hS, fun _ _ => rfl⟩
                    | 2, _ => exact stepV rfl rfl (execMvB rfl (hv 1 (by decide) _ rfl _ rfl)) ⟨s, ⟨_, rfl, rfl⟩, hS, fun _ _ => rfl⟩
                    | 3, _ => exact stepV rfl (wantedOf rfl (yieldedAt rfl rfl (show a.eval (.tmp 69) = .bool false from (hv 2 (by decide) _ rfl _ rfl)))) (execMvB rfl ((hf 15 (by decide)).trans t15)) ⟨s, ⟨_, rfl, rfl⟩, hS, fun _ _ => rfl⟩
                    | 4, _ => exact stepV rfl (wantedOf rfl (yieldedAt rfl rfl (show a.eval (.tmp 69) = .bool false from (hv 2 (by decide) _ rfl _ rfl)))) (execMvB rfl ((hf 0 (by decide)).trans t0)) ⟨s, ⟨_, rfl, rfl⟩, hS, fun _ _ => rfl⟩
                    | 5, _ => exact stepV rfl (wantedOf rfl (yieldedAt rfl rfl (show a.eval (.tmp 69) = .bool false from (hv 2 (by decide) _ rfl _ rfl)))) (execLenI (len := J) rfl (hv 4 (by decide) _ rfl _ rfl) ((FI.on hS.1)).shp) ⟨s, ⟨_, rfl, rfl⟩, hS, fun _ _ => rfl⟩
                    | 6, _ => exact stepV rfl (wantedOf rfl (yieldedAt rfl rfl (show a.eval (.tmp 69) = .bool false from (hv 2 (by decide) _ rfl _ rfl)))) (execDec (execGe8 (p := c) (q := J) rfl (hv 3 (by decide) _ rfl _ rfl) (hv 5 (by decide) _ rfl _ rfl)) (decide_eq_false (by omega))) ⟨s, ⟨_, rfl, rfl⟩, hS, fun _ _ => rfl⟩
                    | 7, _ => exact stepV rfl rfl (execPickF rfl (hv 2 (by decide) _ rfl _ rfl) (hv 6 (by decide) _ rfl _ rfl)) ⟨s, ⟨_, rfl, rfl⟩, hS, fun _ _ => rfl⟩
                    | 8, _ => exact stepV rfl rfl (execMvB rfl (hv 7 (by decide) _ rfl _ rfl)) ⟨s, ⟨_, rfl, rfl⟩, hS, fun _ _ => rfl⟩
                    | 9, _ => exact stepV rfl (wantedOf rfl (yieldedAt rfl rfl (show a.eval (.tmp 75) = .bool false from (hv 8 (by decide) _ rfl _ rfl)))) (execMvB rfl ((hf 9 (by decide)).trans t9)) ⟨s, ⟨_, rfl, rfl⟩, hS, fun _ _ => rfl⟩
                    | 10, _ => exact stepV rfl (wantedOf rfl (yieldedAt rfl rfl (show a.eval (.tmp 75) = .bool false from (hv 8 (by decide) _ rfl _ rfl)))) (execMvB rfl ((hf 15 (by decide)).trans t15)) ⟨s, ⟨_, rfl, rfl⟩, hS, fun _ _ => rfl⟩
                    | 11, _ => exact stepV rfl (wantedOf rfl (yieldedAt rfl rfl (show a.eval (.tmp 75) = .bool false from (hv 8 (by decide) _ rfl _ rfl)))) (execIdxN (k := c) rfl ((hv 9 (by decide) _ rfl _ rfl).trans ey0) (hv 10 (by decide) _ rfl _ rfl) hcJ) ⟨s, ⟨_, rfl, rfl⟩, hS, fun _ _ => rfl⟩
                    | 12, _ => exact stepV rfl (wantedOf rfl (yieldedAt rfl rfl (show a.eval (.tmp 75) = .bool false from (hv 8 (by decide) _ rfl _ rfl)))) (execLd3 rfl (hv 11 (by decide) _ rfl _ rfl) ((hS.2.cell (t := 0) (by omega) ey0 hcJ).1.trans (by rw [← eq]; rfl))) ⟨s, ⟨_, rfl, rfl⟩, hS, fun _ _ => rfl⟩
                    | 13, _ => exact stepV rfl (wantedOf rfl (yieldedAt rfl rfl (show a.eval (.tmp 75) = .bool false from (hv 8 (by decide) _ rfl _ rfl)))) (execDec (execEqN (p := q_) (q := 0) rfl (hv 12 (by decide) _ rfl _ rfl) rfl) (decide_eq_true (by omega))) ⟨s, ⟨_, rfl, rfl⟩, hS, fun _ _ => rfl⟩
                    | 14, _ => exact stepV rfl rfl (execPickF rfl (hv 8 (by decide) _ rfl _ rfl) (hv 13 (by decide) _ rfl _ rfl)) ⟨s, ⟨_, rfl, rfl⟩, hS, fun _ _ => rfl⟩
                    | k_ + 15, h_ => exact absurd h_ (by simp)
                  rintro _ a X17 h1 h2 h3 h4 hS
                  clear BB
                  clear FMb
                  replace hS : Below V.heap.size V X17 ∧ (FmI V.heap.size 3 (y) (nnR J p) (ffR sf cf vf p) X17) := hS
                  obtain ⟨BB, FMb⟩ := hS
                  replace t0 := (h3 0 (by decide)).trans t0
                  replace t1 := (h3 1 (by decide)).trans t1
                  replace t2 := (h3 2 (by decide)).trans t2
                  replace t8 := (h3 8 (by decide)).trans t8
                  replace t9 := (h3 9 (by decide)).trans t9
                  replace t10 := (h3 10 (by decide)).trans t10
                  replace t13 := (h3 13 (by decide)).trans t13
                  replace t14 := (h3 14 (by decide)).trans t14
                  replace t15 := (h3 15 (by decide)).trans t15
                  have t81 : a.eval (.tmp 81) = .bool true := h4 14 _ rfl _ rfl
                  replace A := (⟨h1, h2.trans A.2⟩ : a.tmps.size = 128 ∧ a.defers = [])
                  clear h1 h2 h3 h4
                  refine wp_cond_true t81 ?_
                  refine wp_seq ?_
                  clear FMb
                  refine wp_region_sq (σ := Unit) 128 [(0, 6), (1, 7)] (fun j_ s X => match j_ with | 0 => Below V.heap.size V X | 1 => Below V.heap.size V X | _ => Below V.heap.size V X) (fun s => fun i_ => match i_ with | 0 => .slice none 0 0 | 1 => .int .i64 ((2 : Nat) : Int) | _ => undef) () A.1 (by kernel_rfl) (by decide) (by decide) (BB) ?_ ?_
                  · intro i_ hi_ s a X hf hv hn hS
                    match i_, hi_ with
                    | 0, _ => exact stepV rfl rfl (execAsgB rfl rfl) ⟨s, ⟨_, rfl, rfl⟩, hS, fun _ _ => rfl⟩
                    | 1, _ => exact stepV rfl rfl (execAsgB rfl rfl) ⟨s, ⟨_, rfl, rfl⟩, hS, fun _ _ => rfl⟩
                    | k_ + 2, h_ => exact absurd h_ (by simp)
                  rintro _ a X18 h1 h2 h3 h4 hS
                  clear BB
                  replace hS : Below V.heap.size V X18 := hS
                  have BB := hS
                  clear hS
                  have t6 : a.eval (.tmp 6) = .slice none 0 0 := h4 0 _ rfl _ rfl
                  have t7 : a.eval (.tmp 7) = .int .i64 ((2 : Nat) : Int) := h4 1 _ rfl _ rfl
                  replace A := (⟨h1, h2.trans A.2⟩ : a.tmps.size = 128 ∧ a.defers = [])
                  clear h1 h2 h3 h4
                  clear t0 t1 t2 t8 t9 t10 t13 t14 t15
                  have hE : drE sf J cf n vf m = 2 := drE_no fun q => by have h_ := (rdB_iff.1 (allB_iff.1 ((rd_dr hs).2 q).2.2 p ltp)).2; rw [hp0, ec, eq] at h_; omega
                  rw [hE, zl_no (by decide)]
                  refine wp_ret ?_
                  repeat (first | with_reducible refine ret_in ?_ | with_reducible refine ret_then ?_)
                  refine bodyPost_ret (results_tmp2 rfl _ _ _) A.2 ⟨_, ?_, World.ownsRow_nil _ _ _ _, BB⟩
                  show Ending.returned (.tuple #[a.eval (.tmp 6), a.eval (.tmp 7)]) = _
                  rw [t6, t7]
                · have h3b : 0 < lefC (gN sf) (gN cf) p (gN cf p) := Nat.pos_of_ne_zero h3
                  by_cases h4 : vf (poC (gN sf) (gN cf) p) < 0
                  · obtain ⟨c, ec0⟩ : ∃ c : Nat, cf p = c := ⟨(cf p).toNat, by omega⟩
                    have ec : gN cf p = c := by show (cf p).toNat = c; omega
                    have hcJ : c < J := by omega
                    obtain ⟨g0, c0, ey0, hB0, _⟩ := ownL_some9 (FMb.rows 0 (by omega)) (show 0 < J by omega)
                    obtain ⟨g1, c1, ey1, hB1, _⟩ := ownL_some9 (FMb.rows 1 (by omega)) (show 0 < J by omega)
                    obtain ⟨q_, eq⟩ : ∃ q_, lefC (gN sf) (gN cf) p c = q_ := ⟨_, rfl⟩
                    obtain ⟨p_, ep⟩ : ∃ p_, sumN (gN sf) c + cntC (gN cf) c p = p_ := ⟨_, rfl⟩
                    have hsc := sumN_at (r := gN sf) hcJ
                    have hp0 : poC (gN sf) (gN cf) p = p_ := by rw [← ep, ← ec]; rfl
                    rw [ec, eq] at h3b
                    rw [hp0] at h4
                    try rw [hp0, ec, eq] at h5
                    have hq256 : q_ ≤ 256 := by have hle : q_ ≤ gN sf c := (by rw [← eq]; exact Nat.sub_le _ _); omega
                    have hpm : p_ < m := by have hle : lefC (gN sf) (gN cf) p c = gN sf c - cntC (gN cf) c p := rfl; omega
                    refine wp_seq ?_
                    refine wp_region_sq (σ := Unit) 128 [(0, 63), (1, 64), (2, 65), (3, 66), (4, 15)] (fun j_ s X => match j_ with | 0 => Below V.heap.size V X ∧ (FmI V.heap.size 3 (y) (nnR J p) (ffR sf cf vf p) X) | 1 => Below V.heap.size V X ∧ (FmI V.heap.size 3 (y) (nnR J p) (ffR sf cf vf p) X) | 2 => Below V.heap.size V X ∧ (FmI V.heap.size 3 (y) (nnR J p) (ffR sf cf vf p) X) | 3 => Below V.heap.size V X ∧ (FmI V.heap.size 3 (y) (nnR J p) (ffR sf cf vf p) X) | 4 => Below V.heap.size V X ∧ (FmI V.heap.size 3 (y) (nnR J p) (ffR sf cf vf p) X) | _ => Below V.heap.size V X ∧ (FmI V.heap.size 3 (y) (nnR J p) (ffR sf cf vf p) X)) (fun s => fun i_ => match i_ with | 0 => u0 | 1 => .int .i64 ((p : Nat) : Int) | 2 => .pointer (some ⟨ccb, cco + p, none⟩) | 3 => .int .i64 ((c : Nat) : Int) | 4 => .int .i64 ((c : Nat) : Int) | _ => undef) () A.1 (by kernel_rfl) (by decide) (by decide) ⟨BB, FMb⟩ ?_ ?_
                    · intro i_ hi_ s a X hf hv hn hS
                      match i_, hi_ with
                      | 0, _ => exact stepV rfl rfl (execMvB rfl ((hf 1 (by decide)).trans t1)) ⟨s, ⟨_, rfl, rfl⟩, hS, fun _ _ => rfl⟩
                      | 1, _ => exact stepV rfl rfl (execMvB rfl ((hf 14 (by decide)).trans t14)) ⟨s, ⟨_, rfl, rfl⟩, hS, fun _ _ => rfl⟩
                      | 2, _ => exact stepV rfl rfl (execIdxN (k := p) rfl ((hv 0 (by decide) _ rfl _ rfl).trans ecc) (hv 1 (by decide) _ rfl _ rfl) ltp) ⟨s, ⟨_, rfl, rfl⟩, hS, fun _ _ => rfl⟩
                      | 3, _ => exact stepV rfl rfl (execLd3 rfl (hv 2 (by decide) _ rfl _ rfl) ((ccc p ltp X hS.1).trans (by rw [ec0]))) ⟨s, ⟨_, rfl, rfl⟩, hS, fun _ _ => rfl⟩
                      | 4, _ => exact stepV rfl rfl (execAsgB rfl (hv 3 (by decide) _ rfl _ rfl)) ⟨s, ⟨_, rfl, rfl⟩, hS, fun _ _ => rfl⟩
                      | k_ + 5, h_ => exact absurd h_ (by simp)
                    rintro _ a X16 h1 h2 h3 h4 hS
                    clear BB
                    clear FMb
                    replace hS : Below V.heap.size V X16 ∧ (FmI V.heap.size 3 (y) (nnR J p) (ffR sf cf vf p) X16) := hS
                    obtain ⟨BB, FMb⟩ := hS
                    replace t0 := (h3 0 (by decide)).trans t0
                    replace t1 := (h3 1 (by decide)).trans t1
                    replace t2 := (h3 2 (by decide)).trans t2
                    replace t8 := (h3 8 (by decide)).trans t8
                    replace t9 := (h3 9 (by decide)).trans t9
                    replace t10 := (h3 10 (by decide)).trans t10
                    replace t13 := (h3 13 (by decide)).trans t13
                    replace t14 := (h3 14 (by decide)).trans t14
                    have t15 : a.eval (.tmp 15) = .int .i64 ((c : Nat) : Int) := h4 4 _ rfl _ rfl
                    replace A := (⟨h1, h2.trans A.2⟩ : a.tmps.size = 128 ∧ a.defers = [])
                    clear h1 h2 h3 h4
                    refine wp_seq ?_
                    refine wp_seq ?_
                    refine wp_region_sq (σ := Unit) 128 [(0, 67), (1, 68), (2, 69), (3, 70), (4, 71), (5, 72), (6, 73), (7, 74), (8, 75), (9, 76), (10, 77), (11, 78), (12, 79), (13, 80), (14, 81)] (fun j_ s X => match j_ with | 0 => Below V.heap.size V X ∧ (FmI V.heap.size 3 (y) (nnR J p) (ffR sf cf vf p) X) | 1 => Below V.heap.size V X ∧ (FmI V.heap.size 3 (y) (nnR J p) (ffR sf cf vf p) X) | 2 => Below V.heap.size V X ∧ (FmI V.heap.size 3 (y) (nnR J p) (ffR sf cf vf p) X) | 3 => Below V.heap.size V X ∧ (FmI V.heap.size 3 (y) (nnR J p) (ffR sf cf vf p) X) | 4 => Below V.heap.size V X ∧ (FmI V.heap.size 3 (y) (nnR J p) (ffR sf cf vf p) X) | 5 => Below V.heap.size V X ∧ (FmI V.heap.size 3 (y) (nnR J p) (ffR sf cf vf p) X) | 6 => Below V.heap.size V X ∧ (FmI V.heap.size 3 (y) (nnR J p) (ffR sf cf vf p) X) | 7 => Below V.heap.size V X ∧ (FmI V.heap.size 3 (y) (nnR J p) (ffR sf cf vf p) X) | 8 => Below V.heap.size V X ∧ (FmI V.heap.size 3 (y) (nnR J p) (ffR sf cf vf p) X) | 9 => Below V.heap.size V X ∧ (FmI V.heap.size 3 (y) (nnR J p) (ffR sf cf vf p) X) | 10 => Below V.heap.size V X ∧ (FmI V.heap.size 3 (y) (nnR J p) (ffR sf cf vf p) X) | 11 => Below V.heap.size V X ∧ (FmI V.heap.size 3 (y) (nnR J p) (ffR sf cf vf p) X) | 12 => Below V.heap.size V X ∧ (FmI V.heap.size 3 (y) (nnR J p) (ffR sf cf vf p) X) | 13 => Below V.heap.size V X ∧ (FmI V.heap.size 3 (y) (nnR J p) (ffR sf cf vf p) X) | 14 => Below V.heap.size V X ∧ (FmI V.heap.size 3 (y) (nnR J p) (ffR sf cf vf p) X) | _ => Below V.heap.size V X ∧ (FmI V.heap.size 3 (y) (nnR J p) (ffR sf cf vf p) X)) (fun s => fun i_ => match i_ with | 0 => .int .i64 ((c : Nat) : Int) | 1 => .bool false | 2 => .bool false | 3 => .int .i64 ((c : Nat) : Int) | 4 => v | 5 => .int .i64 ((J : Nat) : Int) | 6 => .bool false | 7 => .bool false | 8 => .bool false | 9 => y 0 | 10 => .int .i64 ((c : Nat) : Int) | 11 => .pointer (some ⟨g0, 0 + c, none⟩) | 12 => .int .i64 ((q_ : Nat) : Int) | 13 => .bool false | 14 => .bool false | _ => undef) () A.1 (by kernel_rfl) (by decide) (by decide) ⟨BB, FMb⟩ ?_ ?_
                    · intro i_ hi_ s a X hf hv hn hS
                      match i_, hi_ with
                      | 0, _ => exact stepV rfl rfl (execMvB rfl ((hf 15 (by decide)).trans t15)) ⟨s, ⟨_, rfl, rfl⟩, hS, fun _ _ => rfl⟩
                      | 1, _ => exact stepV rfl rfl (execDec (execLtW (p := c) (q := 0) rfl (hv 0 (by decide) _ rfl _ rfl) rfl) (decide_eq_false (by omega))) ⟨s, ⟨_, rfl, rfl⟩, hS, fun _ _ => rfl⟩
                      | 2, _ => exact stepV rfl rfl (execMvB rfl (hv 1 (by decide) _ rfl _ rfl)) ⟨s, ⟨_, rfl, rfl⟩, hS, fun _ _ => rfl⟩
                      | 3, _ => exact stepV rfl (wantedOf rfl (yieldedAt rfl rfl (show a.eval (.tmp 69) = .bool false from (hv 2 (by decide) _ rfl _ rfl)))) (execMvB rfl ((hf 15 (by decide)).trans t15)) ⟨s, ⟨_, rfl, rfl⟩, hS, fun _ _ => rfl⟩
                      | 4, _ => exact stepV rfl (wantedOf rfl (yieldedAt rfl rfl (show a.eval (.tmp 69) = .bool false from (hv 2 (by decide) _ rfl _ rfl)))) (execMvB rfl ((hf 0 (by decide)).trans t0)) ⟨s, ⟨_, rfl, rfl⟩, hS, fun _ _ => rfl⟩
                      | 5, _ => exact stepV rfl (wantedOf rfl (yieldedAt rfl rfl (show a.eval (.tmp 69) = .bool false from (hv 2 (by decide) _ rfl _ rfl)))) (execLenI (len := J) rfl (hv 4 (by decide) _ rfl _ rfl) ((FI.on hS.1)).shp) ⟨s, ⟨_, rfl, rfl⟩, hS, fun _ _ => rfl⟩
                      | 6, _ => exact stepV rfl (wantedOf rfl (yieldedAt rfl rfl (show a.eval (.tmp 69) = .bool false from (hv 2 (by decide) _ rfl _ rfl)))) (execDec (execGe8 (p := c) (q := J) rfl (hv 3 (by decide) _ rfl _ rfl) (hv 5 (by decide) _ rfl _ rfl)) (decide_eq_false (by omega))) ⟨s, ⟨_, rfl, rfl⟩, hS, fun _ _ => rfl⟩
                      | 7, _ => exact stepV rfl rfl (execPickF rfl (hv 2 (by decide) _ rfl _ rfl) (hv 6 (by decide) _ rfl _ rfl)) ⟨s, ⟨_, rfl, rfl⟩, hS, fun _ _ => rfl⟩
                      | 8, _ => exact stepV rfl rfl (execMvB rfl (hv 7 (by decide) _ rfl _ rfl)) ⟨s, ⟨_, rfl, rfl⟩, hS, fun _ _ => rfl⟩
                      | 9, _ => exact stepV rfl (wantedOf rfl (yieldedAt rfl rfl (show a.eval (.tmp 75) = .bool false from (hv 8 (by decide) _ rfl _ rfl)))) (execMvB rfl ((hf 9 (by decide)).trans t9)) ⟨s, ⟨_, rfl, rfl⟩, hS, fun _ _ => rfl⟩
                      | 10, _ => exact stepV rfl (wantedOf rfl (yieldedAt rfl rfl (show a.eval (.tmp 75) = .bool false from (hv 8 (by decide) _ rfl _ rfl)))) (execMvB rfl ((hf 15 (by decide)).trans t15)) ⟨s, ⟨_, rfl, rfl⟩, hS, fun _ _ => rfl⟩
                      | 11, _ => exact stepV rfl (wantedOf rfl (yieldedAt rfl rfl (show a.eval (.tmp 75) = .bool false from (hv 8 (by decide) _ rfl _ rfl)))) (execIdxN (k := c) rfl ((hv 9 (by decide) _ rfl _ rfl).trans ey0) (hv 10 (by decide) _ rfl _ rfl) hcJ) ⟨s, ⟨_, rfl, rfl⟩, hS, fun _ _ => rfl⟩
                      | 12, _ => exact stepV rfl (wantedOf rfl (yieldedAt rfl rfl (show a.eval (.tmp 75) = .bool false from (hv 8 (by decide) _ rfl _ rfl)))) (execLd3 rfl (hv 11 (by decide) _ rfl _ rfl) ((hS.2.cell (t := 0) (by omega) ey0 hcJ).1.trans (by rw [← eq]; rfl))) ⟨s, ⟨_, rfl, rfl⟩, hS, fun _ _ => rfl⟩
                      | 13, _ => exact stepV rfl (wantedOf rfl (yieldedAt rfl rfl (show a.eval (.tmp 75) = .bool false from (hv 8 (by decide) _ rfl _ rfl)))) (execDec (execEqN (p := q_) (q := 0) rfl (hv 12 (by decide) _ rfl _ rfl) rfl) (decide_eq_false (by omega))) ⟨s, ⟨_, rfl, rfl⟩, hS, fun _ _ => rfl⟩
                      | 14, _ => exact stepV rfl rfl (execPickF rfl (hv 8 (by decide) _ rfl _ rfl) (hv 13 (by decide) _ rfl _ rfl)) ⟨s, ⟨_, rfl, rfl⟩, hS, fun _ _ => rfl⟩
                      | k_ + 15, h_ => exact absurd h_ (by simp)
                    rintro _ a X17 h1 h2 h3 h4 hS
                    clear BB
                    clear FMb
                    replace hS : Below V.heap.size V X17 ∧ (FmI V.heap.size 3 (y) (nnR J p) (ffR sf cf vf p) X17) := hS
                    obtain ⟨BB, FMb⟩ := hS
                    replace t0 := (h3 0 (by decide)).trans t0
                    replace t1 := (h3 1 (by decide)).trans t1
                    replace t2 := (h3 2 (by decide)).trans t2
                    replace t8 := (h3 8 (by decide)).trans t8
                    replace t9 := (h3 9 (by decide)).trans t9
                    replace t10 := (h3 10 (by decide)).trans t10
                    replace t13 := (h3 13 (by decide)).trans t13
                    replace t14 := (h3 14 (by decide)).trans t14
                    replace t15 := (h3 15 (by decide)).trans t15
                    have t81 : a.eval (.tmp 81) = .bool false := h4 14 _ rfl _ rfl
                    replace A := (⟨h1, h2.trans A.2⟩ : a.tmps.size = 128 ∧ a.defers = [])
                    clear h1 h2 h3 h4
                    refine wp_cond_false t81 ?_
                    refine wp_skip ?_
                    clear t81
                    obtain ⟨oob, ooo, ooc, eoo, hoob, hooc⟩ := open_sl FK (by omega)
                    have coo : ∀ k, k < m → ∀ X, Below V.heap.size V X → X.cell? ⟨oob, ooo + k, none⟩ = some (.int .i64 ((vf) k)) := fun k hk X hX => by rw [cell_below hX hoob]; exact hooc k hk
                    refine wp_seq ?_
                    refine wp_region_sq (σ := Unit) 128 [(0, 82), (1, 83), (2, 84), (3, 85), (4, 86), (5, 87), (6, 88), (7, 16)] (fun j_ s X => match j_ with | 0 => Below V.heap.size V X ∧ (FmI V.heap.size 3 (y) (nnR J p) (ffR sf cf vf p) X) | 1 => Below V.heap.size V X ∧ (FmI V.heap.size 3 (y) (nnR J p) (ffR sf cf vf p) X) | 2 => Below V.heap.size V X ∧ (FmI V.heap.size 3 (y) (nnR J p) (ffR sf cf vf p) X) | 3 => Below V.heap.size V X ∧ (FmI V.heap.size 3 (y) (nnR J p) (ffR sf cf vf p) X) | 4 => Below V.heap.size V X ∧ (FmI V.heap.size 3 (y) (nnR J p) (ffR sf cf vf p) X) | 5 => Below V.heap.size V X ∧ (FmI V.heap.size 3 (y) (nnR J p) (ffR sf cf vf p) X) | 6 => Below V.heap.size V X ∧ (FmI V.heap.size 3 (y) (nnR J p) (ffR sf cf vf p) X) | 7 => Below V.heap.size V X ∧ (FmI V.heap.size 3 (y) (nnR J p) (ffR sf cf vf p) X) | _ => Below V.heap.size V X ∧ (FmI V.heap.size 3 (y) (nnR J p) (ffR sf cf vf p) X)) (fun s => fun i_ => match i_ with | 0 => u1 | 1 => y 1 | 2 => .int .i64 ((c : Nat) : Int) | 3 => .pointer (some ⟨g1, 0 + c, none⟩) | 4 => .int .i64 ((p_ : Nat) : Int) | 5 => .pointer (some ⟨oob, ooo + p_, none⟩) | 6 => .int .i64 (vf p_) | 7 => .int .i64 (vf p_) | _ => undef) () A.1 (by kernel_rfl) (by decide) (by decide) ⟨BB, FMb⟩ ?_ ?_
                    · intro i_ hi_ s a X hf hv hn hS
                      match i_, hi_ with
                      | 0, _ => exact stepV rfl rfl (execMvB rfl ((hf 2 (by decide)).trans t2)) ⟨s, ⟨_, rfl, rfl⟩, hS, fun _ _ => rfl⟩
                      | 1, _ => exact stepV rfl rfl (execMvB rfl ((hf 10 (by decide)).trans t10)) ⟨s, ⟨_, rfl, rfl⟩, hS, fun _ _ => rfl⟩
                      | 2, _ => exact stepV rfl rfl (execMvB rfl ((hf 15 (by decide)).trans t15)) ⟨s, ⟨_, rfl, rfl⟩, hS, fun _ _ => rfl⟩
                      | 3, _ => exact stepV rfl rfl (execIdxN (k := c) rfl ((hv 1 (by decide) _ rfl _ rfl).trans ey1) (hv 2 (by decide) _ rfl _ rfl) hcJ) ⟨s, ⟨_, rfl, rfl⟩, hS, fun _ _ => rfl⟩
                      | 4, _ => exact stepV rfl rfl (execLd3 rfl (hv 3 (by decide) _ rfl _ rfl) ((hS.2.cell (t := 1) (by omega) ey1 hcJ).1.trans (by rw [← ep]; rfl))) ⟨s, ⟨_, rfl, rfl⟩, hS, fun _ _ => rfl⟩
                      | 5, _ => exact stepV rfl rfl (execIdxN (k := p_) rfl ((hv 0 (by decide) _ rfl _ rfl).trans eoo) (hv 4 (by decide) _ rfl _ rfl) hpm) ⟨s, ⟨_, rfl, rfl⟩, hS, fun _ _ => rfl⟩
                      | 6, _ => exact stepV rfl rfl (execLd3 rfl (hv 5 (by decide) _ rfl _ rfl) (coo p_ hpm X hS.1)) ⟨s, ⟨_, rfl, rfl⟩, hS, fun _ _ => rfl⟩
                      | 7, _ => exact stepV rfl rfl (execAsgB rfl (hv 6 (by decide) _ rfl _ rfl)) ⟨s, ⟨_, rfl, rfl⟩, hS, fun _ _ => rfl⟩
                      | k_ + 8, h_ => exact absurd h_ (by simp)
                    rintro _ a X19 h1 h2 h3 h4 hS
                    clear BB
                    clear FMb
                    replace hS : Below V.heap.size V X19 ∧ (FmI V.heap.size 3 (y) (nnR J p) (ffR sf cf vf p) X19) := hS
                    obtain ⟨BB, FMb⟩ := hS
                    replace t0 := (h3 0 (by decide)).trans t0
                    replace t1 := (h3 1 (by decide)).trans t1
                    replace t2 := (h3 2 (by decide)).trans t2
                    replace t8 := (h3 8 (by decide)).trans t8
                    replace t9 := (h3 9 (by decide)).trans t9
                    replace t10 := (h3 10 (by decide)).trans t10
                    replace t13 := (h3 13 (by decide)).trans t13
                    replace t14 := (h3 14 (by decide)).trans t14
                    replace t15 := (h3 15 (by decide)).trans t15
                    have t16 : a.eval (.tmp 16) = .int .i64 (vf p_) := h4 7 _ rfl _ rfl
                    replace A := (⟨h1, h2.trans A.2⟩ : a.tmps.size = 128 ∧ a.defers = [])
                    clear h1 h2 h3 h4
                    refine wp_seq ?_
                    refine wp_seq ?_
                    refine wp_region_sq (σ := Unit) 128 [(0, 89), (1, 90), (2, 91), (3, 92), (4, 93), (5, 94), (6, 95), (7, 96), (8, 97), (9, 98)] (fun j_ s X => match j_ with | 0 => Below V.heap.size V X ∧ (FmI V.heap.size 3 (y) (nnR J p) (ffR sf cf vf p) X) | 1 => Below V.heap.size V X ∧ (FmI V.heap.size 3 (y) (nnR J p) (ffR sf cf vf p) X) | 2 => Below V.heap.size V X ∧ (FmI V.heap.size 3 (y) (nnR J p) (ffR sf cf vf p) X) | 3 => Below V.heap.size V X ∧ (FmI V.heap.size 3 (y) (nnR J p) (ffR sf cf vf p) X) | 4 => Below V.heap.size V X ∧ (FmI V.heap.size 3 (y) (nnR J p) (ffR sf cf vf p) X) | 5 => Below V.heap.size V X ∧ (FmI V.heap.size 3 (y) (nnR J p) (ffR sf cf vf p) X) | 6 => Below V.heap.size V X ∧ (FmI V.heap.size 3 (y) (nnR J p) (ffR sf cf vf p) X) | 7 => Below V.heap.size V X ∧ (FmI V.heap.size 3 (y) (nnR J p) (ffR sf cf vf p) X) | 8 => Below V.heap.size V X ∧ (FmI V.heap.size 3 (y) (nnR J p) (ffR sf cf vf p) X) | 9 => Below V.heap.size V X ∧ (FmI V.heap.size 3 (y) (nnR J p) (ffR sf cf vf p) X) | _ => Below V.heap.size V X ∧ (FmI V.heap.size 3 (y) (nnR J p) (ffR sf cf vf p) X)) (fun s => fun i_ => match i_ with | 0 => .int .i64 (vf p_) | 1 => .bool true | 2 => .bool true | 3 => undef | 4 => undef | 5 => undef | 6 => undef | 7 => undef | 8 => undef | 9 => .bool true | _ => undef) () A.1 (by kernel_rfl) (by decide) (by decide) ⟨BB, FMb⟩ ?_ ?_
                    · intro i_ hi_ s a X hf hv hn hS
                      match i_, hi_ with
                      | 0, _ => exact stepV rfl rfl (execMvB rfl ((hf 16 (by decide)).trans t16)) ⟨s, ⟨_, rfl, rfl⟩, hS, fun _ _ => rfl⟩
                      | 1, _ => exact stepV rfl rfl (execLtCt (p := (vf p_)) (q := 0) rfl (hv 0 (by decide) _ rfl _ rfl) (by exact h4)) ⟨s, ⟨_, rfl, rfl⟩, hS, fun _ _ => rfl⟩
                      | 2, _ => exact stepV rfl rfl (execMvB rfl (hv 1 (by decide) _ rfl _ rfl)) ⟨s, ⟨_, rfl, rfl⟩, hS, fun _ _ => rfl⟩
                      | 3, _ => exact stepU rfl (unwantedOf rfl (yieldedAt rfl rfl (show a.eval (.tmp 91) = .bool (!false) from (hv 2 (by decide) _ rfl _ rfl)))) ⟨s, ⟨_, rfl, rfl⟩, hS, fun _ _ => rfl⟩
                      | 4, _ => exact stepU rfl (unwantedOf rfl (yieldedAt rfl rfl (show a.eval (.tmp 91) = .bool (!false) from (hv 2 (by decide) _ rfl _ rfl)))) ⟨s, ⟨_, rfl, rfl⟩, hS, fun _ _ => rfl⟩
                      | 5, _ => exact stepU rfl (unwantedOf rfl (yieldedAt rfl rfl (show a.eval (.tmp 91) = .bool (!false) from (hv 2 (by decide) _ rfl _ rfl)))) ⟨s, ⟨_, rfl, rfl⟩, hS, fun _ _ => rfl⟩
                      | 6, _ => exact stepU rfl (unwantedOf rfl (yieldedAt rfl rfl (show a.eval (.tmp 91) = .bool (!false) from (hv 2 (by decide) _ rfl _ rfl)))) ⟨s, ⟨_, rfl, rfl⟩, hS, fun _ _ => rfl⟩
                      | 7, _ => exact stepU rfl (unwantedOf rfl (yieldedAt rfl rfl (show a.eval (.tmp 91) = .bool (!false) from (hv 2 (by decide) _ rfl _ rfl)))) ⟨s, ⟨_, rfl, rfl⟩, hS, fun _ _ => rfl⟩
                      | 8, _ => exact stepU rfl (unwantedOf rfl (yieldedAt rfl rfl (show a.eval (.tmp 91) = .bool (!false) from (hv 2 (by decide) _ rfl _ rfl)))) ⟨s, ⟨_, rfl, rfl⟩, hS, fun _ _ => rfl⟩
                      | 9, _ => exact stepV rfl rfl (execPickT rfl (hv 2 (by decide) _ rfl _ rfl) rfl) ⟨s, ⟨_, rfl, rfl⟩, hS, fun _ _ => rfl⟩
                      | k_ + 10, h_ => exact absurd h_ (by simp)
                    rintro _ a X20 h1 h2 h3 h4 hS
                    clear BB
                    clear FMb
                    replace hS : Below V.heap.size V X20 ∧ (FmI V.heap.size 3 (y) (nnR J p) (ffR sf cf vf p) X20) := hS
                    obtain ⟨BB, FMb⟩ := hS
                    replace t0 := (h3 0 (by decide)).trans t0
                    replace t1 := (h3 1 (by decide)).trans t1
                    replace t2 := (h3 2 (by decide)).trans t2
                    replace t8 := (h3 8 (by decide)).trans t8
                    replace t9 := (h3 9 (by decide)).trans t9
                    replace t10 := (h3 10 (by decide)).trans t10
                    replace t13 := (h3 13 (by decide)).trans t13
                    replace t14 := (h3 14 (by decide)).trans t14
                    replace t15 := (h3 15 (by decide)).trans t15
                    replace t16 := (h3 16 (by decide)).trans t16
                    have t98 : a.eval (.tmp 98) = .bool true := h4 9 _ rfl _ rfl
                    replace A := (⟨h1, h2.trans A.2⟩ : a.tmps.size = 128 ∧ a.defers = [])
                    clear h1 h2 h3 h4
                    refine wp_cond_true t98 ?_
                    refine wp_seq ?_
                    clear FMb
                    refine wp_region_sq (σ := Unit) 128 [(0, 6), (1, 7)] (fun j_ s X => match j_ with | 0 => Below V.heap.size V X | 1 => Below V.heap.size V X | _ => Below V.heap.size V X) (fun s => fun i_ => match i_ with | 0 => .slice none 0 0 | 1 => .int .i64 ((2 : Nat) : Int) | _ => undef) () A.1 (by kernel_rfl) (by decide) (by decide) (BB) ?_ ?_
                    · intro i_ hi_ s a X hf hv hn hS
                      match i_, hi_ with
                      | 0, _ => exact stepV rfl rfl (execAsgB rfl rfl) ⟨s, ⟨_, rfl, rfl⟩, hS, fun _ _ => rfl⟩
                      | 1, _ => exact stepV rfl rfl (execAsgB rfl rfl) ⟨s, ⟨_, rfl, rfl⟩, hS, fun _ _ => rfl⟩
                      | k_ + 2, h_ => exact absurd h_ (by simp)
                    rintro _ a X21 h1 h2 h3 h4 hS
                    clear BB
                    replace hS : Below V.heap.size V X21 := hS
                    have BB := hS
                    clear hS
                    have t6 : a.eval (.tmp 6) = .slice none 0 0 := h4 0 _ rfl _ rfl
                    have t7 : a.eval (.tmp 7) = .int .i64 ((2 : Nat) : Int) := h4 1 _ rfl _ rfl
                    replace A := (⟨h1, h2.trans A.2⟩ : a.tmps.size = 128 ∧ a.defers = [])
                    clear h1 h2 h3 h4
                    clear t0 t1 t2 t8 t9 t10 t13 t14 t15 t16
                    have hE : drE sf J cf n vf m = 2 := drE_no fun q => by have h_ := (rdB_iff.1 (allB_iff.1 ((rd_dr hs).2 q).2.2 p ltp)).2; rw [hp0, ec, eq] at h_; omega
                    rw [hE, zl_no (by decide)]
                    refine wp_ret ?_
                    repeat (first | with_reducible refine ret_in ?_ | with_reducible refine ret_then ?_)
                    refine bodyPost_ret (results_tmp2 rfl _ _ _) A.2 ⟨_, ?_, World.ownsRow_nil _ _ _ _, BB⟩
                    show Ending.returned (.tuple #[a.eval (.tmp 6), a.eval (.tmp 7)]) = _
                    rw [t6, t7]
                  · by_cases h5 : (lefC (gN sf) (gN cf) p (gN cf p) : Int) ≤ vf (poC (gN sf) (gN cf) p)
                    · obtain ⟨c, ec0⟩ : ∃ c : Nat, cf p = c := ⟨(cf p).toNat, by omega⟩
                      have ec : gN cf p = c := by show (cf p).toNat = c; omega
                      have hcJ : c < J := by omega
                      obtain ⟨g0, c0, ey0, hB0, _⟩ := ownL_some9 (FMb.rows 0 (by omega)) (show 0 < J by omega)
                      obtain ⟨g1, c1, ey1, hB1, _⟩ := ownL_some9 (FMb.rows 1 (by omega)) (show 0 < J by omega)
                      obtain ⟨q_, eq⟩ : ∃ q_, lefC (gN sf) (gN cf) p c = q_ := ⟨_, rfl⟩
                      obtain ⟨p_, ep⟩ : ∃ p_, sumN (gN sf) c + cntC (gN cf) c p = p_ := ⟨_, rfl⟩
                      have hsc := sumN_at (r := gN sf) hcJ
                      have hp0 : poC (gN sf) (gN cf) p = p_ := by rw [← ep, ← ec]; rfl
                      rw [ec, eq] at h3b
                      rw [hp0] at h4
                      try rw [hp0, ec, eq] at h5
                      have hq256 : q_ ≤ 256 := by have hle : q_ ≤ gN sf c := (by rw [← eq]; exact Nat.sub_le _ _); omega
                      have hpm : p_ < m := by have hle : lefC (gN sf) (gN cf) p c = gN sf c - cntC (gN cf) c p := rfl; omega
                      refine wp_seq ?_
                      refine wp_region_sq (σ := Unit) 128 [(0, 63), (1, 64), (2, 65), (3, 66), (4, 15)] (fun j_ s X => match j_ with | 0 => Below V.heap.size V X ∧ (FmI V.heap.size 3 (y) (nnR J p) (ffR sf cf vf p) X) | 1 => Below V.heap.size V X ∧ (FmI V.heap.size 3 (y) (nnR J p) (ffR sf cf vf p) X) | 2 => Below V.heap.size V X ∧ (FmI V.heap.size 3 (y) (nnR J p) (ffR sf cf vf p) X) | 3 => Below V.heap.size V X ∧ (FmI V.heap.size 3 (y) (nnR J p) (ffR sf cf vf p) X) | 4 => Below V.heap.size V X ∧ (FmI V.heap.size 3 (y) (nnR J p) (ffR sf cf vf p) X) | _ => Below V.heap.size V X ∧ (FmI V.heap.size 3 (y) (nnR J p) (ffR sf cf vf p) X)) (fun s => fun i_ => match i_ with | 0 => u0 | 1 => .int .i64 ((p : Nat) : Int) | 2 => .pointer (some ⟨ccb, cco + p, none⟩) | 3 => .int .i64 ((c : Nat) : Int) | 4 => .int .i64 ((c : Nat) : Int) | _ => undef) () A.1 (by kernel_rfl) (by decide) (by decide) ⟨BB, FMb⟩ ?_ ?_
                      · intro i_ hi_ s a X hf hv hn hS
                        match i_, hi_ with
                        | 0, _ => exact stepV rfl rfl (execMvB rfl ((hf 1 (by decide)).trans t1)) ⟨s, ⟨_, rfl, rfl⟩, hS, fun _ _ => rfl⟩
                        | 1, _ => exact stepV rfl rfl (execMvB rfl ((hf 14 (by decide)).trans t14)) ⟨s, ⟨_, rfl, rfl⟩, hS, fun _ _ => rfl⟩
                        | 2, _ => exact stepV rfl rfl (execIdxN (k := p) rfl ((hv 0 (by decide) _ rfl _ rfl).trans ecc) (hv 1 (by decide) _ rfl _ rfl) ltp) ⟨s, ⟨_, rfl, rfl⟩, hS, fun _ _ => rfl⟩
                        | 3, _ => exact stepV rfl rfl (execLd3 rfl (hv 2 (by decide) _ rfl _ rfl) ((ccc p ltp X hS.1).trans (by rw [ec0]))) ⟨s, ⟨_, rfl, rfl⟩, hS, fun _ _ => rfl⟩
                        | 4, _ => exact stepV rfl rfl (execAsgB rfl (hv 3 (by decide) _ rfl _ rfl)) ⟨s, ⟨_, rfl, rfl⟩, hS, fun _ _ => rfl⟩
                        | k_ + 5, h_ => exact absurd h_ (by simp)
                      rintro _ a X16 h1 h2 h3 h4 hS
                      clear BB
                      clear FMb
                      replace hS : Below V.heap.size V X16 ∧ (FmI V.heap.size 3 (y) (nnR J p) (ffR sf cf vf p) X16) := hS
                      obtain ⟨BB, FMb⟩ := hS
                      replace t0 := (h3 0 (by decide)).trans t0
                      replace t1 := (h3 1 (by decide)).trans t1
                      replace t2 := (h3 2 (by decide)).trans t2
                      replace t8 := (h3 8 (by decide)).trans t8
                      replace t9 := (h3 9 (by decide)).trans t9
                      replace t10 := (h3 10 (by decide)).trans t10
                      replace t13 := (h3 13 (by decide)).trans t13
                      replace t14 := (h3 14 (by decide)).trans t14
                      have t15 : a.eval (.tmp 15) = .int .i64 ((c : Nat) : Int) := h4 4 _ rfl _ rfl
                      replace A := (⟨h1, h2.trans A.2⟩ : a.tmps.size = 128 ∧ a.defers = [])
                      clear h1 h2 h3 h4
                      refine wp_seq ?_
                      refine wp_seq ?_
                      refine wp_region_sq (σ := Unit) 128 [(0, 67), (1, 68), (2, 69), (3, 70), (4, 71), (5, 72), (6, 73), (7, 74), (8, 75), (9, 76), (10, 77), (11, 78), (12, 79), (13, 80), (14, 81)] (fun j_ s X => match j_ with | 0 => Below V.heap.size V X ∧ (FmI V.heap.size 3 (y) (nnR J p) (ffR sf cf vf p) X) | 1 => Below V.heap.size V X ∧ (FmI V.heap.size 3 (y) (nnR J p) (ffR sf cf vf p) X) | 2 => Below V.heap.size V X ∧ (FmI V.heap.size 3 (y) (nnR J p) (ffR sf cf vf p) X) | 3 => Below V.heap.size V X ∧ (FmI V.heap.size 3 (y) (nnR J p) (ffR sf cf vf p) X) | 4 => Below V.heap.size V X ∧ (FmI V.heap.size 3 (y) (nnR J p) (ffR sf cf vf p) X) | 5 => Below V.heap.size V X ∧ (FmI V.heap.size 3 (y) (nnR J p) (ffR sf cf vf p) X) | 6 => Below V.heap.size V X ∧ (FmI V.heap.size 3 (y) (nnR J p) (ffR sf cf vf p) X) | 7 => Below V.heap.size V X ∧ (FmI V.heap.size 3 (y) (nnR J p) (ffR sf cf vf p) X) | 8 => Below V.heap.size V X ∧ (FmI V.heap.size 3 (y) (nnR J p) (ffR sf cf vf p) X) | 9 => Below V.heap.size V X ∧ (FmI V.heap.size 3 (y) (nnR J p) (ffR sf cf vf p) X) | 10 => Below V.heap.size V X ∧ (FmI V.heap.size 3 (y) (nnR J p) (ffR sf cf vf p) X) | 11 => Below V.heap.size V X ∧ (FmI V.heap.size 3 (y) (nnR J p) (ffR sf cf vf p) X) | 12 => Below V.heap.size V X ∧ (FmI V.heap.size 3 (y) (nnR J p) (ffR sf cf vf p) X) | 13 => Below V.heap.size V X ∧ (FmI V.heap.size 3 (y) (nnR J p) (ffR sf cf vf p) X) | 14 => Below V.heap.size V X ∧ (FmI V.heap.size 3 (y) (nnR J p) (ffR sf cf vf p) X) | _ => Below V.heap.size V X ∧ (FmI V.heap.size 3 (y) (nnR J p) (ffR sf cf vf p) X)) (fun s => fun i_ => match i_ with | 0 => .int .i64 ((c : Nat) : Int) | 1 => .bool false | 2 => .bool false | 3 => .int .i64 ((c : Nat) : Int) | 4 => v | 5 => .int .i64 ((J : Nat) : Int) | 6 => .bool false | 7 => .bool false | 8 => .bool false | 9 => y 0 | 10 => .int .i64 ((c : Nat) : Int) | 11 => .pointer (some ⟨g0, 0 + c, none⟩) | 12 => .int .i64 ((q_ : Nat) : Int) | 13 => .bool false | 14 => .bool false | _ => undef) () A.1 (by kernel_rfl) (by decide) (by decide) ⟨BB, FMb⟩ ?_ ?_
                      · intro i_ hi_ s a X hf hv hn hS
                        match i_, hi_ with
                        | 0, _ => exact stepV rfl rfl (execMvB rfl ((hf 15 (by decide)).trans t15)) ⟨s, ⟨_, rfl, rfl⟩, hS, fun _ _ => rfl⟩
                        | 1, _ => exact stepV rfl rfl (execDec (execLtW (p := c) (q := 0) rfl (hv 0 (by decide) _ rfl _ rfl) rfl) (decide_eq_false (by omega))) ⟨s, ⟨_, rfl, rfl⟩, hS, fun _ _ => rfl⟩
                        | 2, _ => exact stepV rfl rfl (execMvB rfl (hv 1 (by decide) _ rfl _ rfl)) ⟨s, ⟨_, rfl, rfl⟩, hS, fun _ _ => rfl⟩
                        | 3, _ => exact stepV rfl (wantedOf rfl (yieldedAt rfl rfl (show a.eval (.tmp 69) = .bool false from (hv 2 (by decide) _ rfl _ rfl)))) (execMvB rfl ((hf 15 (by decide)).trans t15)) ⟨s, ⟨_, rfl, rfl⟩, hS, fun _ _ => rfl⟩
                        | 4, _ => exact stepV rfl (wantedOf rfl (yieldedAt rfl rfl (show a.eval (.tmp 69) = .bool false from (hv 2 (by decide) _ rfl _ rfl)))) (execMvB rfl ((hf 0 (by decide)).trans t0)) ⟨s, ⟨_, rfl, rfl⟩, hS, fun _ _ => rfl⟩
                        | 5, _ => exact stepV rfl (wantedOf rfl (yieldedAt rfl rfl (show a.eval (.tmp 69) = .bool false from (hv 2 (by decide) _ rfl _ rfl)))) (execLenI (len := J) rfl (hv 4 (by decide) _ rfl _ rfl) ((FI.on hS.1)).shp) ⟨s, ⟨_, rfl, rfl⟩, hS, fun _ _ => rfl⟩
                        | 6, _ => exact stepV rfl (wantedOf rfl (yieldedAt rfl rfl (show a.eval (.tmp 69) = .bool false from (hv 2 (by decide) _ rfl _ rfl)))) (execDec (execGe8 (p := c) (q := J) rfl (hv 3 (by decide) _ rfl _ rfl) (hv 5 (by decide) _ rfl _ rfl)) (decide_eq_false (by omega))) ⟨s, ⟨_, rfl, rfl⟩, hS, fun _ _ => rfl⟩
                        | 7, _ => exact stepV rfl rfl (execPickF rfl (hv 2 (by decide) _ rfl _ rfl) (hv 6 (by decide) _ rfl _ rfl)) ⟨s, ⟨_, rfl, rfl⟩, hS, fun _ _ => rfl⟩
                        | 8, _ => exact stepV rfl rfl (execMvB rfl (hv 7 (by decide) _ rfl _ rfl)) ⟨s, ⟨_, rfl, rfl⟩, hS, fun _ _ => rfl⟩
                        | 9, _ => exact stepV rfl (wantedOf rfl (yieldedAt rfl rfl (show a.eval (.tmp 75) = .bool false from (hv 8 (by decide) _ rfl _ rfl)))) (execMvB rfl ((hf 9 (by decide)).trans t9)) ⟨s, ⟨_, rfl, rfl⟩, hS, fun _ _ => rfl⟩
                        | 10, _ => exact stepV rfl (wantedOf rfl (yieldedAt rfl rfl (show a.eval (.tmp 75) = .bool false from (hv 8 (by decide) _ rfl _ rfl)))) (execMvB rfl ((hf 15 (by decide)).trans t15)) ⟨s, ⟨_, rfl, rfl⟩, hS, fun _ _ => rfl⟩
                        | 11, _ => exact stepV rfl (wantedOf rfl (yieldedAt rfl rfl (show a.eval (.tmp 75) = .bool false from (hv 8 (by decide) _ rfl _ rfl)))) (execIdxN (k := c) rfl ((hv 9 (by decide) _ rfl _ rfl).trans ey0) (hv 10 (by decide) _ rfl _ rfl) hcJ) ⟨s, ⟨_, rfl, rfl⟩, hS, fun _ _ => rfl⟩
                        | 12, _ => exact stepV rfl (wantedOf rfl (yieldedAt rfl rfl (show a.eval (.tmp 75) = .bool false from (hv 8 (by decide) _ rfl _ rfl)))) (execLd3 rfl (hv 11 (by decide) _ rfl _ rfl) ((hS.2.cell (t := 0) (by omega) ey0 hcJ).1.trans (by rw [← eq]; rfl))) ⟨s, ⟨_, rfl, rfl⟩, hS, fun _ _ => rfl⟩
                        | 13, _ => exact stepV rfl (wantedOf rfl (yieldedAt rfl rfl (show a.eval (.tmp 75) = .bool false from (hv 8 (by decide) _ rfl _ rfl)))) (execDec (execEqN (p := q_) (q := 0) rfl (hv 12 (by decide) _ rfl _ rfl) rfl) (decide_eq_false (by omega))) ⟨s, ⟨_, rfl, rfl⟩, hS, fun _ _ => rfl⟩
                        | 14, _ => exact stepV rfl rfl (execPickF rfl (hv 8 (by decide) _ rfl _ rfl) (hv 13 (by decide) _ rfl _ rfl)) ⟨s, ⟨_, rfl, rfl⟩, hS, fun _ _ => rfl⟩
                        | k_ + 15, h_ => exact absurd h_ (by simp)
                      rintro _ a X17 h1 h2 h3 h4 hS
                      clear BB
                      clear FMb
                      replace hS : Below V.heap.size V X17 ∧ (FmI V.heap.size 3 (y) (nnR J p) (ffR sf cf vf p) X17) := hS
                      obtain ⟨BB, FMb⟩ := hS
                      replace t0 := (h3 0 (by decide)).trans t0
                      replace t1 := (h3 1 (by decide)).trans t1
                      replace t2 := (h3 2 (by decide)).trans t2
                      replace t8 := (h3 8 (by decide)).trans t8
                      replace t9 := (h3 9 (by decide)).trans t9
                      replace t10 := (h3 10 (by decide)).trans t10
                      replace t13 := (h3 13 (by decide)).trans t13
                      replace t14 := (h3 14 (by decide)).trans t14
                      replace t15 := (h3 15 (by decide)).trans t15
                      have t81 : a.eval (.tmp 81) = .bool false := h4 14 _ rfl _ rfl
                      replace A := (⟨h1, h2.trans A.2⟩ : a.tmps.size = 128 ∧ a.defers = [])
                      clear h1 h2 h3 h4
                      refine wp_cond_false t81 ?_
                      refine wp_skip ?_
                      clear t81
                      obtain ⟨oob, ooo, ooc, eoo, hoob, hooc⟩ := open_sl FK (by omega)
                      have coo : ∀ k, k < m → ∀ X, Below V.heap.size V X → X.cell? ⟨oob, ooo + k, none⟩ = some (.int .i64 ((vf) k)) := fun k hk X hX => by rw [cell_below hX hoob]; exact hooc k hk
                      obtain ⟨o_, eo⟩ : ∃ o_ : Nat, vf p_ = o_ := ⟨(vf p_).toNat, by omega⟩
                      refine wp_seq ?_
                      refine wp_region_sq (σ := Unit) 128 [(0, 82), (1, 83), (2, 84), (3, 85), (4, 86), (5, 87), (6, 88), (7, 16)] (fun j_ s X => match j_ with | 0 => Below V.heap.size V X ∧ (FmI V.heap.size 3 (y) (nnR J p) (ffR sf cf vf p) X) | 1 => Below V.heap.size V X ∧ (FmI V.heap.size 3 (y) (nnR J p) (ffR sf cf vf p) X) | 2 => Below V.heap.size V X ∧ (FmI V.heap.size 3 (y) (nnR J p) (ffR sf cf vf p) X) | 3 => Below V.heap.size V X ∧ (FmI V.heap.size 3 (y) (nnR J p) (ffR sf cf vf p) X) | 4 => Below V.heap.size V X ∧ (FmI V.heap.size 3 (y) (nnR J p) (ffR sf cf vf p) X) | 5 => Below V.heap.size V X ∧ (FmI V.heap.size 3 (y) (nnR J p) (ffR sf cf vf p) X) | 6 => Below V.heap.size V X ∧ (FmI V.heap.size 3 (y) (nnR J p) (ffR sf cf vf p) X) | 7 => Below V.heap.size V X ∧ (FmI V.heap.size 3 (y) (nnR J p) (ffR sf cf vf p) X) | _ => Below V.heap.size V X ∧ (FmI V.heap.size 3 (y) (nnR J p) (ffR sf cf vf p) X)) (fun s => fun i_ => match i_ with | 0 => u1 | 1 => y 1 | 2 => .int .i64 ((c : Nat) : Int) | 3 => .pointer (some ⟨g1, 0 + c, none⟩) | 4 => .int .i64 ((p_ : Nat) : Int) | 5 => .pointer (some ⟨oob, ooo + p_, none⟩) | 6 => .int .i64 ((o_ : Nat) : Int) | 7 => .int .i64 ((o_ : Nat) : Int) | _ => undef) () A.1 (by kernel_rfl) (by decide) (by decide) ⟨BB, FMb⟩ ?_ ?_
                      · intro i_ hi_ s a X hf hv hn hS
                        match i_, hi_ with
                        | 0, _ => exact stepV rfl rfl (execMvB rfl ((hf 2 (by decide)).trans t2)) ⟨s, ⟨_, rfl, rfl⟩, hS, fun _ _ => rfl⟩
                        | 1, _ => exact stepV rfl rfl (execMvB rfl ((hf 10 (by decide)).trans t10)) ⟨s, ⟨_, rfl, rfl⟩, hS, fun _ _ => rfl⟩
                        | 2, _ => exact stepV rfl rfl (execMvB rfl ((hf 15 (by decide)).trans t15)) ⟨s, ⟨_, rfl, rfl⟩, hS, fun _ _ => rfl⟩
                        | 3, _ => exact stepV rfl rfl (execIdxN (k := c) rfl ((hv 1 (by decide) _ rfl _ rfl).trans ey1) (hv 2 (by decide) _ rfl _ rfl) hcJ) ⟨s, ⟨_, rfl, rfl⟩, hS, fun _ _ => rfl⟩
                        | 4, _ => exact stepV rfl rfl (execLd3 rfl (hv 3 (by decide) _ rfl _ rfl) ((hS.2.cell (t := 1) (by omega) ey1 hcJ).1.trans (by rw [← ep]; rfl))) ⟨s, ⟨_, rfl, rfl⟩, hS, fun _ _ => rfl⟩
                        | 5, _ => exact stepV rfl rfl (execIdxN (k := p_) rfl ((hv 0 (by decide) _ rfl _ rfl).trans eoo) (hv 4 (by decide) _ rfl _ rfl) hpm) ⟨s, ⟨_, rfl, rfl⟩, hS, fun _ _ => rfl⟩
                        | 6, _ => exact stepV rfl rfl (execLd3 rfl (hv 5 (by decide) _ rfl _ rfl) ((coo p_ hpm X hS.1).trans (by rw [eo]))) ⟨s, ⟨_, rfl, rfl⟩, hS, fun _ _ => rfl⟩
                        | 7, _ => exact stepV rfl rfl (execAsgB rfl (hv 6 (by decide) _ rfl _ rfl)) ⟨s, ⟨_, rfl, rfl⟩, hS, fun _ _ => rfl⟩
                        | k_ + 8, h_ => exact absurd h_ (by simp)
                      rintro _ a X19 h1 h2 h3 h4 hS
                      clear BB
                      clear FMb
                      replace hS : Below V.heap.size V X19 ∧ (FmI V.heap.size 3 (y) (nnR J p) (ffR sf cf vf p) X19) := hS
                      obtain ⟨BB, FMb⟩ := hS
                      replace t0 := (h3 0 (by decide)).trans t0
                      replace t1 := (h3 1 (by decide)).trans t1
                      replace t2 := (h3 2 (by decide)).trans t2
                      replace t8 := (h3 8 (by decide)).trans t8
                      replace t9 := (h3 9 (by decide)).trans t9
                      replace t10 := (h3 10 (by decide)).trans t10
                      replace t13 := (h3 13 (by decide)).trans t13
                      replace t14 := (h3 14 (by decide)).trans t14
                      replace t15 := (h3 15 (by decide)).trans t15
                      have t16 : a.eval (.tmp 16) = .int .i64 ((o_ : Nat) : Int) := h4 7 _ rfl _ rfl
                      replace A := (⟨h1, h2.trans A.2⟩ : a.tmps.size = 128 ∧ a.defers = [])
                      clear h1 h2 h3 h4
                      refine wp_seq ?_
                      refine wp_seq ?_
                      refine wp_region_sq (σ := Unit) 128 [(0, 89), (1, 90), (2, 91), (3, 92), (4, 93), (5, 94), (6, 95), (7, 96), (8, 97), (9, 98)] (fun j_ s X => match j_ with | 0 => Below V.heap.size V X ∧ (FmI V.heap.size 3 (y) (nnR J p) (ffR sf cf vf p) X) | 1 => Below V.heap.size V X ∧ (FmI V.heap.size 3 (y) (nnR J p) (ffR sf cf vf p) X) | 2 => Below V.heap.size V X ∧ (FmI V.heap.size 3 (y) (nnR J p) (ffR sf cf vf p) X) | 3 => Below V.heap.size V X ∧ (FmI V.heap.size 3 (y) (nnR J p) (ffR sf cf vf p) X) | 4 => Below V.heap.size V X ∧ (FmI V.heap.size 3 (y) (nnR J p) (ffR sf cf vf p) X) | 5 => Below V.heap.size V X ∧ (FmI V.heap.size 3 (y) (nnR J p) (ffR sf cf vf p) X) | 6 => Below V.heap.size V X ∧ (FmI V.heap.size 3 (y) (nnR J p) (ffR sf cf vf p) X) | 7 => Below V.heap.size V X ∧ (FmI V.heap.size 3 (y) (nnR J p) (ffR sf cf vf p) X) | 8 => Below V.heap.size V X ∧ (FmI V.heap.size 3 (y) (nnR J p) (ffR sf cf vf p) X) | 9 => Below V.heap.size V X ∧ (FmI V.heap.size 3 (y) (nnR J p) (ffR sf cf vf p) X) | _ => Below V.heap.size V X ∧ (FmI V.heap.size 3 (y) (nnR J p) (ffR sf cf vf p) X)) (fun s => fun i_ => match i_ with | 0 => .int .i64 ((o_ : Nat) : Int) | 1 => .bool false | 2 => .bool false | 3 => .int .i64 ((o_ : Nat) : Int) | 4 => y 0 | 5 => .int .i64 ((c : Nat) : Int) | 6 => .pointer (some ⟨g0, 0 + c, none⟩) | 7 => .int .i64 ((q_ : Nat) : Int) | 8 => .bool true | 9 => .bool true | _ => undef) () A.1 (by kernel_rfl) (by decide) (by decide) ⟨BB, FMb⟩ ?_ ?_
                      · intro i_ hi_ s a X hf hv hn hS
                        match i_, hi_ with
                        | 0, _ => exact stepV rfl rfl (execMvB rfl ((hf 16 (by decide)).trans t16)) ⟨s, ⟨_, rfl, rfl⟩, hS, fun _ _ => rfl⟩
                        | 1, _ => exact stepV rfl rfl (execDec (execLtW (p := o_) (q := 0) rfl (hv 0 (by decide) _ rfl _ rfl) rfl) (decide_eq_false (by omega))) ⟨s, ⟨_, rfl, rfl⟩, hS, fun _ _ => rfl⟩
                        | 2, _ => exact stepV rfl rfl (execMvB rfl (hv 1 (by decide) _ rfl _ rfl)) ⟨s, ⟨_, rfl, rfl⟩, hS, fun _ _ => rfl⟩
                        | 3, _ => exact stepV rfl (wantedOf rfl (yieldedAt rfl rfl (show a.eval (.tmp 91) = .bool false from (hv 2 (by decide) _ rfl _ rfl)))) (execMvB rfl ((hf 16 (by decide)).trans t16)) ⟨s, ⟨_, rfl, rfl⟩, hS, fun _ _ => rfl⟩
                        | 4, _ => exact stepV rfl (wantedOf rfl (yieldedAt rfl rfl (show a.eval (.tmp 91) = .bool false from (hv 2 (by decide) _ rfl _ rfl)))) (execMvB rfl ((hf 9 (by decide)).trans t9)) ⟨s, ⟨_, rfl, rfl⟩, hS, fun _ _ => rfl⟩
                        | 5, _ => exact stepV rfl (wantedOf rfl (yieldedAt rfl rfl (show a.eval (.tmp 91) = .bool false from (hv 2 (by decide) _ rfl _ rfl)))) (execMvB rfl ((hf 15 (by decide)).trans t15)) ⟨s, ⟨_, rfl, rfl⟩, hS, fun _ _ => rfl⟩
                        | 6, _ => exact stepV rfl (wantedOf rfl (yieldedAt rfl rfl (show a.eval (.tmp 91) = .bool false from (hv 2 (by decide) _ rfl _ rfl)))) (execIdxN (k := c) rfl ((hv 4 (by decide) _ rfl _ rfl).trans ey0) (hv 5 (by decide) _ rfl _ rfl) hcJ) ⟨s, ⟨_, rfl, rfl⟩, hS, fun _ _ => rfl⟩
                        | 7, _ => exact stepV rfl (wantedOf rfl (yieldedAt rfl rfl (show a.eval (.tmp 91) = .bool false from (hv 2 (by decide) _ rfl _ rfl)))) (execLd3 rfl (hv 6 (by decide) _ rfl _ rfl) ((hS.2.cell (t := 0) (by omega) ey0 hcJ).1.trans (by rw [← eq]; rfl))) ⟨s, ⟨_, rfl, rfl⟩, hS, fun _ _ => rfl⟩
                        | 8, _ => exact stepV rfl (wantedOf rfl (yieldedAt rfl rfl (show a.eval (.tmp 91) = .bool false from (hv 2 (by decide) _ rfl _ rfl)))) (execDec (execGe8 (p := o_) (q := q_) rfl (hv 3 (by decide) _ rfl _ rfl) (hv 7 (by decide) _ rfl _ rfl)) (decide_eq_true (by omega))) ⟨s, ⟨_, rfl, rfl⟩, hS, fun _ _ => rfl⟩
                        | 9, _ => exact stepV rfl rfl (execPickF rfl (hv 2 (by decide) _ rfl _ rfl) (hv 8 (by decide) _ rfl _ rfl)) ⟨s, ⟨_, rfl, rfl⟩, hS, fun _ _ => rfl⟩
                        | k_ + 10, h_ => exact absurd h_ (by simp)
                      rintro _ a X20 h1 h2 h3 h4 hS
                      clear BB
                      clear FMb
                      replace hS : Below V.heap.size V X20 ∧ (FmI V.heap.size 3 (y) (nnR J p) (ffR sf cf vf p) X20) := hS
                      obtain ⟨BB, FMb⟩ := hS
                      replace t0 := (h3 0 (by decide)).trans t0
                      replace t1 := (h3 1 (by decide)).trans t1
                      replace t2 := (h3 2 (by decide)).trans t2
                      replace t8 := (h3 8 (by decide)).trans t8
                      replace t9 := (h3 9 (by decide)).trans t9
                      replace t10 := (h3 10 (by decide)).trans t10
                      replace t13 := (h3 13 (by decide)).trans t13
                      replace t14 := (h3 14 (by decide)).trans t14
                      replace t15 := (h3 15 (by decide)).trans t15
                      replace t16 := (h3 16 (by decide)).trans t16
                      have t98 : a.eval (.tmp 98) = .bool true := h4 9 _ rfl _ rfl
                      replace A := (⟨h1, h2.trans A.2⟩ : a.tmps.size = 128 ∧ a.defers = [])
                      clear h1 h2 h3 h4
                      refine wp_cond_true t98 ?_
                      refine wp_seq ?_
                      clear FMb
                      refine wp_region_sq (σ := Unit) 128 [(0, 6), (1, 7)] (fun j_ s X => match j_ with | 0 => Below V.heap.size V X | 1 => Below V.heap.size V X | _ => Below V.heap.size V X) (fun s => fun i_ => match i_ with | 0 => .slice none 0 0 | 1 => .int .i64 ((2 : Nat) : Int) | _ => undef) () A.1 (by kernel_rfl) (by decide) (by decide) (BB) ?_ ?_
                      · intro i_ hi_ s a X hf hv hn hS
                        match i_, hi_ with
                        | 0, _ => exact stepV rfl rfl (execAsgB rfl rfl) ⟨s, ⟨_, rfl, rfl⟩, hS, fun _ _ => rfl⟩
                        | 1, _ => exact stepV rfl rfl (execAsgB rfl rfl) ⟨s, ⟨_, rfl, rfl⟩, hS, fun _ _ => rfl⟩
                        | k_ + 2, h_ => exact absurd h_ (by simp)
                      rintro _ a X21 h1 h2 h3 h4 hS
                      clear BB
                      replace hS : Below V.heap.size V X21 := hS
                      have BB := hS
                      clear hS
                      have t6 : a.eval (.tmp 6) = .slice none 0 0 := h4 0 _ rfl _ rfl
                      have t7 : a.eval (.tmp 7) = .int .i64 ((2 : Nat) : Int) := h4 1 _ rfl _ rfl
                      replace A := (⟨h1, h2.trans A.2⟩ : a.tmps.size = 128 ∧ a.defers = [])
                      clear h1 h2 h3 h4
                      clear t0 t1 t2 t8 t9 t10 t13 t14 t15 t16
                      have hE : drE sf J cf n vf m = 2 := drE_no fun q => by have h_ := (rdB_iff.1 (allB_iff.1 ((rd_dr hs).2 q).2.2 p ltp)).2; rw [hp0, ec, eq] at h_; omega
                      rw [hE, zl_no (by decide)]
                      refine wp_ret ?_
                      repeat (first | with_reducible refine ret_in ?_ | with_reducible refine ret_then ?_)
                      refine bodyPost_ret (results_tmp2 rfl _ _ _) A.2 ⟨_, ?_, World.ownsRow_nil _ _ _ _, BB⟩
                      show Ending.returned (.tuple #[a.eval (.tmp 6), a.eval (.tmp 7)]) = _
                      rw [t6, t7]
                    · obtain ⟨c, ec0⟩ : ∃ c : Nat, cf p = c := ⟨(cf p).toNat, by omega⟩
                      have ec : gN cf p = c := by show (cf p).toNat = c; omega
                      have hcJ : c < J := by omega
                      obtain ⟨g0, c0, ey0, hB0, _⟩ := ownL_some9 (FMb.rows 0 (by omega)) (show 0 < J by omega)
                      obtain ⟨g1, c1, ey1, hB1, _⟩ := ownL_some9 (FMb.rows 1 (by omega)) (show 0 < J by omega)
                      obtain ⟨q_, eq⟩ : ∃ q_, lefC (gN sf) (gN cf) p c = q_ := ⟨_, rfl⟩
                      obtain ⟨p_, ep⟩ : ∃ p_, sumN (gN sf) c + cntC (gN cf) c p = p_ := ⟨_, rfl⟩
                      have hsc := sumN_at (r := gN sf) hcJ
                      have hp0 : poC (gN sf) (gN cf) p = p_ := by rw [← ep, ← ec]; rfl
                      rw [ec, eq] at h3b
                      rw [hp0] at h4
                      try rw [hp0, ec, eq] at h5
                      have hq256 : q_ ≤ 256 := by have hle : q_ ≤ gN sf c := (by rw [← eq]; exact Nat.sub_le _ _); omega
                      have hpm : p_ < m := by have hle : lefC (gN sf) (gN cf) p c = gN sf c - cntC (gN cf) c p := rfl; omega
                      refine wp_seq ?_
                      refine wp_region_sq (σ := Unit) 128 [(0, 63), (1, 64), (2, 65), (3, 66), (4, 15)] (fun j_ s X => match j_ with | 0 => Below V.heap.size V X ∧ (FmI V.heap.size 3 (y) (nnR J p) (ffR sf cf vf p) X) | 1 => Below V.heap.size V X ∧ (FmI V.heap.size 3 (y) (nnR J p) (ffR sf cf vf p) X) | 2 => Below V.heap.size V X ∧ (FmI V.heap.size 3 (y) (nnR J p) (ffR sf cf vf p) X) | 3 => Below V.heap.size V X ∧ (FmI V.heap.size 3 (y) (nnR J p) (ffR sf cf vf p) X) | 4 => Below V.heap.size V X ∧ (FmI V.heap.size 3 (y) (nnR J p) (ffR sf cf vf p) X) | _ => Below V.heap.size V X ∧ (FmI V.heap.size 3 (y) (nnR J p) (ffR sf cf vf p) X)) (fun s => fun i_ => match i_ with | 0 => u0 | 1 => .int .i64 ((p : Nat) : Int) | 2 => .pointer (some ⟨ccb, cco + p, none⟩) | 3 => .int .i64 ((c : Nat) : Int) | 4 => .int .i64 ((c : Nat) : Int) | _ => undef) () A.1 (by kernel_rfl) (by decide) (by decide) ⟨BB, FMb⟩ ?_ ?_
                      · intro i_ hi_ s a X hf hv hn hS
                        match i_, hi_ with
                        | 0, _ => exact stepV rfl rfl (execMvB rfl ((hf 1 (by decide)).trans t1)) ⟨s, ⟨_, rfl, rfl⟩, hS, fun _ _ => rfl⟩
                        | 1, _ => exact stepV rfl rfl (execMvB rfl ((hf 14 (by decide)).trans t14)) ⟨s, ⟨_, rfl, rfl⟩, hS, fun _ _ => rfl⟩
                        | 2, _ => exact stepV rfl rfl (execIdxN (k := p) rfl ((hv 0 (by decide) _ rfl _ rfl).trans ecc) (hv 1 (by decide) _ rfl _ rfl) ltp) ⟨s, ⟨_, rfl, rfl⟩, hS, fun _ _ => rfl⟩
                        | 3, _ => exact stepV rfl rfl (execLd3 rfl (hv 2 (by decide) _ rfl _ rfl) ((ccc p ltp X hS.1).trans (by rw [ec0]))) ⟨s, ⟨_, rfl, rfl⟩, hS, fun _ _ => rfl⟩
                        | 4, _ => exact stepV rfl rfl (execAsgB rfl (hv 3 (by decide) _ rfl _ rfl)) ⟨s, ⟨_, rfl, rfl⟩, hS, fun _ _ => rfl⟩
                        | k_ + 5, h_ => exact absurd h_ (by simp)
                      rintro _ a X16 h1 h2 h3 h4 hS
                      clear BB
                      clear FMb
                      replace hS : Below V.heap.size V X16 ∧ (FmI V.heap.size 3 (y) (nnR J p) (ffR sf cf vf p) X16) := hS
                      obtain ⟨BB, FMb⟩ := hS
                      replace t0 := (h3 0 (by decide)).trans t0
                      replace t1 := (h3 1 (by decide)).trans t1
                      replace t2 := (h3 2 (by decide)).trans t2
                      replace t8 := (h3 8 (by decide)).trans t8
                      replace t9 := (h3 9 (by decide)).trans t9
                      replace t10 := (h3 10 (by decide)).trans t10
                      replace t13 := (h3 13 (by decide)).trans t13
                      replace t14 := (h3 14 (by decide)).trans t14
                      have t15 : a.eval (.tmp 15) = .int .i64 ((c : Nat) : Int) := h4 4 _ rfl _ rfl
                      replace A := (⟨h1, h2.trans A.2⟩ : a.tmps.size = 128 ∧ a.defers = [])
                      clear h1 h2 h3 h4
                      refine wp_seq ?_
                      refine wp_seq ?_
                      refine wp_region_sq (σ := Unit) 128 [(0, 67), (1, 68), (2, 69), (3, 70), (4, 71), (5, 72), (6, 73), (7, 74), (8, 75), (9, 76), (10, 77), (11, 78), (12, 79), (13, 80), (14, 81)] (fun j_ s X => match j_ with | 0 => Below V.heap.size V X ∧ (FmI V.heap.size 3 (y) (nnR J p) (ffR sf cf vf p) X) | 1 => Below V.heap.size V X ∧ (FmI V.heap.size 3 (y) (nnR J p) (ffR sf cf vf p) X) | 2 => Below V.heap.size V X ∧ (FmI V.heap.size 3 (y) (nnR J p) (ffR sf cf vf p) X) | 3 => Below V.heap.size V X ∧ (FmI V.heap.size 3 (y) (nnR J p) (ffR sf cf vf p) X) | 4 => Below V.heap.size V X ∧ (FmI V.heap.size 3 (y) (nnR J p) (ffR sf cf vf p) X) | 5 => Below V.heap.size V X ∧ (FmI V.heap.size 3 (y) (nnR J p) (ffR sf cf vf p) X) | 6 => Below V.heap.size V X ∧ (FmI V.heap.size 3 (y) (nnR J p) (ffR sf cf vf p) X) | 7 => Below V.heap.size V X ∧ (FmI V.heap.size 3 (y) (nnR J p) (ffR sf cf vf p) X) | 8 => Below V.heap.size V X ∧ (FmI V.heap.size 3 (y) (nnR J p) (ffR sf cf vf p) X) | 9 => Below V.heap.size V X ∧ (FmI V.heap.size 3 (y) (nnR J p) (ffR sf cf vf p) X) | 10 => Below V.heap.size V X ∧ (FmI V.heap.size 3 (y) (nnR J p) (ffR sf cf vf p) X) | 11 => Below V.heap.size V X ∧ (FmI V.heap.size 3 (y) (nnR J p) (ffR sf cf vf p) X) | 12 => Below V.heap.size V X ∧ (FmI V.heap.size 3 (y) (nnR J p) (ffR sf cf vf p) X) | 13 => Below V.heap.size V X ∧ (FmI V.heap.size 3 (y) (nnR J p) (ffR sf cf vf p) X) | 14 => Below V.heap.size V X ∧ (FmI V.heap.size 3 (y) (nnR J p) (ffR sf cf vf p) X) | _ => Below V.heap.size V X ∧ (FmI V.heap.size 3 (y) (nnR J p) (ffR sf cf vf p) X)) (fun s => fun i_ => match i_ with | 0 => .int .i64 ((c : Nat) : Int) | 1 => .bool false | 2 => .bool false | 3 => .int .i64 ((c : Nat) : Int) | 4 => v | 5 => .int .i64 ((J : Nat) : Int) | 6 => .bool false | 7 => .bool false | 8 => .bool false | 9 => y 0 | 10 => .int .i64 ((c : Nat) : Int) | 11 => .pointer (some ⟨g0, 0 + c, none⟩) | 12 => .int .i64 ((q_ : Nat) : Int) | 13 => .bool false | 14 => .bool false | _ => undef) () A.1 (by kernel_rfl) (by decide) (by decide) ⟨BB, FMb⟩ ?_ ?_
                      · intro i_ hi_ s a X hf hv hn hS
                        match i_, hi_ with
                        | 0, _ => exact stepV rfl rfl (execMvB rfl ((hf 15 (by decide)).trans t15)) ⟨s, ⟨_, rfl, rfl⟩, hS, fun _ _ => rfl⟩
                        | 1, _ => exact stepV rfl rfl (execDec (execLtW (p := c) (q := 0) rfl (hv 0 (by decide) _ rfl _ rfl) rfl) (decide_eq_false (by omega))) ⟨s, ⟨_, rfl, rfl⟩, hS, fun _ _ => rfl⟩
                        | 2, _ => exact stepV rfl rfl (execMvB rfl (hv 1 (by decide) _ rfl _ rfl)) ⟨s, ⟨_, rfl, rfl⟩, hS, fun _ _ => rfl⟩
                        | 3, _ => exact stepV rfl (wantedOf rfl (yieldedAt rfl rfl (show a.eval (.tmp 69) = .bool false from (hv 2 (by decide) _ rfl _ rfl)))) (execMvB rfl ((hf 15 (by decide)).trans t15)) ⟨s, ⟨_, rfl, rfl⟩, hS, fun _ _ => rfl⟩
                        | 4, _ => exact stepV rfl (wantedOf rfl (yieldedAt rfl rfl (show a.eval (.tmp 69) = .bool false from (hv 2 (by decide) _ rfl _ rfl)))) (execMvB rfl ((hf 0 (by decide)).trans t0)) ⟨s, ⟨_, rfl, rfl⟩, hS, fun _ _ => rfl⟩
                        | 5, _ => exact stepV rfl (wantedOf rfl (yieldedAt rfl rfl (show a.eval (.tmp 69) = .bool false from (hv 2 (by decide) _ rfl _ rfl)))) (execLenI (len := J) rfl (hv 4 (by decide) _ rfl _ rfl) ((FI.on hS.1)).shp) ⟨s, ⟨_, rfl, rfl⟩, hS, fun _ _ => rfl⟩
                        | 6, _ => exact stepV rfl (wantedOf rfl (yieldedAt rfl rfl (show a.eval (.tmp 69) = .bool false from (hv 2 (by decide) _ rfl _ rfl)))) (execDec (execGe8 (p := c) (q := J) rfl (hv 3 (by decide) _ rfl _ rfl) (hv 5 (by decide) _ rfl _ rfl)) (decide_eq_false (by omega))) ⟨s, ⟨_, rfl, rfl⟩, hS, fun _ _ => rfl⟩
                        | 7, _ => exact stepV rfl rfl (execPickF rfl (hv 2 (by decide) _ rfl _ rfl) (hv 6 (by decide) _ rfl _ rfl)) ⟨s, ⟨_, rfl, rfl⟩, hS, fun _ _ => rfl⟩
                        | 8, _ => exact stepV rfl rfl (execMvB rfl (hv 7 (by decide) _ rfl _ rfl)) ⟨s, ⟨_, rfl, rfl⟩, hS, fun _ _ => rfl⟩
                        | 9, _ => exact stepV rfl (wantedOf rfl (yieldedAt rfl rfl (show a.eval (.tmp 75) = .bool false from (hv 8 (by decide) _ rfl _ rfl)))) (execMvB rfl ((hf 9 (by decide)).trans t9)) ⟨s, ⟨_, rfl, rfl⟩, hS, fun _ _ => rfl⟩
                        | 10, _ => exact stepV rfl (wantedOf rfl (yieldedAt rfl rfl (show a.eval (.tmp 75) = .bool false from (hv 8 (by decide) _ rfl _ rfl)))) (execMvB rfl ((hf 15 (by decide)).trans t15)) ⟨s, ⟨_, rfl, rfl⟩, hS, fun _ _ => rfl⟩
                        | 11, _ => exact stepV rfl (wantedOf rfl (yieldedAt rfl rfl (show a.eval (.tmp 75) = .bool false from (hv 8 (by decide) _ rfl _ rfl)))) (execIdxN (k := c) rfl ((hv 9 (by decide) _ rfl _ rfl).trans ey0) (hv 10 (by decide) _ rfl _ rfl) hcJ) ⟨s, ⟨_, rfl, rfl⟩, hS, fun _ _ => rfl⟩
                        | 12, _ => exact stepV rfl (wantedOf rfl (yieldedAt rfl rfl (show a.eval (.tmp 75) = .bool false from (hv 8 (by decide) _ rfl _ rfl)))) (execLd3 rfl (hv 11 (by decide) _ rfl _ rfl) ((hS.2.cell (t := 0) (by omega) ey0 hcJ).1.trans (by rw [← eq]; rfl))) ⟨s, ⟨_, rfl, rfl⟩, hS, fun _ _ => rfl⟩
                        | 13, _ => exact stepV rfl (wantedOf rfl (yieldedAt rfl rfl (show a.eval (.tmp 75) = .bool false from (hv 8 (by decide) _ rfl _ rfl)))) (execDec (execEqN (p := q_) (q := 0) rfl (hv 12 (by decide) _ rfl _ rfl) rfl) (decide_eq_false (by omega))) ⟨s, ⟨_, rfl, rfl⟩, hS, fun _ _ => rfl⟩
                        | 14, _ => exact stepV rfl rfl (execPickF rfl (hv 8 (by decide) _ rfl _ rfl) (hv 13 (by decide) _ rfl _ rfl)) ⟨s, ⟨_, rfl, rfl⟩, hS, fun _ _ => rfl⟩
                        | k_ + 15, h_ => exact absurd h_ (by simp)
                      rintro _ a X17 h1 h2 h3 h4 hS
                      clear BB
                      clear FMb
                      replace hS : Below V.heap.size V X17 ∧ (FmI V.heap.size 3 (y) (nnR J p) (ffR sf cf vf p) X17) := hS
                      obtain ⟨BB, FMb⟩ := hS
                      replace t0 := (h3 0 (by decide)).trans t0
                      replace t1 := (h3 1 (by decide)).trans t1
                      replace t2 := (h3 2 (by decide)).trans t2
                      replace t8 := (h3 8 (by decide)).trans t8
                      replace t9 := (h3 9 (by decide)).trans t9
                      replace t10 := (h3 10 (by decide)).trans t10
                      replace t13 := (h3 13 (by decide)).trans t13
                      replace t14 := (h3 14 (by decide)).trans t14
                      replace t15 := (h3 15 (by decide)).trans t15
                      have t81 : a.eval (.tmp 81) = .bool false := h4 14 _ rfl _ rfl
                      replace A := (⟨h1, h2.trans A.2⟩ : a.tmps.size = 128 ∧ a.defers = [])
                      clear h1 h2 h3 h4
                      refine wp_cond_false t81 ?_
                      refine wp_skip ?_
                      clear t81
                      obtain ⟨oob, ooo, ooc, eoo, hoob, hooc⟩ := open_sl FK (by omega)
                      have coo : ∀ k, k < m → ∀ X, Below V.heap.size V X → X.cell? ⟨oob, ooo + k, none⟩ = some (.int .i64 ((vf) k)) := fun k hk X hX => by rw [cell_below hX hoob]; exact hooc k hk
                      obtain ⟨o_, eo⟩ : ∃ o_ : Nat, vf p_ = o_ := ⟨(vf p_).toNat, by omega⟩
                      refine wp_seq ?_
                      refine wp_region_sq (σ := Unit) 128 [(0, 82), (1, 83), (2, 84), (3, 85), (4, 86), (5, 87), (6, 88), (7, 16)] (fun j_ s X => match j_ with | 0 => Below V.heap.size V X ∧ (FmI V.heap.size 3 (y) (nnR J p) (ffR sf cf vf p) X) | 1 => Below V.heap.size V X ∧ (FmI V.heap.size 3 (y) (nnR J p) (ffR sf cf vf p) X) | 2 => Below V.heap.size V X ∧ (FmI V.heap.size 3 (y) (nnR J p) (ffR sf cf vf p) X) | 3 => Below V.heap.size V X ∧ (FmI V.heap.size 3 (y) (nnR J p) (ffR sf cf vf p) X) | 4 => Below V.heap.size V X ∧ (FmI V.heap.size 3 (y) (nnR J p) (ffR sf cf vf p) X) | 5 => Below V.heap.size V X ∧ (FmI V.heap.size 3 (y) (nnR J p) (ffR sf cf vf p) X) | 6 => Below V.heap.size V X ∧ (FmI V.heap.size 3 (y) (nnR J p) (ffR sf cf vf p) X) | 7 => Below V.heap.size V X ∧ (FmI V.heap.size 3 (y) (nnR J p) (ffR sf cf vf p) X) | _ => Below V.heap.size V X ∧ (FmI V.heap.size 3 (y) (nnR J p) (ffR sf cf vf p) X)) (fun s => fun i_ => match i_ with | 0 => u1 | 1 => y 1 | 2 => .int .i64 ((c : Nat) : Int) | 3 => .pointer (some ⟨g1, 0 + c, none⟩) | 4 => .int .i64 ((p_ : Nat) : Int) | 5 => .pointer (some ⟨oob, ooo + p_, none⟩) | 6 => .int .i64 ((o_ : Nat) : Int) | 7 => .int .i64 ((o_ : Nat) : Int) | _ => undef) () A.1 (by kernel_rfl) (by decide) (by decide) ⟨BB, FMb⟩ ?_ ?_
                      · intro i_ hi_ s a X hf hv hn hS
                        match i_, hi_ with
                        | 0, _ => exact stepV rfl rfl (execMvB rfl ((hf 2 (by decide)).trans t2)) ⟨s, ⟨_, rfl, rfl⟩, hS, fun _ _ => rfl⟩
                        | 1, _ => exact stepV rfl rfl (execMvB rfl ((hf 10 (by decide)).trans t10)) ⟨s, ⟨_, rfl, rfl⟩, hS, fun _ _ => rfl⟩
                        | 2, _ => exact stepV rfl rfl (execMvB rfl ((hf 15 (by decide)).trans t15)) ⟨s, ⟨_, rfl, rfl⟩, hS, fun _ _ => rfl⟩
                        | 3, _ => exact stepV rfl rfl (execIdxN (k := c) rfl ((hv 1 (by decide) _ rfl _ rfl).trans ey1) (hv 2 (by decide) _ rfl _ rfl) hcJ) ⟨s, ⟨_, rfl, rfl⟩, hS, fun _ _ => rfl⟩
                        | 4, _ => exact stepV rfl rfl (execLd3 rfl (hv 3 (by decide) _ rfl _ rfl) ((hS.2.cell (t := 1) (by omega) ey1 hcJ).1.trans (by rw [← ep]; rfl))) ⟨s, ⟨_, rfl, rfl⟩, hS, fun _ _ => rfl⟩
                        | 5, _ => exact stepV rfl rfl (execIdxN (k := p_) rfl ((hv 0 (by decide) _ rfl _ rfl).trans eoo) (hv 4 (by decide) _ rfl _ rfl) hpm) ⟨s, ⟨_, rfl, rfl⟩, hS, fun _ _ => rfl⟩
                        | 6, _ => exact stepV rfl rfl (execLd3 rfl (hv 5 (by decide) _ rfl _ rfl) ((coo p_ hpm X hS.1).trans (by rw [eo]))) ⟨s, ⟨_, rfl, rfl⟩, hS, fun _ _ => rfl⟩
                        | 7, _ => exact stepV rfl rfl (execAsgB rfl (hv 6 (by decide) _ rfl _ rfl)) ⟨s, ⟨_, rfl, rfl⟩, hS, fun _ _ => rfl⟩
                        | k_ + 8, h_ => exact absurd h_ (by simp)
                      rintro _ a X19 h1 h2 h3 h4 hS
                      clear BB
                      clear FMb
                      replace hS : Below V.heap.size V X19 ∧ (FmI V.heap.size 3 (y) (nnR J p) (ffR sf cf vf p) X19) := hS
                      obtain ⟨BB, FMb⟩ := hS
                      replace t0 := (h3 0 (by decide)).trans t0
                      replace t1 := (h3 1 (by decide)).trans t1
                      replace t2 := (h3 2 (by decide)).trans t2
                      replace t8 := (h3 8 (by decide)).trans t8
                      replace t9 := (h3 9 (by decide)).trans t9
                      replace t10 := (h3 10 (by decide)).trans t10
                      replace t13 := (h3 13 (by decide)).trans t13
                      replace t14 := (h3 14 (by decide)).trans t14
                      replace t15 := (h3 15 (by decide)).trans t15
                      have t16 : a.eval (.tmp 16) = .int .i64 ((o_ : Nat) : Int) := h4 7 _ rfl _ rfl
                      replace A := (⟨h1, h2.trans A.2⟩ : a.tmps.size = 128 ∧ a.defers = [])
                      clear h1 h2 h3 h4
                      refine wp_seq ?_
                      refine wp_seq ?_
                      refine wp_region_sq (σ := Unit) 128 [(0, 89), (1, 90), (2, 91), (3, 92), (4, 93), (5, 94), (6, 95), (7, 96), (8, 97), (9, 98)] (fun j_ s X => match j_ with | 0 => Below V.heap.size V X ∧ (FmI V.heap.size 3 (y) (nnR J p) (ffR sf cf vf p) X) | 1 => Below V.heap.size V X ∧ (FmI V.heap.size 3 (y) (nnR J p) (ffR sf cf vf p) X) | 2 => Below V.heap.size V X ∧ (FmI V.heap.size 3 (y) (nnR J p) (ffR sf cf vf p) X) | 3 => Below V.heap.size V X ∧ (FmI V.heap.size 3 (y) (nnR J p) (ffR sf cf vf p) X) | 4 => Below V.heap.size V X ∧ (FmI V.heap.size 3 (y) (nnR J p) (ffR sf cf vf p) X) | 5 => Below V.heap.size V X ∧ (FmI V.heap.size 3 (y) (nnR J p) (ffR sf cf vf p) X) | 6 => Below V.heap.size V X ∧ (FmI V.heap.size 3 (y) (nnR J p) (ffR sf cf vf p) X) | 7 => Below V.heap.size V X ∧ (FmI V.heap.size 3 (y) (nnR J p) (ffR sf cf vf p) X) | 8 => Below V.heap.size V X ∧ (FmI V.heap.size 3 (y) (nnR J p) (ffR sf cf vf p) X) | 9 => Below V.heap.size V X ∧ (FmI V.heap.size 3 (y) (nnR J p) (ffR sf cf vf p) X) | _ => Below V.heap.size V X ∧ (FmI V.heap.size 3 (y) (nnR J p) (ffR sf cf vf p) X)) (fun s => fun i_ => match i_ with | 0 => .int .i64 ((o_ : Nat) : Int) | 1 => .bool false | 2 => .bool false | 3 => .int .i64 ((o_ : Nat) : Int) | 4 => y 0 | 5 => .int .i64 ((c : Nat) : Int) | 6 => .pointer (some ⟨g0, 0 + c, none⟩) | 7 => .int .i64 ((q_ : Nat) : Int) | 8 => .bool false | 9 => .bool false | _ => undef) () A.1 (by kernel_rfl) (by decide) (by decide) ⟨BB, FMb⟩ ?_ ?_
                      · intro i_ hi_ s a X hf hv hn hS
                        match i_, hi_ with
                        | 0, _ => exact stepV rfl rfl (execMvB rfl ((hf 16 (by decide)).trans t16)) ⟨s, ⟨_, rfl, rfl⟩, hS, fun _ _ => rfl⟩
                        | 1, _ => exact stepV rfl rfl (execDec (execLtW (p := o_) (q := 0) rfl (hv 0 (by decide) _ rfl _ rfl) rfl) (decide_eq_false (by omega))) ⟨s, ⟨_, rfl, rfl⟩, hS, fun _ _ => rfl⟩
                        | 2, _ => exact stepV rfl rfl (execMvB rfl (hv 1 (by decide) _ rfl _ rfl)) ⟨s, ⟨_, rfl, rfl⟩, hS, fun _ _ => rfl⟩
                        | 3, _ => exact stepV rfl (wantedOf rfl (yieldedAt rfl rfl (show a.eval (.tmp 91) = .bool false from (hv 2 (by decide) _ rfl _ rfl)))) (execMvB rfl ((hf 16 (by decide)).trans t16)) ⟨s, ⟨_, rfl, rfl⟩, hS, fun _ _ => rfl⟩
                        | 4, _ => exact stepV rfl (wantedOf rfl (yieldedAt rfl rfl (show a.eval (.tmp 91) = .bool false from (hv 2 (by decide) _ rfl _ rfl)))) (execMvB rfl ((hf 9 (by decide)).trans t9)) ⟨s, ⟨_, rfl, rfl⟩, hS, fun _ _ => rfl⟩
                        | 5, _ => exact stepV rfl (wantedOf rfl (yieldedAt rfl rfl (show a.eval (.tmp 91) = .bool false from (hv 2 (by decide) _ rfl _ rfl)))) (execMvB rfl ((hf 15 (by decide)).trans t15)) ⟨s, ⟨_, rfl, rfl⟩, hS, fun _ _ => rfl⟩
                        | 6, _ => exact stepV rfl (wantedOf rfl (yieldedAt rfl rfl (show a.eval (.tmp 91) = .bool false from (hv 2 (by decide) _ rfl _ rfl)))) (execIdxN (k := c) rfl ((hv 4 (by decide) _ rfl _ rfl).trans ey0) (hv 5 (by decide) _ rfl _ rfl) hcJ) ⟨s, ⟨_, rfl, rfl⟩, hS, fun _ _ => rfl⟩
                        | 7, _ => exact stepV rfl (wantedOf rfl (yieldedAt rfl rfl (show a.eval (.tmp 91) = .bool false from (hv 2 (by decide) _ rfl _ rfl)))) (execLd3 rfl (hv 6 (by decide) _ rfl _ rfl) ((hS.2.cell (t := 0) (by omega) ey0 hcJ).1.trans (by rw [← eq]; rfl))) ⟨s, ⟨_, rfl, rfl⟩, hS, fun _ _ => rfl⟩
                        | 8, _ => exact stepV rfl (wantedOf rfl (yieldedAt rfl rfl (show a.eval (.tmp 91) = .bool false from (hv 2 (by decide) _ rfl _ rfl)))) (execDec (execGe8 (p := o_) (q := q_) rfl (hv 3 (by decide) _ rfl _ rfl) (hv 7 (by decide) _ rfl _ rfl)) (decide_eq_false (by omega))) ⟨s, ⟨_, rfl, rfl⟩, hS, fun _ _ => rfl⟩
                        | 9, _ => exact stepV rfl rfl (execPickF rfl (hv 2 (by decide) _ rfl _ rfl) (hv 8 (by decide) _ rfl _ rfl)) ⟨s, ⟨_, rfl, rfl⟩, hS, fun _ _ => rfl⟩
                        | k_ + 10, h_ => exact absurd h_ (by simp)
                      rintro _ a X20 h1 h2 h3 h4 hS
                      clear BB
                      clear FMb
                      replace hS : Below V.heap.size V X20 ∧ (FmI V.heap.size 3 (y) (nnR J p) (ffR sf cf vf p) X20) := hS
                      obtain ⟨BB, FMb⟩ := hS
                      replace t0 := (h3 0 (by decide)).trans t0
                      replace t1 := (h3 1 (by decide)).trans t1
                      replace t2 := (h3 2 (by decide)).trans t2
                      replace t8 := (h3 8 (by decide)).trans t8
                      replace t9 := (h3 9 (by decide)).trans t9
                      replace t10 := (h3 10 (by decide)).trans t10
                      replace t13 := (h3 13 (by decide)).trans t13
                      replace t14 := (h3 14 (by decide)).trans t14
                      replace t15 := (h3 15 (by decide)).trans t15
                      replace t16 := (h3 16 (by decide)).trans t16
                      have t98 : a.eval (.tmp 98) = .bool false := h4 9 _ rfl _ rfl
                      replace A := (⟨h1, h2.trans A.2⟩ : a.tmps.size = 128 ∧ a.defers = [])
                      clear h1 h2 h3 h4
                      refine wp_cond_false t98 ?_
                      refine wp_skip ?_
                      clear t98
                      have hrdp : rdB sf J cf vf p = true := rdB_iff.2 ⟨by omega, by rw [hp0, ec, eq]; omega⟩
                      have hlb : sumN (lefC (gN sf) (gN cf) p) J ≤ sumN (gN sf) J := sumN_le fun j _ => Nat.sub_le _ _
                      refine wp_seq ?_
                      refine wp_region_sq (σ := Unit) 128 [(0, 99), (1, 17)] (fun j_ s X => match j_ with | 0 => Below V.heap.size V X ∧ (FmI V.heap.size 3 (y) (nnR J p) (ffR sf cf vf p) X) | 1 => Below V.heap.size V X ∧ (FmI V.heap.size 3 (y) (nnR J p) (ffR sf cf vf p) X) | _ => Below V.heap.size V X ∧ (FmI V.heap.size 3 (y) (nnR J p) (ffR sf cf vf p) X)) (fun s => fun i_ => match i_ with | 0 => .int .i64 ((o_ : Nat) : Int) | 1 => .int .i64 ((o_ : Nat) : Int) | _ => undef) () A.1 (by kernel_rfl) (by decide) (by decide) ⟨BB, FMb⟩ ?_ ?_
                      · intro i_ hi_ s a X hf hv hn hS
                        match i_, hi_ with
                        | 0, _ => exact stepV rfl rfl (execMvB rfl ((hf 16 (by decide)).trans t16)) ⟨s, ⟨_, rfl, rfl⟩, hS, fun _ _ => rfl⟩
                        | 1, _ => exact stepV rfl rfl (execAsgB rfl (hv 0 (by decide) _ rfl _ rfl)) ⟨s, ⟨_, rfl, rfl⟩, hS, fun _ _ => rfl⟩
                        | k_ + 2, h_ => exact absurd h_ (by simp)
                      rintro _ a X22 h1 h2 h3 h4 hS
                      clear BB
                      clear FMb
                      replace hS : Below V.heap.size V X22 ∧ (FmI V.heap.size 3 (y) (nnR J p) (ffR sf cf vf p) X22) := hS
                      obtain ⟨BB, FMb⟩ := hS
                      replace t0 := (h3 0 (by decide)).trans t0
                      replace t1 := (h3 1 (by decide)).trans t1
                      replace t2 := (h3 2 (by decide)).trans t2
                      replace t8 := (h3 8 (by decide)).trans t8
                      replace t9 := (h3 9 (by decide)).trans t9
                      replace t10 := (h3 10 (by decide)).trans t10
                      replace t13 := (h3 13 (by decide)).trans t13
                      replace t14 := (h3 14 (by decide)).trans t14
                      replace t15 := (h3 15 (by decide)).trans t15
                      have t17 : a.eval (.tmp 17) = .int .i64 ((o_ : Nat) : Int) := h4 1 _ rfl _ rfl
                      replace A := (⟨h1, h2.trans A.2⟩ : a.tmps.size = 128 ∧ a.defers = [])
                      clear h1 h2 h3 h4
                      clear t16
                      refine wp_seq ?_
                      refine wp_seq ?_
                      refine wp_region_sq (σ := Unit) 128 [(0, 18)] (fun j_ s X => match j_ with | 0 => Below V.heap.size V X ∧ (FmI V.heap.size 3 (y) (nnR J p) (ffR sf cf vf p) X) | _ => Below V.heap.size V X ∧ (FmI V.heap.size 3 (y) (nnR J p) (ffR sf cf vf p) X)) (fun s => fun i_ => match i_ with | 0 => .int .i64 ((0 : Nat) : Int) | _ => undef) () A.1 (by kernel_rfl) (by decide) (by decide) ⟨BB, FMb⟩ ?_ ?_
                      · intro i_ hi_ s a X hf hv hn hS
                        match i_, hi_ with
                        | 0, _ => exact stepV rfl rfl (execAsgB rfl rfl) ⟨s, ⟨_, rfl, rfl⟩, hS, fun _ _ => rfl⟩
                        | k_ + 1, h_ => exact absurd h_ (by simp)
                      rintro _ a X23 h1 h2 h3 h4 hS
                      clear BB
                      clear FMb
                      replace hS : Below V.heap.size V X23 ∧ (FmI V.heap.size 3 (y) (nnR J p) (ffR sf cf vf p) X23) := hS
                      obtain ⟨BB, FMb⟩ := hS
                      replace t0 := (h3 0 (by decide)).trans t0
                      replace t1 := (h3 1 (by decide)).trans t1
                      replace t2 := (h3 2 (by decide)).trans t2
                      replace t8 := (h3 8 (by decide)).trans t8
                      replace t9 := (h3 9 (by decide)).trans t9
                      replace t10 := (h3 10 (by decide)).trans t10
                      replace t13 := (h3 13 (by decide)).trans t13
                      replace t14 := (h3 14 (by decide)).trans t14
                      replace t15 := (h3 15 (by decide)).trans t15
                      replace t17 := (h3 17 (by decide)).trans t17
                      have t18 : a.eval (.tmp 18) = .int .i64 ((0 : Nat) : Int) := h4 0 _ rfl _ rfl
                      replace A := (⟨h1, h2.trans A.2⟩ : a.tmps.size = 128 ∧ a.defers = [])
                      clear h1 h2 h3 h4
                      refine wp_block ?_
                      refine wp_loop (fun a W => ∃ (d : Nat), d ≤ c ∧ (a.tmps.size = 128 ∧ a.defers = []) ∧ a.eval (.tmp 0) = v ∧ a.eval (.tmp 1) = u0 ∧ a.eval (.tmp 2) = u1 ∧ a.eval (.tmp 8) = .int .i64 ((n : Nat) : Int) ∧ a.eval (.tmp 9) = y 0 ∧ a.eval (.tmp 10) = y 1 ∧ a.eval (.tmp 13) = y 2 ∧ a.eval (.tmp 14) = .int .i64 ((p : Nat) : Int) ∧ a.eval (.tmp 15) = .int .i64 ((c : Nat) : Int) ∧ a.eval (.tmp 17) = .int .i64 ((o_ + sumN (lefC (gN sf) (gN cf) p) d : Nat) : Int) ∧ a.eval (.tmp 18) = .int .i64 ((d : Nat) : Int) ∧ Below V.heap.size V W ∧ (FmI V.heap.size 3 (y) (nnR J p) (ffR sf cf vf p) W)) (fun a _ => c - (intOf (a.eval (.tmp 18))).toNat) ⟨0, Nat.zero_le _, A, t0, t1, t2, t8, t9, t10, t13, t14, t15, t17, t18, BB, FMb⟩ ?_
                      clear A t0 t1 t2 t8 t9 t10 t13 t14 t15 t17 t18 BB FMb a
                      rintro a XL24 ⟨d, hd, A, t0, t1, t2, t8, t9, t10, t13, t14, t15, t17, t18, BB, FMb⟩
                      have esd := t18
                      refine wp_seq ?_
                      refine wp_seq ?_
                      refine wp_region_sq (σ := Unit) 128 [(0, 100), (1, 101), (2, 102)] (fun j_ s X => match j_ with | 0 => Below V.heap.size V X ∧ (FmI V.heap.size 3 (y) (nnR J p) (ffR sf cf vf p) X) | 1 => Below V.heap.size V X ∧ (FmI V.heap.size 3 (y) (nnR J p) (ffR sf cf vf p) X) | 2 => Below V.heap.size V X ∧ (FmI V.heap.size 3 (y) (nnR J p) (ffR sf cf vf p) X) | _ => Below V.heap.size V X ∧ (FmI V.heap.size 3 (y) (nnR J p) (ffR sf cf vf p) X)) (fun s => fun i_ => match i_ with | 0 => .int .i64 ((d : Nat) : Int) | 1 => .int .i64 ((c : Nat) : Int) | 2 => .bool (decide (d < c)) | _ => undef) () A.1 (by kernel_rfl) (by decide) (by decide) ⟨BB, FMb⟩ ?_ ?_
                      · intro i_ hi_ s a X hf hv hn hS
                        match i_, hi_ with
                        | 0, _ => exact stepV rfl rfl (execMvB rfl ((hf 18 (by decide)).trans t18)) ⟨s, ⟨_, rfl, rfl⟩, hS, fun _ _ => rfl⟩
                        | 1, _ => exact stepV rfl rfl (execMvB rfl ((hf 15 (by decide)).trans t15)) ⟨s, ⟨_, rfl, rfl⟩, hS, fun _ _ => rfl⟩
                        | 2, _ => exact stepV rfl rfl (execLtW (p := d) (q := c) rfl (hv 0 (by decide) _ rfl _ rfl) (hv 1 (by decide) _ rfl _ rfl)) ⟨s, ⟨_, rfl, rfl⟩, hS, fun _ _ => rfl⟩
                        | k_ + 3, h_ => exact absurd h_ (by simp)
                      rintro _ a X24 h1 h2 h3 h4 hS
                      clear BB
                      clear FMb
                      replace hS : Below V.heap.size V X24 ∧ (FmI V.heap.size 3 (y) (nnR J p) (ffR sf cf vf p) X24) := hS
                      obtain ⟨BB, FMb⟩ := hS
                      replace t0 := (h3 0 (by decide)).trans t0
                      replace t1 := (h3 1 (by decide)).trans t1
                      replace t2 := (h3 2 (by decide)).trans t2
                      replace t8 := (h3 8 (by decide)).trans t8
                      replace t9 := (h3 9 (by decide)).trans t9
                      replace t10 := (h3 10 (by decide)).trans t10
                      replace t13 := (h3 13 (by decide)).trans t13
                      replace t14 := (h3 14 (by decide)).trans t14
                      replace t15 := (h3 15 (by decide)).trans t15
                      replace t17 := (h3 17 (by decide)).trans t17
                      replace t18 := (h3 18 (by decide)).trans t18
                      have t102 : a.eval (.tmp 102) = .bool (decide (d < c)) := h4 2 _ rfl _ rfl
                      replace A := (⟨h1, h2.trans A.2⟩ : a.tmps.size = 128 ∧ a.defers = [])
                      clear h1 h2 h3 h4
                      by_cases ltd : d < c
                      · rw [decide_eq_true ltd] at t102
                        refine wp_cond_true t102 ?_
                        refine wp_skip ?_
                        clear t102
                        refine wp_seq ?_
                        refine wp_block ?_
                        obtain ⟨g0, c0, ey0, hB0, _⟩ := ownL_some9 (FMb.rows 0 (by omega)) (show 0 < J by omega)
                        have hdJ : d < J := by omega
                        have hd1 := sumN_at (r := lefC (gN sf) (gN cf) p) hdJ
                        refine wp_region_sq (σ := Unit) 128 [(0, 105), (1, 106), (2, 107), (3, 108), (4, 109), (5, 110), (6, 17)] (fun j_ s X => match j_ with | 0 => Below V.heap.size V X ∧ (FmI V.heap.size 3 (y) (nnR J p) (ffR sf cf vf p) X) | 1 => Below V.heap.size V X ∧ (FmI V.heap.size 3 (y) (nnR J p) (ffR sf cf vf p) X) | 2 => Below V.heap.size V X ∧ (FmI V.heap.size 3 (y) (nnR J p) (ffR sf cf vf p) X) | 3 => Below V.heap.size V X ∧ (FmI V.heap.size 3 (y) (nnR J p) (ffR sf cf vf p) X) | 4 => Below V.heap.size V X ∧ (FmI V.heap.size 3 (y) (nnR J p) (ffR sf cf vf p) X) | 5 => Below V.heap.size V X ∧ (FmI V.heap.size 3 (y) (nnR J p) (ffR sf cf vf p) X) | 6 => Below V.heap.size V X ∧ (FmI V.heap.size 3 (y) (nnR J p) (ffR sf cf vf p) X) | _ => Below V.heap.size V X ∧ (FmI V.heap.size 3 (y) (nnR J p) (ffR sf cf vf p) X)) (fun s => fun i_ => match i_ with | 0 => .int .i64 ((o_ + sumN (lefC (gN sf) (gN cf) p) d : Nat) : Int) | 1 => y 0 | 2 => .int .i64 ((d : Nat) : Int) | 3 => .pointer (some ⟨g0, 0 + d, none⟩) | 4 => .int .i64 ((lefC (gN sf) (gN cf) p d : Nat) : Int) | 5 => .int .i64 ((o_ + sumN (lefC (gN sf) (gN cf) p) d + lefC (gN sf) (gN cf) p d : Nat) : Int) | 6 => .int .i64 ((o_ + sumN (lefC (gN sf) (gN cf) p) d + lefC (gN sf) (gN cf) p d : Nat) : Int) | _ => undef) () A.1 (by kernel_rfl) (by decide) (by decide) ⟨BB, FMb⟩ ?_ ?_
                        · intro i_ hi_ s a X hf hv hn hS
                          match i_, hi_ with
                          | 0, _ => exact stepV rfl rfl (execMvB rfl ((hn 6 (by decide) _ rfl _ rfl).trans t17)) ⟨s, ⟨_, rfl, rfl⟩, hS, fun _ _ => rfl⟩
                          | 1, _ => exact stepV rfl rfl (execMvB rfl ((hf 9 (by decide)).trans t9)) ⟨s, ⟨_, rfl, rfl⟩, hS, fun _ _ => rfl⟩
                          | 2, _ => exact stepV rfl rfl (execMvB rfl ((hf 18 (by decide)).trans t18)) ⟨s, ⟨_, rfl, rfl⟩, hS, fun _ _ => rfl⟩
                          | 3, _ => exact stepV rfl rfl (execIdxN (k := d) rfl ((hv 1 (by decide) _ rfl _ rfl).trans ey0) (hv 2 (by decide) _ rfl _ rfl) hdJ) ⟨s, ⟨_, rfl, rfl⟩, hS, fun _ _ => rfl⟩
                          | 4, _ => exact stepV rfl rfl (execLd3 rfl (hv 3 (by decide) _ rfl _ rfl) (hS.2.cell (t := 0) (by omega) ey0 hdJ).1) ⟨s, ⟨_, rfl, rfl⟩, hS, fun _ _ => rfl⟩
                          | 5, _ => exact stepV rfl rfl (execAd8 (p := o_ + sumN (lefC (gN sf) (gN cf) p) d) (q := lefC (gN sf) (gN cf) p d) rfl (hv 0 (by decide) _ rfl _ rfl) (hv 4 (by decide) _ rfl _ rfl) (by omega)) ⟨s, ⟨_, rfl, rfl⟩, hS, fun _ _ => rfl⟩
                          | 6, _ => exact stepV rfl rfl (execAsgB rfl (hv 5 (by decide) _ rfl _ rfl)) ⟨s, ⟨_, rfl, rfl⟩, hS, fun _ _ => rfl⟩
                          | k_ + 7, h_ => exact absurd h_ (by simp)
                        rintro _ a X26 h1 h2 h3 h4 hS
                        clear BB
                        clear FMb
                        replace hS : Below V.heap.size V X26 ∧ (FmI V.heap.size 3 (y) (nnR J p) (ffR sf cf vf p) X26) := hS
                        obtain ⟨BB, FMb⟩ := hS
                        replace t0 := (h3 0 (by decide)).trans t0
                        replace t1 := (h3 1 (by decide)).trans t1
                        replace t2 := (h3 2 (by decide)).trans t2
                        replace t8 := (h3 8 (by decide)).trans t8
                        replace t9 := (h3 9 (by decide)).trans t9
                        replace t10 := (h3 10 (by decide)).trans t10
                        replace t13 := (h3 13 (by decide)).trans t13
                        replace t14 := (h3 14 (by decide)).trans t14
                        replace t15 := (h3 15 (by decide)).trans t15
                        replace t17 : a.eval (.tmp 17) = .int .i64 ((o_ + sumN (lefC (gN sf) (gN cf) p) d + lefC (gN sf) (gN cf) p d : Nat) : Int) := h4 6 _ rfl _ rfl
                        replace t18 := (h3 18 (by decide)).trans t18
                        replace A := (⟨h1, h2.trans A.2⟩ : a.tmps.size = 128 ∧ a.defers = [])
                        clear h1 h2 h3 h4
                        have e17 : o_ + sumN (lefC (gN sf) (gN cf) p) d + lefC (gN sf) (gN cf) p d = o_ + sumN (lefC (gN sf) (gN cf) p) (d + 1) := Nat.add_assoc _ _ _
                        rw [e17] at t17
                        refine wp_region_sq (σ := Unit) 128 [(0, 103), (1, 104), (2, 18)] (fun j_ s X => match j_ with | 0 => Below V.heap.size V X ∧ (FmI V.heap.size 3 (y) (nnR J p) (ffR sf cf vf p) X) | 1 => Below V.heap.size V X ∧ (FmI V.heap.size 3 (y) (nnR J p) (ffR sf cf vf p) X) | 2 => Below V.heap.size V X ∧ (FmI V.heap.size 3 (y) (nnR J p) (ffR sf cf vf p) X) | _ => Below V.heap.size V X ∧ (FmI V.heap.size 3 (y) (nnR J p) (ffR sf cf vf p) X)) (fun s => fun i_ => match i_ with | 0 => .int .i64 ((d : Nat) : Int) | 1 => .int .i64 ((d + 1 : Nat) : Int) | 2 => .int .i64 ((d + 1 : Nat) : Int) | _ => undef) () A.1 (by kernel_rfl) (by decide) (by decide) ⟨BB, FMb⟩ ?_ ?_
                        · intro i_ hi_ s a X hf hv hn hS
                          match i_, hi_ with
                          | 0, _ => exact stepV rfl rfl (execMvB rfl ((hn 2 (by decide) _ rfl _ rfl).trans t18)) ⟨s, ⟨_, rfl, rfl⟩, hS, fun _ _ => rfl⟩
                          | 1, _ => exact stepV rfl rfl (execAd8 (p := d) (q := 1) rfl (hv 0 (by decide) _ rfl _ rfl) rfl (by omega)) ⟨s, ⟨_, rfl, rfl⟩, hS, fun _ _ => rfl⟩
                          | 2, _ => exact stepV rfl rfl (execAsgB rfl (hv 1 (by decide) _ rfl _ rfl)) ⟨s, ⟨_, rfl, rfl⟩, hS, fun _ _ => rfl⟩
                          | k_ + 3, h_ => exact absurd h_ (by simp)
                        rintro _ a X25 h1 h2 h3 h4 hS
                        clear BB
                        clear FMb
                        replace hS : Below V.heap.size V X25 ∧ (FmI V.heap.size 3 (y) (nnR J p) (ffR sf cf vf p) X25) := hS
                        obtain ⟨BB, FMb⟩ := hS
                        replace t0 := (h3 0 (by decide)).trans t0
                        replace t1 := (h3 1 (by decide)).trans t1
                        replace t2 := (h3 2 (by decide)).trans t2
                        replace t8 := (h3 8 (by decide)).trans t8
                        replace t9 := (h3 9 (by decide)).trans t9
                        replace t10 := (h3 10 (by decide)).trans t10
                        replace t13 := (h3 13 (by decide)).trans t13
                        replace t14 := (h3 14 (by decide)).trans t14
                        replace t15 := (h3 15 (by decide)).trans t15
                        replace t17 := (h3 17 (by decide)).trans t17
                        replace t18 : a.eval (.tmp 18) = .int .i64 ((d + 1 : Nat) : Int) := h4 2 _ rfl _ rfl
                        replace A := (⟨h1, h2.trans A.2⟩ : a.tmps.size = 128 ∧ a.defers = [])
                        clear h1 h2 h3 h4
                        exact ⟨⟨d + 1, ltd, A, t0, t1, t2, t8, t9, t10, t13, t14, t15, t17, t18, BB, FMb⟩, by show c - (intOf (a.eval (.tmp 18))).toNat < c - (intOf (Act.eval _ (.tmp 18))).toNat; rw [t18, esd]; show c - (d + 1) < c - d; omega⟩
                      · rw [decide_eq_false ltd] at t102
                        refine wp_cond_false t102 ?_
                        refine wp_exit ?_
                        first | with_reducible refine exit_in ?_ | with_reducible refine exit_then (exit_in ?_) | with_reducible refine exit_then (exit_then (exit_in ?_)) | refine exit_in ?_ | refine exit_then (exit_in ?_) | refine exit_then (exit_then (exit_in ?_))
                        clear t102 esd
                        have hdc : d = c := by omega
                        rw [hdc] at t17
                        clear t18
                        have hdw : ((o_ + sumN (lefC (gN sf) (gN cf) p) c : Nat) : Int) = dwF sf cf vf p := by show _ = (((vf (poC (gN sf) (gN cf) p)).toNat + sumN (lefC (gN sf) (gN cf) p) (gN cf p) : Nat) : Int); rw [hp0, eo, ec, Int.toNat_natCast]
                        have hlc : sumN (lefC (gN sf) (gN cf) p) c ≤ sumN (lefC (gN sf) (gN cf) p) J := sumN_mono (by omega)
                        refine wp_seq ?_
                        refine wp_region_sq (σ := Nat × Value) 128 [(0, 111), (1, 112), (2, 113), (3, 114), (4, 13)] (fun j_ s X => match j_ with | 0 => Below V.heap.size V X ∧ (FmI V.heap.size 3 (y) (nnR J p) (ffR sf cf vf p) X) | 1 => Below V.heap.size V X ∧ (FmI V.heap.size 3 (y) (nnR J p) (ffR sf cf vf p) X) | 2 => Below V.heap.size V X ∧ (FmI V.heap.size 3 (y) (nnR J p) (ffR sf cf vf p) X) | 3 => Below V.heap.size V X ∧ (FmI V.heap.size 3 (y) (nnR J p) (ffR sf cf vf p) X) ∧ (X.heap[s.1]? = some (.cells #[.int .i64 (((o_ + sumN (lefC (gN sf) (gN cf) p) c : Nat) : Int))] 3)) | 4 => Below V.heap.size V X ∧ (FmI V.heap.size 3 (updX y 2 s.2) (updD (nnR J p) 2 1) (ffR sf cf vf p) X) | _ => Below V.heap.size V X ∧ (FmI V.heap.size 3 (updX y 2 s.2) (updD (nnR J p) 2 1) (ffR sf cf vf p) X)) (fun s => fun i_ => match i_ with | 0 => y 2 | 1 => .int .i64 ((o_ + sumN (lefC (gN sf) (gN cf) p) c : Nat) : Int) | 2 => .slice (some ⟨s.1, 0, none⟩) 1 1 | 3 => s.2 | 4 => s.2 | _ => undef) (0, undef) A.1 (by kernel_rfl) (by decide) (by decide) ⟨BB, FMb⟩ ?_ ?_
                        · intro i_ hi_ s a X hf hv hn hS
                          match i_, hi_ with
                          | 0, _ => exact stepV rfl rfl (execMvB rfl ((hn 4 (by decide) _ rfl _ rfl).trans t13)) ⟨s, ⟨_, rfl, rfl⟩, hS, fun _ _ => rfl⟩
                          | 1, _ => exact stepV rfl rfl (execMvB rfl ((hf 17 (by decide)).trans t17)) ⟨s, ⟨_, rfl, rfl⟩, hS, fun _ _ => rfl⟩
                          | 2, _ =>
                            refine stepV rfl rfl (execBsI (z := ((o_ + sumN (lefC (gN sf) (gN cf) p) c : Nat) : Int)) rfl (hv 1 (by decide) _ rfl _ rfl)) ⟨(X.heap.size, s.2), ⟨_, rfl, rfl⟩, ⟨(hS.1).trans (((belNew X _)).mono (hS.1).size), (hS.2.on (belNew X _)), heapNew X _⟩, fun i hi => ?_⟩
                            match i, hi with
                            | 0, _ => rfl
                            | 1, _ => rfl
                            | n_ + 2, h_ => omega
                          | 3, _ =>
                            refine stepFm (x := y) (k := 3) (t := 2) (l := 1) (q := fun _ => ((o_ + sumN (lefC (gN sf) (gN cf) p) c : Nat) : Int)) rfl rfl rfl (hv 0 (by decide) _ rfl _ rfl) (hv 2 (by decide) _ rfl _ rfl) hS.2.1 (by omega) (lit_sl hS.2.2 (by omega)) ⟨_, _, rfl⟩ (by omega) (show p + 1 ≤ _ by omega) (hS.1).size fun v' W' fm' gr => ⟨(s.1, v'), ⟨_, rfl, rfl⟩, ⟨(hS.1).grown gr (hS.1).size (fun k hk => ((hS.2.1.rows 2 (by omega)).lt k hk).1), FmI.app1 fm' hdw⟩, fun i hi => ?_⟩
                            match i, hi with
                            | 0, _ => rfl
                            | 1, _ => rfl
                            | 2, _ => rfl
                            | n_ + 3, h_ => omega
                          | 4, _ => exact stepV rfl rfl (execAsgB rfl (hv 3 (by decide) _ rfl _ rfl)) ⟨s, ⟨_, rfl, rfl⟩, hS, fun _ _ => rfl⟩
                          | k_ + 5, h_ => exact absurd h_ (by simp)
                        rintro ⟨g113, v114⟩ a X27 h1 h2 h3 h4 hS
                        clear BB
                        clear FMb
                        replace hS : Below V.heap.size V X27 ∧ (FmI V.heap.size 3 (updX y 2 v114) (updD (nnR J p) 2 1) (ffR sf cf vf p) X27) := hS
                        obtain ⟨BB, FM1⟩ := hS
                        replace t0 := (h3 0 (by decide)).trans t0
                        replace t1 := (h3 1 (by decide)).trans t1
                        replace t2 := (h3 2 (by decide)).trans t2
                        replace t8 := (h3 8 (by decide)).trans t8
                        replace t9 := (h3 9 (by decide)).trans t9
                        replace t10 := (h3 10 (by decide)).trans t10
                        replace t13 : a.eval (.tmp 13) = v114 := h4 4 _ rfl _ rfl
                        replace t14 := (h3 14 (by decide)).trans t14
                        replace t15 := (h3 15 (by decide)).trans t15
                        replace A := (⟨h1, h2.trans A.2⟩ : a.tmps.size = 128 ∧ a.defers = [])
                        clear h1 h2 h3 h4
                        clear t17
                        obtain ⟨g0, c0, ey0, hB0, _⟩ := ownL_some9 (FM1.rows 0 (by omega)) (show 0 < J by omega)
                        obtain ⟨g1, c1, ey1, hB1, _⟩ := ownL_some9 (FM1.rows 1 (by omega)) (show 0 < J by omega)
                        refine wp_seq ?_
                        refine wp_region_sq (σ := Unit) 128 [(0, 115), (1, 116), (2, 117), (3, 118), (4, 119), (5, 120)] (fun j_ s X => match j_ with | 0 => Below V.heap.size V X ∧ (FmI V.heap.size 3 (updX y 2 v114) (updD (nnR J p) 2 1) (ffR sf cf vf p) X) | 1 => Below V.heap.size V X ∧ (FmI V.heap.size 3 (updX y 2 v114) (updD (nnR J p) 2 1) (ffR sf cf vf p) X) | 2 => Below V.heap.size V X ∧ (FmI V.heap.size 3 (updX y 2 v114) (updD (nnR J p) 2 1) (ffR sf cf vf p) X) | 3 => Below V.heap.size V X ∧ (FmI V.heap.size 3 (updX y 2 v114) (updD (nnR J p) 2 1) (ffR sf cf vf p) X) | 4 => Below V.heap.size V X ∧ (FmI V.heap.size 3 (updX y 2 v114) (updD (nnR J p) 2 1) (ffR sf cf vf p) X) | 5 => Below V.heap.size V X ∧ (FmI V.heap.size 3 (updX y 2 v114) (updD (nnR J p) 2 1) (ffR sf cf vf p) X) | 6 => Below V.heap.size V X ∧ (FmI V.heap.size 3 (updX y 2 v114) (updD (nnR J p) 2 1) (ffR sf cf vf p) X) | _ => Below V.heap.size V X ∧ (FmI V.heap.size 3 (updX y 2 v114) (updD (nnR J p) 2 1) (updF (ffR sf cf vf p) 0 c ((q_ - 1 : Nat) : Int)) X)) (fun s => fun i_ => match i_ with | 0 => y 0 | 1 => .int .i64 ((c : Nat) : Int) | 2 => .pointer (some ⟨g0, 0 + c, none⟩) | 3 => .int .i64 ((q_ : Nat) : Int) | 4 => .int .i64 ((q_ - 1 : Nat) : Int) | 5 => .pointer (some ⟨g0, 0 + c, none⟩) | 6 => undef | _ => undef) () A.1 (by kernel_rfl) (by decide) (by decide) ⟨BB, FM1⟩ ?_ ?_
                        · intro i_ hi_ s a X hf hv hn hS
                          match i_, hi_ with
                          | 0, _ => exact stepV rfl rfl (execMvB rfl ((hf 9 (by decide)).trans t9)) ⟨s, ⟨_, rfl, rfl⟩, hS, fun _ _ => rfl⟩
                          | 1, _ => exact stepV rfl rfl (execMvB rfl ((hf 15 (by decide)).trans t15)) ⟨s, ⟨_, rfl, rfl⟩, hS, fun _ _ => rfl⟩
                          | 2, _ => exact stepV rfl rfl (execIdxN (k := c) rfl ((hv 0 (by decide) _ rfl _ rfl).trans ey0) (hv 1 (by decide) _ rfl _ rfl) hcJ) ⟨s, ⟨_, rfl, rfl⟩, hS, fun _ _ => rfl⟩
                          | 3, _ => exact stepV rfl rfl (execLd3 rfl (hv 2 (by decide) _ rfl _ rfl) ((hS.2.cell (t := 0) (by omega) ey0 hcJ).1.trans (by rw [← eq]; rfl))) ⟨s, ⟨_, rfl, rfl⟩, hS, fun _ _ => rfl⟩
                          | 4, _ => exact stepV rfl rfl (By8.execSubI (p := q_) (q := 1) rfl (hv 3 (by decide) _ rfl _ rfl) rfl (by omega) (by omega)) ⟨s, ⟨_, rfl, rfl⟩, hS, fun _ _ => rfl⟩
                          | 5, _ => exact stepV rfl rfl (execIdxN (k := c) rfl ((hv 0 (by decide) _ rfl _ rfl).trans ey0) (hv 1 (by decide) _ rfl _ rfl) hcJ) ⟨s, ⟨_, rfl, rfl⟩, hS, fun _ _ => rfl⟩
                          | 6, _ =>
                            obtain ⟨hc_, hf_⟩ := hS.2.cell (t := 0) (by omega) ey0 hcJ
                            refine stepS rfl rfl (execStI9 rfl (hv 5 (by decide) _ rfl _ rfl) (hv 4 (by decide) _ rfl _ rfl) hc_ hf_) ⟨s, ⟨_, rfl, rfl⟩, ⟨(hS.1).setCell hB0 _, hS.2.set (t := 0) (by omega) ey0 _⟩, fun i hi => ?_⟩
                            match i, hi with
                            | 0, _ => rfl
                            | 1, _ => rfl
                            | 2, _ => rfl
                            | 3, _ => rfl
                            | 4, _ => rfl
                            | 5, _ => rfl
                            | n_ + 6, h_ => omega
                          | k_ + 7, h_ => exact absurd h_ (by simp)
                        rintro _ a X28 h1 h2 h3 h4 hS
                        clear BB
                        clear FM1
                        replace hS : Below V.heap.size V X28 ∧ (FmI V.heap.size 3 (updX y 2 v114) (updD (nnR J p) 2 1) (updF (ffR sf cf vf p) 0 c ((q_ - 1 : Nat) : Int)) X28) := hS
                        obtain ⟨BB, FM2⟩ := hS
                        replace t0 := (h3 0 (by decide)).trans t0
                        replace t1 := (h3 1 (by decide)).trans t1
                        replace t2 := (h3 2 (by decide)).trans t2
                        replace t8 := (h3 8 (by decide)).trans t8
                        replace t9 := (h3 9 (by decide)).trans t9
                        replace t10 := (h3 10 (by decide)).trans t10
                        replace t13 := (h3 13 (by decide)).trans t13
                        replace t14 := (h3 14 (by decide)).trans t14
                        replace t15 := (h3 15 (by decide)).trans t15
                        replace A := (⟨h1, h2.trans A.2⟩ : a.tmps.size = 128 ∧ a.defers = [])
                        clear h1 h2 h3 h4
                        refine wp_region_sq (σ := Unit) 128 [(0, 121), (1, 122), (2, 123), (3, 124), (4, 125), (5, 126)] (fun j_ s X => match j_ with | 0 => Below V.heap.size V X ∧ (FmI V.heap.size 3 (updX y 2 v114) (updD (nnR J p) 2 1) (updF (ffR sf cf vf p) 0 c ((q_ - 1 : Nat) : Int)) X) | 1 => Below V.heap.size V X ∧ (FmI V.heap.size 3 (updX y 2 v114) (updD (nnR J p) 2 1) (updF (ffR sf cf vf p) 0 c ((q_ - 1 : Nat) : Int)) X) | 2 => Below V.heap.size V X ∧ (FmI V.heap.size 3 (updX y 2 v114) (updD (nnR J p) 2 1) (updF (ffR sf cf vf p) 0 c ((q_ - 1 : Nat) : Int)) X) | 3 => Below V.heap.size V X ∧ (FmI V.heap.size 3 (updX y 2 v114) (updD (nnR J p) 2 1) (updF (ffR sf cf vf p) 0 c ((q_ - 1 : Nat) : Int)) X) | 4 => Below V.heap.size V X ∧ (FmI V.heap.size 3 (updX y 2 v114) (updD (nnR J p) 2 1) (updF (ffR sf cf vf p) 0 c ((q_ - 1 : Nat) : Int)) X) | 5 => Below V.heap.size V X ∧ (FmI V.heap.size 3 (updX y 2 v114) (updD (nnR J p) 2 1) (updF (ffR sf cf vf p) 0 c ((q_ - 1 : Nat) : Int)) X) | 6 => Below V.heap.size V X ∧ (FmI V.heap.size 3 (updX y 2 v114) (updD (nnR J p) 2 1) (updF (ffR sf cf vf p) 0 c ((q_ - 1 : Nat) : Int)) X) | _ => Below V.heap.size V X ∧ (FmI V.heap.size 3 (updX y 2 v114) (updD (nnR J p) 2 1) (updF (updF (ffR sf cf vf p) 0 c ((q_ - 1 : Nat) : Int)) 1 c ((p_ + 1 : Nat) : Int)) X)) (fun s => fun i_ => match i_ with | 0 => y 1 | 1 => .int .i64 ((c : Nat) : Int) | 2 => .pointer (some ⟨g1, 0 + c, none⟩) | 3 => .int .i64 ((p_ : Nat) : Int) | 4 => .int .i64 ((p_ + 1 : Nat) : Int) | 5 => .pointer (some ⟨g1, 0 + c, none⟩) | 6 => undef | _ => undef) () A.1 (by kernel_rfl) (by decide) (by decide) ⟨BB, FM2⟩ ?_ ?_
                        · intro i_ hi_ s a X hf hv hn hS
                          match i_, hi_ with
                          | 0, _ => exact stepV rfl rfl (execMvB rfl ((hf 10 (by decide)).trans t10)) ⟨s, ⟨_, rfl, rfl⟩, hS, fun _ _ => rfl⟩
                          | 1, _ => exact stepV rfl rfl (execMvB rfl ((hf 15 (by decide)).trans t15)) ⟨s, ⟨_, rfl, rfl⟩, hS, fun _ _ => rfl⟩
                          | 2, _ => exact stepV rfl rfl (execIdxN (k := c) rfl ((hv 0 (by decide) _ rfl _ rfl).trans ey1) (hv 1 (by decide) _ rfl _ rfl) hcJ) ⟨s, ⟨_, rfl, rfl⟩, hS, fun _ _ => rfl⟩
                          | 3, _ => exact stepV rfl rfl (execLd3 rfl (hv 2 (by decide) _ rfl _ rfl) ((hS.2.cell (t := 1) (by omega) ey1 hcJ).1.trans (by rw [updF_o (by omega), ← ep]; rfl))) ⟨s, ⟨_, rfl, rfl⟩, hS, fun _ _ => rfl⟩
                          | 4, _ => exact stepV rfl rfl (execAd8 (p := p_) (q := 1) rfl (hv 3 (by decide) _ rfl _ rfl) rfl (by omega)) ⟨s, ⟨_, rfl, rfl⟩, hS, fun _ _ => rfl⟩
                          | 5, _ => exact stepV rfl rfl (execIdxN (k := c) rfl ((hv 0 (by decide) _ rfl _ rfl).trans ey1) (hv 1 (by decide) _ rfl _ rfl) hcJ) ⟨s, ⟨_, rfl, rfl⟩, hS, fun _ _ => rfl⟩
                          | 6, _ =>
                            obtain ⟨hc_, hf_⟩ := hS.2.cell (t := 1) (by omega) ey1 hcJ
                            refine stepS rfl rfl (execStI9 rfl (hv 5 (by decide) _ rfl _ rfl) (hv 4 (by decide) _ rfl _ rfl) hc_ hf_) ⟨s, ⟨_, rfl, rfl⟩, ⟨(hS.1).setCell hB1 _, hS.2.set (t := 1) (by omega) ey1 _⟩, fun i hi => ?_⟩
                            match i, hi with
                            | 0, _ => rfl
                            | 1, _ => rfl
                            | 2, _ => rfl
                            | 3, _ => rfl
                            | 4, _ => rfl
                            | 5, _ => rfl
                            | n_ + 6, h_ => omega
                          | k_ + 7, h_ => exact absurd h_ (by simp)
                        rintro _ a X29 h1 h2 h3 h4 hS
                        clear BB
                        clear FM2
                        replace hS : Below V.heap.size V X29 ∧ (FmI V.heap.size 3 (updX y 2 v114) (updD (nnR J p) 2 1) (updF (updF (ffR sf cf vf p) 0 c ((q_ - 1 : Nat) : Int)) 1 c ((p_ + 1 : Nat) : Int)) X29) := hS
                        obtain ⟨BB, FM3⟩ := hS
                        replace t0 := (h3 0 (by decide)).trans t0
                        replace t1 := (h3 1 (by decide)).trans t1
                        replace t2 := (h3 2 (by decide)).trans t2
                        replace t8 := (h3 8 (by decide)).trans t8
                        replace t9 := (h3 9 (by decide)).trans t9
                        replace t10 := (h3 10 (by decide)).trans t10
                        replace t13 := (h3 13 (by decide)).trans t13
                        replace t14 := (h3 14 (by decide)).trans t14
                        replace A := (⟨h1, h2.trans A.2⟩ : a.tmps.size = 128 ∧ a.defers = [])
                        clear h1 h2 h3 h4
                        clear t15
                        have FM4 : (FmI V.heap.size 3 (updX y 2 v114) (nnR J (p + 1)) (ffR sf cf vf (p + 1)) X29) := FmI.cgN (FmI.cgF FM3 (fun t ht j _ => ffR_next sf cf vf ec ep eq t ht j)) (fun t ht => by match t, ht with | 0, _ => rfl | 1, _ => rfl | 2, _ => rfl | t + 3, h => omega)
                        clear FM3
                        refine wp_region_sq (σ := Unit) 128 [(0, 61), (1, 62), (2, 14)] (fun j_ s X => match j_ with | 0 => Below V.heap.size V X ∧ (FmI V.heap.size 3 (updX y 2 v114) (nnR J (p + 1)) (ffR sf cf vf (p + 1)) X) | 1 => Below V.heap.size V X ∧ (FmI V.heap.size 3 (updX y 2 v114) (nnR J (p + 1)) (ffR sf cf vf (p + 1)) X) | 2 => Below V.heap.size V X ∧ (FmI V.heap.size 3 (updX y 2 v114) (nnR J (p + 1)) (ffR sf cf vf (p + 1)) X) | _ => Below V.heap.size V X ∧ (FmI V.heap.size 3 (updX y 2 v114) (nnR J (p + 1)) (ffR sf cf vf (p + 1)) X)) (fun s => fun i_ => match i_ with | 0 => .int .i64 ((p : Nat) : Int) | 1 => .int .i64 ((p + 1 : Nat) : Int) | 2 => .int .i64 ((p + 1 : Nat) : Int) | _ => undef) () A.1 (by kernel_rfl) (by decide) (by decide) ⟨BB, FM4⟩ ?_ ?_
                        · intro i_ hi_ s a X hf hv hn hS
                          match i_, hi_ with
                          | 0, _ => exact stepV rfl rfl (execMvB rfl ((hn 2 (by decide) _ rfl _ rfl).trans t14)) ⟨s, ⟨_, rfl, rfl⟩, hS, fun _ _ => rfl⟩
                          | 1, _ => exact stepV rfl rfl (execAd8 (p := p) (q := 1) rfl (hv 0 (by decide) _ rfl _ rfl) rfl (by omega)) ⟨s, ⟨_, rfl, rfl⟩, hS, fun _ _ => rfl⟩
                          | 2, _ => exact stepV rfl rfl (execAsgB rfl (hv 1 (by decide) _ rfl _ rfl)) ⟨s, ⟨_, rfl, rfl⟩, hS, fun _ _ => rfl⟩
                          | k_ + 3, h_ => exact absurd h_ (by simp)
                        rintro _ a X15 h1 h2 h3 h4 hS
                        clear BB
                        clear FM4
                        replace hS : Below V.heap.size V X15 ∧ (FmI V.heap.size 3 (updX y 2 v114) (nnR J (p + 1)) (ffR sf cf vf (p + 1)) X15) := hS
                        obtain ⟨BB, FM4⟩ := hS
                        replace t0 := (h3 0 (by decide)).trans t0
                        replace t1 := (h3 1 (by decide)).trans t1
                        replace t2 := (h3 2 (by decide)).trans t2
                        replace t8 := (h3 8 (by decide)).trans t8
                        replace t9 := (h3 9 (by decide)).trans t9
                        replace t10 := (h3 10 (by decide)).trans t10
                        replace t13 := (h3 13 (by decide)).trans t13
                        replace t14 : a.eval (.tmp 14) = .int .i64 ((p + 1 : Nat) : Int) := h4 2 _ rfl _ rfl
                        replace A := (⟨h1, h2.trans A.2⟩ : a.tmps.size = 128 ∧ a.defers = [])
                        clear h1 h2 h3 h4
                        exact ⟨⟨p + 1, updX y 2 v114, ltp, allB_succ hrd hrdp, A, t0, t1, t2, t8, t9, t10, t13, t14, BB, FM4⟩, by show n - (intOf (a.eval (.tmp 14))).toNat < n - (intOf (Act.eval _ (.tmp 14))).toNat; rw [t14, esp]; show n - (p + 1) < n - p; omega⟩
          · rw [decide_eq_false ltp] at t60
            refine wp_cond_false t60 ?_
            refine wp_exit ?_
            first | with_reducible refine exit_in ?_ | with_reducible refine exit_then (exit_in ?_) | with_reducible refine exit_then (exit_then (exit_in ?_)) | refine exit_in ?_ | refine exit_then (exit_in ?_) | refine exit_then (exit_then (exit_in ?_))
            clear t60 esp
            have hpn : p = n := by omega
            rw [hpn] at hrd FMb
            have hdr : drQ sf J cf n vf m = true := (rd_dr hs).1 ⟨by omega, by omega, hrd⟩
            clear t0 t1 t2 t8 t9 t10 t14
            refine wp_seq ?_
            refine wp_region_sq (σ := Unit) 128 [(0, 127), (1, 6), (2, 7)] (fun j_ s X => match j_ with | 0 => Below V.heap.size V X ∧ (FmI V.heap.size 3 (y) (nnR J n) (ffR sf cf vf n) X) | 1 => Below V.heap.size V X ∧ (FmI V.heap.size 3 (y) (nnR J n) (ffR sf cf vf n) X) | 2 => Below V.heap.size V X ∧ (FmI V.heap.size 3 (y) (nnR J n) (ffR sf cf vf n) X) | _ => Below V.heap.size V X ∧ (FmI V.heap.size 3 (y) (nnR J n) (ffR sf cf vf n) X)) (fun s => fun i_ => match i_ with | 0 => y 2 | 1 => y 2 | 2 => .int .i64 ((0 : Nat) : Int) | _ => undef) () A.1 (by kernel_rfl) (by decide) (by decide) ⟨BB, FMb⟩ ?_ ?_
            · intro i_ hi_ s a X hf hv hn hS
              match i_, hi_ with
              | 0, _ => exact stepV rfl rfl (execMvB rfl ((hf 13 (by decide)).trans t13)) ⟨s, ⟨_, rfl, rfl⟩, hS, fun _ _ => rfl⟩
              | 1, _ => exact stepV rfl rfl (execAsgB rfl (hv 0 (by decide) _ rfl _ rfl)) ⟨s, ⟨_, rfl, rfl⟩, hS, fun _ _ => rfl⟩
              | 2, _ => exact stepV rfl rfl (execAsgB rfl rfl) ⟨s, ⟨_, rfl, rfl⟩, hS, fun _ _ => rfl⟩
              | k_ + 3, h_ => exact absurd h_ (by simp)
            rintro _ a X30 h1 h2 h3 h4 hS
            clear BB
            clear FMb
            replace hS : Below V.heap.size V X30 ∧ (FmI V.heap.size 3 (y) (nnR J n) (ffR sf cf vf n) X30) := hS
            obtain ⟨BB, FMb⟩ := hS
            have t6 : a.eval (.tmp 6) = y 2 := h4 1 _ rfl _ rfl
            have t7 : a.eval (.tmp 7) = .int .i64 ((0 : Nat) : Int) := h4 2 _ rfl _ rfl
            replace A := (⟨h1, h2.trans A.2⟩ : a.tmps.size = 128 ∧ a.defers = [])
            clear h1 h2 h3 h4
            clear t13
            have hE : drE sf J cf n vf m = 0 := drE_ok hdr
            rw [hE, zl_ok]
            refine wp_ret ?_
            refine bodyPost_ret (results_tmp2 rfl _ _ _) A.2 ⟨y 2, ?_, FMb.rows 2 (by omega), BB⟩
            show Ending.returned (.tuple #[a.eval (.tmp 6), a.eval (.tmp 7)]) = _
            rw [t6, t7]
      · refine wp_seq ?_
        refine wp_region_sq (σ := Unit) 128 [(0, 19), (1, 20), (2, 8)] (fun j_ s X => match j_ with | 0 => Below V.heap.size V X | 1 => Below V.heap.size V X | 2 => Below V.heap.size V X | _ => Below V.heap.size V X) (fun s => fun i_ => match i_ with | 0 => v | 1 => .int .i64 ((sumN (gN sf) J : Nat) : Int) | 2 => .int .i64 ((sumN (gN sf) J : Nat) : Int) | _ => undef) () A.1 (by kernel_rfl) (by decide) (by decide) (BB) ?_ ?_
        · intro i_ hi_ s a X hf hv hn hS
          match i_, hi_ with
          | 0, _ => exact stepV rfl rfl (execMvB rfl ((hf 0 (by decide)).trans t0)) ⟨s, ⟨_, rfl, rfl⟩, hS, fun _ _ => rfl⟩
          | 1, _ => exact stepC rfl rfl (execCall1 Try.func29 (by kernel_rfl) (by kernel_rfl) rfl (hv 0 (by decide) _ rfl _ rfl)) ((show toT sf J = ((sumN (gN sf) J : Nat) : Int) by rw [szQ_toT, if_pos hs]) ▸ rtotal sf J _ X (FI.on hS) hJ17) fun e w' hh => ⟨_, hh.1, s, ⟨_, rfl, rfl⟩, (hS).trans ((hh.2).mono (hS).size), fun _ _ => rfl⟩
          | 2, _ => exact stepV rfl rfl (execAsgB rfl (hv 1 (by decide) _ rfl _ rfl)) ⟨s, ⟨_, rfl, rfl⟩, hS, fun _ _ => rfl⟩
          | k_ + 3, h_ => exact absurd h_ (by simp)
        rintro _ a X1 h1 h2 h3 h4 hS
        clear BB
        replace hS : Below V.heap.size V X1 := hS
        have BB := hS
        clear hS
        replace t0 := (h3 0 (by decide)).trans t0
        replace t1 := (h3 1 (by decide)).trans t1
        replace t2 := (h3 2 (by decide)).trans t2
        have t8 : a.eval (.tmp 8) = .int .i64 ((sumN (gN sf) J : Nat) : Int) := h4 2 _ rfl _ rfl
        replace A := (⟨h1, h2.trans A.2⟩ : a.tmps.size = 128 ∧ a.defers = [])
        clear h1 h2 h3 h4
        refine wp_seq ?_
        refine wp_seq ?_
        refine wp_region_sq (σ := Unit) 128 [(0, 21), (1, 22), (2, 23), (3, 24), (4, 25), (5, 26), (6, 27), (7, 28), (8, 29), (9, 30), (10, 31), (11, 32), (12, 33), (13, 34)] (fun j_ s X => match j_ with | 0 => Below V.heap.size V X | 1 => Below V.heap.size V X | 2 => Below V.heap.size V X | 3 => Below V.heap.size V X | 4 => Below V.heap.size V X | 5 => Below V.heap.size V X | 6 => Below V.heap.size V X | 7 => Below V.heap.size V X | 8 => Below V.heap.size V X | 9 => Below V.heap.size V X | 10 => Below V.heap.size V X | 11 => Below V.heap.size V X | 12 => Below V.heap.size V X | 13 => Below V.heap.size V X | _ => Below V.heap.size V X) (fun s => fun i_ => match i_ with | 0 => .int .i64 ((sumN (gN sf) J : Nat) : Int) | 1 => .bool false | 2 => .bool false | 3 => u0 | 4 => .int .i64 ((n : Nat) : Int) | 5 => .int .i64 ((sumN (gN sf) J : Nat) : Int) | 6 => .bool false | 7 => .bool false | 8 => .bool false | 9 => u1 | 10 => .int .i64 ((m : Nat) : Int) | 11 => .int .i64 ((sumN (gN sf) J : Nat) : Int) | 12 => .bool true | 13 => .bool true | _ => undef) () A.1 (by kernel_rfl) (by decide) (by decide) (BB) ?_ ?_
        · intro i_ hi_ s a X hf hv hn hS
          match i_, hi_ with
          | 0, _ => exact stepV rfl rfl (execMvB rfl ((hf 8 (by decide)).trans t8)) ⟨s, ⟨_, rfl, rfl⟩, hS, fun _ _ => rfl⟩
          | 1, _ => exact stepV rfl rfl (execDec (execLtW (p := sumN (gN sf) J) (q := 0) rfl (hv 0 (by decide) _ rfl _ rfl) rfl) (decide_eq_false (by omega))) ⟨s, ⟨_, rfl, rfl⟩, hS, fun _ _ => rfl⟩
          | 2, _ => exact stepV rfl rfl (execMvB rfl (hv 1 (by decide) _ rfl _ rfl)) ⟨s, ⟨_, rfl, rfl⟩, hS, fun _ _ => rfl⟩
          | 3, _ => exact stepV rfl (wantedOf rfl (yieldedAt rfl rfl (show a.eval (.tmp 23) = .bool false from (hv 2 (by decide) _ rfl _ rfl)))) (execMvB rfl ((hf 1 (by decide)).trans t1)) ⟨s, ⟨_, rfl, rfl⟩, hS, fun _ _ => rfl⟩
          | 4, _ => exact stepV rfl (wantedOf rfl (yieldedAt rfl rfl (show a.eval (.tmp 23) = .bool false from (hv 2 (by decide) _ rfl _ rfl)))) (execLenI (len := n) rfl (hv 3 (by decide) _ rfl _ rfl) (FJ).shp) ⟨s, ⟨_, rfl, rfl⟩, hS, fun _ _ => rfl⟩
          | 5, _ => exact stepV rfl (wantedOf rfl (yieldedAt rfl rfl (show a.eval (.tmp 23) = .bool false from (hv 2 (by decide) _ rfl _ rfl)))) (execMvB rfl ((hf 8 (by decide)).trans t8)) ⟨s, ⟨_, rfl, rfl⟩, hS, fun _ _ => rfl⟩
          | 6, _ => exact stepV rfl (wantedOf rfl (yieldedAt rfl rfl (show a.eval (.tmp 23) = .bool false from (hv 2 (by decide) _ rfl _ rfl)))) (execDec (execNeN (p := n) (q := sumN (gN sf) J) rfl (hv 4 (by decide) _ rfl _ rfl) (hv 5 (by decide) _ rfl _ rfl)) (decide_eq_false (by omega))) ⟨s, ⟨_, rfl, rfl⟩, hS, fun _ _ => rfl⟩
          | 7, _ => exact stepV rfl rfl (execPickF rfl (hv 2 (by decide) _ rfl _ rfl) (hv 6 (by decide) _ rfl _ rfl)) ⟨s, ⟨_, rfl, rfl⟩, hS, fun _ _ => rfl⟩
          | 8, _ => exact stepV rfl rfl (execMvB rfl (hv 7 (by decide) _ rfl _ rfl)) ⟨s, ⟨_, rfl, rfl⟩, hS, fun _ _ => rfl⟩
          | 9, _ => exact stepV rfl (wantedOf rfl (yieldedAt rfl rfl (show a.eval (.tmp 29) = .bool false from (hv 8 (by decide) _ rfl _ rfl)))) (execMvB rfl ((hf 2 (by decide)).trans t2)) ⟨s, ⟨_, rfl, rfl⟩, hS, fun _ _ => rfl⟩
          | 10, _ => exact stepV rfl (wantedOf rfl (yieldedAt rfl rfl (show a.eval (.tmp 29) = .bool false from (hv 8 (by decide) _ rfl _ rfl)))) (execLenI (len := m) rfl (hv 9 (by decide) _ rfl _ rfl) (FK).shp) ⟨s, ⟨_, rfl, rfl⟩, hS, fun _ _ => rfl⟩
          | 11, _ => exact stepV rfl (wantedOf rfl (yieldedAt rfl rfl (show a.eval (.tmp 29) = .bool false from (hv 8 (by decide) _ rfl _ rfl)))) (execMvB rfl ((hf 8 (by decide)).trans t8)) ⟨s, ⟨_, rfl, rfl⟩, hS, fun _ _ => rfl⟩
          | 12, _ => exact stepV rfl (wantedOf rfl (yieldedAt rfl rfl (show a.eval (.tmp 29) = .bool false from (hv 8 (by decide) _ rfl _ rfl)))) (execDec (execNeN (p := m) (q := sumN (gN sf) J) rfl (hv 10 (by decide) _ rfl _ rfl) (hv 11 (by decide) _ rfl _ rfl)) (decide_eq_true (by omega))) ⟨s, ⟨_, rfl, rfl⟩, hS, fun _ _ => rfl⟩
          | 13, _ => exact stepV rfl rfl (execPickF rfl (hv 8 (by decide) _ rfl _ rfl) (hv 12 (by decide) _ rfl _ rfl)) ⟨s, ⟨_, rfl, rfl⟩, hS, fun _ _ => rfl⟩
          | k_ + 14, h_ => exact absurd h_ (by simp)
        rintro _ a X2 h1 h2 h3 h4 hS
        clear BB
        replace hS : Below V.heap.size V X2 := hS
        have BB := hS
        clear hS
        replace t0 := (h3 0 (by decide)).trans t0
        replace t1 := (h3 1 (by decide)).trans t1
        replace t2 := (h3 2 (by decide)).trans t2
        replace t8 := (h3 8 (by decide)).trans t8
        have t34 : a.eval (.tmp 34) = .bool true := h4 13 _ rfl _ rfl
        replace A := (⟨h1, h2.trans A.2⟩ : a.tmps.size = 128 ∧ a.defers = [])
        clear h1 h2 h3 h4
        refine wp_cond_true t34 ?_
        refine wp_seq ?_
        refine wp_region_sq (σ := Unit) 128 [(0, 6), (1, 7)] (fun j_ s X => match j_ with | 0 => Below V.heap.size V X | 1 => Below V.heap.size V X | _ => Below V.heap.size V X) (fun s => fun i_ => match i_ with | 0 => .slice none 0 0 | 1 => .int .i64 ((2 : Nat) : Int) | _ => undef) () A.1 (by kernel_rfl) (by decide) (by decide) (BB) ?_ ?_
        · intro i_ hi_ s a X hf hv hn hS
          match i_, hi_ with
          | 0, _ => exact stepV rfl rfl (execAsgB rfl rfl) ⟨s, ⟨_, rfl, rfl⟩, hS, fun _ _ => rfl⟩
          | 1, _ => exact stepV rfl rfl (execAsgB rfl rfl) ⟨s, ⟨_, rfl, rfl⟩, hS, fun _ _ => rfl⟩
          | k_ + 2, h_ => exact absurd h_ (by simp)
        rintro _ a X3 h1 h2 h3 h4 hS
        clear BB
        replace hS : Below V.heap.size V X3 := hS
        have BB := hS
        clear hS
        have t6 : a.eval (.tmp 6) = .slice none 0 0 := h4 0 _ rfl _ rfl
        have t7 : a.eval (.tmp 7) = .int .i64 ((2 : Nat) : Int) := h4 1 _ rfl _ rfl
        replace A := (⟨h1, h2.trans A.2⟩ : a.tmps.size = 128 ∧ a.defers = [])
        clear h1 h2 h3 h4
        clear t0 t1 t2 t8
        have hE : drE sf J cf n vf m = 2 := drE_no fun q => hmS (drQ_iff.1 q).2.2.1
        rw [hE, zl_no (by decide)]
        refine wp_ret ?_
        repeat (first | with_reducible refine ret_in ?_ | with_reducible refine ret_then ?_)
        refine bodyPost_ret (results_tmp2 rfl _ _ _) A.2 ⟨_, ?_, World.ownsRow_nil _ _ _ _, BB⟩
        show Ending.returned (.tuple #[a.eval (.tmp 6), a.eval (.tmp 7)]) = _
        rw [t6, t7]
    · refine wp_seq ?_
      refine wp_region_sq (σ := Unit) 128 [(0, 19), (1, 20), (2, 8)] (fun j_ s X => match j_ with | 0 => Below V.heap.size V X | 1 => Below V.heap.size V X | 2 => Below V.heap.size V X | _ => Below V.heap.size V X) (fun s => fun i_ => match i_ with | 0 => v | 1 => .int .i64 ((sumN (gN sf) J : Nat) : Int) | 2 => .int .i64 ((sumN (gN sf) J : Nat) : Int) | _ => undef) () A.1 (by kernel_rfl) (by decide) (by decide) (BB) ?_ ?_
      · intro i_ hi_ s a X hf hv hn hS
        match i_, hi_ with
        | 0, _ => exact stepV rfl rfl (execMvB rfl ((hf 0 (by decide)).trans t0)) ⟨s, ⟨_, rfl, rfl⟩, hS, fun _ _ => rfl⟩
        | 1, _ => exact stepC rfl rfl (execCall1 Try.func29 (by kernel_rfl) (by kernel_rfl) rfl (hv 0 (by decide) _ rfl _ rfl)) ((show toT sf J = ((sumN (gN sf) J : Nat) : Int) by rw [szQ_toT, if_pos hs]) ▸ rtotal sf J _ X (FI.on hS) hJ17) fun e w' hh => ⟨_, hh.1, s, ⟨_, rfl, rfl⟩, (hS).trans ((hh.2).mono (hS).size), fun _ _ => rfl⟩
        | 2, _ => exact stepV rfl rfl (execAsgB rfl (hv 1 (by decide) _ rfl _ rfl)) ⟨s, ⟨_, rfl, rfl⟩, hS, fun _ _ => rfl⟩
        | k_ + 3, h_ => exact absurd h_ (by simp)
      rintro _ a X1 h1 h2 h3 h4 hS
      clear BB
      replace hS : Below V.heap.size V X1 := hS
      have BB := hS
      clear hS
      replace t0 := (h3 0 (by decide)).trans t0
      replace t1 := (h3 1 (by decide)).trans t1
      replace t2 := (h3 2 (by decide)).trans t2
      have t8 : a.eval (.tmp 8) = .int .i64 ((sumN (gN sf) J : Nat) : Int) := h4 2 _ rfl _ rfl
      replace A := (⟨h1, h2.trans A.2⟩ : a.tmps.size = 128 ∧ a.defers = [])
      clear h1 h2 h3 h4
      refine wp_seq ?_
      refine wp_seq ?_
      refine wp_region_sq (σ := Unit) 128 [(0, 21), (1, 22), (2, 23), (3, 24), (4, 25), (5, 26), (6, 27), (7, 28), (8, 29), (9, 30), (10, 31), (11, 32), (12, 33), (13, 34)] (fun j_ s X => match j_ with | 0 => Below V.heap.size V X | 1 => Below V.heap.size V X | 2 => Below V.heap.size V X | 3 => Below V.heap.size V X | 4 => Below V.heap.size V X | 5 => Below V.heap.size V X | 6 => Below V.heap.size V X | 7 => Below V.heap.size V X | 8 => Below V.heap.size V X | 9 => Below V.heap.size V X | 10 => Below V.heap.size V X | 11 => Below V.heap.size V X | 12 => Below V.heap.size V X | 13 => Below V.heap.size V X | _ => Below V.heap.size V X) (fun s => fun i_ => match i_ with | 0 => .int .i64 ((sumN (gN sf) J : Nat) : Int) | 1 => .bool false | 2 => .bool false | 3 => u0 | 4 => .int .i64 ((n : Nat) : Int) | 5 => .int .i64 ((sumN (gN sf) J : Nat) : Int) | 6 => .bool true | 7 => .bool true | 8 => .bool true | 9 => undef | 10 => undef | 11 => undef | 12 => undef | 13 => .bool true | _ => undef) () A.1 (by kernel_rfl) (by decide) (by decide) (BB) ?_ ?_
      · intro i_ hi_ s a X hf hv hn hS
        match i_, hi_ with
        | 0, _ => exact stepV rfl rfl (execMvB rfl ((hf 8 (by decide)).trans t8)) ⟨s, ⟨_, rfl, rfl⟩, hS, fun _ _ => rfl⟩
        | 1, _ => exact stepV rfl rfl (execDec (execLtW (p := sumN (gN sf) J) (q := 0) rfl (hv 0 (by decide) _ rfl _ rfl) rfl) (decide_eq_false (by omega))) ⟨s, ⟨_, rfl, rfl⟩, hS, fun _ _ => rfl⟩
        | 2, _ => exact stepV rfl rfl (execMvB rfl (hv 1 (by decide) _ rfl _ rfl)) ⟨s, ⟨_, rfl, rfl⟩, hS, fun _ _ => rfl⟩
        | 3, _ => exact stepV rfl (wantedOf rfl (yieldedAt rfl rfl (show a.eval (.tmp 23) = .bool false from (hv 2 (by decide) _ rfl _ rfl)))) (execMvB rfl ((hf 1 (by decide)).trans t1)) ⟨s, ⟨_, rfl, rfl⟩, hS, fun _ _ => rfl⟩
        | 4, _ => exact stepV rfl (wantedOf rfl (yieldedAt rfl rfl (show a.eval (.tmp 23) = .bool false from (hv 2 (by decide) _ rfl _ rfl)))) (execLenI (len := n) rfl (hv 3 (by decide) _ rfl _ rfl) (FJ).shp) ⟨s, ⟨_, rfl, rfl⟩, hS, fun _ _ => rfl⟩
        | 5, _ => exact stepV rfl (wantedOf rfl (yieldedAt rfl rfl (show a.eval (.tmp 23) = .bool false from (hv 2 (by decide) _ rfl _ rfl)))) (execMvB rfl ((hf 8 (by decide)).trans t8)) ⟨s, ⟨_, rfl, rfl⟩, hS, fun _ _ => rfl⟩
        | 6, _ => exact stepV rfl (wantedOf rfl (yieldedAt rfl rfl (show a.eval (.tmp 23) = .bool false from (hv 2 (by decide) _ rfl _ rfl)))) (execDec (execNeN (p := n) (q := sumN (gN sf) J) rfl (hv 4 (by decide) _ rfl _ rfl) (hv 5 (by decide) _ rfl _ rfl)) (decide_eq_true (by omega))) ⟨s, ⟨_, rfl, rfl⟩, hS, fun _ _ => rfl⟩
        | 7, _ => exact stepV rfl rfl (execPickF rfl (hv 2 (by decide) _ rfl _ rfl) (hv 6 (by decide) _ rfl _ rfl)) ⟨s, ⟨_, rfl, rfl⟩, hS, fun _ _ => rfl⟩
        | 8, _ => exact stepV rfl rfl (execMvB rfl (hv 7 (by decide) _ rfl _ rfl)) ⟨s, ⟨_, rfl, rfl⟩, hS, fun _ _ => rfl⟩
        | 9, _ => exact stepU rfl (unwantedOf rfl (yieldedAt rfl rfl (show a.eval (.tmp 29) = .bool (!false) from (hv 8 (by decide) _ rfl _ rfl)))) ⟨s, ⟨_, rfl, rfl⟩, hS, fun _ _ => rfl⟩
        | 10, _ => exact stepU rfl (unwantedOf rfl (yieldedAt rfl rfl (show a.eval (.tmp 29) = .bool (!false) from (hv 8 (by decide) _ rfl _ rfl)))) ⟨s, ⟨_, rfl, rfl⟩, hS, fun _ _ => rfl⟩
        | 11, _ => exact stepU rfl (unwantedOf rfl (yieldedAt rfl rfl (show a.eval (.tmp 29) = .bool (!false) from (hv 8 (by decide) _ rfl _ rfl)))) ⟨s, ⟨_, rfl, rfl⟩, hS, fun _ _ => rfl⟩
        | 12, _ => exact stepU rfl (unwantedOf rfl (yieldedAt rfl rfl (show a.eval (.tmp 29) = .bool (!false) from (hv 8 (by decide) _ rfl _ rfl)))) ⟨s, ⟨_, rfl, rfl⟩, hS, fun _ _ => rfl⟩
        | 13, _ => exact stepV rfl rfl (execPickT rfl (hv 8 (by decide) _ rfl _ rfl) rfl) ⟨s, ⟨_, rfl, rfl⟩, hS, fun _ _ => rfl⟩
        | k_ + 14, h_ => exact absurd h_ (by simp)
      rintro _ a X2 h1 h2 h3 h4 hS
      clear BB
      replace hS : Below V.heap.size V X2 := hS
      have BB := hS
      clear hS
      replace t0 := (h3 0 (by decide)).trans t0
      replace t1 := (h3 1 (by decide)).trans t1
      replace t2 := (h3 2 (by decide)).trans t2
      replace t8 := (h3 8 (by decide)).trans t8
      have t34 : a.eval (.tmp 34) = .bool true := h4 13 _ rfl _ rfl
      replace A := (⟨h1, h2.trans A.2⟩ : a.tmps.size = 128 ∧ a.defers = [])
      clear h1 h2 h3 h4
      refine wp_cond_true t34 ?_
      refine wp_seq ?_
      refine wp_region_sq (σ := Unit) 128 [(0, 6), (1, 7)] (fun j_ s X => match j_ with | 0 => Below V.heap.size V X | 1 => Below V.heap.size V X | _ => Below V.heap.size V X) (fun s => fun i_ => match i_ with | 0 => .slice none 0 0 | 1 => .int .i64 ((2 : Nat) : Int) | _ => undef) () A.1 (by kernel_rfl) (by decide) (by decide) (BB) ?_ ?_
      · intro i_ hi_ s a X hf hv hn hS
        match i_, hi_ with
        | 0, _ => exact stepV rfl rfl (execAsgB rfl rfl) ⟨s, ⟨_, rfl, rfl⟩, hS, fun _ _ => rfl⟩
        | 1, _ => exact stepV rfl rfl (execAsgB rfl rfl) ⟨s, ⟨_, rfl, rfl⟩, hS, fun _ _ => rfl⟩
        | k_ + 2, h_ => exact absurd h_ (by simp)
      rintro _ a X3 h1 h2 h3 h4 hS
      clear BB
      replace hS : Below V.heap.size V X3 := hS
      have BB := hS
      clear hS
      have t6 : a.eval (.tmp 6) = .slice none 0 0 := h4 0 _ rfl _ rfl
      have t7 : a.eval (.tmp 7) = .int .i64 ((2 : Nat) : Int) := h4 1 _ rfl _ rfl
      replace A := (⟨h1, h2.trans A.2⟩ : a.tmps.size = 128 ∧ a.defers = [])
      clear h1 h2 h3 h4
      clear t0 t1 t2 t8
      have hE : drE sf J cf n vf m = 2 := drE_no fun q => hnS (stQ_len (drQ_iff.1 q).2.1)
      rw [hE, zl_no (by decide)]
      refine wp_ret ?_
      repeat (first | with_reducible refine ret_in ?_ | with_reducible refine ret_then ?_)
      refine bodyPost_ret (results_tmp2 rfl _ _ _) A.2 ⟨_, ?_, World.ownsRow_nil _ _ _ _, BB⟩
      show Ending.returned (.tuple #[a.eval (.tmp 6), a.eval (.tmp 7)]) = _
      rw [t6, t7]
end Go.Proofs.Ytdecmmcphcomhaa.Brd
