import Derived.Test.YtmjpneaccjlpkaaQ9n
namespace Go.Proofs.Ytmjpneaccjlpkaa.Brd
open Go.RowKit Gf8 Aes By8 Cel Cf Tap Drw Prm
/- Stage 12: Pattern and Draws take back one another; offsets are carried over (over Nat and Int). -/
theorem lfD_cg {s : Nat → Nat} {J : Nat} {D E : Nat → Nat} : ∀ {k}, (∀ i, i < k → D i = E i) → lfD s J D k = lfD s J E k
 | 0, _ => rfl
 | k + 1, h => by
  show dec1 (lfD s J D k) (pj (lfD s J D k) (D k) J) = dec1 (lfD s J E k) (pj (lfD s J E k) (E k) J)
  rw [lfD_cg (k := k) fun i hi => h i (by omega), h k (by omega)]
theorem chD_cg {s : Nat → Nat} {J n : Nat} {D E : Nat → Nat} (h : ∀ i, i < n → D i = E i) {k : Nat} (hk : k < n) : chD s J D k = chD s J E k := by
 unfold chD
 rw [lfD_cg (k := k) fun i hi => h i (by omega), h k hk]
theorem ofD_cg {s : Nat → Nat} {J n : Nat} {D E : Nat → Nat} (h : ∀ i, i < n → D i = E i) {k : Nat} (hk : k < n) : ofD s J D k = ofD s J E k := by
 unfold ofD
 rw [chD_cg h hk, lfD_cg (k := k) fun i hi => h i (by omega), h k hk]
theorem plC_cg {C E : Nat → Nat} {j v : Nat} : ∀ {n}, (∀ i, i < n → C i = E i) → plC C j v n = plC E j v n
 | 0, _ => rfl
 | n + 1, h => by
  unfold plC
  rw [plC_cg (n := n) fun i hi => h i (by omega), h n (by omega), cntC_cg fun i hi => h i (by omega)]
theorem plC_lt {C : Nat → Nat} {j v : Nat} : ∀ {n}, 0 < n → plC C j v n < n
 | 0, h => absurd h (Nat.not_lt_zero _)
 | n + 1, _ => by
  unfold plC
  by_cases q : C n = j ∧ cntC C j n = v
  ·rw [if_pos q]; omega
  ·rw [if_neg q]
   cases n with
   | zero => exact Nat.zero_lt_succ _
   | succ n => exact Nat.lt_succ_of_lt (plC_lt (Nat.zero_lt_succ _))
theorem ovF_cg {s : Nat → Nat} {J n x : Nat} {C E o p : Nat → Nat} (h : ∀ i, i < n → C i = E i) (ho : ∀ i, i < n → o i = p i) (hx : x < n) : ovF s J C o n x = ovF s J E p n x := by
 unfold ovF
 rw [plC_cg h, ho _ (plC_lt (by omega))]
theorem poC_cg {s C E : Nat → Nat} {n : Nat} (h : ∀ i, i < n → C i = E i) {k : Nat} (hk : k < n) : poC s C k = poC s E k := by
 unfold poC
 rw [h k hk, cntC_cg fun i hi => h i (by omega)]
theorem drC_cg {s C E o p : Nat → Nat} {n : Nat} (h : ∀ i, i < n → C i = E i) {k : Nat} (hk : k < n) (ho : o k = p k) : drC s C o k = drC s E p k := by
 unfold drC
 rw [ho, h k hk, lefC_cg fun i hi => h i (by omega)]
section
variable {sf f g : Nat → Int} {J m : Nat}
theorem pat_dr {cf vf : Nat → Int} {n : Nat} (h : drQ sf J cf n vf m = true) : paQ sf J (dwF sf cf vf) n = true ∧ (∀ k, k < n → pcF sf J (dwF sf cf vf) k = cf k) ∧ ∀ x, x < n → poF sf J (dwF sf cf vf) n x = vf x := by
 obtain ⟨hs, hst, _, _⟩ := drQ_iff.1 h
 obtain ⟨hn, hm, hrd⟩ := (rd_dr hs).2 h
 have hp := stQ_pat hst
 have hlt : ∀ k, k < n → gN cf k < J := hp.lt
 have ho : ∀ k, k < n → vfO sf cf vf k < lefC (gN sf) (gN cf) k (gN cf k) := fun k hk => (rd_lt hrd hk).2
 have hch : ∀ k, k < n → chD (gN sf) J (drC (gN sf) (gN cf) (vfO sf cf vf)) k = gN cf k := fun k hk => ch_dr hn.symm hlt ho hk
 have hof : ∀ k, k < n → ofD (gN sf) J (drC (gN sf) (gN cf) (vfO sf cf vf)) k = vfO sf cf vf k := fun k hk => of_dr hn.symm hlt ho hk
 refine ⟨paQ_iff.2 ⟨hs, hn, faQ_iff.2 fun i hi => ?_⟩, fun k hk => ?_, fun x hx => ?_⟩
 ·have h1 := drC_lt hn.symm hlt ho hi
  show 0 ≤ ((drC (gN sf) (gN cf) (vfO sf cf vf) i : Nat) : Int) ∧ ((drC (gN sf) (gN cf) (vfO sf cf vf) i : Nat) : Int) < _
  omega
 ·show ((chD (gN sf) J (drC (gN sf) (gN cf) (vfO sf cf vf)) k : Nat) : Int) = cf k
  rw [hch k hk]
  have := ((stQ_iff.1 hst).1 k hk).1
  show (((cf k).toNat : Nat) : Int) = cf k
  omega
 ·obtain ⟨k, hk, e⟩ := poC_onto hn.symm hp hx
  show ((ovF (gN sf) J (chD (gN sf) J (drC (gN sf) (gN cf) (vfO sf cf vf))) (ofD (gN sf) J (drC (gN sf) (gN cf) (vfO sf cf vf))) n x : Nat) : Int) = vf x
  rw [ovF_cg hch hof hx, ← e, ovF_at hp _ hk]
  have := (rdB_iff.1 (allB_iff.1 hrd k hk)).2.1
  show (((vf (poC (gN sf) (gN cf) k)).toNat : Nat) : Int) = _
  omega
theorem carry (h1 : paQ sf J f m = true) (h2 : paQ sf J g m = true) : drQ sf J (pcF sf J f) m (poF sf J g m) m = true := by
 obtain ⟨hs, hmS, _⟩ := paQ_iff.1 h1
 obtain ⟨hn, hD⟩ := pa_draws h1
 obtain ⟨_, hD2⟩ := pa_draws h2
 have hp := chD_pat hn hD
 have hp2 := chD_pat hn hD2
 have hok := (szQ_iff.1 hs).2
 refine drQ_iff.2 ⟨hs, stQ_iff.2 ⟨fun i hi => ?_, fun j hj => ?_⟩, hmS, ofQ_iff.2 fun j hj k hk => ?_⟩
 ·have := hp.lt i hi
  show 0 ≤ ((chD _ _ _ i : Nat) : Int) ∧ ((chD _ _ _ i : Nat) : Int) < _
  omega
 ·show sf j = ((cntC (chD (gN sf) J (gN f)) j m : Nat) : Int)
  rw [hp.cnt j hj]
  exact okS_nn hok hj
 ·have h3 := sumN_at (r := gN sf) hj
  obtain ⟨p, hpm, e⟩ := poC_onto hn hp2 (x := sumN (gN sf) j + k) (by omega)
  have e2 : chD (gN sf) J (gN g) p = j := by
   rw [← poC_pj hp2 hpm, e]
   exact pj_is hj (by omega) (by omega)
  have h4 := ofD_lt hn hD2 hpm
  have e4 : poC (gN sf) (chD (gN sf) J (gN g)) p = sumN (gN sf) (chD (gN sf) J (gN g) p) + cntC (chD (gN sf) J (gN g)) (chD (gN sf) J (gN g) p) p := rfl
  have e5 : lefC (gN sf) (chD (gN sf) J (gN g)) p (chD (gN sf) J (gN g) p) = gN sf (chD (gN sf) J (gN g) p) - cntC (chD (gN sf) J (gN g)) (chD (gN sf) J (gN g) p) p := rfl
  rw [e5, e2] at h4
  rw [e2, e] at e4
  show 0 ≤ ((ovF _ _ _ _ m (sumN (gN sf) j + k) : Nat) : Int) ∧ ((ovF _ _ _ _ m (sumN (gN sf) j + k) : Nat) : Int) < _
  rw [← e, ovF_at hp2 _ hpm]
  omega
end
theorem pj_le (r : Nat → Nat) (d : Nat) : ∀ J, pj r d J ≤ J
 | 0 => Nat.le_refl _
 | J + 1 => by
  have := pj_le r d J
  unfold pj
  by_cases q : d < sumN r J
  ·rw [if_pos q]; omega
  ·rw [if_neg q]; omega
section
variable {sf df : Nat → Int} {J m : Nat}
theorem pc_fits {N : Nat} (hJ : J ≤ 17592186044416) : ∀ j, j < N → -9223372036854775808 ≤ pcF sf J df j ∧ pcF sf J df j < 9223372036854775808 := fun j _ => by
 have := pj_le (lfD (gN sf) J (gN df) j) (gN df j) J
 show _ ≤ ((pj _ _ J : Nat) : Int) ∧ ((pj _ _ J : Nat) : Int) < _
 omega
theorem zl_le (E n : Nat) : zl E n ≤ n := by
 unfold zl
 split <;> omega
theorem po_fits {E : Nat} (hd : ∀ j, j < m → -9223372036854775808 ≤ df j ∧ df j < 9223372036854775808) : ∀ j, j < zl E m → -9223372036854775808 ≤ poF sf J df m j ∧ poF sf J df m j < 9223372036854775808 := fun j hj => by
 have h0 := zl_le E m
 obtain ⟨p, ep⟩ : ∃ p, plC (chD (gN sf) J (gN df)) (pj (gN sf) j J) (j - sumN (gN sf) (pj (gN sf) j J)) m = p := ⟨_, rfl⟩
 have hp : p < m := by rw [← ep]; exact plC_lt (by omega)
 have h1 := hd p hp
 have h2 : ofD (gN sf) J (gN df) p ≤ (df p).toNat := Nat.sub_le _ _
 show _ ≤ ((ofD (gN sf) J (gN df) (plC _ _ _ m) : Nat) : Int) ∧ ((ofD (gN sf) J (gN df) (plC _ _ _ m) : Nat) : Int) < _
 rw [ep]
 omega
theorem dw_fits {cf vf : Nat → Int} {n : Nat} (hn17 : n ≤ 17592186044416) : ∀ j, j < zl (drE sf J cf n vf m) n → -9223372036854775808 ≤ dwF sf cf vf j ∧ dwF sf cf vf j < 9223372036854775808 := fun j hj => by
 by_cases h : drQ sf J cf n vf m = true
 ·rw [drE_ok h, zl_ok] at hj
  obtain ⟨h1, _, _⟩ := pat_dr h
  have := faQ_iff.1 (paQ_iff.1 h1).2.2 j hj
  omega
 ·rw [drE_no h, zl_no (by decide)] at hj
  omega
end
end Go.Proofs.Ytmjpneaccjlpkaa.Brd

namespace Go.Proofs.Ytmjpneaccjlpkaa.Rif
/- Orders by way of chunks, over Nat (stage 13): names nothing of a program. -/
open Go.Proofs.Ytmjpneaccjlpkaa.Prm
open Go.Proofs.Ytmjpneaccjlpkaa.Brd
theorem pigeon {a b : Nat} {g : Nat → Nat} (hl : ∀ i, i < a → g i < b) (hi : ∀ i j, i < a → j < a → g i = g j → i = j) : a ≤ b := by
 by_cases h : a ≤ b
 ·exact h
 ·have P : IsP g a := ⟨fun i q => by have := hl i q; omega, hi⟩
  obtain ⟨i, h1, h2⟩ := surj P b (by omega)
  have := hl i h1
  omega
theorem sumN_eq {r q : Nat → Nat} : ∀ {J}, (∀ j, j < J → r j ≤ q j) → sumN r J = sumN q J → ∀ j, j < J → r j = q j
 | 0, _, _, j, hj => absurd hj (Nat.not_lt_zero _)
 | J + 1, h, e, j, hj => by
  have e' : sumN r J + r J = sumN q J + q J := e
  have h1 := sumN_le (J := J) fun i hi => h i (by omega)
  have h2 := h J (by omega)
  by_cases c : j = J
  ·subst c; omega
  ·exact sumN_eq (J := J) (fun i hi => h i (by omega)) (by omega) j (by omega)
def orC (s C : Nat → Nat) (P : Nat → Nat → Nat) (i : Nat) : Nat := sumN s (C i) + P (C i) (cntC C (C i) i)
def wC (s : Nat → Nat) (J : Nat) (w : Nat → Nat) (i : Nat) : Nat := pj s (w i) J
def wO (s : Nat → Nat) (J n : Nat) (w : Nat → Nat) (j k : Nat) : Nat := w (plC (wC s J w) j k n) - sumN s j
section
variable {s C : Nat → Nat} {J n : Nat} {P : Nat → Nat → Nat}
theorem orC_in (h : IsPat s J n C) (hP : ∀ j, j < J → IsP (P j) (s j)) {i : Nat} (hi : i < n) : C i < J ∧ sumN s (C i) ≤ orC s C P i ∧ orC s C P i < sumN s (C i) + s (C i) := by
 have h1 := h.lt i hi
 have h2 := (hP _ h1).lt _ (h.vis hi)
 exact ⟨h1, Nat.le_add_right _ _, Nat.add_lt_add_left h2 _⟩
theorem orC_pj (h : IsPat s J n C) (hP : ∀ j, j < J → IsP (P j) (s j)) {i : Nat} (hi : i < n) : wC s J (orC s C P) i = C i := by
 obtain ⟨h1, h2, h3⟩ := orC_in h hP hi
 exact pj_is h1 h2 h3
theorem orC_isP (hn : sumN s J = n) (h : IsPat s J n C) (hP : ∀ j, j < J → IsP (P j) (s j)) : IsP (orC s C P) n := by
 refine ⟨fun i hi => ?_, fun i k hi hk e => ?_⟩
 ·obtain ⟨h1, h2, h3⟩ := orC_in h hP hi
  have := sumN_at (r := s) h1
  omega
 ·have ei := orC_pj h hP hi
  have ek := orC_pj h hP hk
  have ec : C i = C k := by
   rw [← ei, ← ek]
   show pj s (orC s C P i) J = pj s (orC s C P k) J
   rw [e]
  have e' : sumN s (C i) + P (C i) (cntC C (C i) i) = sumN s (C k) + P (C k) (cntC C (C k) k) := e
  refine cntC_inj ec ?_
  have hk' := h.vis hk
  have hi' := h.vis hi
  have hJ := h.lt k hk
  rw [← ec] at e' hk' hJ ⊢
  exact (hP _ hJ).inj _ _ hi' hk' (by omega)
theorem wO_or (h : IsPat s J n C) (hP : ∀ j, j < J → IsP (P j) (s j)) {j k : Nat} (hj : j < J) (hk : k < s j) : wO s J n (orC s C P) j k = P j k := by
 have hc := h.cnt j hj
 have e1 : plC (wC s J (orC s C P)) j k n = plC C j k n := plC_cg fun i hi => orC_pj h hP hi
 obtain ⟨g1, g2, g3⟩ := plC_has (C := C) (j := j) (v := k) (n := n) (by omega)
 show orC s C P (plC (wC s J (orC s C P)) j k n) - sumN s j = P j k
 rw [e1]
 show sumN s (C (plC C j k n)) + P (C (plC C j k n)) (cntC C (C (plC C j k n)) (plC C j k n)) - sumN s j = P j k
 rw [g2, g3]
 omega
end
section
variable {s w : Nat → Nat} {J n : Nat}
theorem wC_in (hn : sumN s J = n) (h : IsP w n) {i : Nat} (hi : i < n) : wC s J w i < J ∧ sumN s (wC s J w i) ≤ w i ∧ w i < sumN s (wC s J w i) + s (wC s J w i) := pj_lt (by have := h.lt i hi; omega)
theorem wO_in (hn : sumN s J = n) (h : IsP w n) {j k : Nat} (hk : k < cntC (wC s J w) j n) : plC (wC s J w) j k n < n ∧ wC s J w (plC (wC s J w) j k n) = j ∧ cntC (wC s J w) j (plC (wC s J w) j k n) = k ∧ w (plC (wC s J w) j k n) = sumN s j + wO s J n w j k ∧ wO s J n w j k < s j := by
 obtain ⟨g1, g2, g3⟩ := plC_has hk
 obtain ⟨q1, q2, q3⟩ := wC_in hn h g1
 rw [g2] at q2 q3
 refine ⟨g1, g2, g3, ?_, ?_⟩
 ·show _ = sumN s j + (w (plC (wC s J w) j k n) - sumN s j)
  omega
 ·show w (plC (wC s J w) j k n) - sumN s j < s j
  omega
theorem wO_inj (hn : sumN s J = n) (h : IsP w n) {j k m : Nat} (hk : k < cntC (wC s J w) j n) (hm : m < cntC (wC s J w) j n) (e : wO s J n w j k = wO s J n w j m) : k = m := by
 obtain ⟨a1, a2, a3, a4, a5⟩ := wO_in hn h hk
 obtain ⟨b1, b2, b3, b4, b5⟩ := wO_in hn h hm
 have := h.inj _ _ a1 b1 (by omega)
 rw [this] at a3
 omega
theorem wC_pat (hn : sumN s J = n) (h : IsP w n) : IsPat s J n (wC s J w) := by
 have hl : ∀ k, k < n → wC s J w k < J := fun k hk => (wC_in hn h hk).1
 refine ⟨hl, fun j hj => ?_⟩
 exact sumN_eq (r := fun j => cntC (wC s J w) j n) (q := s) (J := J) (fun i _ => pigeon (fun k hk => (wO_in hn h hk).2.2.2.2) fun k m hk hm e => wO_inj hn h hk hm e) (by rw [Brd.cnt_all hl, hn]) j hj
theorem wO_isP (hn : sumN s J = n) (h : IsP w n) {j : Nat} (hj : j < J) : IsP (wO s J n w j) (s j) := by
 have hc := (wC_pat hn h).cnt j hj
 exact ⟨fun k hk => (wO_in hn h (by omega)).2.2.2.2, fun k m hk hm e => wO_inj hn h (by omega) (by omega) e⟩
end
section
variable {s C C' w w' : Nat → Nat} {J n : Nat} {P P' : Nat → Nat → Nat}
theorem orC_cg (h : IsPat s J n C) (eC : ∀ i, i < n → C i = C' i) (eP : ∀ j, j < J → ∀ k, k < s j → P j k = P' j k) {i : Nat} (hi : i < n) : orC s C P i = orC s C' P' i := by
 show sumN s (C i) + P (C i) (cntC C (C i) i) = sumN s (C' i) + P' (C' i) (cntC C' (C' i) i)
 rw [← eC i hi, ← cntC_cg (C := C) (D := C') (j := C i) (k := i) fun k hk => eC k (by omega), eP _ (h.lt i hi) _ (h.vis hi)]
end
end Go.Proofs.Ytmjpneaccjlpkaa.Rif
