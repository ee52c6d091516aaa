import Derived.Test.YtdecmmcphcomhaaQ9n
namespace Go.Proofs.Ytdecmmcphcomhaa.Brd
open Go.RowKit Gf8 Aes By8 Cel Cf Tap Drw Prm
/- Stage 12: Pattern and Draws take back one another; offsets are carried over (over Nat and Int). -/

theorem plC_cg {C E : Nat → Nat} {j v : Nat} : ∀ {n}, (∀ i, i < n → C i = E i) → plC C j v n = plC E j v n
  | 0, _ => rfl
  | n + 1, h => by
    unfold plC
    rw [plC_cg (n := n) fun i hi => h i (by omega), h n (by omega), cntC_cg fun i hi => h i (by omega)]
theorem plC_lt {C : Nat → Nat} {j v : Nat} : ∀ {n}, 0 < n → plC C j v n < n
  | 0, h => absurd h (Nat.not_lt_zero _)
  | n + 1, _ => by
    unfold plC
    by_cases q : C n = j ∧ cntC C j n = v
    · rw [if_pos q]; omega
    · rw [if_neg q]
      cases n with
      | zero => exact Nat.zero_lt_succ _
      | succ n => exact Nat.lt_succ_of_lt (plC_lt (Nat.zero_lt_succ _))
theorem ovF_cg {s : Nat → Nat} {J n x : Nat} {C E o p : Nat → Nat} (h : ∀ i, i < n → C i = E i) (ho : ∀ i, i < n → o i = p i) (hx : x < n) : ovF s J C o n x = ovF s J E p n x := by
  unfold ovF
  rw [plC_cg h, ho _ (plC_lt (by omega))]
section
variable {sf f g : Nat → Int} {J m : Nat}
/-- Pattern takes back what Draws answers. -/
theorem pat_dr {cf vf : Nat → Int} {n : Nat} (h : drQ sf J cf n vf m = true) : paQ sf J (dwF sf cf vf) n = true ∧ (∀ k, k < n → pcF sf J (dwF sf cf vf) k = cf k) ∧ ∀ x, x < n → poF sf J (dwF sf cf vf) n x = vf x := by
  obtain ⟨hs, hst, _, _⟩ := drQ_iff.1 h
  obtain ⟨hn, hm, hrd⟩ := (rd_dr hs).2 h
  have hp := stQ_pat hst
  have hlt : ∀ k, k < n → gN cf k < J := hp.lt
  have ho : ∀ k, k < n → vfO sf cf vf k < lefC (gN sf) (gN cf) k (gN cf k) := fun k hk => (rd_lt hrd hk).2
  have hch : ∀ k, k < n → chD (gN sf) J (drC (gN sf) (gN cf) (vfO sf cf vf)) k = gN cf k := fun k hk => ch_dr hn.symm hlt ho hk
  have hof : ∀ k, k < n → ofD (gN sf) J (drC (gN sf) (gN cf) (vfO sf cf vf)) k = vfO sf cf vf k := fun k hk => of_dr hn.symm hlt ho hk
  refine ⟨paQ_iff.2 ⟨hs, hn, faQ_iff.2 fun i hi => ?_⟩, fun k hk => ?_, fun x hx => ?_⟩
  · have h1 := drC_lt hn.symm hlt ho hi
    show 0 ≤ ((drC (gN sf) (gN cf) (vfO sf cf vf) i : Nat) : Int) ∧ ((drC (gN sf) (gN cf) (vfO sf cf vf) i : Nat) : Int) < _
    omega
  · show ((chD (gN sf) J (drC (gN sf) (gN cf) (vfO sf cf vf)) k : Nat) : Int) = cf k
    rw [hch k hk]
    have := ((stQ_iff.1 hst).1 k hk).1
    show (((cf k).toNat : Nat) : Int) = cf k
    omega
  · obtain ⟨k, hk, e⟩ := poC_onto hn.symm hp hx
    show ((ovF (gN sf) J (chD (gN sf) J (drC (gN sf) (gN cf) (vfO sf cf vf))) (ofD (gN sf) J (drC (gN sf) (gN cf) (vfO sf cf vf))) n x : Nat) : Int) = vf x
    rw [ovF_cg hch hof hx, ← e, ovF_at hp _ hk]
    have := (rdB_iff.1 (allB_iff.1 hrd k hk)).2.1
    show (((vf (poC (gN sf) (gN cf) k)).toNat : Nat) : Int) = _
    omega
end
/-- The numbers fit. -/
theorem pj_le (r : Nat → Nat) (d : Nat) : ∀ J, pj r d J ≤ J
  | 0 => Nat.le_refl _
  | J + 1 => by
    have := pj_le r d J
    unfold pj
    by_cases q : d < sumN r J
    · rw [if_pos q]; omega
    · rw [if_neg q]; omega
section
variable {sf df : Nat → Int} {J m : Nat}
theorem pc_fits {N : Nat} (hJ : J ≤ 17592186044416) : ∀ j, j < N → -9223372036854775808 ≤ pcF sf J df j ∧ pcF sf J df j < 9223372036854775808 := fun j _ => by
  have := pj_le (lfD (gN sf) J (gN df) j) (gN df j) J
  show _ ≤ ((pj _ _ J : Nat) : Int) ∧ ((pj _ _ J : Nat) : Int) < _
  omega
theorem zl_le (E n : Nat) : zl E n ≤ n := by
  unfold zl
  split <;> omega
theorem po_fits {E : Nat} (hd : ∀ j, j < m → -9223372036854775808 ≤ df j ∧ df j < 9223372036854775808) : ∀ j, j < zl E m → -9223372036854775808 ≤ poF sf J df m j ∧ poF sf J df m j < 9223372036854775808 := fun j hj => by
  have h0 := zl_le E m
  obtain ⟨p, ep⟩ : ∃ p, plC (chD (gN sf) J (gN df)) (pj (gN sf) j J) (j - sumN (gN sf) (pj (gN sf) j J)) m = p := ⟨_, rfl⟩
  have hp : p < m := by rw [← ep]; exact plC_lt (by omega)
  have h1 := hd p hp
  have h2 : ofD (gN sf) J (gN df) p ≤ (df p).toNat := Nat.sub_le _ _
  show _ ≤ ((ofD (gN sf) J (gN df) (plC _ _ _ m) : Nat) : Int) ∧ ((ofD (gN sf) J (gN df) (plC _ _ _ m) : Nat) : Int) < _
  rw [ep]
  omega
theorem dw_fits {cf vf : Nat → Int} {n : Nat} (hn17 : n ≤ 17592186044416) : ∀ j, j < zl (drE sf J cf n vf m) n → -9223372036854775808 ≤ dwF sf cf vf j ∧ dwF sf cf vf j < 9223372036854775808 := fun j hj => by
  by_cases h : drQ sf J cf n vf m = true
  · rw [drE_ok h, zl_ok] at hj
    obtain ⟨h1, _, _⟩ := pat_dr h
    have := faQ_iff.1 (paQ_iff.1 h1).2.2 j hj
    omega
  · rw [drE_no h, zl_no (by decide)] at hj
    omega
end
end Go.Proofs.Ytdecmmcphcomhaa.Brd
