import Derived.Test.YtijibdapooalcabC9n
namespace Go.Proofs.Ytijibdapooalcab.Win
open Go.RowKit Gf8 Aes By8 Cel Cf
/- What the reference's Add needs. Written by tools/mkC9o.py. -/

theorem wp_join {x y : Code} {Q : Exit → Act → World → Prop} {a : Act} {w : World} (R : Act → World → Prop) (h1 : x.wp Try.prog (fun e a w => e = .normal ∧ R a w) a w) (h2 : ∀ a w, R a w → y.wp Try.prog Q a w) : (Code.seq x y).wp Try.prog Q a w :=
  wp_seq (wp_mono h1 fun e a w ⟨he, hr⟩ => by
    subst he
    exact h2 a w hr)
theorem exit_past {id jd : Nat} {Q : Exit → Act → World → Prop} {a : Act} {w : World} (hne : jd ≠ id) (h : Q (.exit jd) a w) : Exit.inBlock id Q (.exit jd) a w := by
  simp only [Exit.inBlock, if_neg hne]
  exact h
theorem execLeN {o : Oper} {a : Act} {w : World} {x y : Operand} {p q : Nat} (ho : o.op = .binOp .leq 3 x y 3) (hx : a.eval x = .int .i64 (p : Int)) (hy : a.eval y = .int .i64 (q : Int)) : (execOp a.eval o).run Try.prog w = .ok (.value (.bool (decide (p ≤ q)))) w := by
  unfold execOp
  simp only [ho, hx, hy]
  simp [go_sem]
theorem tgL_succ {n : Nat} {t : Nat → Nat → Nat} : tgL (n + 1) t = tgL n t ++ [tv (t n) 16] := by
  unfold tgL
  rw [List.range_succ, List.map_append]
  rfl
/-- In order: any two places. -/
theorem inc_far {n : Nat} {t : Nat → Nat → Nat} (h : Inc (tgL n t)) {i j : Nat} (hij : i < j) (hj : j < n) : tv (t i) 16 < tv (t j) 16 := by
  have := List.pairwise_iff_getElem.1 h i j (by rw [len_tgL]; omega) (by rw [len_tgL]; omega) hij
  simpa [tgL] using this
/-- Where a number would stand. -/
theorem in_at {n j z : Nat} {t : Nat → Nat → Nat} (h : Inc (tgL n t)) (hlo : ∀ k, k < j → tv (t k) 16 < z) (hst : j < n → ¬ tv (t j) 16 < z) : z ∈ tgL n t ↔ j < n ∧ tv (t j) 16 = z := by
  rw [mem_tgL]
  constructor
  · rintro ⟨k, h1, h2⟩
    have q1 : j ≤ k := by
      rcases Nat.lt_or_ge k j with q | q
      · have := hlo k q; omega
      · exact q
    have q2 := hst (by omega)
    rcases Nat.eq_or_lt_of_le q1 with q | q
    · subst q; exact ⟨h1, h2⟩
    · have := inc_far h q h1; omega
  · rintro ⟨h1, h2⟩
    exact ⟨j, h1, h2⟩
theorem frs_eq {es : List Ep} {a h T : List Nat} (ha : a = srt T) (hh : h = srt (wAll es)) : (a.filter fun z => decide (z ∉ h)) = frs es T := by
  subst ha
  subst hh
  refine inc_uniq (List.Pairwise.filter _ inc_srt) inc_frs fun x => ?_
  rw [List.mem_filter, mem_srt, mem_frs, decide_eq_true_iff, mem_srt]
theorem filt_y {l h : List Nat} {z : Nat} (q : z ∉ h) : (l ++ [z]).filter (fun z => decide (z ∉ h)) = l.filter (fun z => decide (z ∉ h)) ++ [z] := by
  rw [List.filter_append]
  congr 1
  exact List.filter_cons_of_pos (decide_eq_true q)
theorem filt_n {l h : List Nat} {z : Nat} (q : z ∈ h) : (l ++ [z]).filter (fun z => decide (z ∉ h)) = l.filter (fun z => decide (z ∉ h)) := by
  rw [List.filter_append, List.filter_cons_of_neg (by rw [decide_eq_true_iff]; exact fun q2 => q2 q), List.filter_nil, List.append_nil]
/-- Epochs gone through: what is put out so far, and whether the new tags are. -/
def PI (es : List Ep) (ep : Int) (f : List Nat) (i : Nat) (pb : Bool) (o : List Ep) : Prop := if pb then o ++ es.drop i = putW es ep f else f ≠ [] ∧ o ++ putE (es.drop i) ep f = putE es ep f
section
variable {es o : List Ep} {ep : Int} {f : List Nat} {i : Nat} {x : Ep}
theorem PI.begin : PI es ep f 0 (decide (f = [])) [] := by
  unfold PI
  by_cases h : f = []
  · rw [if_pos (decide_eq_true h), putW, if_pos h]; rfl
  · rw [if_neg (by rw [decide_eq_true_iff]; exact h)]
    exact ⟨h, rfl⟩
theorem pi_f (h : PI es ep f i false o) : o ++ putE (es.drop i) ep f = putW es ep f := by
  have h2 := h.2
  rw [putW, if_neg h.1]
  exact h2
theorem PI.last (h : PI es ep f i false o) (hi : es.drop i = []) : PI es ep f i true (o ++ [(ep, f)]) := by
  have h2 := pi_f h
  rw [hi] at h2
  show o ++ [(ep, f)] ++ es.drop i = _
  rw [hi, List.append_nil]
  exact h2
theorem PI.ahead (h : PI es ep f i false o) (hi : es.drop i = x :: es.drop (i + 1)) (hx : ep < x.1) : PI es ep f i true (o ++ [(ep, f)]) := by
  have h2 := pi_f h
  rw [hi, putE, if_pos hx] at h2
  show o ++ [(ep, f)] ++ es.drop i = _
  rw [hi, List.append_assoc]
  exact h2
theorem PI.into (h : PI es ep f i false o) (hi : es.drop i = x :: es.drop (i + 1)) (hx : x.1 = ep) : PI es ep f (i + 1) true (o ++ [(x.1, srt (x.2 ++ f))]) := by
  have h2 := pi_f h
  rw [hi, putE, if_neg (by omega), if_pos hx] at h2
  show o ++ [_] ++ es.drop (i + 1) = _
  rw [List.append_assoc]
  exact h2
theorem PI.past (h : PI es ep f i false o) (hi : es.drop i = x :: es.drop (i + 1)) (hx : ¬ ep < x.1) (hx2 : x.1 ≠ ep) : PI es ep f (i + 1) false (o ++ [x]) := by
  have h2 := h.2
  rw [hi, putE, if_neg hx, if_neg hx2] at h2
  refine ⟨h.1, ?_⟩
  rw [List.append_assoc]
  exact h2
theorem PI.next (h : PI es ep f i true o) (hi : es.drop i = x :: es.drop (i + 1)) : PI es ep f (i + 1) true (o ++ [x]) := by
  have h2 : o ++ es.drop i = putW es ep f := h
  rw [hi] at h2
  show o ++ [x] ++ es.drop (i + 1) = _
  rw [List.append_assoc]
  exact h2
theorem PI.done (h : PI es ep f i true o) (hi : es.drop i = []) : o = putW es ep f := by
  have h2 : o ++ es.drop i = putW es ep f := h
  rw [hi, List.append_nil] at h2
  exact h2
end
theorem esL_len {n : Nat} {nu : Nat → Int} {ln : Nat → Nat} {t : Nat → Nat → Nat → Nat} : (esL n nu ln t).length = n := by
  unfold esL
  rw [List.length_map, List.length_range]
theorem esL_end {n : Nat} {nu : Nat → Int} {ln : Nat → Nat} {t : Nat → Nat → Nat → Nat} : (esL n nu ln t).drop n = [] := List.drop_eq_nil_iff.2 (by rw [esL_len]; exact Nat.le_refl _)
theorem esL_drop {n i : Nat} {nu : Nat → Int} {ln : Nat → Nat} {t : Nat → Nat → Nat → Nat} (h : i < n) : (esL n nu ln t).drop i = (nu i, tgL (ln i) (t i)) :: (esL n nu ln t).drop (i + 1) := by
  rw [List.drop_eq_getElem_cons (by rw [esL_len]; exact h)]
  congr 1
  simp [esL]
/-- One epoch more, its list apart from the others. -/
theorem NwE.pushD {B n m : Nat} {W W' : World} {v v' u : Value} {nu : Nat → Int} {tw : Nat → Value} {ln : Nat → Nat} {t : Nat → Nat → Nat → Nat} {z : Int} {s : Nat → Nat → Nat} (h : NwE B W v n nu tw ln t) (hu : W.ownsRow B 36 16 u m (tgV s m)) (hd : ∀ j, j < n → ∀ b, (tw j).ownBlock = some b → u.ownBlock ≠ some b) (hs : ∀ k, k < m → ∀ i, i < 16 → s k i < 256) (hz : I64 z) (own' : W'.ownsRow B 47 2 v' (n + 1) (epV (up nu n z) (up tw n u) (n + 1))) (gr : W.grownBy W' v.ownBlock) : NwE B W' v' (n + 1) (up nu n z) (up tw n u) (up ln n m) (up t n s) := by
  have hu' : W'.ownsRow B 36 16 u m (tgV s m) := ownE_over hu h.row gr (by decide)
  refine ⟨own', fun j hj => ?_, fun i j hi hj hij b hb => ?_, fun j hj => ?_, fun j hj => ?_⟩
  · by_cases e : j = n
    · subst e
      rw [up_at, up_at, up_at]
      exact hu'
    · rw [up_ne _ _ e, up_ne _ _ e, up_ne _ _ e]
      exact ownE_over (h.lists j (by omega)) h.row gr (by decide)
  · by_cases e : i = n
    · subst e
      rw [up_at] at hb
      rw [up_ne _ _ (Ne.symm hij)]
      intro q
      exact hd j (by omega) b q hb
    · rw [up_ne _ _ e] at hb
      by_cases e2 : j = n
      · subst e2
        rw [up_at]
        exact hd i (by omega) b hb
      · rw [up_ne _ _ e2]
        exact h.dis i j (by omega) (by omega) hij b hb
  · by_cases e : j = n
    · subst e
      rw [up_at, up_at]
      exact hs
    · rw [up_ne _ _ e, up_ne _ _ e]
      exact h.byt j (by omega)
  · by_cases e : j = n
    · subst e
      rw [up_at]
      exact hz
    · rw [up_ne _ _ e]
      exact h.nums j (by omega)
/-- A list of tags beyond is grown. -/
theorem NwE.overL {B C n m : Nat} {W W' : World} {v u : Value} {nu : Nat → Int} {tw : Nat → Value} {ln : Nat → Nat} {t : Nat → Nat → Nat → Nat} {xs : List Value} (h : NwE B W v n nu tw ln t) (hu : W.ownsRow C 36 16 u m xs) (hlo : ∀ j, j < n → ∀ b, (tw j).ownBlock = some b → b < C) (gr : W.grownBy W' u.ownBlock) : NwE B W' v n nu tw ln t :=
  ⟨ownE_over h.row hu gr (by decide), fun j hj => ownW_grown (h.lists j hj) gr (fun k hk q => by
    have h1 := hlo j hj k hk
    have h2 := (hu.lt k q).1
    omega), h.dis, h.byt, h.nums⟩
theorem up_ge {n C : Nat} {tw : Nat → Value} {u : Value} (h : ∀ j, j < n → ∀ b, (tw j).ownBlock = some b → C ≤ b) (hu : ∀ b, u.ownBlock = some b → C ≤ b) : ∀ j, j < n + 1 → ∀ b, (up tw n u j).ownBlock = some b → C ≤ b := fun j hj b hb => by
  by_cases e : j = n
  · subst e
    rw [up_at] at hb
    exact hu b hb
  · rw [up_ne _ _ e] at hb
    exact h j (by omega) b hb
end Go.Proofs.Ytijibdapooalcab.Win
