import Derived.Test.YtijibdapooalcaaC9t
namespace Go.Proofs.Ytijibdapooalcaa.Win
open Go.RowKit Gf8 Aes By8 Cel Cf
/- What a window holds behind Open and Add. Written by tools/mkC9v.py. -/

theorem nodup_uniq {z : Nat} {x y : Ep} : ∀ {es : List Ep}, (wAll es).Nodup → x ∈ es → y ∈ es → z ∈ x.2 → z ∈ y.2 → x = y
  | [], _, h, _, _, _ => (List.not_mem_nil h).elim
  | a :: l, hd, hx, hy, h1, h2 => by
    rw [all_cons, List.nodup_append] at hd
    rcases List.mem_cons.1 hx with q | q
    · rcases List.mem_cons.1 hy with p | p
      · rw [q, p]
      · exact absurd rfl (hd.2.2 z (q ▸ h1) z (mem_all.2 ⟨y, p, h2⟩))
    · rcases List.mem_cons.1 hy with p | p
      · exact absurd rfl (hd.2.2 z (p ▸ h2) z (mem_all.2 ⟨x, q, h1⟩))
      · exact nodup_uniq hd.2.1 q p h1 h2
theorem mem_fil {es : List Ep} {x : Ep} {z : Nat} {p : Ep → Bool} (hd : (wAll es).Nodup) (hx : x ∈ es) (hz : z ∈ x.2) : z ∈ wAll (es.filter p) ↔ p x = true := by
  rw [mem_all]
  constructor
  · rintro ⟨y, h1, h2⟩
    obtain ⟨q1, q2⟩ := List.mem_filter.1 h1
    rw [nodup_uniq hd hx q1 hz h2]
    exact q2
  · intro h
    exact ⟨x, List.mem_filter.2 ⟨hx, h⟩, hz⟩
theorem esL_mem {n i : Nat} {nu : Nat → Int} {ln : Nat → Nat} {t : Nat → Nat → Nat → Nat} (h : i < n) : (nu i, tgL (ln i) (t i)) ∈ esL n nu ln t := List.mem_map.2 ⟨i, List.mem_range.2 h, rfl⟩
theorem fil_len_y {i : Nat} {nu : Nat → Int} {ln : Nat → Nat} {t : Nat → Nat → Nat → Nat} {m : Int} (h : m < nu i) : wLen ((esL (i + 1) nu ln t).filter fun x => decide (m < x.1)) = wLen ((esL i nu ln t).filter fun x => decide (m < x.1)) + ln i := by
  rw [esL_succ, fil_y h, len_app, len_cons]
  show _ + ((tgL (ln i) (t i)).length + 0) = _
  rw [len_tgL]
  rfl
theorem fil_len_n {i : Nat} {nu : Nat → Int} {ln : Nat → Nat} {t : Nat → Nat → Nat → Nat} {m : Int} (h : ¬ m < nu i) : wLen ((esL (i + 1) nu ln t).filter fun x => decide (m < x.1)) = wLen ((esL i nu ln t).filter fun x => decide (m < x.1)) := by
  rw [esL_succ, fil_n h]
theorem open_0 {w : Wn} {ep s : Int} (h : (wOpen w ep s).2 = 0) : (wOpen w ep s).1 = opW w ep s ∧ opA ep s ∧ ¬ opB w ep s := by
  unfold wOpen at h ⊢
  by_cases hA : opA ep s
  · rw [if_pos hA] at h ⊢
    by_cases hB : opB w ep s
    · rw [if_pos hB] at h
      cases h
    · rw [if_neg hB]
      exact ⟨rfl, hA, hB⟩
  · rw [if_neg hA] at h
    cases h
theorem add_0 {w : Wn} {ep r : Int} {T : List Nat} (h : (wAdd w ep T r).2 = 0) : (wAdd w ep T r).1 = (w.1, putW w.2 ep (frs w.2 T)) ∧ adA w r ∧ adB w ep ∧ adC w T r := by
  unfold wAdd at h ⊢
  by_cases hA : adA w r
  · rw [if_pos hA] at h ⊢
    by_cases hB : adB w ep
    · rw [if_pos hB] at h ⊢
      by_cases hC : adC w T r
      · rw [if_pos hC]
        exact ⟨rfl, hA, hB, hC⟩
      · rw [if_neg hC] at h
        cases h
    · rw [if_neg hB] at h
      cases h
  · rw [if_neg hA] at h
    cases h
theorem add_e {w : Wn} {ep r : Int} {T : List Nat} (h : (wAdd w ep T r).2 ≠ 0) : (wAdd w ep T r).1 = (0, []) := by
  unfold wAdd at h ⊢
  by_cases hA : adA w r
  · rw [if_pos hA] at h ⊢
    by_cases hB : adB w ep
    · rw [if_pos hB] at h ⊢
      by_cases hC : adC w T r
      · rw [if_pos hC] at h
        exact absurd rfl h
      · rw [if_neg hC]
    · rw [if_neg hB]
  · rw [if_neg hA]
theorem add_full {w : Wn} {ep r : Int} {T : List Nat} (hA : adA w r) (hB : adB w ep) (h : (wAdd w ep T r).2 ≠ 0) : (wAdd w ep T r).2 = 160 := by
  unfold wAdd at h ⊢
  rw [if_pos hA, if_pos hB] at h ⊢
  by_cases hC : adC w T r
  · rw [if_pos hC] at h
    exact absurd rfl h
  · rw [if_neg hC]
theorem put_in {e : Int} {f : List Nat} {z : Nat} {x : Ep} : ∀ {es : List Ep}, x ∈ putE es e f → z ∈ x.2 → z ∈ wAll es ∨ (x.1 = e ∧ z ∈ f)
  | [], hx, hz => by
    rw [putE, List.mem_singleton] at hx
    subst hx
    exact Or.inr ⟨rfl, hz⟩
  | y :: r, hx, hz => by
    unfold putE at hx
    by_cases h1 : e < y.1
    · rw [if_pos h1] at hx
      rcases List.mem_cons.1 hx with q | q
      · subst q; exact Or.inr ⟨rfl, hz⟩
      · exact Or.inl (mem_all.2 ⟨x, q, hz⟩)
    · rw [if_neg h1] at hx
      by_cases h2 : y.1 = e
      · rw [if_pos h2] at hx
        rcases List.mem_cons.1 hx with q | q
        · subst q
          rcases List.mem_append.1 (mem_srt.1 hz) with p | p
          · exact Or.inl (mem_all.2 ⟨y, List.mem_cons_self, p⟩)
          · exact Or.inr ⟨h2, p⟩
        · exact Or.inl (mem_all.2 ⟨x, List.mem_cons_of_mem _ q, hz⟩)
      · rw [if_neg h2] at hx
        rcases List.mem_cons.1 hx with q | q
        · subst q
          exact Or.inl (mem_all.2 ⟨x, List.mem_cons_self, hz⟩)
        · rcases put_in q hz with p | p
          · exact Or.inl (by rw [all_cons, List.mem_append]; exact Or.inr p)
          · exact Or.inr p
theorem putW_in {e : Int} {f : List Nat} {z : Nat} {x : Ep} {es : List Ep} (hx : x ∈ putW es e f) (hz : z ∈ x.2) : z ∈ wAll es ∨ (x.1 = e ∧ z ∈ f) := by
  unfold putW at hx
  by_cases h : f = []
  · rw [if_pos h] at hx
    exact Or.inl (mem_all.2 ⟨x, hx, hz⟩)
  · rw [if_neg h] at hx
    exact put_in hx hz
/-- What Add's answer holds. -/
theorem add_in {w : Wn} {ep r : Int} {T : List Nat} {x : Ep} {z : Nat} (h : (wAdd w ep T r).2 = 0) (hx : x ∈ (wAdd w ep T r).1.2) (hz : z ∈ x.2) : z ∈ wAll w.2 ∨ (x.1 = ep ∧ z ∈ T) := by
  rw [(add_0 h).1] at hx
  rcases putW_in hx hz with q | ⟨q1, q2⟩
  · exact Or.inl q
  · exact Or.inr ⟨q1, (mem_frs.1 q2).1⟩
theorem add_has {w : Wn} {ep r : Int} {T : List Nat} {z : Nat} (h : (wAdd w ep T r).2 = 0) (hz : z ∈ T) : z ∈ wAll (wAdd w ep T r).1.2 := by
  rw [(add_0 h).1]
  show z ∈ wAll (putW w.2 ep (frs w.2 T))
  rw [putW_all, mem_frs]
  by_cases q : z ∈ wAll w.2
  · exact Or.inl q
  · exact Or.inr ⟨hz, q⟩
theorem add_len {w : Wn} {ep r : Int} {T : List Nat} (h : (wAdd w ep T r).2 = 0) : wLen w.2 ≤ wLen (wAdd w ep T r).1.2 ∧ ((wLen (wAdd w ep T r).1.2 : Nat) : Int) ≤ r := by
  obtain ⟨h1, h2, _, h4⟩ := add_0 h
  rw [h1]
  have hR := h2.2.2
  have e : wLen (putW w.2 ep (frs w.2 T)) = wLen w.2 + (frs w.2 T).length := putW_len inc_frs (fun x hx => (hR.2.2.2.2.2.2.2.1 x hx).2.2.2.2) (fun z hz => (mem_frs.1 hz).2)
  show wLen w.2 ≤ wLen (putW w.2 ep (frs w.2 T)) ∧ ((wLen (putW w.2 ep (frs w.2 T)) : Nat) : Int) ≤ r
  rw [e]
  exact ⟨by omega, h4⟩
theorem sW_right {z s r : Int} {n : Nat} {nu : Nat → Int} {ln : Nat → Nat} {t : Nat → Nat → Nat → Nat} (h : Rgt (z, esL n nu ln t) s r) : sW ln n = ((wLen (esL n nu ln t) : Nat) : Int) := sW_fit n (by
  have q1 := h.2.2.2.1
  have q2 : ((wLen (esL n nu ln t) : Nat) : Int) ≤ r := h.2.2.2.2.2.2.1
  omega)
end Go.Proofs.Ytijibdapooalcaa.Win
