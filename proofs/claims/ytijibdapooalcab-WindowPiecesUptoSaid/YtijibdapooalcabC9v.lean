import Derived.Test.YtijibdapooalcabC9s
namespace Go.Proofs.Ytijibdapooalcab.Win
open Go.RowKit Gf8 Aes By8 Cel Cf
/- Right stays right behind Open and Add; scripts of steps. Written by tools/mkC9t.py. -/

theorem add_rgt {w : Wn} {ep s r r2 : Int} {tags : List Nat} (h : Rgt w s r2) (h0 : (wAdd w ep tags r).2 = 0) (he : w.1 - s < ep) : Rgt (wAdd w ep tags r).1 s r := by
  unfold wAdd at h0 ⊢
  by_cases hA : adA w r
  · rw [if_pos hA] at h0 ⊢
    by_cases hB : adB w ep
    · rw [if_pos hB] at h0 ⊢
      by_cases hC : adC w tags r
      · rw [if_pos hC]
        exact put_right h inc_frs (fun z hz => (mem_frs.1 hz).2) ⟨hB.1, hB.2.1, he⟩ ⟨hA.1, hA.2.1⟩ hC
      · rw [if_neg hC] at h0
        cases h0
    · rw [if_neg hB] at h0
      cases h0
  · rw [if_neg hA] at h0
    cases h0
/-- A right window is small. -/
theorem wd_right {W : World} {z s r : Int} {ev : Value} {n : Nat} {nu : Nat → Int} {tw : Nat → Value} {ln : Nat → Nat} {t : Nat → Nat → Nat → Nat} (hE : Eps W ev n nu tw ln t) (h : Rgt (z, esL n nu ln t) s r) : Wd W z ev n nu tw ln t := by
  obtain ⟨h1, h2, h3, h4, h5, h6, h7, h8, h9, h10⟩ := h
  have hok := each_iff.1 h8
  have hn8 : n ≤ 8 := few (rise_iff.1 h9) (fun j hj => ⟨(hok j hj).2.1, (hok j hj).2.2.1⟩) (by omega)
  have hlen := al_len (nu := nu) (t := t) n (ln := ln)
  have hwl : wLen (esL n nu ln t) ≤ 4096 := by have q_ : ((wLen (esL n nu ln t) : Nat) : Int) ≤ r := h7; omega
  refine ⟨hE, by omega, fun j hj => ?_, ?_⟩
  · have q1 : alN ln (j + 1) ≤ alN ln n := al_mono hj
    have q2 : alN ln (j + 1) = alN ln j + ln j := rfl
    omega
  · have q1 : (0 : Int) ≤ z := h5
    have q2 : z ≤ 4611686018427387904 := h6
    exact ⟨by omega, by omega⟩
structure Stps (W : World) (v : Value) (n : Nat) (pb : Nat → Bool) (ep : Nat → Int) (tw : Nat → Value) (m : Nat → Nat) (tg : Nat → Nat → Nat → Nat) : Prop where
  shape : ∃ a c, v = .slice a n c ∧ n ≤ c ∧ c < 9223372036854775808 ∧ (0 < n → ∃ b o, a = some ⟨b, o, none⟩ ∧ b < W.heap.size ∧ ∀ j, j < n → W.cell? ⟨b, o + j * 3 + 0, none⟩ = some (.bool (pb j)) ∧ W.cell? ⟨b, o + j * 3 + 1, none⟩ = some (.int .i64 (ep j)) ∧ W.cell? ⟨b, o + j * 3 + 2, none⟩ = some (tw j))
  lists : ∀ j, j < n → Tgs W (tw j) (m j) (tg j)
  nums : ∀ j, j < n → I64 (ep j)
  m16 : ∀ j, j < n → m j * 16 ≤ 140737488351232
section
variable {W W' : World} {v : Value} {n : Nat} {pb : Nat → Bool} {ep : Nat → Int} {tw : Nat → Value} {m : Nat → Nat} {tg : Nat → Nat → Nat → Nat}
theorem Stps.on (h : Stps W v n pb ep tw m tg) (hb : Below W.heap.size W W') : Stps W' v n pb ep tw m tg := by
  obtain ⟨⟨a, c, e, h1, h2, h3⟩, hl, hn, hm⟩ := h
  refine ⟨⟨a, c, e, h1, h2, fun h0 => ?_⟩, fun j hj => (hl j hj).on hb, hn, hm⟩
  obtain ⟨b, o, e1, e2, e3⟩ := h3 h0
  exact ⟨b, o, e1, Nat.lt_of_lt_of_le e2 hb.size, fun j hj => ⟨by rw [cell_below hb e2]; exact (e3 j hj).1, by rw [cell_below hb e2]; exact (e3 j hj).2.1, by rw [cell_below hb e2]; exact (e3 j hj).2.2⟩⟩
theorem Stps.shp (h : Stps W v n pb ep tw m tg) : ∃ a c, v = .slice a n c := by
  obtain ⟨a, c, e, _⟩ := h.shape
  exact ⟨a, c, e⟩
theorem Stps.at (h : Stps W v n pb ep tw m tg) (h0 : 0 < n) : ∃ b o c, v = .slice (some ⟨b, o, none⟩) n c ∧ b < W.heap.size ∧ ∀ j, j < n → W.cell? ⟨b, o + j * 3 + 0, none⟩ = some (.bool (pb j)) ∧ W.cell? ⟨b, o + j * 3 + 1, none⟩ = some (.int .i64 (ep j)) ∧ W.cell? ⟨b, o + j * 3 + 2, none⟩ = some (tw j) := by
  obtain ⟨a, c, e, _, _, h3⟩ := h.shape
  obtain ⟨b, o, e1, e2, e3⟩ := h3 h0
  exact ⟨b, o, c, by rw [e, e1], e2, e3⟩
end
section
variable {o : Oper} {a : Act} {w : World}
end
end Go.Proofs.Ytijibdapooalcab.Win

namespace Go.Proofs.Ytijibdapooalcab.Win
open Go.RowKit Gf8 Aes By8 Cel Cf
/- What a window holds behind Open and Add. Written by tools/mkC9v.py. -/

theorem add_0 {w : Wn} {ep r : Int} {T : List Nat} (h : (wAdd w ep T r).2 = 0) : (wAdd w ep T r).1 = (w.1, putW w.2 ep (frs w.2 T)) ∧ adA w r ∧ adB w ep ∧ adC w T r := by
  unfold wAdd at h ⊢
  by_cases hA : adA w r
  · rw [if_pos hA] at h ⊢
    by_cases hB : adB w ep
    · rw [if_pos hB] at h ⊢
      by_cases hC : adC w T r
      · rw [if_pos hC]
        exact ⟨rfl, hA, hB, hC⟩
      · rw [if_neg hC] at h
        cases h
    · rw [if_neg hB] at h
      cases h
  · rw [if_neg hA] at h
    cases h
theorem add_e {w : Wn} {ep r : Int} {T : List Nat} (h : (wAdd w ep T r).2 ≠ 0) : (wAdd w ep T r).1 = (0, []) := by
  unfold wAdd at h ⊢
  by_cases hA : adA w r
  · rw [if_pos hA] at h ⊢
    by_cases hB : adB w ep
    · rw [if_pos hB] at h ⊢
      by_cases hC : adC w T r
      · rw [if_pos hC] at h
        exact absurd rfl h
      · rw [if_neg hC]
    · rw [if_neg hB]
  · rw [if_neg hA]
end Go.Proofs.Ytijibdapooalcab.Win
