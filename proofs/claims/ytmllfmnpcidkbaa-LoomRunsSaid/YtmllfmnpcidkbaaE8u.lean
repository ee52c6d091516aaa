import Derived.Test.YtmllfmnpcidkbaaE8t
namespace Go.Proofs.Ytmllfmnpcidkbaa.Loo
open Go.RowKit Gf8 Aes By8 Cel Cf Win Drw Prm
/- The reference's Check. Written by tools/mkE8u.py. -/

section
variable {p : Pl}
theorem chk_a (h : 128 < p.n ∨ 64 < p.d) : chk p = 1 := if_pos h
theorem chk_c (h : ¬ (128 < p.n ∨ 64 < p.d)) (h1 : ∀ t, t < p.n → p.ln t ≤ 256) {i : Nat} (hi : i < p.d) (hc : inB (p.cap i) 0 1024 = false) : chk p = 190 := by
  unfold chk
  have e1 : ¬ lnB p = true := any_no fun t ht => decide_eq_false (by have := h1 t (List.mem_range.1 ht); omega)
  rw [if_neg h, if_neg e1, if_pos]
  exact List.any_eq_true.2 ⟨i, List.mem_range.2 hi, by rw [hc]; rfl⟩
theorem chk_d (h : ¬ (128 < p.n ∨ 64 < p.d)) (h1 : ∀ t, t < p.n → p.ln t ≤ 256) (h2 : ∀ i, i < p.d → inB (p.cap i) 0 1024 = true) {t j : Nat} (ht : t < p.n) (hj : j < p.ln t) (hr : rgt (p.op t j) (p.ln t) p.d p.n = false) : chk p = 190 := by
  unfold chk
  have e1 : ¬ lnB p = true := any_no fun t ht => decide_eq_false (by have := h1 t (List.mem_range.1 ht); omega)
  have e2 : ¬ cpB p = true := any_no fun i hi => by rw [h2 i (List.mem_range.1 hi)]; rfl
  rw [if_neg h, if_neg e1, if_neg e2, if_pos]
  exact List.any_eq_true.2 ⟨t, List.mem_range.2 ht, List.any_eq_true.2 ⟨j, List.mem_range.2 hj, by rw [hr]; rfl⟩⟩
theorem chk_e (h : ¬ (128 < p.n ∨ 64 < p.d)) (h1 : ∀ t, t < p.n → p.ln t ≤ 256) (h2 : ∀ i, i < p.d → inB (p.cap i) 0 1024 = true) (h3 : ∀ t, t < p.n → ∀ j, j < p.ln t → rgt (p.op t j) (p.ln t) p.d p.n = true) : chk p = 0 :=
  chk_ok (by omega) (by omega) h1 (fun i hi => of_decide_eq_true (h2 i hi)) h3
end
theorem lt_next {P : Nat → Prop} {i : Nat} (h : ∀ t, t < i → P t) (hi : P i) : ∀ t, t < i + 1 → P t := fun t ht => by
  by_cases e : t = i
  · rw [e]; exact hi
  · exact h t (by omega)
end Go.Proofs.Ytmllfmnpcidkbaa.Loo
