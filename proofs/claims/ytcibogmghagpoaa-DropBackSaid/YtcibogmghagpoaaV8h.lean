import Derived.Test.YtcibogmghagpoaaV8g
import Derived.Test.YtcibogmghagpoaaP9a
namespace Go.Proofs.Ytcibogmghagpoaa.Dro
open Go.RowKit Gf8 Aes By8 Cel Cf Tap Drw
/- Stage 28: DropOrder. Written by tools/mkV8h.py. -/

open Prm (IsP)
/-- What is picked and what is left. -/
structure Od (n i : Nat) (lf p : Nat → Nat) : Prop where
  l : ∀ a, a < n - i → lf a < n
  o : ∀ a, a < i → p a < n
  li : ∀ a b, a < n - i → b < n - i → lf a = lf b → a = b
  oi : ∀ a b, a < i → b < i → p a = p b → a = b
  ol : ∀ a b, a < i → b < n - i → p a ≠ lf b
theorem Od.cg {n i : Nat} {lf p p2 : Nat → Nat} (h : Od n i lf p) (e : ∀ j, j < i → p j = p2 j) : Od n i lf p2 := ⟨h.l, fun a ha => by rw [← e a ha]; exact h.o a ha, h.li, fun a b ha hb q => h.oi a b ha hb (by rw [e a ha, e b hb]; exact q), fun a b ha hb q => h.ol a b ha hb (by rw [e a ha]; exact q)⟩
theorem Od.next {n i k : Nat} {lf p : Nat → Nat} (h : Od n i lf p) (hk : k < n - i) : Od n (i + 1) (fun j => if j < k then lf j else lf (j + 1)) (fun j => if j = i then lf k else p j) := by
  have key : ∀ a, a < n - (i + 1) → ∃ b, b < n - i ∧ b ≠ k ∧ (if a < k then lf a else lf (a + 1)) = lf b ∧ (a < k → b = a) ∧ (¬ a < k → b = a + 1) := fun a ha => by
    by_cases q : a < k
    · exact ⟨a, by omega, by omega, if_pos q, fun _ => rfl, fun z => absurd q z⟩
    · exact ⟨a + 1, by omega, by omega, if_neg q, fun z => absurd z q, fun _ => rfl⟩
  refine ⟨fun a ha => ?_, fun a ha => ?_, fun a b ha hb e => ?_, fun a b ha hb e => ?_, fun a b ha hb e => ?_⟩
  · obtain ⟨b, hb, _, e, _⟩ := key a ha
    show (if a < k then lf a else lf (a + 1)) < n
    rw [e]
    exact h.l b hb
  · show (if a = i then lf k else p a) < n
    by_cases q : a = i
    · rw [if_pos q]; exact h.l k hk
    · rw [if_neg q]; exact h.o a (by omega)
  · obtain ⟨a', ha', _, ea, a1, a2⟩ := key a ha
    obtain ⟨b', hb', _, eb, b1, b2⟩ := key b hb
    have e2 : (if a < k then lf a else lf (a + 1)) = (if b < k then lf b else lf (b + 1)) := e
    rw [ea, eb] at e2
    have := h.li a' b' ha' hb' e2
    by_cases qa : a < k
    · by_cases qb : b < k
      · have := a1 qa; have := b1 qb; omega
      · have := a1 qa; have := b2 qb; omega
    · by_cases qb : b < k
      · have := a2 qa; have := b1 qb; omega
      · have := a2 qa; have := b2 qb; omega
  · have e2 : (if a = i then lf k else p a) = (if b = i then lf k else p b) := e
    by_cases qa : a = i
    · by_cases qb : b = i
      · omega
      · rw [if_pos qa, if_neg qb] at e2
        exact absurd e2.symm (h.ol b k (by omega) hk)
    · by_cases qb : b = i
      · rw [if_neg qa, if_pos qb] at e2
        exact absurd e2 (h.ol a k (by omega) hk)
      · rw [if_neg qa, if_neg qb] at e2
        exact h.oi a b (by omega) (by omega) e2
  · obtain ⟨b', hb', nb, eb, _⟩ := key b hb
    have e2 : (if a = i then lf k else p a) = (if b < k then lf b else lf (b + 1)) := e
    rw [eb] at e2
    by_cases qa : a = i
    · rw [if_pos qa] at e2
      exact nb (h.li k b' hk hb' e2).symm
    · rw [if_neg qa] at e2
      exact h.ol a b' (by omega) hb' e2
theorem ls_of {B n : Nat} {W : World} {v : Value} {y : Nat → Value} {ln : Nat → Nat} {f : Nat → Nat → Nat} (h : W.ownsRow B 23 1 v n (lL y n)) (hc : ∀ a, a < n → SliceN W (y a) (ln a) (f a)) (hz : ∀ a, a < n → ∀ l c, y a = .slice none l c → c = 0) (hl : ∀ a, a < n → ln a ≤ 140737488351232) : Ls W v n y ln f := by
  refine ⟨?_, hc, hz, hl⟩
  rcases h.2 with ⟨rfl, e⟩ | ⟨g, cap, cur, rfl, h1, h2, h3, h4, h5, h6⟩
  · refine ⟨none, 0, ?_, ?_, by omega, fun q => ?_⟩
    · cases n with
      | zero => rfl
      | succ n => simp at e
    · cases n with
      | zero => exact Nat.le_refl _
      | succ n => simp at e
    · cases n with
      | zero => omega
      | succ n => simp at e
  · refine ⟨_, cap, rfl, h3, by unfold maxLen at h4; omega, fun _ => ⟨g, 0, rfl, (Array.getElem?_eq_some_iff.1 h2).1, fun i hi => ?_⟩⟩
    have := h.cells (g := g) rfl i (y i) (lL_get y n i hi)
    rw [Go.WideShapes.add_plain] at this
    exact this
end Go.Proofs.Ytcibogmghagpoaa.Dro
