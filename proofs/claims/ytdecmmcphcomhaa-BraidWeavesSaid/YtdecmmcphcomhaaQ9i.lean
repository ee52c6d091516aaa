import Derived.Test.YtdecmmcphcomhaaQ9f
namespace Go.Proofs.Ytdecmmcphcomhaa.Brd
open Go.RowKit Gf8 Aes By8 Cel Cf Tap Drw Prm
/- Several rows of ints of one's own, each appended to in its turn. -/

section
variable {B k : Nat} {x : Nat → Value} {nn : Nat → Nat} {ff : Nat → Nat → Int} {W W' : World}
/-- One of the rows has grown. -/
theorem FmI.push {t l : Nat} {v' : Value} {q : Nat → Int} (h : FmI B k x nn ff W) (ht : t < k) (own : W'.ownsRow B 3 1 v' (nn t + l) (intsL (nn t + l) (catI (nn t) (ff t) q)))
    (hpl : (∃ b c, x t = .slice (some ⟨b, 0, none⟩) (nn t) c ∧ v' = .slice (some ⟨b, 0, none⟩) (nn t + l) c ∧ W.grownBy W' (some b)) ∨ (Below W.heap.size W W' ∧ ∀ k, v'.ownBlock = some k → W.heap.size ≤ k)) :
    FmI B k (updX x t v') (updD nn t l) (updG ff t (catI (nn t) (ff t) q)) W' := by
  have xo : ∀ s, s ≠ t → updX x t v' s = x s := fun s hs => if_neg hs
  have xt : updX x t v' t = v' := if_pos rfl
  have no : ∀ s, s ≠ t → updD nn t l s = nn s := fun s hs => if_neg hs
  have nt : updD nn t l t = nn t + l := if_pos rfl
  have fo : ∀ s, s ≠ t → updG ff t (catI (nn t) (ff t) q) s = ff s := fun s hs => if_neg hs
  have ft : updG ff t (catI (nn t) (ff t) q) t = catI (nn t) (ff t) q := if_pos rfl
  rcases hpl with ⟨b, c, e1, e2, gr⟩ | ⟨hb, hk⟩
  · have hxb : (x t).ownBlock = some b := by rw [e1]; rfl
    have hvb : v'.ownBlock = some b := by rw [e2]; rfl
    refine ⟨fun s hs => ?_, fun s u hs hu hsu z e w => ?_⟩
    · by_cases e : s = t
      · subst e
        rw [xt, nt, ft]
        exact own
      · rw [xo s e, no s e, fo s e]
        exact ownW_grown (h.rows s hs) gr (fun z e2 w => h.dis s t hs ht e z e2 (hxb.trans w))
    · have e' : (x s).ownBlock = some z := by
        by_cases es : s = t
        · subst es
          rw [xt] at e
          exact hxb.trans (hvb.symm.trans e)
        · rw [xo s es] at e
          exact e
      have w' : (x u).ownBlock = some z := by
        by_cases eu : u = t
        · subst eu
          rw [xt] at w
          exact hxb.trans (hvb.symm.trans w)
        · rw [xo u eu] at w
          exact w
      exact h.dis s u hs hu hsu z e' w'
  · have ho := h.on hb
    refine ⟨fun s hs => ?_, fun s u hs hu hsu z e w => ?_⟩
    · by_cases e : s = t
      · subst e
        rw [xt, nt, ft]
        exact own
      · rw [xo s e, no s e, fo s e]
        exact ho.rows s hs
    · by_cases es : s = t
      · subst es
        rw [xt] at e
        rw [xo u (fun q => hsu q.symm)] at w
        have a1 := hk z e
        have a2 := ((h.rows u hu).lt z w).2
        omega
      · rw [xo s es] at e
        by_cases eu : u = t
        · subst eu
          rw [xt] at w
          have a1 := hk z w
          have a2 := ((h.rows s hs).lt z e).2
          omega
        · rw [xo u eu] at w
          exact h.dis s u hs hu hsu z e w
end
end Go.Proofs.Ytdecmmcphcomhaa.Brd
