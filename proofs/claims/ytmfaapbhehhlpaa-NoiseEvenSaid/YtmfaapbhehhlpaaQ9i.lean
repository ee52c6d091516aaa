import Derived.Test.YtmfaapbhehhlpaaQ9b
import Derived.Test.YtmfaapbhehhlpaaF9b
import Derived.Test.YtmfaapbhehhlpaaF9a
namespace Go.Proofs.Ytmfaapbhehhlpaa.Brd
open Go.RowKit Gf8 Aes By8 Cel Cf Tap Drw Prm
/- What lies while the law's apart goes on. -/

/-- The blocks of the lists. -/
def GxI (m : Nat) (x : Nat → Value) (b : Nat) : Prop := ∃ t, t < m ∧ (x t).ownBlock = some b
/-- Lists being marked. -/
structure A0 (U V W : World) (m : Nat) (x : Nat → Value) (nn : Nat → Nat) (fx : Nat → Nat → Int) (gl : Nat) (C : Array Value) : Prop where
  bel : Below U.heap.size U W
  fam : FmI U.heap.size m x nn fx W
  li : W.heap[gl]? = some (.cells C 23)
  sv : Saved (GxI m x) V W
/-- Lists that have grown. -/
structure AS (U V W : World) (m : Nat) (x y : Nat → Value) (nn dd : Nat → Nat) (fx fy : Nat → Nat → Int) (gl : Nat) (C : Array Value) : Prop where
  bel : Below U.heap.size U W
  gp : Gp U.heap.size m x y nn dd fx fy W
  li : W.heap[gl]? = some (.cells C 23)
  sv : Saved (GxI m x) V W
  yb : ∀ t, t < m → ∀ b, (y t).ownBlock = some b → (x t).ownBlock = some b ∨ V.heap.size ≤ b
section
variable {U V W W' : World} {m gl : Nat} {x y : Nat → Value} {nn dd : Nat → Nat} {fx fy : Nat → Nat → Int} {C : Array Value}
theorem A0.on (h : A0 U V W m x nn fx gl C) (b : Below W.heap.size W W') : A0 U V W' m x nn fx gl C := ⟨h.bel.trans (b.mono h.bel.size), h.fam.on b, on9 h.li b, h.sv.below b h.sv.size⟩
theorem A0.cell (h : A0 U V W m x nn fx gl C) {t : Nat} {v : Value} (hC : C[t]? = some v) : W.cell? ⟨gl, 0 + t, none⟩ = some v := by
  rw [cell_of_row _ _ _ _ _ _ h.li, Nat.zero_add]
  exact hC
theorem A0.set {t g c j : Nat} (h : A0 U V W m x nn fx gl C) (ht : t < m) (e : x t = .slice (some ⟨g, 0, none⟩) (nn t) c) (z : Int) : A0 U V (W.setCell ⟨g, 0 + j, none⟩ (.int .i64 z)) m x nn (updF fx t j z) gl C := by
  have h1 := h.fam.rows t ht
  rw [e] at h1
  obtain ⟨cur, hg, hB⟩ := own_cur h1
  refine ⟨h.bel.setCell hB _, h.fam.set ht e z, ?_, h.sv.cell _ (Or.inr ⟨t, ht, by rw [e]; rfl⟩)⟩
  rw [Below.heap_setCell _ _ _ _ (fun q => by
    have q2 : gl = g := q
    have h3 := h.li
    rw [q2, hg] at h3
    injection h3 with h3
    injection h3 with _ h3 _
    exact absurd h3 (by decide))]
  exact h.li
theorem AS.on (h : AS U V W m x y nn dd fx fy gl C) (b : Below W.heap.size W W') : AS U V W' m x y nn dd fx fy gl C := ⟨h.bel.trans (b.mono h.bel.size), h.gp.on b, on9 h.li b, h.sv.below b h.sv.size, h.yb⟩
theorem AS.cell (h : AS U V W m x y nn dd fx fy gl C) {t : Nat} {v : Value} (hC : C[t]? = some v) : W.cell? ⟨gl, 0 + t, none⟩ = some v := by
  rw [cell_of_row _ _ _ _ _ _ h.li, Nat.zero_add]
  exact hC
theorem A0.begin (h : A0 U V W m x nn fx gl C) : AS U V W m x x nn (fun _ => 0) fx fx gl C := ⟨h.bel, Gp.begin h.fam, h.li, h.sv, fun _ _ _ e => Or.inl e⟩
/-- A row of ints made behind all, outside of the groups, is written. -/
theorem AS.setT {g k : Nat} {c : Array Value} {z : Value} (h : AS U V W m x y nn dd fx fy gl C) (hg : W.heap[g]? = some (.cells c 3)) (hne : ∀ t, t < m → ¬ ((x t).ownBlock = some g ∨ (y t).ownBlock = some g)) (hU : U.heap.size ≤ g) (hV : V.heap.size ≤ g) : AS U V (W.setCell ⟨g, k, none⟩ z) m x y nn dd fx fy gl C := by
  refine ⟨h.bel.setCell hU _, ⟨fun t ht => own_offB (h.gp.rx t ht) (fun q => hne t ht (Or.inl q)), fun t ht => own_offB (h.gp.ry t ht) (fun q => hne t ht (Or.inr q)), h.gp.lo, h.gp.pl, h.gp.dis⟩, ?_, h.sv.cell _ (Or.inl hV), h.yb⟩
  rw [Below.heap_setCell _ _ _ _ (fun q => by
    have q2 : gl = g := q
    have h3 := h.li
    rw [q2, hg] at h3
    injection h3 with h3
    injection h3 with _ h3 _
    exact absurd h3 (by decide))]
  exact h.li
/-- One of them has grown: what else lay there still lies. -/
theorem AS.more {t k : Nat} {v' : Value} {q : Nat → Int} (h : AS U V W m x y nn dd fx fy gl C) (ht : t < m) (own : W'.ownsRow U.heap.size 3 1 v' (nn t + dd t + k) (intsL (nn t + dd t + k) (catI (nn t + dd t) (fy t) q)))
    (hpl : (∃ b c, y t = .slice (some ⟨b, 0, none⟩) (nn t + dd t) c ∧ v' = .slice (some ⟨b, 0, none⟩) (nn t + dd t + k) c ∧ W.grownBy W' (some b)) ∨ (Below W.heap.size W W' ∧ ∀ k, v'.ownBlock = some k → W.heap.size ≤ k)) :
    AS U V W' m x (updX y t v') nn (updD dd t k) fx (updG fy t (catI (nn t + dd t) (fy t) q)) gl C := by
  have hg := h.gp.more ht own hpl
  rcases hpl with ⟨b, c, e1, e2, gr⟩ | ⟨hb, hk⟩
  · have hyb : (y t).ownBlock = some b := by rw [e1]; rfl
    have hvb : v'.ownBlock = some b := by rw [e2]; rfl
    have gr2 : W.grownBy W' (y t).ownBlock := by rw [hyb]; exact gr
    refine ⟨h.bel.grown gr h.bel.size (fun z e => by rw [← Option.some.inj e]; exact ((h.gp.ry t ht).lt b hyb).1), hg, heap_overL (h.gp.ry t ht) gr2 h.li (by decide), h.sv.grown gr (fun z e => ?_), fun s hs z e => ?_⟩
    · rw [← Option.some.inj e]
      exact (h.yb t ht b hyb).elim (fun w => Or.inr ⟨t, ht, w⟩) Or.inl
    · by_cases es : s = t
      · subst es
        rw [show updX y s v' s = v' from if_pos rfl, hvb] at e
        rw [← Option.some.inj e]
        exact h.yb s hs b hyb
      · rw [show updX y t v' s = y s from if_neg es] at e
        exact h.yb s hs z e
  · have ho := h.on hb
    refine ⟨ho.bel, hg, ho.li, ho.sv, fun s hs z e => ?_⟩
    by_cases es : s = t
    · subst es
      rw [show updX y s v' s = v' from if_pos rfl] at e
      exact Or.inr (Nat.le_trans h.sv.size (hk z e))
    · rw [show updX y t v' s = y s from if_neg es] at e
      exact h.yb s hs z e
end
end Go.Proofs.Ytmfaapbhehhlpaa.Brd

namespace Go.Proofs.Ytmfaapbhehhlpaa.Brd
open Go.RowKit Gf8 Aes By8 Cel Cf Tap Drw Prm
/- Several rows of ints of one's own, each appended to in its turn. -/

section
variable {B k : Nat} {x : Nat → Value} {nn : Nat → Nat} {ff : Nat → Nat → Int} {W W' : World}
/-- One of the rows has grown. -/
theorem FmI.push {t l : Nat} {v' : Value} {q : Nat → Int} (h : FmI B k x nn ff W) (ht : t < k) (own : W'.ownsRow B 3 1 v' (nn t + l) (intsL (nn t + l) (catI (nn t) (ff t) q)))
    (hpl : (∃ b c, x t = .slice (some ⟨b, 0, none⟩) (nn t) c ∧ v' = .slice (some ⟨b, 0, none⟩) (nn t + l) c ∧ W.grownBy W' (some b)) ∨ (Below W.heap.size W W' ∧ ∀ k, v'.ownBlock = some k → W.heap.size ≤ k)) :
    FmI B k (updX x t v') (updD nn t l) (updG ff t (catI (nn t) (ff t) q)) W' := by
  have xo : ∀ s, s ≠ t → updX x t v' s = x s := fun s hs => if_neg hs
  have xt : updX x t v' t = v' := if_pos rfl
  have no : ∀ s, s ≠ t → updD nn t l s = nn s := fun s hs => if_neg hs
  have nt : updD nn t l t = nn t + l := if_pos rfl
  have fo : ∀ s, s ≠ t → updG ff t (catI (nn t) (ff t) q) s = ff s := fun s hs => if_neg hs
  have ft : updG ff t (catI (nn t) (ff t) q) t = catI (nn t) (ff t) q := if_pos rfl
  rcases hpl with ⟨b, c, e1, e2, gr⟩ | ⟨hb, hk⟩
  · have hxb : (x t).ownBlock = some b := by rw [e1]; rfl
    have hvb : v'.ownBlock = some b := by rw [e2]; rfl
    refine ⟨fun s hs => ?_, fun s u hs hu hsu z e w => ?_⟩
    · by_cases e : s = t
      · subst e
        rw [xt, nt, ft]
        exact own
      · rw [xo s e, no s e, fo s e]
        exact ownW_grown (h.rows s hs) gr (fun z e2 w => h.dis s t hs ht e z e2 (hxb.trans w))
    · have e' : (x s).ownBlock = some z := by
        by_cases es : s = t
        · subst es
          rw [xt] at e
          exact hxb.trans (hvb.symm.trans e)
        · rw [xo s es] at e
          exact e
      have w' : (x u).ownBlock = some z := by
        by_cases eu : u = t
        · subst eu
          rw [xt] at w
          exact hxb.trans (hvb.symm.trans w)
        · rw [xo u eu] at w
          exact w
      exact h.dis s u hs hu hsu z e' w'
  · have ho := h.on hb
    refine ⟨fun s hs => ?_, fun s u hs hu hsu z e w => ?_⟩
    · by_cases e : s = t
      · subst e
        rw [xt, nt, ft]
        exact own
      · rw [xo s e, no s e, fo s e]
        exact ho.rows s hs
    · by_cases es : s = t
      · subst es
        rw [xt] at e
        rw [xo u (fun q => hsu q.symm)] at w
        have a1 := hk z e
        have a2 := ((h.rows u hu).lt z w).2
        omega
      · rw [xo s es] at e
        by_cases eu : u = t
        · subst eu
          rw [xt] at w
          have a1 := hk z w
          have a2 := ((h.rows s hs).lt z e).2
          omega
        · rw [xo u eu] at w
          exact h.dis s u hs hu hsu z e w
end
end Go.Proofs.Ytmfaapbhehhlpaa.Brd
