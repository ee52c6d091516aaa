import Derived.Test.YtmfaapbhehhlpaaN9b
import Derived.Test.YtmfaapbhehhlpaaQ9a
namespace Go.Proofs.Ytmfaapbhehhlpaa.Brd
open Go.RowKit Gf8 Aes By8 Cel Cf Tap Drw Prm
/- Lists of ints that are marked and grown (stage 12's apart): groups of rows. -/

/-- m lists x and what they have grown to, y: each y in x's own room or apart; no block in two groups. -/
structure Gp (B m : Nat) (x y : Nat → Value) (nn dd : Nat → Nat) (fx fy : Nat → Nat → Int) (W : World) : Prop where
  rx : ∀ t, t < m → W.ownsRow B 3 1 (x t) (nn t) (intsL (nn t) (fx t))
  ry : ∀ t, t < m → W.ownsRow B 3 1 (y t) (nn t + dd t) (intsL (nn t + dd t) (fy t))
  lo : ∀ t, t < m → ∀ j, j < nn t → fy t j = fx t j
  pl : ∀ t, t < m → (∃ g c, x t = .slice (some ⟨g, 0, none⟩) (nn t) c ∧ y t = .slice (some ⟨g, 0, none⟩) (nn t + dd t) c) ∨ ∀ b, (y t).ownBlock = some b → (x t).ownBlock ≠ some b
  dis : ∀ s t, s < m → t < m → s ≠ t → ∀ b, ((x s).ownBlock = some b ∨ (y s).ownBlock = some b) → ¬ ((x t).ownBlock = some b ∨ (y t).ownBlock = some b)
def updD (dd : Nat → Nat) (t k : Nat) : Nat → Nat := fun s => if s = t then dd t + k else dd s
def updG (fy : Nat → Nat → Int) (t : Nat) (q : Nat → Int) : Nat → Nat → Int := fun s => if s = t then q else fy s
section
variable {B m : Nat} {x y : Nat → Value} {nn dd : Nat → Nat} {fx fy : Nat → Nat → Int} {W W' : World}
theorem Gp.on (h : Gp B m x y nn dd fx fy W) (b : Below W.heap.size W W') : Gp B m x y nn dd fx fy W' := ⟨fun t ht => ownD_below (h.rx t ht) b, fun t ht => ownD_below (h.ry t ht) b, h.lo, h.pl, h.dis⟩
theorem Gp.begin (h : FmI B m x nn fx W) : Gp B m x x nn (fun _ => 0) fx fx W := by
  refine ⟨h.rows, h.rows, fun _ _ _ _ => rfl, fun t ht => ?_, fun s t hs ht hst b e q => ?_⟩
  · rcases (h.rows t ht).2 with ⟨e, _⟩ | ⟨g, cap, cur, e, _⟩
    · refine Or.inr fun b q => ?_
      rw [e] at q
      cases q
    · exact Or.inl ⟨g, cap, e, e⟩
  · exact h.dis s t hs ht hst b (e.elim id id) (q.elim id id)
theorem Gp.blt (h : Gp B m x y nn dd fx fy W) {t b : Nat} (ht : t < m) (e : (x t).ownBlock = some b ∨ (y t).ownBlock = some b) : B ≤ b ∧ b < W.heap.size := by
  rcases e with e | e
  · exact (h.rx t ht).lt b e
  · exact (h.ry t ht).lt b e
theorem Gp.overT {C n s : Nat} {u : TypeId} {v2 : Value} {ys : List Value} (h : Gp B m x y nn dd fx fy W) (h2 : W.ownsRow C u s v2 n ys) (hu : 3 ≠ u) (gr : W.grownBy W' v2.ownBlock) : Gp B m x y nn dd fx fy W' :=
  ⟨fun t ht => own_overT (h.rx t ht) h2 gr hu, fun t ht => own_overT (h.ry t ht) h2 gr hu, h.lo, h.pl, h.dis⟩
theorem Gp.setT {g k : Nat} {u : TypeId} {c : Array Value} {z : Value} (h : Gp B m x y nn dd fx fy W) (hg : W.heap[g]? = some (.cells c u)) (hu : u ≠ 3) : Gp B m x y nn dd fx fy (W.setCell ⟨g, k, none⟩ z) :=
  ⟨fun t ht => own_offT (h.rx t ht) hg hu, fun t ht => own_offT (h.ry t ht) hg hu, h.lo, h.pl, h.dis⟩
/-- One of them has grown. -/
theorem Gp.more {t k : Nat} {v' : Value} {q : Nat → Int} (h : Gp B m x y nn dd fx fy W) (ht : t < m) (own : W'.ownsRow B 3 1 v' (nn t + dd t + k) (intsL (nn t + dd t + k) (catI (nn t + dd t) (fy t) q)))
    (hpl : (∃ b c, y t = .slice (some ⟨b, 0, none⟩) (nn t + dd t) c ∧ v' = .slice (some ⟨b, 0, none⟩) (nn t + dd t + k) c ∧ W.grownBy W' (some b)) ∨ (Below W.heap.size W W' ∧ ∀ k, v'.ownBlock = some k → W.heap.size ≤ k)) :
    Gp B m x (updX y t v') nn (updD dd t k) fx (updG fy t (catI (nn t + dd t) (fy t) q)) W' := by
  have yo : ∀ s, s ≠ t → updX y t v' s = y s := fun s hs => if_neg hs
  have yt : updX y t v' t = v' := if_pos rfl
  have dt : updD dd t k t = dd t + k := if_pos rfl
  have dO : ∀ s, s ≠ t → updD dd t k s = dd s := fun s hs => if_neg hs
  have ft : updG fy t (catI (nn t + dd t) (fy t) q) t = catI (nn t + dd t) (fy t) q := if_pos rfl
  have fo : ∀ s, s ≠ t → updG fy t (catI (nn t + dd t) (fy t) q) s = fy s := fun s hs => if_neg hs
  have lo : ∀ s, s < m → ∀ j, j < nn s → updG fy t (catI (nn t + dd t) (fy t) q) s j = fx s j := fun s hs j hj => by
    by_cases e : s = t
    · subst e
      rw [ft, catI_lo (by omega)]
      exact h.lo s hs j hj
    · rw [fo s e]
      exact h.lo s hs j hj
  rcases hpl with ⟨b, c, e1, e2, gr⟩ | ⟨hb, hk⟩
  · have hyb : (y t).ownBlock = some b := by rw [e1]; rfl
    have hvb : v'.ownBlock = some b := by rw [e2]; rfl
    have gx : ∀ s, s < m → s ≠ t → W'.ownsRow B 3 1 (x s) (nn s) (intsL (nn s) (fx s)) := fun s hs hst => ownW_grown (h.rx s hs) gr (fun z e q => h.dis s t hs ht hst z (Or.inl e) (Or.inr (hyb.trans q)))
    have gy : ∀ s, s < m → s ≠ t → W'.ownsRow B 3 1 (y s) (nn s + dd s) (intsL (nn s + dd s) (fy s)) := fun s hs hst => ownW_grown (h.ry s hs) gr (fun z e q => h.dis s t hs ht hst z (Or.inr e) (Or.inr (hyb.trans q)))
    refine ⟨fun s hs => ?_, fun s hs => ?_, lo, fun s hs => ?_, fun s u hs hu hsu z e q => ?_⟩
    · by_cases e : s = t
      · subst e
        rcases h.pl s hs with ⟨g, c', f1, f2⟩ | hp
        · obtain ⟨e3, e4⟩ := slice_inj (e1.symm.trans f2)
          subst e3
          subst e4
          rw [e2] at own
          rw [f1, intsL_congr (g := catI (nn s + dd s) (fy s) q) (fun j hj => by rw [catI_lo (by omega)]; exact (h.lo s hs j hj).symm)]
          exact own_takeI own (by omega)
        · exact ownW_grown (h.rx s hs) gr (fun z e q => hp z (hyb.trans q) e)
      · exact gx s hs e
    · by_cases e : s = t
      · subst e
        rw [yt, dt, ft, ← Nat.add_assoc]
        exact own
      · rw [yo s e, dO s e, fo s e]
        exact gy s hs e
    · by_cases e : s = t
      · subst e
        rw [yt, dt]
        rcases h.pl s hs with ⟨g, c', f1, f2⟩ | hp
        · obtain ⟨e3, e4⟩ := slice_inj (e1.symm.trans f2)
          subst e3
          subst e4
          exact Or.inl ⟨b, c, f1, by rw [e2, Nat.add_assoc]⟩
        · exact Or.inr fun z q => hp z (hyb.trans (hvb.symm.trans q))
      · rw [yo s e, dO s e]
        exact h.pl s hs
    · have e' : (x s).ownBlock = some z ∨ (y s).ownBlock = some z := by
        by_cases es : s = t
        · subst es
          rw [yt] at e
          exact e.imp id fun w => hyb.trans (hvb.symm.trans w)
        · rw [yo s es] at e
          exact e
      have q' : (x u).ownBlock = some z ∨ (y u).ownBlock = some z := by
        by_cases eu : u = t
        · subst eu
          rw [yt] at q
          exact q.imp id fun w => hyb.trans (hvb.symm.trans w)
        · rw [yo u eu] at q
          exact q
      exact h.dis s u hs hu hsu z e' q'
  · have ho := h.on hb
    have nw : ∀ s, s < m → ∀ z, ((x s).ownBlock = some z ∨ (y s).ownBlock = some z) → v'.ownBlock ≠ some z := fun s hs z e q => by
      have a1 := hk z q
      have a2 := (h.blt hs e).2
      omega
    refine ⟨ho.rx, fun s hs => ?_, lo, fun s hs => ?_, fun s u hs hu hsu z e q => ?_⟩
    · by_cases e : s = t
      · subst e
        rw [yt, dt, ft, ← Nat.add_assoc]
        exact own
      · rw [yo s e, dO s e, fo s e]
        exact ho.ry s hs
    · by_cases e : s = t
      · subst e
        rw [yt]
        exact Or.inr fun z q w => nw s hs z (Or.inl w) q
      · rw [yo s e, dO s e]
        exact h.pl s hs
    · by_cases es : s = t
      · subst es
        rw [yt] at e
        rw [yo u (fun w => hsu w.symm)] at q
        rcases e with e | e
        · exact h.dis s u hs hu hsu z (Or.inl e) q
        · exact nw u hu z q e
      · rw [yo s es] at e
        by_cases eu : u = t
        · subst eu
          rw [yt] at q
          rcases q with q | q
          · exact h.dis s u hs hu hsu z e (Or.inl q)
          · exact nw s hs z e q
        · rw [yo u eu] at q
          exact h.dis s u hs hu hsu z e q
end
end Go.Proofs.Ytmfaapbhehhlpaa.Brd
