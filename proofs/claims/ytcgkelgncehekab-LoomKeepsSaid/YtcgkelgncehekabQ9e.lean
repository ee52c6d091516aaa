import Derived.Test.YtcgkelgncehekabN9b
import Derived.Test.YtcgkelgncehekabQ9a
namespace Go.Proofs.Ytcgkelgncehekab.Brd
open Go.RowKit Gf8 Aes By8 Cel Cf Tap Drw Prm
/- Lists of ints that are marked and grown (stage 12's apart): groups of rows. -/

/-- append of a list: within the room, or in new memory. -/
theorem run_app2L (W : World) (ty : TypeId) (B n m : Nat) (v u : Value) (f q : Nat → Int) (hown : W.ownsRow B 3 1 v n (intsL n f)) (hu : SliceI W u m q) (hsome : ∃ ad c', u = .slice (some ad) m c') (hm : 0 < m) (hn : n + m ≤ 17592186044416) (hB : B ≤ W.heap.size) :
    ∃ v' W', (Builtin.append_ #[22, 22] ty #[v, u]).run Try.prog W = .ok v' W' ∧ W'.ownsRow B 3 1 v' (n + m) (intsL (n + m) (catI n f q)) ∧
      ((∃ b c, v = .slice (some ⟨b, 0, none⟩) n c ∧ v' = .slice (some ⟨b, 0, none⟩) (n + m) c ∧ W.grownBy W' (some b)) ∨ (Below W.heap.size W W' ∧ ∀ k, v'.ownBlock = some k → W.heap.size ≤ k)) := by
  obtain ⟨i, i1, i2, i3, i4⟩ := infoI
  obtain ⟨ad, c', rfl⟩ := hsome
  obtain ⟨⟨ao, cap, e, _, _, hc⟩, _⟩ := hu
  injection e with ea _ _
  subst ea
  have hnews : ∀ j z, (intsL m q)[j]? = some z → W.cell? (ad.add j) = some z := fun j z hz => by
    have hj : j < m := by have := (List.getElem?_eq_some_iff.1 hz).1; rw [intsL_len] at this; exact this
    obtain ⟨b, off, e, _, e3⟩ := hc (by omega)
    obtain rfl : ad = ⟨b, off, none⟩ := Option.some.inj e
    rw [Go.WideShapes.add_plain, e3 j hj]
    rw [intsL_get hj] at hz
    exact hz
  have hl : (intsL m q).length = m * i.size := by rw [i3, intsL_len, Nat.mul_one]
  obtain ⟨v', W', hr, q1, q2, _⟩ := run_append_own (P := Try.prog) W B 22 ty 3 i (.int .i64 0) 1 8 Try.underlying22 i1 i2 i3 i4 rfl (by decide) v n (intsL n f) hown ad m c' (intsL m q) (by rw [intsL_len, Nat.mul_one]) hnews (intsL_one _ _) (by unfold maxLen; omega) (by omega) hB
  rw [intsL_app] at q1
  refine ⟨v', W', hr, q1, ?_⟩
  have hown2 := hown.2
  rcases hown2 with ⟨rfl, rfl⟩ | ⟨g', cap2, cur, rfl, hB', hg', hnc, hcm, hcs, htake⟩
  · have hr2 := run_append_nil (P := Try.prog) W 22 ty 3 i (.int .i64 0) Try.underlying22 i1 i2 ad m c' (intsL m q) hl hnews (by omega) (by omega) (by rw [i4]; omega)
    have r4 := hr.symm.trans hr2
    injection r4 with e1 e2
    subst e1
    subst e2
    exact Or.inr ⟨((Below.refl _ _).drew).alloc (Nat.le_refl _) _, fun k e => Nat.le_of_eq (Option.some.inj e)⟩
  · by_cases hroom : n + m ≤ cap2
    · have hr2 := run_append_room (P := Try.prog) W 22 ty 3 i Try.underlying22 i1 g' n cap2 cur hg' ad m c' (intsL m q) hl hnews (intsL_one _ _) hroom (by rw [hcs, i3, intsL_len]; omega)
      have r4 := hr.symm.trans hr2
      injection r4 with e1 e2
      subst e1
      exact Or.inl ⟨g', cap2, rfl, rfl, q2⟩
    · have holds : ∀ j u, (intsL n f)[j]? = some u → W.cell? ((⟨g', 0, none⟩ : Addr).add j) = some u := hown.cells (g := g') rfl
      have hr2 := run_append_grow (P := Try.prog) W 22 ty 3 i (.int .i64 0) Try.underlying22 i1 i2 ⟨g', 0, none⟩ n cap2 (intsL n f) (by rw [i3]; exact hown.1) holds ad m c' (intsL m q) hl hnews (by omega) (by omega) (growslice_fits (by omega) (by rw [i4]; omega))
      have r4 := hr.symm.trans hr2
      injection r4 with e1 e2
      subst e1
      subst e2
      exact Or.inr ⟨((Below.refl _ _).drew).alloc (Nat.le_refl _) _, fun k e => Nat.le_of_eq (Option.some.inj e)⟩
/-- m lists x and what they have grown to, y: each y in x's own room or apart; no block in two groups. -/
structure Gp (B m : Nat) (x y : Nat → Value) (nn dd : Nat → Nat) (fx fy : Nat → Nat → Int) (W : World) : Prop where
  rx : ∀ t, t < m → W.ownsRow B 3 1 (x t) (nn t) (intsL (nn t) (fx t))
  ry : ∀ t, t < m → W.ownsRow B 3 1 (y t) (nn t + dd t) (intsL (nn t + dd t) (fy t))
  lo : ∀ t, t < m → ∀ j, j < nn t → fy t j = fx t j
  pl : ∀ t, t < m → (∃ g c, x t = .slice (some ⟨g, 0, none⟩) (nn t) c ∧ y t = .slice (some ⟨g, 0, none⟩) (nn t + dd t) c) ∨ ∀ b, (y t).ownBlock = some b → (x t).ownBlock ≠ some b
  dis : ∀ s t, s < m → t < m → s ≠ t → ∀ b, ((x s).ownBlock = some b ∨ (y s).ownBlock = some b) → ¬ ((x t).ownBlock = some b ∨ (y t).ownBlock = some b)
def updD (dd : Nat → Nat) (t k : Nat) : Nat → Nat := fun s => if s = t then dd t + k else dd s
def updG (fy : Nat → Nat → Int) (t : Nat) (q : Nat → Int) : Nat → Nat → Int := fun s => if s = t then q else fy s
section
variable {B m : Nat} {x y : Nat → Value} {nn dd : Nat → Nat} {fx fy : Nat → Nat → Int} {W W' : World}
theorem Gp.on (h : Gp B m x y nn dd fx fy W) (b : Below W.heap.size W W') : Gp B m x y nn dd fx fy W' := ⟨fun t ht => ownD_below (h.rx t ht) b, fun t ht => ownD_below (h.ry t ht) b, h.lo, h.pl, h.dis⟩
theorem Gp.begin (h : FmI B m x nn fx W) : Gp B m x x nn (fun _ => 0) fx fx W := by
  refine ⟨h.rows, h.rows, fun _ _ _ _ => rfl, fun t ht => ?_, fun s t hs ht hst b e q => ?_⟩
  · rcases (h.rows t ht).2 with ⟨e, _⟩ | ⟨g, cap, cur, e, _⟩
    · refine Or.inr fun b q => ?_
      rw [e] at q
      cases q
    · exact Or.inl ⟨g, cap, e, e⟩
  · exact h.dis s t hs ht hst b (e.elim id id) (q.elim id id)
theorem Gp.blt (h : Gp B m x y nn dd fx fy W) {t b : Nat} (ht : t < m) (e : (x t).ownBlock = some b ∨ (y t).ownBlock = some b) : B ≤ b ∧ b < W.heap.size := by
  rcases e with e | e
  · exact (h.rx t ht).lt b e
  · exact (h.ry t ht).lt b e
theorem Gp.overT {C n s : Nat} {u : TypeId} {v2 : Value} {ys : List Value} (h : Gp B m x y nn dd fx fy W) (h2 : W.ownsRow C u s v2 n ys) (hu : 3 ≠ u) (gr : W.grownBy W' v2.ownBlock) : Gp B m x y nn dd fx fy W' :=
  ⟨fun t ht => own_overT (h.rx t ht) h2 gr hu, fun t ht => own_overT (h.ry t ht) h2 gr hu, h.lo, h.pl, h.dis⟩
theorem Gp.setT {g k : Nat} {u : TypeId} {c : Array Value} {z : Value} (h : Gp B m x y nn dd fx fy W) (hg : W.heap[g]? = some (.cells c u)) (hu : u ≠ 3) : Gp B m x y nn dd fx fy (W.setCell ⟨g, k, none⟩ z) :=
  ⟨fun t ht => own_offT (h.rx t ht) hg hu, fun t ht => own_offT (h.ry t ht) hg hu, h.lo, h.pl, h.dis⟩
/-- One of them has grown. -/
theorem Gp.more {t k : Nat} {v' : Value} {q : Nat → Int} (h : Gp B m x y nn dd fx fy W) (ht : t < m) (own : W'.ownsRow B 3 1 v' (nn t + dd t + k) (intsL (nn t + dd t + k) (catI (nn t + dd t) (fy t) q)))
    (hpl : (∃ b c, y t = .slice (some ⟨b, 0, none⟩) (nn t + dd t) c ∧ v' = .slice (some ⟨b, 0, none⟩) (nn t + dd t + k) c ∧ W.grownBy W' (some b)) ∨ (Below W.heap.size W W' ∧ ∀ k, v'.ownBlock = some k → W.heap.size ≤ k)) :
    Gp B m x (updX y t v') nn (updD dd t k) fx (updG fy t (catI (nn t + dd t) (fy t) q)) W' := by
  have yo : ∀ s, s ≠ t → updX y t v' s = y s := fun s hs => if_neg hs
  have yt : updX y t v' t = v' := if_pos rfl
  have dt : updD dd t k t = dd t + k := if_pos rfl
  have dO : ∀ s, s ≠ t → updD dd t k s = dd s := fun s hs => if_neg hs
  have ft : updG fy t (catI (nn t + dd t) (fy t) q) t = catI (nn t + dd t) (fy t) q := if_pos rfl
  have fo : ∀ s, s ≠ t → updG fy t (catI (nn t + dd t) (fy t) q) s = fy s := fun s hs => if_neg hs
  have lo : ∀ s, s < m → ∀ j, j < nn s → updG fy t (catI (nn t + dd t) (fy t) q) s j = fx s j := fun s hs j hj => by
    by_cases e : s = t
    · subst e
      rw [ft, catI_lo (by omega)]
      exact h.lo s hs j hj
    · rw [fo s e]
      exact h.lo s hs j hj
  rcases hpl with ⟨b, c, e1, e2, gr⟩ | ⟨hb, hk⟩
  · have hyb : (y t).ownBlock = some b := by rw [e1]; rfl
    have hvb : v'.ownBlock = some b := by rw [e2]; rfl
    have gx : ∀ s, s < m → s ≠ t → W'.ownsRow B 3 1 (x s) (nn s) (intsL (nn s) (fx s)) := fun s hs hst => ownW_grown (h.rx s hs) gr (fun z e q => h.dis s t hs ht hst z (Or.inl e) (Or.inr (hyb.trans q)))
    have gy : ∀ s, s < m → s ≠ t → W'.ownsRow B 3 1 (y s) (nn s + dd s) (intsL (nn s + dd s) (fy s)) := fun s hs hst => ownW_grown (h.ry s hs) gr (fun z e q => h.dis s t hs ht hst z (Or.inr e) (Or.inr (hyb.trans q)))
    refine ⟨fun s hs => ?_, fun s hs => ?_, lo, fun s hs => ?_, fun s u hs hu hsu z e q => ?_⟩
    · by_cases e : s = t
      · subst e
        rcases h.pl s hs with ⟨g, c', f1, f2⟩ | hp
        · obtain ⟨e3, e4⟩ := slice_inj (e1.symm.trans f2)
          subst e3
          subst e4
          rw [e2] at own
          rw [f1, intsL_congr (g := catI (nn s + dd s) (fy s) q) (fun j hj => by rw [catI_lo (by omega)]; exact (h.lo s hs j hj).symm)]
          exact own_takeI own (by omega)
        · exact ownW_grown (h.rx s hs) gr (fun z e q => hp z (hyb.trans q) e)
      · exact gx s hs e
    · by_cases e : s = t
      · subst e
        rw [yt, dt, ft, ← Nat.add_assoc]
        exact own
      · rw [yo s e, dO s e, fo s e]
        exact gy s hs e
    · by_cases e : s = t
      · subst e
        rw [yt, dt]
        rcases h.pl s hs with ⟨g, c', f1, f2⟩ | hp
        · obtain ⟨e3, e4⟩ := slice_inj (e1.symm.trans f2)
          subst e3
          subst e4
          exact Or.inl ⟨b, c, f1, by rw [e2, Nat.add_assoc]⟩
        · exact Or.inr fun z q => hp z (hyb.trans (hvb.symm.trans q))
      · rw [yo s e, dO s e]
        exact h.pl s hs
    · have e' : (x s).ownBlock = some z ∨ (y s).ownBlock = some z := by
        by_cases es : s = t
        · subst es
          rw [yt] at e
          exact e.imp id fun w => hyb.trans (hvb.symm.trans w)
        · rw [yo s es] at e
          exact e
      have q' : (x u).ownBlock = some z ∨ (y u).ownBlock = some z := by
        by_cases eu : u = t
        · subst eu
          rw [yt] at q
          exact q.imp id fun w => hyb.trans (hvb.symm.trans w)
        · rw [yo u eu] at q
          exact q
      exact h.dis s u hs hu hsu z e' q'
  · have ho := h.on hb
    have nw : ∀ s, s < m → ∀ z, ((x s).ownBlock = some z ∨ (y s).ownBlock = some z) → v'.ownBlock ≠ some z := fun s hs z e q => by
      have a1 := hk z q
      have a2 := (h.blt hs e).2
      omega
    refine ⟨ho.rx, fun s hs => ?_, lo, fun s hs => ?_, fun s u hs hu hsu z e q => ?_⟩
    · by_cases e : s = t
      · subst e
        rw [yt, dt, ft, ← Nat.add_assoc]
        exact own
      · rw [yo s e, dO s e, fo s e]
        exact ho.ry s hs
    · by_cases e : s = t
      · subst e
        rw [yt]
        exact Or.inr fun z q w => nw s hs z (Or.inl w) q
      · rw [yo s e, dO s e]
        exact h.pl s hs
    · by_cases es : s = t
      · subst es
        rw [yt] at e
        rw [yo u (fun w => hsu w.symm)] at q
        rcases e with e | e
        · exact h.dis s u hs hu hsu z (Or.inl e) q
        · exact nw u hu z q e
      · rw [yo s es] at e
        by_cases eu : u = t
        · subst eu
          rw [yt] at q
          rcases q with q | q
          · exact h.dis s u hs hu hsu z e (Or.inl q)
          · exact nw s hs z e q
        · rw [yo u eu] at q
          exact h.dis s u hs hu hsu z e q
end
end Go.Proofs.Ytcgkelgncehekab.Brd

namespace Go.Proofs.Ytcgkelgncehekab.Brd
open Go.RowKit Gf8 Aes By8 Cel Cf Tap Drw Prm
/- What lies while the law's apart goes on. -/

/-- The blocks of the lists. -/
def GxI (m : Nat) (x : Nat → Value) (b : Nat) : Prop := ∃ t, t < m ∧ (x t).ownBlock = some b
/-- Lists being marked. -/
structure A0 (U V W : World) (m : Nat) (x : Nat → Value) (nn : Nat → Nat) (fx : Nat → Nat → Int) (gl : Nat) (C : Array Value) : Prop where
  bel : Below U.heap.size U W
  fam : FmI U.heap.size m x nn fx W
  li : W.heap[gl]? = some (.cells C 22)
  sv : Saved (GxI m x) V W
/-- Lists that have grown. -/
structure AS (U V W : World) (m : Nat) (x y : Nat → Value) (nn dd : Nat → Nat) (fx fy : Nat → Nat → Int) (gl : Nat) (C : Array Value) : Prop where
  bel : Below U.heap.size U W
  gp : Gp U.heap.size m x y nn dd fx fy W
  li : W.heap[gl]? = some (.cells C 22)
  sv : Saved (GxI m x) V W
  yb : ∀ t, t < m → ∀ b, (y t).ownBlock = some b → (x t).ownBlock = some b ∨ V.heap.size ≤ b
section
variable {U V W W' : World} {m gl : Nat} {x y : Nat → Value} {nn dd : Nat → Nat} {fx fy : Nat → Nat → Int} {C : Array Value}
theorem A0.on (h : A0 U V W m x nn fx gl C) (b : Below W.heap.size W W') : A0 U V W' m x nn fx gl C := ⟨h.bel.trans (b.mono h.bel.size), h.fam.on b, on9 h.li b, h.sv.below b h.sv.size⟩
theorem A0.cell (h : A0 U V W m x nn fx gl C) {t : Nat} {v : Value} (hC : C[t]? = some v) : W.cell? ⟨gl, 0 + t, none⟩ = some v := by
  rw [cell_of_row _ _ _ _ _ _ h.li, Nat.zero_add]
  exact hC
theorem A0.set {t g c j : Nat} (h : A0 U V W m x nn fx gl C) (ht : t < m) (e : x t = .slice (some ⟨g, 0, none⟩) (nn t) c) (z : Int) : A0 U V (W.setCell ⟨g, 0 + j, none⟩ (.int .i64 z)) m x nn (updF fx t j z) gl C := by
  have h1 := h.fam.rows t ht
  rw [e] at h1
  obtain ⟨cur, hg, hB⟩ := own_cur h1
  refine ⟨h.bel.setCell hB _, h.fam.set ht e z, ?_, h.sv.cell _ (Or.inr ⟨t, ht, by rw [e]; rfl⟩)⟩
  rw [Below.heap_setCell _ _ _ _ (fun q => by
    have q2 : gl = g := q
    have h3 := h.li
    rw [q2, hg] at h3
    injection h3 with h3
    injection h3 with _ h3 _
    exact absurd h3 (by decide))]
  exact h.li
theorem AS.on (h : AS U V W m x y nn dd fx fy gl C) (b : Below W.heap.size W W') : AS U V W' m x y nn dd fx fy gl C := ⟨h.bel.trans (b.mono h.bel.size), h.gp.on b, on9 h.li b, h.sv.below b h.sv.size, h.yb⟩
theorem AS.cell (h : AS U V W m x y nn dd fx fy gl C) {t : Nat} {v : Value} (hC : C[t]? = some v) : W.cell? ⟨gl, 0 + t, none⟩ = some v := by
  rw [cell_of_row _ _ _ _ _ _ h.li, Nat.zero_add]
  exact hC
theorem A0.begin (h : A0 U V W m x nn fx gl C) : AS U V W m x x nn (fun _ => 0) fx fx gl C := ⟨h.bel, Gp.begin h.fam, h.li, h.sv, fun _ _ _ e => Or.inl e⟩
/-- A list of lists that lies behind is written. -/
theorem AS.setM {gm k : Nat} {c : Array Value} {z : Value} (h : AS U V W m x y nn dd fx fy gl C) (hg : W.heap[gm]? = some (.cells c 22)) (hne : gl ≠ gm) (hU : U.heap.size ≤ gm) (hV : V.heap.size ≤ gm) : AS U V (W.setCell ⟨gm, k, none⟩ z) m x y nn dd fx fy gl C := by
  refine ⟨h.bel.setCell hU _, h.gp.setT hg (by decide), ?_, h.sv.cell _ (Or.inl hV), h.yb⟩
  rw [Below.heap_setCell _ _ _ _ (fun q => hne q)]
  exact h.li
/-- A row of ints made behind all, outside of the groups, is written. -/
theorem AS.setT {g k : Nat} {c : Array Value} {z : Value} (h : AS U V W m x y nn dd fx fy gl C) (hg : W.heap[g]? = some (.cells c 3)) (hne : ∀ t, t < m → ¬ ((x t).ownBlock = some g ∨ (y t).ownBlock = some g)) (hU : U.heap.size ≤ g) (hV : V.heap.size ≤ g) : AS U V (W.setCell ⟨g, k, none⟩ z) m x y nn dd fx fy gl C := by
  refine ⟨h.bel.setCell hU _, ⟨fun t ht => own_offB (h.gp.rx t ht) (fun q => hne t ht (Or.inl q)), fun t ht => own_offB (h.gp.ry t ht) (fun q => hne t ht (Or.inr q)), h.gp.lo, h.gp.pl, h.gp.dis⟩, ?_, h.sv.cell _ (Or.inl hV), h.yb⟩
  rw [Below.heap_setCell _ _ _ _ (fun q => by
    have q2 : gl = g := q
    have h3 := h.li
    rw [q2, hg] at h3
    injection h3 with h3
    injection h3 with _ h3 _
    exact absurd h3 (by decide))]
  exact h.li
/-- One of them has grown: what else lay there still lies. -/
theorem AS.more {t k : Nat} {v' : Value} {q : Nat → Int} (h : AS U V W m x y nn dd fx fy gl C) (ht : t < m) (own : W'.ownsRow U.heap.size 3 1 v' (nn t + dd t + k) (intsL (nn t + dd t + k) (catI (nn t + dd t) (fy t) q)))
    (hpl : (∃ b c, y t = .slice (some ⟨b, 0, none⟩) (nn t + dd t) c ∧ v' = .slice (some ⟨b, 0, none⟩) (nn t + dd t + k) c ∧ W.grownBy W' (some b)) ∨ (Below W.heap.size W W' ∧ ∀ k, v'.ownBlock = some k → W.heap.size ≤ k)) :
    AS U V W' m x (updX y t v') nn (updD dd t k) fx (updG fy t (catI (nn t + dd t) (fy t) q)) gl C := by
  have hg := h.gp.more ht own hpl
  rcases hpl with ⟨b, c, e1, e2, gr⟩ | ⟨hb, hk⟩
  · have hyb : (y t).ownBlock = some b := by rw [e1]; rfl
    have hvb : v'.ownBlock = some b := by rw [e2]; rfl
    have gr2 : W.grownBy W' (y t).ownBlock := by rw [hyb]; exact gr
    refine ⟨h.bel.grown gr h.bel.size (fun z e => by rw [← Option.some.inj e]; exact ((h.gp.ry t ht).lt b hyb).1), hg, heap_overL (h.gp.ry t ht) gr2 h.li (by decide), h.sv.grown gr (fun z e => ?_), fun s hs z e => ?_⟩
    · rw [← Option.some.inj e]
      exact (h.yb t ht b hyb).elim (fun w => Or.inr ⟨t, ht, w⟩) Or.inl
    · by_cases es : s = t
      · subst es
        rw [show updX y s v' s = v' from if_pos rfl, hvb] at e
        rw [← Option.some.inj e]
        exact h.yb s hs b hyb
      · rw [show updX y t v' s = y s from if_neg es] at e
        exact h.yb s hs z e
  · have ho := h.on hb
    refine ⟨ho.bel, hg, ho.li, ho.sv, fun s hs z e => ?_⟩
    by_cases es : s = t
    · subst es
      rw [show updX y s v' s = v' from if_pos rfl] at e
      exact Or.inr (Nat.le_trans h.sv.size (hk z e))
    · rw [show updX y t v' s = y s from if_neg es] at e
      exact h.yb s hs z e
end
/-- append of a list to one of them; a list of lists and what else is kept by the blocks. -/
theorem stepAS {U V W : World} {m gl t k : Nat} {x y : Nat → Value} {nn dd : Nat → Nat} {fx fy : Nat → Nat → Int} {C : Array Value} {u : Value} {q : Nat → Int} {ops : Array Oper} {Q : Exit → Act → World → Prop} {K : Act → World → Prop} {j : Nat} {o : Oper} {a : Act} {s z : Operand} (hos : ops[j]? = some o) (hgd : Region.wanted o (yielded ops a.tmps) = true)
    (ho : o.op = .call { callee := .builtin .append, args := #[s, z], argTypes := #[22, 22] }) (hs : a.eval s = y t) (hx : a.eval z = u) (h : AS U V W m x y nn dd fx fy gl C) (ht : t < m) (hu : SliceI W u k q) (hsome : ∃ ad c', u = .slice (some ad) k c') (hk : 0 < k) (hn : nn t + dd t + k ≤ 17592186044416)
    (hK : ∀ v' W', AS U V W' m x (updX y t v') nn (updD dd t k) fx (updG fy t (catI (nn t + dd t) (fy t) q)) gl C → W.grownBy W' (y t).ownBlock → K (a.put o.dst v') W') : wpOp Try.prog ops Q j K a W := by
  obtain ⟨v', W', hr, q1, q3⟩ := run_app2L W o.type _ (nn t + dd t) k (y t) u (fy t) q (h.gp.ry t ht) hu hsome hk hn h.bel.size
  refine stepV hos hgd (v := v') (w' := W') ?_ (hK v' W' (h.more ht q1 q3) ?_)
  · unfold execOp
    simp only [ho, resolve, invoke, builtin, Sem.run_bind, Sem.run_pure, Result.andThen_ok, List.map_toArray, List.map_cons, List.map_nil, hs, hx, hr]
  · rcases q3 with ⟨b, c, e1, _, gr⟩ | ⟨hb, _⟩
    · rw [e1]
      exact gr
    · exact ⟨hb.os, hb.tape, hb.output, hb.size, fun j hj _ => hb.block j hj⟩
end Go.Proofs.Ytcgkelgncehekab.Brd

namespace Go.Proofs.Ytcgkelgncehekab.Brd
open Go.RowKit Gf8 Aes By8 Cel Cf Tap Drw Prm
/- The law's apart. Written by tools/mkQ9d.py. -/

theorem updD_o {dd : Nat → Nat} {t k s : Nat} (h : s ≠ t) : updD dd t k s = dd s := if_neg h
theorem updD_at {dd : Nat → Nat} {t k : Nat} : updD dd t k t = dd t + k := if_pos rfl
theorem shp3 {W : World} {B n s : Nat} {t : TypeId} {v : Value} {xs : List Value} (h : W.ownsRow B t s v n xs) : ∃ g n c, v = .slice g n c := by
  rcases h.2 with ⟨rfl, rfl⟩ | ⟨g, cap, cur, rfl, _⟩
  · exact ⟨_, _, _, rfl⟩
  · exact ⟨_, _, _, rfl⟩
theorem execStLI {o : Oper} {a : Act} {w : World} {x v : Operand} {b k : Nat} {u old : Value} (ho : o.op = .store 22 x v) (hx : a.eval x = .pointer (some ⟨b, k, none⟩)) (hv : a.eval v = u) (hu : ∃ g n c, u = .slice g n c) (hc : w.cell? ⟨b, k, none⟩ = some old) (hf : w.frozen? ⟨b, k, none⟩ = false) : (execOp a.eval o).run Try.prog w = .ok .skip (w.setCell ⟨b, k, none⟩ u) := by
  obtain ⟨g, n, c, rfl⟩ := hu
  unfold execOp
  simp only [ho, hx, hv]
  simp [go_sem, hc, hf]
theorem ownL_setI {W : World} {B n g cap k : Nat} {y : Nat → Value} {z : Value} (h : W.ownsRow B 22 1 (.slice (some ⟨g, 0, none⟩) n cap) n (lL y n)) : (W.setCell ⟨g, 0 + k, none⟩ z).ownsRow B 22 1 (.slice (some ⟨g, 0, none⟩) n cap) n (lL (updX y k z) n) := by
  rw [Nat.zero_add]
  refine ⟨by rw [lL_len, Nat.mul_one], ?_⟩
  rcases h.2 with ⟨e, _⟩ | ⟨g', cap', cur, e, hB, hg, h1, h2, h3, h4⟩
  · cases e
  · injection e with e1 e2 e3
    injection e1 with e1
    injection e1 with e1 _ _
    subst e1
    subst e3
    refine Or.inr ⟨g, cap, cur.setIfInBounds k z, rfl, hB, heap4 _ hg, h1, h2, by simpa using h3, ?_⟩
    apply List.ext_getElem?
    intro j
    have h5 : (cur.toList.take (n * 1))[j]? = (lL y n)[j]? := by rw [h4]
    by_cases hj : j < n
    · rw [List.getElem?_take_of_lt (by omega), lL_get _ _ _ hj] at h5
      rw [List.getElem?_take_of_lt (by omega), lL_get _ _ _ hj, Array.getElem?_toList, Array.getElem?_setIfInBounds]
      by_cases hk : k = j
      · subst hk
        rw [if_pos rfl, if_pos (by simp at h3; omega), updX_at]
      · rw [if_neg hk, show updX y k z j = y j from if_neg (fun q => hk q.symm), ← Array.getElem?_toList]
        exact h5
    · rw [List.getElem?_eq_none (by simp; omega), List.getElem?_eq_none (by rw [lL_len]; omega)]
end Go.Proofs.Ytcgkelgncehekab.Brd

namespace Go.Proofs.Ytcgkelgncehekab.Brd
open Go.RowKit Gf8 Aes By8 Cel Cf Tap Drw Prm
/- The law's apart, whole. Written by tools/mkQ9e.py. -/

theorem execMkLI {o : Oper} {a : Act} {w : World} {x y : Operand} {n : Nat} (ho : o.op = .makeSlice 27 x y) (hx : a.eval x = .int .i64 (n : Int)) (hy : a.eval y = .int .i64 (n : Int)) (hn : n ≤ 1000000) : (execOp a.eval o).run Try.prog w = .ok (.value (.slice (some ⟨w.heap.size, 0, none⟩) n n)) (w.alloc (.cells (madeCells #[.slice none 0 0] n) 22)) := by
  obtain ⟨i, h1, h2, h3, h4⟩ := infoLI
  have h := run_make (P := Try.prog) w 27 22 i (.slice none 0 0) Try.underlying27 h1 h2 .i64 .i64 (n : Int) (n : Int) (by omega) (by omega) (by rw [h4]; omega) (by omega)
  rw [h3, Int.toNat_natCast, Nat.mul_one] at h
  unfold execOp
  simp only [ho, hx, hy, Sem.run_bind, h, Result.andThen_ok, Sem.run_pure]
  rfl
theorem own_mkLI (W : World) (n : Nat) (hn : n ≤ 1000000) : (W.alloc (.cells (madeCells #[.slice none 0 0] n) 22)).ownsRow W.heap.size 22 1 (.slice (some ⟨W.heap.size, 0, none⟩) n n) n (lL (fun _ => .slice none 0 0) n) := by
  refine ⟨by rw [lL_len, Nat.mul_one], Or.inr ⟨_, _, _, rfl, Nat.le_refl _, heapNew W _, Nat.le_refl _, by unfold maxLen; omega, by simp [madeCells], ?_⟩⟩
  apply List.ext_getElem?
  intro j
  by_cases h : j < n
  · rw [lL_get _ _ _ h]
    simp [madeCells, h, Nat.mod_one]
  · rw [List.getElem?_eq_none (by simp; omega), List.getElem?_eq_none (by rw [lL_len]; omega)]
theorem oneI (X : World) {z : Int} (hz : -9223372036854775808 ≤ z ∧ z < 9223372036854775808) : SliceI (X.alloc (.cells #[.int .i64 z] 3)) (.slice (some ⟨X.heap.size, 0, none⟩) 1 1) 1 (fun _ => z) :=
  lit_ints (heapNew X _) (fun j hj => by
    match j, hj with
    | 0, _ => rfl
    | k + 1, h => omega) (fun _ _ => hz) (by omega)
theorem next_z {z y y2 : Nat → Value} {i : Nat} (h : ∀ t, t < i → z t = y t) (hy : ∀ t, t ≠ i → y2 t = y t) : ∀ t, t < i + 1 → updX z i (y2 i) t = y2 t := fun t ht => by
  by_cases e : t = i
  · subst e
    rw [updX_at]
  · rw [show updX z i (y2 i) t = z t from if_neg e, hy t e]
    exact h t (by omega)
theorem mark_in {ff : Nat → Nat → Int} {t j : Nat} {z : Int} (h : ∀ l, l < j → ff t l = z) : ∀ l, l < j + 1 → updF ff t j z t l = z := fun l hl => by
  rw [updF_at]
  by_cases q : l = j
  · rw [if_pos q]
  · rw [if_neg q]
    exact h l (by omega)
end Go.Proofs.Ytcgkelgncehekab.Brd
