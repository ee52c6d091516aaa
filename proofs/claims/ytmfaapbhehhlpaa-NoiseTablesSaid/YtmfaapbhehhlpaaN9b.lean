import Derived.Test.YtmfaapbhehhlpaaM9d
namespace Go.Proofs.Ytmfaapbhehhlpaa.Prm
open Go.RowKit Gf8 Aes By8 Cel Cf Tap Drw
/- PermKeeps: many rows of ints side by side, lists of them. -/

/-- k rows of ints, each of its own, no two of one block. -/
structure FmI (B k : Nat) (x : Nat → Value) (nn : Nat → Nat) (ff : Nat → Nat → Int) (W : World) : Prop where
  rows : ∀ t, t < k → W.ownsRow B 3 1 (x t) (nn t) (intsL (nn t) (ff t))
  dis : ∀ s t, s < k → t < k → s ≠ t → ∀ b, (x s).ownBlock = some b → (x t).ownBlock ≠ some b
def updF (ff : Nat → Nat → Int) (t j : Nat) (z : Int) : Nat → Nat → Int := fun s i => if s = t then (if i = j then z else ff t i) else ff s i
theorem updF_o {ff : Nat → Nat → Int} {t j s : Nat} {z : Int} (h : s ≠ t) : updF ff t j z s = ff s := by
  funext i
  exact if_neg h
theorem updF_at {ff : Nat → Nat → Int} {t j i : Nat} {z : Int} : updF ff t j z t i = if i = j then z else ff t i := if_pos rfl
section
variable {B k : Nat} {x : Nat → Value} {nn : Nat → Nat} {ff : Nat → Nat → Int} {W W' : World}
theorem FmI.on (h : FmI B k x nn ff W) (b : Below W.heap.size W W') : FmI B k x nn ff W' := ⟨fun t ht => ownD_below (h.rows t ht) b, h.dis⟩
theorem FmI.over {C m : Nat} {v2 : Value} {ys : List Value} (h : FmI B k x nn ff W) (hlt : ∀ t, t < k → ∀ b, (x t).ownBlock = some b → b < C) (h2 : W.ownsRow C 3 1 v2 m ys) (gr : W.grownBy W' v2.ownBlock) : FmI B k x nn ff W' :=
  ⟨fun t ht => own_overB (h.rows t ht) (hlt t ht) h2 gr, h.dis⟩
theorem FmI.overT {C m s : Nat} {u : TypeId} {v2 : Value} {ys : List Value} (h : FmI B k x nn ff W) (h2 : W.ownsRow C u s v2 m ys) (hu : 3 ≠ u) (gr : W.grownBy W' v2.ownBlock) : FmI B k x nn ff W' :=
  ⟨fun t ht => own_overT (h.rows t ht) h2 gr hu, h.dis⟩
theorem FmI.add {C L : Nat} {r : Value} {F : Nat → Int} (h : FmI B k x nn ff W) (hlt : ∀ t, t < k → ∀ b, (x t).ownBlock = some b → b < C) (hr : W.ownsRow C 3 1 r L (intsL L F)) (hB : B ≤ C) (eL : nn k = L) (eF : ∀ j, j < L → ff k j = F j) : FmI B (k + 1) (updX x k r) nn ff W := by
  subst eL
  refine ⟨fun t ht => ?_, fun s t hs ht hst b e => ?_⟩
  · by_cases e : t = k
    · subst e
      rw [updX_at, intsL_congr eF]
      exact ownD_base hr hB
    · rw [updX_lt _ _ (by omega)]
      exact h.rows t (by omega)
  · by_cases e1 : t = k
    · subst e1
      rw [updX_lt _ _ (by omega)] at e
      rw [updX_at]
      intro e2
      have := hlt s (by omega) b e
      have := (hr.lt b e2).1
      omega
    · rw [updX_lt x r (show t < k by omega)]
      by_cases e2 : s = k
      · subst e2
        rw [updX_at] at e
        intro e3
        have := hlt t (by omega) b e3
        have := (hr.lt b e).1
        omega
      · rw [updX_lt _ _ (by omega)] at e
        exact h.dis s t (by omega) (by omega) hst b e
theorem FmI.set {t g c j : Nat} (h : FmI B k x nn ff W) (ht : t < k) (e : x t = .slice (some ⟨g, 0, none⟩) (nn t) c) (z : Int) : FmI B k x nn (updF ff t j z) (W.setCell ⟨g, 0 + j, none⟩ (.int .i64 z)) := by
  refine ⟨fun s hs => ?_, h.dis⟩
  by_cases q : s = t
  · subst q
    have h1 := h.rows s hs
    rw [e] at h1 ⊢
    rw [intsL_congr (g := fun i => if i = j then z else ff s i) (fun i _ => updF_at)]
    exact own_setF z h1
  · rw [updF_o q]
    exact own_offB (h.rows s hs) (h.dis t s ht hs (fun z => q z.symm) g (by rw [e]; rfl))
theorem FmI.cell {t g c j : Nat} (h : FmI B k x nn ff W) (ht : t < k) (e : x t = .slice (some ⟨g, 0, none⟩) (nn t) c) (hj : j < nn t) : W.cell? ⟨g, 0 + j, none⟩ = some (.int .i64 (ff t j)) ∧ W.frozen? ⟨g, 0 + j, none⟩ = false := by
  have h1 := h.rows t ht
  rw [e] at h1
  exact own_cellI h1 hj
end
section
variable {o : Oper} {a : Act} {w : World}
end
/-- The rows, and a list of those from the third on. -/
structure K1 (V W : World) (k : Nat) (x : Nat → Value) (nn : Nat → Nat) (ff : Nat → Nat → Int) (lv : Value) (a : Nat) : Prop where
  bel : Below V.heap.size V W
  fam : FmI V.heap.size k x nn ff W
  li : W.ownsRow V.heap.size 23 1 lv a (lL (fun t => x (2 + t)) a)
section
variable {V W W' : World} {k a b bw : Nat} {x : Nat → Value} {nn : Nat → Nat} {ff : Nat → Nat → Int} {lv wv : Value}
theorem K1.on (h : K1 V W k x nn ff lv a) (b : Below W.heap.size W W') : K1 V W' k x nn ff lv a := ⟨h.bel.trans (b.mono h.bel.size), h.fam.on b, ownD_below h.li b⟩
theorem K1.blt (h : K1 V W k x nn ff lv a) : ∀ t, t < k → ∀ b, (x t).ownBlock = some b → b < W.heap.size := fun t ht b e => ((h.fam.rows t ht).lt b e).2
theorem lL_updX {r : Value} {s : Nat} (h : s + a ≤ k) : lL (fun t => updX x k r (s + t)) a = lL (fun t => x (s + t)) a := lL_congr a fun t ht => updX_lt _ _ (by omega)
theorem K1.add {C L : Nat} {r : Value} {F : Nat → Int} (h : K1 V W k x nn ff lv a) (ha : 2 + a ≤ k) (hlt : ∀ t, t < k → ∀ b, (x t).ownBlock = some b → b < C) (hr : W.ownsRow C 3 1 r L (intsL L F)) (hB : V.heap.size ≤ C) (eL : nn k = L) (eF : ∀ j, j < L → ff k j = F j) : K1 V W (k + 1) (updX x k r) nn ff lv a :=
  ⟨h.bel, h.fam.add hlt hr hB eL eF, by rw [lL_updX ha]; exact h.li⟩
/-- What a call answers is one more row. -/
theorem K1.call {L : Nat} {r : Value} {F : Nat → Int} (h : K1 V W k x nn ff lv a) (ha : 2 + a ≤ k) (hb : Below W.heap.size W W') (hr : W'.ownsRow W.heap.size 3 1 r L (intsL L F)) (eL : nn k = L) (eF : ∀ j, j < L → ff k j = F j) : K1 V W' (k + 1) (updX x k r) nn ff lv a :=
  (h.on hb).add ha h.blt hr h.bel.size eL eF
theorem K1.app {lv' : Value} {a' : Nat} (h : K1 V W k x nn ff lv a) (own : W'.ownsRow V.heap.size 23 1 lv' a' (lL (fun t => x (2 + t)) a')) (gr : W.grownBy W' lv.ownBlock) : K1 V W' k x nn ff lv' a' :=
  ⟨h.bel.grown gr h.bel.size (fun b e => (h.li.lt b e).1), h.fam.overT h.li (by decide) gr, own⟩
theorem K1.shp (h : K1 V W k x nn ff lv a) {t : Nat} (ht : t < k) : ∃ g n c, x t = .slice g n c := by
  obtain ⟨g, c, e⟩ := shpO (h.fam.rows t ht)
  exact ⟨g, _, c, e⟩
/-- The rows, the list of the third to the twentieth, and a list of those behind. -/
structure K2 (V W : World) (k : Nat) (x : Nat → Value) (nn : Nat → Nat) (ff : Nat → Nat → Int) (lv wv : Value) (bw b : Nat) : Prop where
  k1 : K1 V W k x nn ff lv 18
  wa : W.ownsRow bw 23 1 wv b (lL (fun t => x (20 + t)) b)
  lb : ∀ g, lv.ownBlock = some g → g < bw
  b1 : V.heap.size ≤ bw
  b2 : bw ≤ W.heap.size
theorem K2.on (h : K2 V W k x nn ff lv wv bw b) (q : Below W.heap.size W W') : K2 V W' k x nn ff lv wv bw b := ⟨h.k1.on q, ownD_below h.wa q, h.lb, h.b1, Nat.le_trans h.b2 q.size⟩
/-- A row of ints behind all of them has grown. -/
theorem K2.over {C m : Nat} {v2 : Value} {ys : List Value} (h : K2 V W k x nn ff lv wv bw b) (hlt : ∀ t, t < k → ∀ b, (x t).ownBlock = some b → b < C) (hC : V.heap.size ≤ C) (h2 : W.ownsRow C 3 1 v2 m ys) (gr : W.grownBy W' v2.ownBlock) : K2 V W' k x nn ff lv wv bw b :=
  ⟨⟨h.k1.bel.grown gr h.k1.bel.size (fun b e => Nat.le_trans hC (h2.lt b e).1), h.k1.fam.over hlt h2 gr, own_overT h.k1.li h2 gr (by decide)⟩, own_overT h.wa h2 gr (by decide), h.lb, h.b1, Nat.le_trans h.b2 gr.size⟩
theorem K2.add {C L : Nat} {r : Value} {F : Nat → Int} (h : K2 V W k x nn ff lv wv bw b) (hk : 20 + b ≤ k) (hlt : ∀ t, t < k → ∀ b, (x t).ownBlock = some b → b < C) (hr : W.ownsRow C 3 1 r L (intsL L F)) (hB : V.heap.size ≤ C) (eL : nn k = L) (eF : ∀ j, j < L → ff k j = F j) : K2 V W (k + 1) (updX x k r) nn ff lv wv bw b :=
  ⟨h.k1.add (by omega) hlt hr hB eL eF, by rw [lL_updX hk]; exact h.wa, h.lb, h.b1, h.b2⟩
theorem K2.app {wv' : Value} {b' : Nat} (h : K2 V W k x nn ff lv wv bw b) (own : W'.ownsRow bw 23 1 wv' b' (lL (fun t => x (20 + t)) b')) (gr : W.grownBy W' wv.ownBlock) : K2 V W' k x nn ff lv wv' bw b' :=
  ⟨⟨h.k1.bel.grown gr h.k1.bel.size (fun b e => Nat.le_trans h.b1 (h.wa.lt b e).1), h.k1.fam.overT h.wa (by decide) gr, ownW_grown h.k1.li gr (fun g e q => by have := h.lb g e; have := (h.wa.lt g q).1; omega)⟩, own, h.lb, h.b1, Nat.le_trans h.b2 gr.size⟩
theorem K2.set {t g c j : Nat} (h : K2 V W k x nn ff lv wv bw b) (ht : t < k) (e : x t = .slice (some ⟨g, 0, none⟩) (nn t) c) (z : Int) : K2 V (W.setCell ⟨g, 0 + j, none⟩ (.int .i64 z)) k x nn (updF ff t j z) lv wv bw b := by
  have h1 := h.k1.fam.rows t ht
  rw [e] at h1
  obtain ⟨cur, hg, hB⟩ := own_cur h1
  exact ⟨⟨h.k1.bel.setCell hB _, h.k1.fam.set ht e z, own_offT h.k1.li hg (by decide)⟩, own_offT h.wa hg (by decide), h.lb, h.b1, Nat.le_trans h.b2 (by simp [World.setCell])⟩
end
end Go.Proofs.Ytmfaapbhehhlpaa.Prm

namespace Go.Proofs.Ytmfaapbhehhlpaa.Prm
open Go.RowKit Gf8 Aes By8 Cel Cf Tap Drw
/- PermKeeps: what is answered, by its number; append to one of the rows. -/

theorem slice_inj {b g n m c d : Nat} (e : Value.slice (some ⟨b, 0, none⟩) n c = .slice (some ⟨g, 0, none⟩) m d) : b = g ∧ c = d := by
  injection e with e1 _ e3
  injection e1 with e1
  injection e1 with e1 _ _
  exact ⟨e1, e3⟩
/-- A list that began as row t and has grown by d: in that row's room, or apart from all. -/
structure Ap (V W : World) (k : Nat) (x : Nat → Value) (nn : Nat → Nat) (ff : Nat → Nat → Int) (lv wv : Value) (bw t : Nat) (l : Value) (d : Nat) : Prop where
  k2 : K2 V W k x nn ff lv wv bw 18
  own : ∃ q, W.ownsRow V.heap.size 3 1 l (nn t + d) (intsL (nn t + d) q) ∧ ∀ j, j < nn t → q j = ff t j
  pl : (∃ g c, x t = .slice (some ⟨g, 0, none⟩) (nn t) c ∧ l = .slice (some ⟨g, 0, none⟩) (nn t + d) c) ∨ ∀ s, s < k → ∀ b, l.ownBlock = some b → (x s).ownBlock ≠ some b
section
variable {V W W' : World} {k t d bw : Nat} {x : Nat → Value} {nn : Nat → Nat} {ff : Nat → Nat → Int} {lv wv l : Value}
theorem Ap.on (h : Ap V W k x nn ff lv wv bw t l d) (q : Below W.heap.size W W') : Ap V W' k x nn ff lv wv bw t l d := by
  obtain ⟨p, h1, h2⟩ := h.own
  exact ⟨h.k2.on q, ⟨p, ownD_below h1 q, h2⟩, h.pl⟩
theorem Ap.begin (h : K2 V W k x nn ff lv wv bw 18) (ht : t < k) : Ap V W k x nn ff lv wv bw t (x t) 0 := by
  refine ⟨h, ⟨ff t, h.k1.fam.rows t ht, fun _ _ => rfl⟩, ?_⟩
  rcases (h.k1.fam.rows t ht).2 with ⟨e, _⟩ | ⟨g, cap, cur, e, _⟩
  · refine Or.inr fun s _ b q => ?_
    rw [e] at q
    cases q
  · exact Or.inl ⟨g, cap, e, e⟩
theorem Ap.more {l' : Value} {q : Nat → Int} (h : Ap V W k x nn ff lv wv bw t l d) (ht : t < k) (own : W'.ownsRow V.heap.size 3 1 l' (nn t + d + 1) (intsL (nn t + d + 1) q)) (hq : ∀ j, j < nn t → q j = ff t j)
    (hpl : (∃ b c, l = .slice (some ⟨b, 0, none⟩) (nn t + d) c ∧ l' = .slice (some ⟨b, 0, none⟩) (nn t + d + 1) c ∧ W.grownBy W' (some b)) ∨ (Below W.heap.size W W' ∧ ∀ k, l'.ownBlock = some k → W.heap.size ≤ k)) : Ap V W' k x nn ff lv wv bw t l' (d + 1) := by
  rcases hpl with ⟨b, c, e1, e2, gr⟩ | ⟨hb, hk⟩
  · have hown := h.own
    obtain ⟨p, o1, _⟩ := hown
    have hbB : V.heap.size ≤ b := by rw [e1] at o1; exact (o1.lt b rfl).1
    have gr2 : W.grownBy W' l.ownBlock := by rw [e1]; exact gr
    have hli := own_overT h.k2.k1.li o1 gr2 (show (23 : TypeId) ≠ 3 by decide)
    have hwa := own_overT h.k2.wa o1 gr2 (show (23 : TypeId) ≠ 3 by decide)
    have hbel : Below V.heap.size V W' := h.k2.k1.bel.grown gr h.k2.k1.bel.size (fun z e => by rw [← Option.some.inj e]; exact hbB)
    have hfam : FmI V.heap.size k x nn ff W' := by
      refine ⟨fun s hs => ?_, h.k2.k1.fam.dis⟩
      rcases h.pl with ⟨g, c', f1, f2⟩ | hp
      · have e3 := e1.symm.trans f2
        obtain ⟨e3, e4⟩ := slice_inj e3
        subst e3
        subst e4
        by_cases hst : s = t
        · subst hst
          rw [e2] at own
          rw [f1, ← intsL_congr hq]
          exact own_takeI own (by omega)
        · exact ownW_grown (h.k2.k1.fam.rows s hs) gr (fun z e q => h.k2.k1.fam.dis s t hs ht hst z e (by rw [f1]; exact q))
      · exact ownW_grown (h.k2.k1.fam.rows s hs) gr (fun z e q => hp s hs z (by rw [e1]; exact q) e)
    refine ⟨⟨⟨hbel, hfam, hli⟩, hwa, h.k2.lb, h.k2.b1, Nat.le_trans h.k2.b2 gr.size⟩, ⟨q, own, hq⟩, ?_⟩
    rcases h.pl with ⟨g, c', f1, f2⟩ | hp
    · have e3 := e1.symm.trans f2
      obtain ⟨e3, e4⟩ := slice_inj e3
      subst e3
      subst e4
      exact Or.inl ⟨b, c, f1, e2⟩
    · refine Or.inr fun s hs z q => hp s hs z ?_
      rw [e2] at q
      rw [e1]
      exact q
  · refine ⟨h.k2.on hb, ⟨q, own, hq⟩, Or.inr fun s hs z e1 e2 => ?_⟩
    have a1 := hk z e1
    have a2 := h.k2.k1.blt s hs z e2
    omega
end
end Go.Proofs.Ytmfaapbhehhlpaa.Prm
