import Derived.Test.YtdkkbgokemimfaaDoorD3q
import Derived.Test.YtdkkbgokemimfaaDoorK9
import Derived.Deep.RegionWith
namespace Go.Proofs.YtdkkbgokemimfaaDoor.Frm
open Go.RowKit Gf8 Aes By8 Cel
/- What lies in FramePacks. -/

theorem ownL_staysT {W : World} {B n b k : Nat} {v u : Value} {xs : List Value} {c : Array Value} (h : W.ownsRow B 30 1 v n xs) (hb : W.heap[b]? = some (.cells c 5)) : (W.setCell ⟨b, k, none⟩ u).ownsRow B 30 1 v n xs := by
  refine ⟨h.1, ?_⟩
  rcases h.2 with h | ⟨g, cap, cur, e, hB, hg, h2⟩
  · exact Or.inl h
  · refine Or.inr ⟨g, cap, cur, e, hB, ?_, h2⟩
    rw [heap4o _ hb (fun e => by subst e; rw [hg] at hb; simp at hb)]
    exact hg
/-- The batch of copies in block I; m rows of one's own, the first n of them its cells. -/
structure PaS (I : Nat) (rd ep lf : Int) (n : Nat) (lv : Value) (y : Nat → Value) (m : Nat) (nn : Nat → Nat) (ff : Nat → Nat → Nat) (V W : World) : Prop where
  i : W.heap[I]? = some (.cells (bC rd ep lf lv) 26)
  own : W.ownsRow V.heap.size 30 1 lv n (xsL y 0 n)
  fam : Fam V.heap.size m y nn ff W
  bel : Below V.heap.size V W
  lB : V.heap.size ≤ I
section
variable {I : Nat} {rd ep lf : Int} {n : Nat} {lv : Value} {y : Nat → Value} {m : Nat} {nn : Nat → Nat} {ff : Nat → Nat → Nat} {V W W' : World}
theorem PaS.on (h : PaS I rd ep lf n lv y m nn ff V W) (hb : Below W.heap.size W W') : PaS I rd ep lf n lv y m nn ff V W' :=
  ⟨by rw [hb.block _ (Array.getElem?_eq_some_iff.1 h.i).1]; exact h.i, ownL_below h.own hb, h.fam.on hb, h.bel.trans (hb.mono h.bel.size), h.lB⟩
theorem PaS.add (h : PaS I rd ep lf n lv y m nn ff V W) (hm : n ≤ m) (hb : Below W.heap.size W W') {r : Value} (hr : W'.ownsRow W.heap.size 5 1 r (nn m) (bytesL (nn m) (ff m))) : PaS I rd ep lf n lv (updX y m r) (m + 1) nn ff V W' := by
  have h' := h.on hb
  refine ⟨h'.i, ?_, h.fam.add hb h.bel.size hr, h'.bel, h.lB⟩
  rw [xsL_congr (y := y) fun t ht => updX_lt _ _ (by omega)]
  exact h'.own
theorem PaS.cg {gg : Nat → Nat → Nat} (h : PaS I rd ep lf n lv y m nn ff V W) (e : ∀ t, t < m → ∀ l, l < nn t → ff t l = gg t l) : PaS I rd ep lf n lv y m nn gg V W :=
  ⟨h.i, h.own, ⟨fun t ht => by have h2 := h.fam.rows t ht; rw [bytesL_congr (e t ht)] at h2; exact h2, h.fam.dis⟩, h.bel, h.lB⟩
/-- One byte of row t is set. -/
theorem PaS.set (h : PaS I rd ep lf n lv y m nn ff V W) {t k g cap z : Nat} (ht : t < m) (hx : y t = .slice (some ⟨g, 0, none⟩) (nn t) cap) :
    PaS I rd ep lf n lv y m nn (fun s => if s = t then (fun l => if l = k then z else ff t l) else ff s) V (W.setCell ⟨g, k, none⟩ (.int .u8 (z : Int))) := by
  have own := h.fam.rows t ht
  obtain ⟨cur, hg⟩ := own_type own (k := g) (by rw [hx]; rfl)
  have gB : V.heap.size ≤ g := (own.lt g (by rw [hx]; rfl)).1
  refine ⟨?_, ownL_staysT h.own hg, ⟨fun s hs => ?_, h.fam.dis⟩, h.bel.setCell (p := ⟨g, k, none⟩) gB _, h.lB⟩
  · rw [heap4o _ hg (fun e => by have q := h.i; rw [e, hg] at q; simp at q)]
    exact h.i
  · by_cases e : s = t
    · subst e
      simp only [if_true]
      rw [hx] at own ⊢
      exact own_set (m := k) z own
    · simp only [if_neg e]
      exact own_stays (k := k) (u := .int .u8 (z : Int)) (h.fam.rows s hs) hg (fun q => h.fam.dis t s ht hs (fun z => e z.symm) g (by rw [hx]; rfl) q)
/-- Row t has grown, and goes its own way: the row behind it takes its place. -/
theorem PaS.drop (h : PaS I rd ep lf n lv y (n + 3) nn ff V W) {u : Value} (hg : W.grownBy W' (y (n + 1)).ownBlock) (hN : nn (n + 2) = nn (n + 1)) (hf : ff (n + 2) = ff n) (hu : u = y (n + 2)) : PaS I rd ep lf n lv (fun t => if t = n + 1 then u else y t) (n + 2) nn (fun t => if t = n + 1 then ff n else ff t) V W' := by
  have pv := h.fam.rows (n + 1) (by omega)
  have keep : ∀ t, t < n + 3 → t ≠ n + 1 → W'.ownsRow V.heap.size 5 1 (y t) (nn t) (bytesL (nn t) (ff t)) := by
    intro t ht hne
    refine (h.fam.rows t ht).kept hg ?_
    cases e : (y t).ownBlock with
    | none => exact Or.inl rfl
    | some g => exact Or.inr (fun q => h.fam.dis t (n + 1) ht (by omega) hne g e q.symm)
  have tne : ∀ {c : Array Value} {t : TypeId} {b : Nat}, W.heap[b]? = some (.cells c t) → t ≠ 5 → W'.heap[b]? = some (.cells c t) := by
    intro c t b hb ht
    rw [hg.block b (Array.getElem?_eq_some_iff.1 hb).1 (own_ne pv hb ht)]
    exact hb
  refine ⟨tne h.i (by decide), ?_, ⟨fun t ht => ?_, fun s t hs ht hst => ?_⟩, h.bel.grown hg h.bel.size (fun k hk => (pv.lt k hk).1), h.lB⟩
  · rw [xsL_congr (y := y) fun t ht => if_neg (by omega)]
    refine ⟨h.own.1, ?_⟩
    rcases h.own.2 with h | ⟨g, cap, cur, e, hB, hgg, h2⟩
    · exact Or.inl h
    · exact Or.inr ⟨g, cap, cur, e, hB, tne hgg (by decide), h2⟩
  · by_cases e : t = n + 1
    · simp only [if_pos e]
      have := keep (n + 2) (by omega) (by omega)
      rw [hN, hf] at this
      rw [e, hu]
      exact this
    · simp only [if_neg e]
      exact keep t (by omega) e
  · by_cases e1 : s = n + 1
    · have e2 : t ≠ n + 1 := fun q => hst (e1.trans q.symm)
      simp only [if_pos e1, if_neg e2, hu]
      exact h.fam.dis _ _ (by omega) (by omega) (by omega)
    · by_cases e2 : t = n + 1
      · simp only [if_neg e1, if_pos e2, hu]
        exact h.fam.dis _ _ (by omega) (by omega) (by omega)
      · simp only [if_neg e1, if_neg e2]
        exact h.fam.dis _ _ (by omega) (by omega) hst
theorem PaS.cells (h : PaS I rd ep lf n lv y m nn ff V W) (hm : n ≤ m) (hb : ∀ i j, i < n → j < nn i → ff i j < 256) (hl : ∀ i, i < n → nn i ≤ 140737488351232) : Cells W lv n y nn ff :=
  CF.cells (B := V.heap.size) ⟨h.own, ⟨fun t ht => h.fam.rows t (by omega), fun s t hs ht => h.fam.dis s t (by omega) (by omega)⟩⟩ hb hl
end
end Go.Proofs.YtdkkbgokemimfaaDoor.Frm
