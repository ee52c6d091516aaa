import Derived.Test.YtnfokemikcigbaaL9b
namespace Go.Proofs.Ytnfokemikcigbaa.Win
open Go.RowKit Gf8 Aes By8 Cel Cf
/- WindowKeeps: rows of one type, marked and grown, apart from one another. -/

/-- m rows of things of s cells, no two in one block. -/
structure Fr (ty : TypeId) (s B m : Nat) (x : Nat → Value) (nn : Nat → Nat) (c : Nat → List Value) (W : World) : Prop where
  rows : ∀ t, t < m → W.ownsRow B ty s (x t) (nn t) (c t)
  dis : ∀ p q, p < m → q < m → p ≠ q → ∀ b, (x p).ownBlock = some b → (x q).ownBlock ≠ some b
/-- A row of another block, or of another type, stays. -/
theorem ownG {W W' : World} {B n s : Nat} {ty : TypeId} {v : Value} {xs : List Value} {r : Option Nat} (h : W.ownsRow B ty s v n xs) (gr : W.grownBy W' r) (hne : ∀ b, v.ownBlock = some b → r ≠ some b) : W'.ownsRow B ty s v n xs := by
  obtain ⟨h0, h⟩ := h
  refine ⟨h0, ?_⟩
  rcases h with h | ⟨g, cap, cur, e, hB, hg, q⟩
  · exact Or.inl h
  · refine Or.inr ⟨g, cap, cur, e, hB, ?_, q⟩
    rw [gr.block g (Array.getElem?_eq_some_iff.1 hg).1 (fun w => hne g (by rw [e]; rfl) w.symm)]
    exact hg
theorem ownG_T {W W' : World} {B n s g : Nat} {ty u : TypeId} {v : Value} {xs : List Value} {d : Array Value} (h : W.ownsRow B ty s v n xs) (hg : W.heap[g]? = some (.cells d u)) (hu : u ≠ ty) (gr : W.grownBy W' (some g)) : W'.ownsRow B ty s v n xs := by
  refine ownG h gr fun b hb e => ?_
  obtain rfl := Option.some.inj e
  rcases h.2 with ⟨e1, _⟩ | ⟨k, cap, cur, e1, _, hk, _⟩
  · rw [e1] at hb; cases hb
  · rw [e1] at hb
    obtain rfl : k = g := Option.some.inj hb
    exact ne_type hg hk hu rfl
section
variable {ty : TypeId} {s B m : Nat} {x : Nat → Value} {nn : Nat → Nat} {c : Nat → List Value} {W W' : World}
theorem Fr.on (h : Fr ty s B m x nn c W) (hb : Below W.heap.size W W') : Fr ty s B m x nn c W' := ⟨fun t ht => ownE_below (h.rows t ht) hb, h.dis⟩
theorem Fr.offT {g : Nat} {u : TypeId} {d : Array Value} (h : Fr ty s B m x nn c W) (hg : W.heap[g]? = some (.cells d u)) (hu : u ≠ ty) (gr : W.grownBy W' (some g)) : Fr ty s B m x nn c W' := ⟨fun t ht => ownG_T (h.rows t ht) hg hu gr, h.dis⟩
theorem Fr.over {B2 n2 s2 : Nat} {u : Value} {ys : List Value} {t2 : TypeId} (h : Fr ty s B m x nn c W) (hu : W.ownsRow B2 t2 s2 u n2 ys) (gr : W.grownBy W' u.ownBlock) (ht : ty ≠ t2) : Fr ty s B m x nn c W' := ⟨fun t q => ownE_over (h.rows t q) hu gr ht, h.dis⟩
theorem Fr.cg {c2 : Nat → List Value} (h : Fr ty s B m x nn c W) (e : ∀ t, t < m → c t = c2 t) : Fr ty s B m x nn c2 W := ⟨fun t ht => by rw [← e t ht]; exact h.rows t ht, h.dis⟩
theorem Fr.put {t g : Nat} {z : List Value} (h : Fr ty s B m x nn c W) (ht : t < m) (hg : (x t).ownBlock = some g) (own : W'.ownsRow B ty s (x t) (nn t) z) (gr : W.grownBy W' (some g)) : Fr ty s B m x nn (up c t z) W' := by
  refine ⟨fun q hq => ?_, h.dis⟩
  by_cases e : q = t
  · subst e
    rw [up_at]
    exact own
  · rw [up_ne _ _ e]
    exact ownG (h.rows q hq) gr fun b hb w => h.dis q t hq ht e b hb (by rw [hg, w])
end
/-- What rows x have grown to, y: in x's own room or apart; no block in two groups. -/
structure Gr (ty : TypeId) (s B m : Nat) (x y : Nat → Value) (nn dd : Nat → Nat) (c d : Nat → List Value) (W : World) : Prop where
  rx : ∀ t, t < m → W.ownsRow B ty s (x t) (nn t) (c t)
  ry : ∀ t, t < m → W.ownsRow B ty s (y t) (nn t + dd t) (c t ++ d t)
  pl : ∀ t, t < m → (∃ g k, x t = .slice (some ⟨g, 0, none⟩) (nn t) k ∧ y t = .slice (some ⟨g, 0, none⟩) (nn t + dd t) k) ∨ ∀ b, (y t).ownBlock = some b → (x t).ownBlock ≠ some b
  dis : ∀ p q, p < m → q < m → p ≠ q → ∀ b, ((x p).ownBlock = some b ∨ (y p).ownBlock = some b) → ¬ ((x q).ownBlock = some b ∨ (y q).ownBlock = some b)
theorem slc_inj {g g' n n' c c' : Nat} (h : Value.slice (some ⟨g, 0, none⟩) n c = .slice (some ⟨g', 0, none⟩) n' c') : g = g' ∧ c = c' := by
  injection h with h1 _ h3
  injection h1 with h1
  injection h1 with h1 _ _
  exact ⟨h1, h3⟩
/-- The first things of a row. -/
theorem own_pre {W : World} {B g n k cap s : Nat} {ty : TypeId} {xs ys : List Value} (h : W.ownsRow B ty s (.slice (some ⟨g, 0, none⟩) n cap) n (xs ++ ys)) (hx : xs.length = k * s) (hk : k ≤ n) : W.ownsRow B ty s (.slice (some ⟨g, 0, none⟩) k cap) k xs := by
  refine ⟨hx, ?_⟩
  rcases h.2 with ⟨e, _⟩ | ⟨g', cap', cur, e, hB, hg, q1, q2, q3, q4⟩
  · cases e
  · obtain ⟨rfl, rfl⟩ := slc_inj e
    refine Or.inr ⟨g, cap, cur, rfl, hB, hg, by omega, q2, q3, ?_⟩
    have h5 := congrArg (List.take (k * s)) q4
    rw [List.take_take, Nat.min_eq_left (Nat.mul_le_mul_right s hk), ← hx, List.take_left] at h5
    rw [← hx]
    exact h5
section
variable {ty : TypeId} {s B m : Nat} {x y : Nat → Value} {nn dd : Nat → Nat} {c d : Nat → List Value} {W W' : World}
theorem Gr.on (h : Gr ty s B m x y nn dd c d W) (hb : Below W.heap.size W W') : Gr ty s B m x y nn dd c d W' := ⟨fun t ht => ownE_below (h.rx t ht) hb, fun t ht => ownE_below (h.ry t ht) hb, h.pl, h.dis⟩
theorem Gr.offT {g : Nat} {u : TypeId} {f : Array Value} (h : Gr ty s B m x y nn dd c d W) (hg : W.heap[g]? = some (.cells f u)) (hu : u ≠ ty) (gr : W.grownBy W' (some g)) : Gr ty s B m x y nn dd c d W' := ⟨fun t ht => ownG_T (h.rx t ht) hg hu gr, fun t ht => ownG_T (h.ry t ht) hg hu gr, h.pl, h.dis⟩
theorem Gr.over {B2 n2 s2 : Nat} {u : Value} {ys : List Value} {t2 : TypeId} (h : Gr ty s B m x y nn dd c d W) (hu : W.ownsRow B2 t2 s2 u n2 ys) (gr : W.grownBy W' u.ownBlock) (ht : ty ≠ t2) : Gr ty s B m x y nn dd c d W' := ⟨fun t q => ownE_over (h.rx t q) hu gr ht, fun t q => ownE_over (h.ry t q) hu gr ht, h.pl, h.dis⟩
theorem Gr.cg {dd2 : Nat → Nat} {d2 : Nat → List Value} (h : Gr ty s B m x y nn dd c d W) (e : ∀ t, t < m → dd t = dd2 t) (e2 : ∀ t, t < m → d t = d2 t) : Gr ty s B m x y nn dd2 c d2 W :=
  ⟨h.rx, fun t ht => by rw [← e t ht, ← e2 t ht]; exact h.ry t ht, fun t ht => by rw [← e t ht]; exact h.pl t ht, h.dis⟩
theorem Gr.begin (h : Fr ty s B m x nn c W) : Gr ty s B m x x nn (fun _ => 0) c (fun _ => []) W := by
  refine ⟨h.rows, fun t ht => by rw [List.append_nil]; exact h.rows t ht, fun t ht => ?_, fun p q hp hq hpq b e w => h.dis p q hp hq hpq b (e.elim id id) (w.elim id id)⟩
  rcases (h.rows t ht).2 with ⟨e, _⟩ | ⟨g, cap, cur, e, _⟩
  · refine Or.inr fun b q => ?_
    rw [e] at q
    cases q
  · exact Or.inl ⟨g, cap, e, e⟩
theorem Gr.blt (h : Gr ty s B m x y nn dd c d W) {t b : Nat} (ht : t < m) (e : (x t).ownBlock = some b ∨ (y t).ownBlock = some b) : B ≤ b ∧ b < W.heap.size := by
  rcases e with e | e
  · exact (h.rx t ht).lt b e
  · exact (h.ry t ht).lt b e
/-- One of them has grown. -/
theorem Gr.more {t k : Nat} {v' : Value} {z : List Value} (h : Gr ty s B m x y nn dd c d W) (ht : t < m) (own : W'.ownsRow B ty s v' (nn t + dd t + k) (c t ++ d t ++ z))
    (hpl : (∃ b r, y t = .slice (some ⟨b, 0, none⟩) (nn t + dd t) r ∧ v' = .slice (some ⟨b, 0, none⟩) (nn t + dd t + k) r ∧ W.grownBy W' (some b)) ∨ (Below W.heap.size W W' ∧ ∀ k, v'.ownBlock = some k → W.heap.size ≤ k)) :
    Gr ty s B m x (up y t v') nn (up dd t (dd t + k)) c (up d t (d t ++ z)) W' := by
  have own : W'.ownsRow B ty s v' (nn t + (dd t + k)) (c t ++ (d t ++ z)) := by rw [← Nat.add_assoc, ← List.append_assoc]; exact own
  rcases hpl with ⟨b, r, e1, e2, gr⟩ | ⟨hb, hk⟩
  · have e2 : v' = .slice (some ⟨b, 0, none⟩) (nn t + (dd t + k)) r := by rw [e2, Nat.add_assoc]
    have hyb : (y t).ownBlock = some b := by rw [e1]; rfl
    have hvb : v'.ownBlock = some b := by rw [e2]; rfl
    have gx : ∀ q, q < m → q ≠ t → W'.ownsRow B ty s (x q) (nn q) (c q) := fun q hq hqt => ownG (h.rx q hq) gr (fun z e w => h.dis q t hq ht hqt z (Or.inl e) (Or.inr (hyb.trans w)))
    have gy : ∀ q, q < m → q ≠ t → W'.ownsRow B ty s (y q) (nn q + dd q) (c q ++ d q) := fun q hq hqt => ownG (h.ry q hq) gr (fun z e w => h.dis q t hq ht hqt z (Or.inr e) (Or.inr (hyb.trans w)))
    refine ⟨fun q hq => ?_, fun q hq => ?_, fun q hq => ?_, fun p q hp hq hpq z e w => ?_⟩
    · by_cases e : q = t
      · subst e
        rcases h.pl q hq with ⟨g, r', f1, f2⟩ | hp
        · obtain ⟨rfl, rfl⟩ := slc_inj (e1.symm.trans f2)
          rw [e2] at own
          rw [f1]
          exact own_pre own (h.rx q hq).1 (by omega)
        · exact ownG (h.rx q hq) gr (fun z e w => hp z (hyb.trans w) e)
      · exact gx q hq e
    · by_cases e : q = t
      · subst e
        rw [up_at, up_at, up_at]
        exact own
      · rw [up_ne _ _ e, up_ne _ _ e, up_ne _ _ e]
        exact gy q hq e
    · by_cases e : q = t
      · subst e
        rw [up_at, up_at]
        rcases h.pl q hq with ⟨g, r', f1, f2⟩ | hp
        · obtain ⟨rfl, rfl⟩ := slc_inj (e1.symm.trans f2)
          exact Or.inl ⟨b, r, f1, e2⟩
        · exact Or.inr fun z w => hp z (hyb.trans (hvb.symm.trans w))
      · rw [up_ne _ _ e, up_ne _ _ e]
        exact h.pl q hq
    · have e' : (x p).ownBlock = some z ∨ (y p).ownBlock = some z := by
        by_cases ep : p = t
        · subst ep
          rw [up_at] at e
          exact e.imp id fun w => hyb.trans (hvb.symm.trans w)
        · rw [up_ne _ _ ep] at e
          exact e
      have w' : (x q).ownBlock = some z ∨ (y q).ownBlock = some z := by
        by_cases eq : q = t
        · subst eq
          rw [up_at] at w
          exact w.imp id fun w => hyb.trans (hvb.symm.trans w)
        · rw [up_ne _ _ eq] at w
          exact w
      exact h.dis p q hp hq hpq z e' w'
  · have ho := h.on hb
    have nw : ∀ q, q < m → ∀ z, ((x q).ownBlock = some z ∨ (y q).ownBlock = some z) → v'.ownBlock ≠ some z := fun q hq z e w => by
      have a1 := hk z w
      have a2 := (h.blt hq e).2
      omega
    refine ⟨ho.rx, fun q hq => ?_, fun q hq => ?_, fun p q hp hq hpq z e w => ?_⟩
    · by_cases e : q = t
      · subst e
        rw [up_at, up_at, up_at]
        exact own
      · rw [up_ne _ _ e, up_ne _ _ e, up_ne _ _ e]
        exact ho.ry q hq
    · by_cases e : q = t
      · subst e
        rw [up_at]
        exact Or.inr fun z w u => nw q hq z (Or.inl u) w
      · rw [up_ne _ _ e, up_ne _ _ e]
        exact h.pl q hq
    · by_cases ep : p = t
      · subst ep
        rw [up_at] at e
        rw [up_ne _ _ (fun u => hpq u.symm)] at w
        rcases e with e | e
        · exact h.dis p q hp hq hpq z (Or.inl e) w
        · exact nw q hq z w e
      · rw [up_ne _ _ ep] at e
        by_cases eq : q = t
        · subst eq
          rw [up_at] at w
          rcases w with w | w
          · exact h.dis p q hp hq hpq z e (Or.inl w)
          · exact nw p hp z e w
        · rw [up_ne _ _ eq] at w
          exact h.dis p q hp hq hpq z e w
end
end Go.Proofs.Ytnfokemikcigbaa.Win
