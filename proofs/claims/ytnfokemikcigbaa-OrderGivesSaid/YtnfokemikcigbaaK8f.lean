import Derived.Test.YtnfokemikcigbaaK8d
namespace Go.Proofs.Ytnfokemikcigbaa.Ord
open Go.RowKit Gf8 Aes By8 Cel Cf Win Drw Prm
open Go.ChangeMaps Go.MapKept
/- What a buffer holds beside its book; pairs of ints in rows. -/

theorem lkp_app {S : Its} {i : Int} {x : Value} (h : i ∉ kys S) (k : Int) : lkp (S ++ [(i, x)]) k = if k = i then some x else lkp S k := by
  induction S with
  | nil =>
    show (if i = k then some x else none) = _
    by_cases e : k = i
    · rw [if_pos e, if_pos e.symm]
    · rw [if_neg e, if_neg (fun w => e w.symm)]; rfl
  | cons p S ih =>
    have h2 : i ≠ p.1 ∧ i ∉ kys S := by
      have : i ∉ p.1 :: kys S := h
      rw [List.mem_cons, not_or] at this
      exact this
    show (if p.1 = k then some p.2 else lkp (S ++ [(i, x)]) k) = _
    rw [ih h2.2]
    by_cases e : p.1 = k
    · rw [if_pos e, if_neg (fun w => h2.1 (by rw [e, w]))]
      show _ = if p.1 = k then _ else _
      rw [if_pos e]
    · rw [if_neg e]
      by_cases e2 : k = i
      · rw [if_pos e2, if_pos e2]
      · rw [if_neg e2, if_neg e2]
        show _ = if p.1 = k then _ else _
        rw [if_neg e]
theorem lkp_wo {S : Its} {i k : Int} : lkp (wo S i) k = if k = i then none else lkp S k := by
  induction S with
  | nil => show none = _; split <;> rfl
  | cons p S ih =>
    unfold wo at *
    by_cases e : p.1 = i
    · rw [List.filter_cons, if_neg (by simp [e]), ih]
      by_cases e2 : k = i
      · rw [if_pos e2, if_pos e2]
      · rw [if_neg e2, if_neg e2]
        show _ = if p.1 = k then _ else _
        rw [if_neg (fun w => e2 (by rw [← w, e]))]
    · rw [List.filter_cons, if_pos (by simp [e])]
      show (if p.1 = k then _ else _) = _
      rw [ih]
      by_cases e3 : p.1 = k
      · rw [if_pos e3, if_neg (fun w => e (by rw [e3, w]))]
        show _ = if p.1 = k then _ else _
        rw [if_pos e3]
      · rw [if_neg e3]
        by_cases e2 : k = i
        · rw [if_pos e2, if_pos e2]
        · rw [if_neg e2, if_neg e2]
          show _ = if p.1 = k then _ else _
          rw [if_neg e3]
/-- What a buffer holds, beside all that it has taken in (l items, numbers p, items q) and how many it has given out. -/
structure Bk (p q : Nat → Int) (l n : Nat) (S : Its) : Prop where
  num : ∀ j, j < l → 0 ≤ p j ∧ I64 (p j)
  inj : ∀ j k, j < l → k < l → p j = p k → j = k
  out : ∀ m : Nat, m < n → ∃ j, j < l ∧ p j = (m : Int)
  look : ∀ (i : Int) (v : Value), lkp S i = some v ↔ ∃ j, j < l ∧ p j = i ∧ (n : Int) ≤ i ∧ v = .int .i64 (q j)
  len : S.length + n = l
section
variable {p q : Nat → Int} {l n : Nat} {S : Its} {i x : Int}
theorem Bk.zero (p q : Nat → Int) : Bk p q 0 0 [] :=
  ⟨fun j h => absurd h (Nat.not_lt_zero j), fun j _ h => absurd h (Nat.not_lt_zero j), fun j h => absurd h (Nat.not_lt_zero j), fun i v => ⟨fun h => (by cases h), fun ⟨j, h, _⟩ => absurd h (Nat.not_lt_zero j)⟩, rfl⟩
theorem Bk.mem (h : Bk p q l n S) : i ∈ kys S ↔ ∃ j, j < l ∧ p j = i ∧ (n : Int) ≤ i := by
  constructor
  · intro w
    cases hl : lkp S i with
    | none => exact absurd w (lkp_none.1 hl)
    | some v =>
      obtain ⟨j, h1, h2, h3, _⟩ := (h.look i v).1 hl
      exact ⟨j, h1, h2, h3⟩
  · rintro ⟨j, h1, h2, h3⟩
    exact kys_of ((h.look i _).2 ⟨j, h1, h2, h3, rfl⟩)
/-- A number that was taken in: it waits, or is below what comes next. -/
theorem Bk.twice (h : Bk p q l n S) (h0 : 0 ≤ i) : (i ∈ kys S ∨ i < (n : Int)) ↔ ∃ j, j < l ∧ p j = i := by
  constructor
  · rintro (w | w)
    · obtain ⟨j, h1, h2, _⟩ := h.mem.1 w
      exact ⟨j, h1, h2⟩
    · obtain ⟨j, h1, h2⟩ := h.out i.toNat (by omega)
      exact ⟨j, h1, by rw [h2]; omega⟩
  · rintro ⟨j, h1, h2⟩
    by_cases e : i < (n : Int)
    · exact Or.inr e
    · exact Or.inl (h.mem.2 ⟨j, h1, h2, by omega⟩)
theorem Bk.put (h : Bk p q l n S) (h0 : 0 ≤ i) (hi : I64 i) (hno : ∀ j, j < l → p j ≠ i) : Bk (up p l i) (up q l x) (l + 1) n (S ++ [(i, .int .i64 x)]) := by
  have hni : ¬ (i ∈ kys S ∨ i < (n : Int)) := fun w => by
    obtain ⟨j, h1, h2⟩ := (h.twice h0).1 w
    exact hno j h1 h2
  refine ⟨fun j hj => ?_, fun j k hj hk e => ?_, fun m hm => ?_, fun k v => ?_, ?_⟩
  · by_cases e : j = l
    · rw [e, up_at]; exact ⟨h0, hi⟩
    · rw [up_ne _ _ e]; exact h.num j (by omega)
  · by_cases e1 : j = l
    · by_cases e2 : k = l
      · omega
      · rw [e1, up_at, up_ne _ _ e2] at e
        exact absurd e.symm (hno k (by omega))
    · rw [up_ne _ _ e1] at e
      by_cases e2 : k = l
      · rw [e2, up_at] at e
        exact absurd e (hno j (by omega))
      · rw [up_ne _ _ e2] at e
        exact h.inj j k (by omega) (by omega) e
  · obtain ⟨j, h1, h2⟩ := h.out m hm
    exact ⟨j, by omega, by rw [up_ne _ _ (by omega)]; exact h2⟩
  · rw [lkp_app (fun w => hni (Or.inl w))]
    constructor
    · intro w
      by_cases e : k = i
      · rw [if_pos e] at w
        cases w
        exact ⟨l, by omega, by rw [up_at, e], by rw [e]; omega, by rw [up_at]⟩
      · rw [if_neg e] at w
        obtain ⟨j, h1, h2, h3, h4⟩ := (h.look k v).1 w
        exact ⟨j, by omega, by rw [up_ne _ _ (by omega)]; exact h2, h3, by rw [up_ne _ _ (by omega)]; exact h4⟩
    · rintro ⟨j, h1, h2, h3, h4⟩
      by_cases e : j = l
      · subst e
        rw [up_at] at h2 h4
        rw [if_pos h2.symm, h4]
      · rw [up_ne _ _ e] at h2 h4
        rw [if_neg (fun w => hno j (by omega) (by rw [h2, w]))]
        exact (h.look k v).2 ⟨j, by omega, h2, h3, h4⟩
  · have := h.len
    simp
    omega
theorem Bk.next (h : Bk p q l n S) (hn : (kys S).Nodup) {v : Value} (hl : lkp S (n : Int) = some v) : Bk p q l (n + 1) (wo S (n : Int)) := by
  refine ⟨h.num, h.inj, fun m hm => ?_, fun k u => ?_, ?_⟩
  · by_cases e : m = n
    · obtain ⟨j, h1, h2, _⟩ := (h.look _ _).1 hl
      exact ⟨j, h1, by rw [h2, e]⟩
    · exact h.out m (by omega)
  · rw [lkp_wo]
    constructor
    · intro w
      by_cases e : k = (n : Int)
      · rw [if_pos e] at w; cases w
      · rw [if_neg e] at w
        obtain ⟨j, h1, h2, h3, h4⟩ := (h.look k u).1 w
        exact ⟨j, h1, h2, by omega, h4⟩
    · rintro ⟨j, h1, h2, h3, h4⟩
      rw [if_neg (by omega)]
      exact (h.look k u).2 ⟨j, h1, h2, by omega, h4⟩
  · have := h.len
    have := wo_len hn (kys_of hl)
    omega
/-- What comes next, if it was taken in. -/
theorem Bk.at (h : Bk p q l n S) {j : Nat} (hj : j < l) (e : p j = (n : Int)) : lkp S (n : Int) = some (.int .i64 (q j)) := (h.look _ _).2 ⟨j, hj, e, Int.le_refl _, rfl⟩
theorem Bk.none (h : Bk p q l n S) (e : ∀ j, j < l → p j ≠ (n : Int)) : ((n : Nat) : Int) ∉ kys S := fun w => by
  obtain ⟨j, h1, h2, _⟩ := h.mem.1 w
  exact e j h1 h2
end
/- Pairs of ints in rows. -/
/-- A list of pairs. -/
def SliceP (w : World) (v : Value) (n : Nat) (p q : Nat → Int) : Prop :=
  ∃ a c, v = .slice a n c ∧ (0 < n → ∃ b o, a = some ⟨b, o, none⟩ ∧ b < w.heap.size ∧ ∀ j, j < n → w.cell? ⟨b, o + j * 2, none⟩ = some (.int .i64 (p j)) ∧ w.cell? ⟨b, o + j * 2 + 1, none⟩ = some (.int .i64 (q j)))
section
variable {W X : World} {v : Value} {n : Nat} {p q : Nat → Int}
theorem SliceP.on (h : SliceP W v n p q) (hb : Below W.heap.size W X) : SliceP X v n p q := by
  obtain ⟨a, c, e, h3⟩ := h
  refine ⟨a, c, e, fun h0 => ?_⟩
  obtain ⟨b, o, e1, e2, e3⟩ := h3 h0
  exact ⟨b, o, e1, Nat.lt_of_lt_of_le e2 hb.size, fun j hj => ⟨by rw [cell_below hb e2]; exact (e3 j hj).1, by rw [cell_below hb e2]; exact (e3 j hj).2⟩⟩
theorem SliceP.shp (h : SliceP W v n p q) : ∃ a c, v = .slice a n c := by
  obtain ⟨a, c, e, _⟩ := h
  exact ⟨a, c, e⟩
theorem SliceP.at (h : SliceP W v n p q) (h0 : 0 < n) : ∃ b o c, v = .slice (some ⟨b, o, none⟩) n c ∧ b < W.heap.size ∧ ∀ j, j < n → W.cell? ⟨b, o + j * 2, none⟩ = some (.int .i64 (p j)) ∧ W.cell? ⟨b, o + j * 2 + 1, none⟩ = some (.int .i64 (q j)) := by
  obtain ⟨a, c, e, h3⟩ := h
  obtain ⟨b, o, e1, e2, e3⟩ := h3 h0
  exact ⟨b, o, c, by rw [e, e1], e2, e3⟩
end
section
variable {o : Oper} {a : Act} {w : World}
end
theorem sv_bel {F : Nat → Prop} {U X Y : World} (hb : Below U.heap.size U X) (hs : Saved F X Y) (hF : ∀ q, F q → U.heap.size ≤ q) : Below U.heap.size U Y := by
  refine hb.trans ⟨hs.os, hs.tape, hs.output, hs.size, fun k hk => ?_⟩
  exact hs.block k (Nat.lt_of_lt_of_le hk hb.size) (fun h => Nat.not_lt.2 (hF k h) hk)
theorem bk_saved {F : Nat → Prop} {X Y : World} {g : Nat} {c : Obj} (h : X.heap[g]? = some c) (hs : Saved F X Y) (hn : ¬ F g) : Y.heap[g]? = some c := (hs.block g (Array.getElem?_eq_some_iff.1 h).1 hn).trans h
end Go.Proofs.Ytnfokemikcigbaa.Ord
