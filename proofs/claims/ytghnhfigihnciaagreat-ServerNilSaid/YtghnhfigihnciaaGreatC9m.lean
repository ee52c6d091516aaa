import Derived.Test.YtghnhfigihnciaaGreatC9i
namespace Go.Proofs.YtghnhfigihnciaaGreat.Win
open Go.RowKit Gf8 Aes By8 Cel Cf
/- Windows in memory of their own; what Open and Add need. Written by tools/mkC9m.py. -/

/-- A function changed at one place. -/
def up {α : Type} (f : Nat → α) (k : Nat) (z : α) (j : Nat) : α := if j = k then z else f j
theorem up_at {α : Type} (f : Nat → α) (k : Nat) (z : α) : up f k z k = z := if_pos rfl
theorem up_ne {α : Type} (f : Nat → α) {k j : Nat} (z : α) (h : j ≠ k) : up f k z j = f j := if_neg h
/-- The cells of a row of epochs. -/
def epV (nu : Nat → Int) (tw : Nat → Value) : Nat → List Value
  | 0 => []
  | n + 1 => epV nu tw n ++ [.int .i64 (nu n), tw n]
theorem epV_len (nu : Nat → Int) (tw : Nat → Value) : ∀ n, (epV nu tw n).length = n * 2
  | 0 => rfl
  | n + 1 => by rw [epV, List.length_append, epV_len]; show n * 2 + 2 = _; omega
theorem epV_at (nu : Nat → Int) (tw : Nat → Value) : ∀ n j, j < n → (epV nu tw n)[j * 2 + 0]? = some (.int .i64 (nu j)) ∧ (epV nu tw n)[j * 2 + 1]? = some (tw j)
  | 0, j, h => absurd h (Nat.not_lt_zero j)
  | n + 1, j, h => by
    rw [epV]
    by_cases e : j = n
    · subst e
      constructor
      · rw [List.getElem?_append_right (by rw [epV_len]; omega), epV_len, show j * 2 + 0 - j * 2 = 0 by omega]; rfl
      · rw [List.getElem?_append_right (by rw [epV_len]; omega), epV_len, show j * 2 + 1 - j * 2 = 1 by omega]; rfl
    · have := epV_at nu tw n j (by omega)
      exact ⟨by rw [List.getElem?_append_left (by rw [epV_len]; omega)]; exact this.1, by rw [List.getElem?_append_left (by rw [epV_len]; omega)]; exact this.2⟩
section
variable {W W' : World} {B n s : Nat} {t : TypeId} {v : Value} {xs : List Value}
theorem ownE_below (h : W.ownsRow B t s v n xs) (hb : Below W.heap.size W W') : W'.ownsRow B t s v n xs := by
  refine ⟨h.1, ?_⟩
  rcases h.2 with h | ⟨g, cap, cur, e, hB, hg, hr⟩
  · exact Or.inl h
  · exact Or.inr ⟨g, cap, cur, e, hB, by rw [hb.block _ (Array.getElem?_eq_some_iff.1 hg).1]; exact hg, hr⟩
theorem ownE_base {C : Nat} (h : W.ownsRow B t s v n xs) (hC : C ≤ B) : W.ownsRow C t s v n xs := by
  refine ⟨h.1, ?_⟩
  rcases h.2 with h | ⟨g, cap, cur, e, hB, hg, hr⟩
  · exact Or.inl h
  · exact Or.inr ⟨g, cap, cur, e, Nat.le_trans hC hB, hg, hr⟩
theorem ne_type {g k : Nat} {c d : Array Value} {u w : TypeId} (h1 : W.heap[g]? = some (.cells c u)) (h2 : W.heap[k]? = some (.cells d w)) (h : u ≠ w) : k ≠ g := fun q => by
  subst q
  rw [h1] at h2
  injection h2 with h2
  injection h2 with _ h2 _
  exact h h2
theorem ownE_setC {g i : Nat} {c : Array Value} {x : Value} {u : TypeId} (h : W.ownsRow B t s v n xs) (hg : W.heap[g]? = some (.cells c u)) (hu : u ≠ t) : (W.setCell ⟨g, i, none⟩ x).ownsRow B t s v n xs := by
  refine ⟨h.1, ?_⟩
  rcases h.2 with h | ⟨k, cap, cur, e, hB, hk, hr⟩
  · exact Or.inl h
  · exact Or.inr ⟨k, cap, cur, e, hB, by rw [heap4o _ hg (Ne.symm (ne_type hg hk hu)).symm]; exact hk, hr⟩
theorem heapE_over {g : Nat} {c : Array Value} {u : TypeId} (h : W.ownsRow B t s v n xs) (hg : W.grownBy W' v.ownBlock) (hh : W.heap[g]? = some (.cells c u)) (hu : u ≠ t) : W'.heap[g]? = some (.cells c u) := by
  rw [hg.block g (Array.getElem?_eq_some_iff.1 hh).1 (fun q => ?_)]
  · exact hh
  · rcases h.2 with ⟨rfl, _⟩ | ⟨k, cap, cur, rfl, _, h1, _⟩
    · cases q
    · obtain rfl : g = k := by simpa [Value.ownBlock] using q
      exact ne_type h1 hh (fun e => hu e.symm) rfl
theorem ownE_over {B2 n2 s2 : Nat} {u : Value} {ys : List Value} {t2 : TypeId} (h : W.ownsRow B t s v n xs) (hu : W.ownsRow B2 t2 s2 u n2 ys) (gr : W.grownBy W' u.ownBlock) (ht : t ≠ t2) : W'.ownsRow B t s v n xs := by
  refine ⟨h.1, ?_⟩
  rcases h.2 with h | ⟨g, cap, cur, e, hB, hg, hr⟩
  · exact Or.inl h
  · exact Or.inr ⟨g, cap, cur, e, hB, heapE_over hu gr hg ht, hr⟩
end
/-- A list of epochs in memory of its own, each list of tags too. -/
structure NwE (B : Nat) (W : World) (v : Value) (n : Nat) (nu : Nat → Int) (tw : Nat → Value) (ln : Nat → Nat) (t : Nat → Nat → Nat → Nat) : Prop where
  row : W.ownsRow B 65 2 v n (epV nu tw n)
  lists : ∀ j, j < n → W.ownsRow B 74 16 (tw j) (ln j) (tgV (t j) (ln j))
  dis : ∀ i j, i < n → j < n → i ≠ j → ∀ b, (tw i).ownBlock = some b → (tw j).ownBlock ≠ some b
  byt : ∀ j, j < n → ∀ k, k < ln j → ∀ i, i < 16 → t j k i < 256
  nums : ∀ j, j < n → I64 (nu j)
section
variable {B n : Nat} {W W' : World} {v : Value} {nu : Nat → Int} {tw : Nat → Value} {ln : Nat → Nat} {t : Nat → Nat → Nat → Nat}
theorem NwE.zero (B : Nat) (W : World) (nu : Nat → Int) (tw : Nat → Value) (ln : Nat → Nat) (t : Nat → Nat → Nat → Nat) : NwE B W (.slice none 0 0) 0 nu tw ln t :=
  ⟨World.ownsRow_nil _ _ _ _, fun j h => absurd h (Nat.not_lt_zero j), fun i _ h => absurd h (Nat.not_lt_zero i), fun j h => absurd h (Nat.not_lt_zero j), fun j h => absurd h (Nat.not_lt_zero j)⟩
theorem NwE.on (h : NwE B W v n nu tw ln t) (hb : Below W.heap.size W W') : NwE B W' v n nu tw ln t := ⟨ownE_below h.row hb, fun j hj => ownE_below (h.lists j hj) hb, h.dis, h.byt, h.nums⟩
theorem NwE.base {C : Nat} (h : NwE B W v n nu tw ln t) (hC : C ≤ B) : NwE C W v n nu tw ln t := ⟨ownE_base h.row hC, fun j hj => ownE_base (h.lists j hj) hC, h.dis, h.byt, h.nums⟩
theorem NwE.eps (h : NwE B W v n nu tw ln t) : Eps W v n nu tw ln t := by
  refine ⟨?_, fun j hj => own_tgs (h.lists j hj) (h.byt j hj), h.nums⟩
  rcases h.row.2 with ⟨rfl, rfl⟩ | ⟨g, cap, cur, rfl, _, hg, q1, q2, q3, q4⟩
  · exact ⟨_, _, rfl, Nat.le_refl _, by omega, fun h0 => absurd h0 (Nat.lt_irrefl _)⟩
  · have hm : maxLen < 9223372036854775808 := by decide
    refine ⟨_, _, rfl, q1, by omega, fun _ => ⟨g, 0, rfl, (Array.getElem?_eq_some_iff.1 hg).1, fun j hj => ?_⟩⟩
    have h5 := epV_at nu tw n j hj
    rw [← q4, List.getElem?_take_of_lt (by omega), List.getElem?_take_of_lt (by omega)] at h5
    exact ⟨by rw [cell_of_row _ _ _ _ _ _ hg, Nat.zero_add, ← Array.getElem?_toList]; exact h5.1, by rw [cell_of_row _ _ _ _ _ _ hg, Nat.zero_add, ← Array.getElem?_toList]; exact h5.2⟩
/-- The row's block and the lists' lie below the memory's end. -/
theorem NwE.lt (h : NwE B W v n nu tw ln t) : (∀ b, v.ownBlock = some b → b < W.heap.size) ∧ ∀ j, j < n → ∀ b, (tw j).ownBlock = some b → b < W.heap.size := ⟨fun b hb => (h.row.lt b hb).2, fun j hj b hb => ((h.lists j hj).lt b hb).2⟩
/-- One epoch more. -/
theorem NwE.push {C m : Nat} {v' u : Value} {z : Int} {s : Nat → Nat → Nat} (h : NwE B W v n nu tw ln t) (hu : W.ownsRow C 74 16 u m (tgV s m)) (hlo : ∀ j, j < n → ∀ b, (tw j).ownBlock = some b → b < C) (hC : B ≤ C) (hs : ∀ k, k < m → ∀ i, i < 16 → s k i < 256) (hz : I64 z) (own' : W'.ownsRow B 65 2 v' (n + 1) (epV (up nu n z) (up tw n u) (n + 1))) (gr : W.grownBy W' v.ownBlock) : NwE B W' v' (n + 1) (up nu n z) (up tw n u) (up ln n m) (up t n s) := by
  have hu' : W'.ownsRow C 74 16 u m (tgV s m) := ownE_over hu h.row gr (by decide)
  refine ⟨own', fun j hj => ?_, fun i j hi hj hij b hb => ?_, fun j hj => ?_, fun j hj => ?_⟩
  · by_cases e : j = n
    · subst e
      rw [up_at, up_at, up_at]
      exact ownE_base hu' hC
    · rw [up_ne _ _ e, up_ne _ _ e, up_ne _ _ e]
      exact ownE_over (h.lists j (by omega)) h.row gr (by decide)
  · by_cases e : i = n
    · subst e
      rw [up_at] at hb
      rw [up_ne _ _ (Ne.symm hij)]
      intro q
      have h1 := hlo j (by omega) b q
      have h2 := (hu.lt b hb).1
      omega
    · rw [up_ne _ _ e] at hb
      by_cases e2 : j = n
      · subst e2
        rw [up_at]
        intro q
        have h1 := hlo i (by omega) b hb
        have h2 := (hu.lt b q).1
        omega
      · rw [up_ne _ _ e2]
        exact h.dis i j (by omega) (by omega) hij b hb
  · by_cases e : j = n
    · subst e
      rw [up_at, up_at]
      exact hs
    · rw [up_ne _ _ e, up_ne _ _ e]
      exact h.byt j (by omega)
  · by_cases e : j = n
    · subst e
      rw [up_at]
      exact hz
    · rw [up_ne _ _ e]
      exact h.nums j (by omega)
end
section
variable {o : Oper} {a : Act} {w : World}
end
theorem ownE_shp {W : World} {B n s : Nat} {t : TypeId} {v : Value} {xs : List Value} (h : W.ownsRow B t s v n xs) : ∃ g n c, v = .slice g n c := by
  rcases h.2 with ⟨e, _⟩ | ⟨g', cap', cur, e, _⟩
  · exact ⟨_, _, _, e⟩
  · exact ⟨_, _, _, e⟩
end Go.Proofs.YtghnhfigihnciaaGreat.Win
