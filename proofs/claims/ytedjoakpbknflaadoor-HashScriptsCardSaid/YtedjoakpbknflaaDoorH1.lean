import Derived.Test.YtedjoakpbknflaaDoorH0
namespace Go.Proofs.YtedjoakpbknflaaDoor
namespace Hs
open Go.RowKit

theorem info33 : ∃ i, Tryd.prog.info? 33 = some i ∧ i.zero = some (.slice none 0 0) ∧ i.size = 1 ∧ i.bytes = 24 := by
  have h : (Tryd.prog.info? 33).map (fun i => (i.zero, i.size, i.bytes)) = some (some (.slice none 0 0), 1, 24) := by kernel_rfl
  cases hq : Tryd.prog.info? 33 with
  | none => rw [hq] at h; cases h
  | some i =>
    rw [hq] at h
    simp only [Option.map_some, Option.some.injEq, Prod.mk.injEq] at h
    exact ⟨i, rfl, h.1, h.2.1, h.2.2⟩
theorem info27 : ∃ i, Tryd.prog.info? 27 = some i ∧ i.zero = some (.agg HS.new.cells) ∧ i.size = 73 ∧ i.bytes = 104 := by
  have h : (Tryd.prog.info? 27).map (fun i => (i.zero, i.size, i.bytes)) = some (some (.agg HS.new.cells), 73, 104) := by kernel_rfl
  cases hq : Tryd.prog.info? 27 with
  | none => rw [hq] at h; cases h
  | some i =>
    rw [hq] at h
    simp only [Option.map_some, Option.some.injEq, Prod.mk.injEq] at h
    exact ⟨i, rfl, h.1, h.2.1, h.2.2⟩
/-- Rows of another type than e are as they were. -/
def Keep (e : TypeId) (W W' : World) : Prop := W.heap.size ≤ W'.heap.size ∧ ∀ (g : Nat) (cs : Array Value) (t : TypeId), t ≠ e → W.heap[g]? = some (.cells cs t) → W'.heap[g]? = some (.cells cs t)
theorem keep_below (e : TypeId) {W W' : World} (h : Below W.heap.size W W') : Keep e W W' := ⟨h.size, fun g cs t _ hg => by rw [h.block _ (Array.getElem?_eq_some_iff.1 hg).1]; exact hg⟩
theorem keep_grown {W W' : World} {B s n : Nat} {e : TypeId} {v : Value} {xs : List Value} (h : W.ownsRow B e s v n xs) (hg : W.grownBy W' v.ownBlock) : Keep e W W' := by
  refine ⟨hg.size, fun g cs t ht hc => ?_⟩
  rw [hg.block g (Array.getElem?_eq_some_iff.1 hc).1 ?_]
  · exact hc
  · rcases h.2 with ⟨rfl, _⟩ | ⟨g', cap, cur, rfl, _, hg', _⟩
    · simp [Value.ownBlock]
    · simp only [Value.ownBlock]
      intro e'
      injection e' with e'
      subst e'
      rw [hc] at hg'
      simp only [Option.some.injEq, Obj.cells.injEq] at hg'
      exact ht hg'.2.1
theorem keep_cell {W : World} {g o : Nat} {cs : Array Value} (v : Value) (hg : W.heap[g]? = some (.cells cs 5)) : Keep 5 W (W.setCell ⟨g, o, none⟩ v) := by
  have hb : Below g W (W.setCell ⟨g, o, none⟩ v) := (Below.refl _ _).setCell (p := ⟨g, o, none⟩) (Nat.le_refl _) v
  refine ⟨hb.size, fun k cs' t ht hc => ?_⟩
  rw [Below.heap_setCell _ _ _ _ (fun e => ?_)]
  · exact hc
  · have e' : k = g := e
    subst e'
    rw [hc] at hg
    simp only [Option.some.injEq, Obj.cells.injEq] at hg
    exact ht hg.2.1
theorem own_keep {W W' : World} {B s n : Nat} {t e : TypeId} {v : Value} {xs : List Value} (h : W.ownsRow B t s v n xs) (ht : t ≠ e) (hk : Keep e W W') : W'.ownsRow B t s v n xs := by
  refine ⟨h.1, ?_⟩
  rcases h.2 with h0 | ⟨g, cap, cur, e1, h1, hg, h2⟩
  · exact Or.inl h0
  · exact Or.inr ⟨g, cap, cur, e1, h1, hk.2 g cur t ht hg, h2⟩
/-- A book. -/
structure Bk (W : World) (v : Value) (l : Nat) (p : Nat → Int) : Prop where
  shape : (v = .slice none 0 0 ∧ l = 0) ∨ ∃ g cap, v = .slice (some ⟨g, 0, none⟩) l cap ∧ l ≤ cap ∧ cap ≤ maxLen ∧ RowP W g l p
  bytes : ∀ j, j < l → 0 ≤ p j ∧ p j < 256
theorem Bk.sliceB {W : World} {v : Value} {l : Nat} {p : Nat → Int} (h : Bk W v l p) : SliceB W v l p := by
  rcases h.shape with ⟨rfl, rfl⟩ | ⟨g, cap, rfl, h1, h2, h3⟩
  · exact ⟨⟨_, _, rfl, Nat.le_refl _, by omega, fun h => by omega⟩, fun j hj => by omega⟩
  · exact h3.sliceB (Nat.le_refl _) h1 h2 h.bytes
theorem Bk.nil {W : World} {v : Value} {l : Nat} {p : Nat → Int} (h : Bk W v l p) : ∀ cap, v = .slice none l cap → cap = 0 := by
  intro cap e
  rcases h.shape with ⟨rfl, rfl⟩ | ⟨g, cap', rfl, _⟩
  · cases e; rfl
  · cases e
theorem Bk.form {W : World} {v : Value} {l : Nat} {p : Nat → Int} (h : Bk W v l p) : ∃ ao cap, v = .slice ao l cap := by
  rcases h.shape with ⟨rfl, rfl⟩ | ⟨g, cap, rfl, _⟩
  · exact ⟨_, _, rfl⟩
  · exact ⟨_, _, rfl⟩
theorem Bk.keep {W W' : World} {v : Value} {l : Nat} {p : Nat → Int} {e : TypeId} (h : Bk W v l p) (he : 5 ≠ e) (hk : Keep e W W') : Bk W' v l p := by
  refine ⟨?_, h.bytes⟩
  rcases h.shape with h0 | ⟨g, cap, e1, h1, h2, cur, h3, h4⟩
  · exact Or.inl h0
  · exact Or.inr ⟨g, cap, e1, h1, h2, cur, hk.2 g cur 5 he h3, h4⟩
theorem Bk.below {W W' : World} {v : Value} {l : Nat} {p : Nat → Int} (h : Bk W v l p) (hb : Below W.heap.size W W') : Bk W' v l p := h.keep (e := 6) (by decide) (keep_below 6 hb)
theorem bk_own {W : World} {B l : Nat} {v : Value} {p : Nat → Int} (h : W.ownsRow B 5 1 v l (vals (firstL p l))) (hb : ∀ j, j < l → 0 ≤ p j ∧ p j < 256) : Bk W v l p := by
  refine ⟨?_, hb⟩
  by_cases h0 : 0 < l
  · obtain ⟨g, cap, rfl, _, h2, h3, h4⟩ := own_rowP h h0
    exact Or.inr ⟨g, cap, rfl, h2, h3, h4⟩
  · rcases h.2 with ⟨rfl, rfl⟩ | ⟨g, cap, cur, rfl, _, hg, h1, h2, _⟩
    · exact Or.inl ⟨rfl, rfl⟩
    · exact Or.inr ⟨g, cap, rfl, h1, h2, cur, hg, fun j hj => by omega⟩

/-- The cells of the hashes. -/
def hL (S : Nat → HS) : Nat → List Value
  | 0 => []
  | n + 1 => hL S n ++ (S n).cells.toList
theorem hs_len (a : HS) : a.cells.toList.length = 73 := by simp [HS.cells, hc_size]
theorem hL_len (S : Nat → HS) : ∀ n, (hL S n).length = n * 73
  | 0 => by simp [hL]
  | n + 1 => by simp only [hL, List.length_append, hL_len S n, hs_len]; omega
theorem hL_get (S : Nat → HS) : ∀ (n k j : Nat), k < n → j < 73 → (hL S n)[k * 73 + j]? = (S k).cells.toList[j]?
  | 0, k, j, hk, _ => by omega
  | n + 1, k, j, hk, hj => by
    simp only [hL]
    by_cases h : k < n
    · rw [List.getElem?_append_left (by rw [hL_len]; omega)]
      exact hL_get S n k j h hj
    · obtain rfl : k = n := by omega
      rw [List.getElem?_append_right (by rw [hL_len]; omega), hL_len, Nat.add_sub_cancel_left]
theorem hL_congr {S S' : Nat → HS} : ∀ n, (∀ i, i < n → S i = S' i) → hL S n = hL S' n
  | 0, _ => rfl
  | n + 1, h => by simp only [hL]; rw [hL_congr n (fun i hi => h i (by omega)), h n (by omega)]
/-- The values of the books. -/
def bL (b : Nat → Value) : Nat → List Value
  | 0 => []
  | n + 1 => bL b n ++ [b n]
theorem bL_len (b : Nat → Value) : ∀ n, (bL b n).length = n
  | 0 => rfl
  | n + 1 => by simp [bL, bL_len b n]
theorem bL_get (b : Nat → Value) : ∀ (n k : Nat), k < n → (bL b n)[k]? = some (b k)
  | 0, k, hk => by omega
  | n + 1, k, hk => by
    simp only [bL]
    by_cases h : k < n
    · rw [List.getElem?_append_left (by rw [bL_len]; exact h)]
      exact bL_get b n k h
    · obtain rfl : k = n := by omega
      rw [List.getElem?_append_right (by rw [bL_len]; omega), bL_len]
      simp
theorem bL_congr {b b' : Nat → Value} : ∀ n, (∀ i, i < n → b i = b' i) → bL b n = bL b' n
  | 0, _ => rfl
  | n + 1, h => by simp only [bL]; rw [bL_congr n (fun i hi => h i (by omega)), h n (by omega)]
theorem own_g {W : World} {B s n : Nat} {e : TypeId} {v : Value} {xs : List Value} (h : W.ownsRow B e s v n xs) (hn : 0 < n) : ∃ g cap, v = .slice (some ⟨g, 0, none⟩) n cap ∧ g < W.heap.size ∧ ∀ j u, xs[j]? = some u → W.cell? ⟨g, j, none⟩ = some u := by
  rcases h.2 with ⟨_, rfl⟩ | ⟨g, cap, cur, rfl, _, hg, _, _, _, h4⟩
  · omega
  · refine ⟨g, cap, rfl, (Array.getElem?_eq_some_iff.1 hg).1, fun j u hu => ?_⟩
    rw [cell_of_row _ _ _ _ _ _ hg]
    rw [← h4] at hu
    have hj : j < n * s := by
      have h1 := (List.getElem?_eq_some_iff.1 hu).1
      simp at h1
      omega
    rw [List.getElem?_take, if_pos hj] at hu
    simpa using hu

section
variable {ops : Array Oper} {rest : List Oper} {o : Oper} {a : Act} {W : World} {Q : Exit → Act → World → Prop}
theorem isAppH (s x : Operand) (_ : o.op = .call { callee := .builtin .append, args := #[s, x], argTypes := #[38, 38] }) (h : wpList Tryd.prog ops Q (o :: rest) a W) : wpList Tryd.prog ops Q (o :: rest) a W := h
theorem isAppB (s x : Operand) (_ : o.op = .call { callee := .builtin .append, args := #[s, x], argTypes := #[35, 35] }) (h : wpList Tryd.prog ops Q (o :: rest) a W) : wpList Tryd.prog ops Q (o :: rest) a W := h
/-- One hash more. -/
theorem wpList_appH {B n : Nat} {v : Value} {S : Nat → HS} (hgd : o.guard = none) (s x : Operand)
    (ho : o.op = .call { callee := .builtin .append, args := #[s, x], argTypes := #[38, 38] })
    (hs : a.eval s = v) (ad : Addr) (hx : a.eval x = .slice (some ad) 1 1) (hown : W.ownsRow B 27 73 v n (hL S n)) (hsrc : ∀ j u, (S n).cells.toList[j]? = some u → W.cell? (ad.add j) = some u) (hn : n ≤ 1000) (hB : B ≤ W.heap.size)
    (h : ∀ v' W', W'.ownsRow B 27 73 v' (n + 1) (hL S (n + 1)) → W.grownBy W' v.ownBlock → wpList Tryd.prog ops Q rest (a.put o.dst v') W') : wpList Tryd.prog ops Q (o :: rest) a W := by
  obtain ⟨i, h1, h2, h3, h4⟩ := info27
  refine wpList_append_own W hgd s x 38 ho B 27 i (.agg HS.new.cells) 73 104 Tryd.underlying38 h1 h2 h3 h4 (by simp [Value.cells, HS.cells, hc_size]) (by decide) v n (hL S n) hs hown ad 1 1 (S n).cells.toList hx (by rw [hs_len]) hsrc ?_ (by unfold maxLen; omega) (by omega) hB ?_
  · intro u hu
    have := hc_one (S n).g (S n).r (S n).n
    rw [Array.all_eq_true_iff_forall_mem] at this
    exact this u (by simpa [HS.cells] using hu)
  · intro v' W' hown' hg _
    exact h v' W' hown' hg
/-- One book more. -/
theorem wpList_appB {B n : Nat} {v : Value} {b : Nat → Value} (hgd : o.guard = none) (s x : Operand)
    (ho : o.op = .call { callee := .builtin .append, args := #[s, x], argTypes := #[35, 35] })
    (hs : a.eval s = v) (ad : Addr) (hx : a.eval x = .slice (some ad) 1 1) (hown : W.ownsRow B 33 1 v n (bL b n)) (hsrc : W.cell? (ad.add 0) = some (b n)) (h1c : (b n).oneCell' = true) (hn : n ≤ 1000) (hB : B ≤ W.heap.size)
    (h : ∀ v' W', W'.ownsRow B 33 1 v' (n + 1) (bL b (n + 1)) → W.grownBy W' v.ownBlock → wpList Tryd.prog ops Q rest (a.put o.dst v') W') : wpList Tryd.prog ops Q (o :: rest) a W := by
  obtain ⟨i, h1, h2, h3, h4⟩ := info33
  refine wpList_append_own W hgd s x 35 ho B 33 i (.slice none 0 0) 1 24 Tryd.underlying35 h1 h2 h3 h4 (by simp [Value.cells]) (by decide) v n (bL b n) hs hown ad 1 1 [b n] hx (by simp) ?_ ?_ (by unfold maxLen; omega) (by omega) hB ?_
  · intro j u hu
    have hj : j = 0 := by have := (List.getElem?_eq_some_iff.1 hu).1; simp at this; exact this
    subst hj
    simp at hu
    rw [← hu]; exact hsrc
  · intro u hu
    simp at hu
    rw [hu]; exact h1c
  · intro v' W' hown' hg _
    exact h v' W' hown' hg
/-- Bytes behind a row of one's own: what it leaves. -/
theorem wpList_appX {B n m c : Nat} {v : Value} {l r : List Int} {ao : Option Addr} (hgd : o.guard = none) (s x : Operand)
    (ho : o.op = .call { callee := .builtin .append, args := #[s, x], argTypes := #[33, 33] })
    (hs : a.eval s = v) (hx : a.eval x = .slice ao m c) (hown : W.ownsRow B 5 1 v n (vals l)) (hr : r.length = m)
    (hsrc : (ao = none ∧ m = 0 ∧ c = 0) ∨ ∃ ad, ao = some ad ∧ ∀ j u, (vals r)[j]? = some u → W.cell? (ad.add j) = some u)
    (hbig : n + m ≤ 200000000000000) {w0 : World} (hb : Below B w0 W) (hB : B ≤ W.heap.size)
    (h : ∀ v' W', W'.ownsRow B 5 1 v' (n + m) (vals (l ++ r)) → Below B w0 W' → B ≤ W'.heap.size → wpList Tryd.prog ops Q rest (a.put o.dst v') W') : wpList Tryd.prog ops Q (o :: rest) a W :=
  wpList_appS hgd s x ho hs hx hown hr hsrc hbig hb hB h
end
end Hs
end Go.Proofs.YtedjoakpbknflaaDoor
