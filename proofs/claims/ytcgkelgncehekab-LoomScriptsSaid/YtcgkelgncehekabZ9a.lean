import Derived.Test.YtcgkelgncehekabG9c
namespace Go.Proofs.Ytcgkelgncehekab.Drw
open Go.RowKit Gf8 Aes By8 Cel Cf Tap
/- Lists of ints. -/

/-- A []int. -/
structure SliceI (w : World) (v : Value) (len : Nat) (f : Nat → Int) : Prop where
  shape : ∃ a cap, v = .slice a len cap ∧ len ≤ cap ∧ cap ≤ maxLen ∧ (0 < len → ∃ b off, a = some ⟨b, off, none⟩ ∧ b < w.heap.size ∧ ∀ j, j < len → w.cell? ⟨b, off + j, none⟩ = some (.int .i64 (f j)))
  fits : ∀ j, j < len → -9223372036854775808 ≤ f j ∧ f j < 9223372036854775808
theorem SliceI.on {w w' : World} {v : Value} {len : Nat} {f : Nat → Int} (h : SliceI w v len f) (hb : Below w.heap.size w w') : SliceI w' v len f := by
  obtain ⟨⟨a, cap, e, h1, h2, h3⟩, hp⟩ := h
  refine ⟨⟨a, cap, e, h1, h2, fun h0 => ?_⟩, hp⟩
  obtain ⟨b, off, e1, e2, e3⟩ := h3 h0
  exact ⟨b, off, e1, Nat.lt_of_lt_of_le e2 hb.size, fun j hj => by rw [cell_below hb e2]; exact e3 j hj⟩
theorem SliceI.cg {w : World} {v : Value} {len : Nat} {f g : Nat → Int} (h : SliceI w v len f) (e : ∀ j, j < len → f j = g j) : SliceI w v len g := by
  obtain ⟨⟨a, cap, q, h1, h2, h3⟩, hp⟩ := h
  refine ⟨⟨a, cap, q, h1, h2, fun h0 => ?_⟩, fun j hj => by rw [← e j hj]; exact hp j hj⟩
  obtain ⟨b, off, e1, e2, e3⟩ := h3 h0
  exact ⟨b, off, e1, e2, fun j hj => by rw [e3 j hj, e j hj]⟩
theorem SliceI.shp {w : World} {v : Value} {len : Nat} {f : Nat → Int} (h : SliceI w v len f) : ∃ a c, v = .slice a len c := by
  obtain ⟨a, c, e, _⟩ := h.shape
  exact ⟨a, c, e⟩
theorem slice_nilI {V : World} {f : Nat → Int} : SliceI V (.slice none 0 0) 0 f := ⟨⟨_, _, rfl, Nat.le_refl _, by unfold maxLen; omega, fun h => by omega⟩, fun j hj => by omega⟩
/-- The cells of a list of ints. -/
def intsL (n : Nat) (f : Nat → Int) : List Value := (List.range n).map fun j => .int .i64 (f j)
theorem intsL_len (n : Nat) (f : Nat → Int) : (intsL n f).length = n := by simp [intsL]
theorem intsL_get {n j : Nat} {f : Nat → Int} (h : j < n) : (intsL n f)[j]? = some (.int .i64 (f j)) := by simp [intsL, h]
theorem intsL_succ (n : Nat) (f : Nat → Int) : intsL (n + 1) f = intsL n f ++ [.int .i64 (f n)] := by simp [intsL, List.range_succ]
theorem intsL_congr {n : Nat} {f g : Nat → Int} (h : ∀ j, j < n → f j = g j) : intsL n f = intsL n g := by
  unfold intsL
  apply List.map_congr_left
  intro i hi
  rw [h i (List.mem_range.1 hi)]
theorem own_ints {W : World} {B n : Nat} {v : Value} {f : Nat → Int} (h : W.ownsRow B 3 1 v n (intsL n f)) (hf : ∀ j, j < n → -9223372036854775808 ≤ f j ∧ f j < 9223372036854775808) : SliceI W v n f := by
  rcases h.2 with ⟨rfl, rfl⟩ | ⟨g, cap, cur, rfl, _, hg, h1, h2, h3, h4⟩
  · exact slice_nilI
  · refine ⟨⟨_, _, rfl, h1, h2, fun _ => ⟨g, 0, rfl, (Array.getElem?_eq_some_iff.1 hg).1, fun j hj => ?_⟩⟩, hf⟩
    rw [cell_of_row _ _ _ _ _ _ hg, Nat.zero_add, ← Array.getElem?_toList]
    have := intsL_get (f := f) hj
    rw [← h4, List.getElem?_take, if_pos (by omega)] at this
    exact this
section
variable {o : Oper} {a : Act} {w : World}
theorem execLenI {x : Operand} {v : Value} {len : Nat} (ho : o.op = .call { callee := .builtin .len, args := #[x], argTypes := #[22] }) (hx : a.eval x = v) (hv : ∃ ao c, v = .slice ao len c) : (execOp a.eval o).run Try.prog w = .ok (.value (.int .i64 (len : Int))) w := by
  obtain ⟨ao, c, rfl⟩ := hv
  unfold execOp
  simp only [ho, resolve, invoke, builtin, Sem.run_bind, Sem.run_pure, Result.andThen_ok, List.map_toArray, List.map_cons, List.map_nil, hx]
  simp [go_sem]
theorem execIdxN {x i : Operand} {g off n cap k : Nat} (ho : o.op = .indexAddr 22 x i) (hx : a.eval x = .slice (some ⟨g, off, none⟩) n cap) (hi : a.eval i = .int .i64 (k : Int)) (hk : k < n) : (execOp a.eval o).run Try.prog w = .ok (.value (.pointer (some ⟨g, off + k, none⟩))) w := by
  have h1 : (k : Int) < n := by omega
  unfold execOp
  simp only [ho, hx, hi]
  simp [go_sem, h1]
set_option maxRecDepth 100000 in
theorem execMkI {x : Operand} {n : Nat} (ho : o.op = .makeSlice 22 (.const (.int .i64 0)) x) (hx : a.eval x = .int .i64 (n : Int)) (hn : n ≤ 17592186044416) : (execOp a.eval o).run Try.prog w = .ok (.value (.slice (some ⟨w.heap.size, 0, none⟩) 0 n)) (w.alloc (.cells (madeCells #[.int .i64 0] n) 3)) := by
  obtain ⟨i, h1, h2, h3, h4⟩ : ∃ i, Try.prog.info? 3 = some i ∧ i.zero = some (.int .i64 0) ∧ i.size = 1 ∧ i.bytes = 8 := ⟨_, rfl, by kernel_rfl, by kernel_rfl, by kernel_rfl⟩
  have h := run_make (P := Try.prog) w 22 3 i (.int .i64 0) Try.underlying22 h1 h2 .i64 .i64 0 (n : Int) (by omega) (by omega) (by rw [h4]; omega) (by omega)
  rw [h3, Int.toNat_natCast, Nat.mul_one] at h
  have ec : a.eval (.const (.int .i64 0)) = .int .i64 0 := rfl
  unfold execOp
  simp only [ho, hx, ec, Sem.run_bind, h, Result.andThen_ok, Sem.run_pure]
  rfl
set_option maxRecDepth 100000 in
theorem execBsI {x : Operand} {z : Int} (ho : o.op = .buildSlice 22 1 #[(0, x)]) (hx : a.eval x = .int .i64 z) : (execOp a.eval o).run Try.prog w = .ok (.value (.slice (some ⟨w.heap.size, 0, none⟩) 1 1)) (w.alloc (.cells #[.int .i64 z] 3)) := by
  unfold execOp
  simp only [ho, List.map_toArray, List.map_cons, List.map_nil, hx]
  simp [go_sem]
end
set_option maxRecDepth 100000 in
theorem infoI : ∃ i, Try.prog.info? 3 = some i ∧ i.zero = some (.int .i64 0) ∧ i.size = 1 ∧ i.bytes = 8 := ⟨_, rfl, by kernel_rfl, by kernel_rfl, by kernel_rfl⟩
/-- append of one int. -/
theorem stepAppI {ops : Array Oper} {Q : Exit → Act → World → Prop} {K : Act → World → Prop} {j : Nat} {o : Oper} {a : Act} {W : World} {s x : Operand} {B n g : Nat} {v : Value} {f : Nat → Int} (hos : ops[j]? = some o) (hgd : Region.wanted o (yielded ops a.tmps) = true)
    (ho : o.op = .call { callee := .builtin .append, args := #[s, x], argTypes := #[22, 22] }) (hs : a.eval s = v) (hx : a.eval x = .slice (some ⟨g, 0, none⟩) 1 1) (hown : W.ownsRow B 3 1 v n (intsL n f)) (hg : W.heap[g]? = some (.cells #[.int .i64 (f n)] 3)) (hn : n + 1 ≤ 17592186044416) (hB : B ≤ W.heap.size)
    (hK : ∀ v' W', W'.ownsRow B 3 1 v' (n + 1) (intsL (n + 1) f) → W.grownBy W' v.ownBlock → K (a.put o.dst v') W') : wpOp Try.prog ops Q j K a W := by
  obtain ⟨i, i1, i2, i3, i4⟩ := infoI
  obtain ⟨v', W', run, q1, q2⟩ := execAppO (W := W) (news := [.int .i64 (f n)]) ho Try.underlying22 i1 i2 i3 i4 rfl (by decide) hs hown hx rfl (fun j u hu => by
    rw [Go.WideShapes.add_plain, cell_of_row _ _ _ _ _ _ hg, Nat.zero_add, ← Array.getElem?_toList]
    exact hu) (fun u hu => by
    obtain rfl := List.mem_singleton.1 hu
    rfl) (by unfold maxLen; omega) (by omega) hB
  rw [← intsL_succ] at q1
  exact stepV hos hgd run (hK v' W' q1 q2)
end Go.Proofs.Ytcgkelgncehekab.Drw

namespace Go.Proofs.Ytcgkelgncehekab.Drw
open Go.RowKit Gf8 Aes By8 Cel Cf Tap
/- Lists of ints: rows of one's own, what stays, append, make; pieces of code. General: it lies at any seat with []int and []uint8. -/

theorem ownD_below {W W' : World} {B n : Nat} {v : Value} {xs : List Value} {t : TypeId} {s : Nat} (h : W.ownsRow B t s v n xs) (hb : Below W.heap.size W W') : W'.ownsRow B t s v n xs := by
  refine ⟨h.1, ?_⟩
  rcases h.2 with h | ⟨g, cap, cur, e, hB, hg, hr⟩
  · exact Or.inl h
  · exact Or.inr ⟨g, cap, cur, e, hB, on9 hg hb, hr⟩
theorem ownD_base {W : World} {B C t s n : Nat} {v : Value} {xs : List Value} (h : W.ownsRow C t s v n xs) (hB : B ≤ C) : W.ownsRow B t s v n xs := by
  refine ⟨h.1, ?_⟩
  rcases h.2 with h | ⟨g, cap, cur, e, hC, h1⟩
  · exact Or.inl h
  · exact Or.inr ⟨g, cap, cur, e, Nat.le_trans hB hC, h1⟩
theorem results_tmp2 {fn : Func} {t u : Tmp} (h : fn.results = #[.tmp t, .tmp u]) (tmps : Array Value) (P : Program) (w : World) : (results fn tmps).run P w = .ok (.tuple #[tmps.getD t undef, tmps.getD u undef]) w := by
  simp [results, h]
theorem intsL_app (n m : Nat) (f g : Nat → Int) : intsL n f ++ intsL m g = intsL (n + m) (catI n f g) := by
  unfold intsL
  rw [List.range_add, List.map_append, List.map_map]
  congr 1
  · exact List.map_congr_left fun j hj => by rw [catI_lo (List.mem_range.1 hj)]
  · exact List.map_congr_left fun j _ => by simp only [Function.comp]; rw [catI_hi]
theorem intsL_one (n : Nat) (f : Nat → Int) : ∀ u ∈ intsL n f, u.oneCell' = true := fun u hu => by
  obtain ⟨j, _, rfl⟩ := List.mem_map.1 hu
  rfl
theorem execBs0I {o : Oper} {a : Act} {w : World} (ho : o.op = .buildSlice 22 0 #[]) : (execOp a.eval o).run Try.prog w = .ok (.value (.slice (some ⟨w.heap.size, 0, none⟩) 0 0)) (w.alloc (.cells #[] 3)) := by
  unfold execOp
  simp only [ho]
  simp [go_sem]
theorem catI_fits {n m : Nat} {f g : Nat → Int} (hf : ∀ j, j < n → -9223372036854775808 ≤ f j ∧ f j < 9223372036854775808) (hg : ∀ j, j < m → -9223372036854775808 ≤ g j ∧ g j < 9223372036854775808) : ∀ j, j < n + m → -9223372036854775808 ≤ catI n f g j ∧ catI n f g j < 9223372036854775808 := fun j hj => by
  unfold catI
  by_cases h : j < n
  · rw [if_pos h]; exact hf j h
  · rw [if_neg h]; exact hg _ (by omega)
theorem own_cellI {W : World} {B n g cap j : Nat} {f : Nat → Int} (h : W.ownsRow B 3 1 (.slice (some ⟨g, 0, none⟩) n cap) n (intsL n f)) (hj : j < n) : W.cell? ⟨g, 0 + j, none⟩ = some (.int .i64 (f j)) ∧ W.frozen? ⟨g, 0 + j, none⟩ = false := by
  rw [Nat.zero_add]
  rcases h.2 with ⟨e, _⟩ | ⟨g', cap', cur, e, _, hg, h1, h2, h3, h4⟩
  · cases e
  · injection e with e1 _ _
    injection e1 with e1
    injection e1 with e1 _ _
    subst e1
    refine ⟨?_, frozen4 hg⟩
    rw [cell_of_row _ _ _ _ _ _ hg, ← Array.getElem?_toList]
    have h5 : (cur.toList.take (n * 1))[j]? = some (.int .i64 (f j)) := by rw [h4]; exact intsL_get hj
    rw [List.getElem?_take_of_lt (by omega)] at h5
    exact h5
theorem own_setF {W : World} {B n g cap k : Nat} {f : Nat → Int} (z : Int) (h : W.ownsRow B 3 1 (.slice (some ⟨g, 0, none⟩) n cap) n (intsL n f)) : (W.setCell ⟨g, 0 + k, none⟩ (.int .i64 z)).ownsRow B 3 1 (.slice (some ⟨g, 0, none⟩) n cap) n (intsL n (fun j => if j = k then z else f j)) := by
  rw [Nat.zero_add]
  refine ⟨by rw [intsL_len, Nat.mul_one], ?_⟩
  rcases h.2 with ⟨e, _⟩ | ⟨g', cap', cur, e, hB, hg, h1, h2, h3, h4⟩
  · cases e
  · injection e with e1 e2 e3
    injection e1 with e1
    injection e1 with e1 _ _
    subst e1
    subst e3
    refine Or.inr ⟨g, cap, cur.setIfInBounds k (.int .i64 z), rfl, hB, heap4 _ hg, h1, h2, by simpa using h3, ?_⟩
    apply List.ext_getElem?
    intro j
    have h5 : (cur.toList.take (n * 1))[j]? = (intsL n f)[j]? := by rw [h4]
    by_cases hj : j < n
    · rw [List.getElem?_take_of_lt (by omega), intsL_get hj] at h5
      rw [List.getElem?_take_of_lt (by omega), intsL_get hj, Array.getElem?_toList, Array.getElem?_setIfInBounds]
      by_cases hk : k = j
      · subst hk
        rw [if_pos rfl, if_pos rfl, if_pos (by simp at h3; omega)]
      · rw [if_neg hk, if_neg (fun q => hk q.symm), ← Array.getElem?_toList]
        exact h5
    · rw [List.getElem?_eq_none (by simp; omega), List.getElem?_eq_none (by rw [intsL_len]; omega)]
def leadR : Code → Nat → Bool
  | .seq x _, k => leadR x k
  | .region id _ _, k => Nat.beq id k
  | _, _ => false
/-- A row stays where a cell of a block of another type is set. -/
theorem own_offT {W : World} {B n s g k : Nat} {t u : TypeId} {v z : Value} {xs : List Value} {c : Array Value} {fr : Nat × Nat} (h : W.ownsRow B t s v n xs) (hg : W.heap[g]? = some (.cells c u fr)) (ht : u ≠ t) : (W.setCell ⟨g, k, none⟩ z).ownsRow B t s v n xs := by
  refine ⟨h.1, ?_⟩
  rcases h.2 with h | ⟨g1, cap, cur, e, hB, h1, hr⟩
  · exact Or.inl h
  · refine Or.inr ⟨g1, cap, cur, e, hB, ?_, hr⟩
    rw [Below.heap_setCell _ _ _ _ (fun q => ?_)]
    · exact h1
    · have q2 : g1 = g := q
      subst q2
      rw [h1] at hg
      injection hg with hg
      injection hg with _ hg _
      exact ht hg.symm
theorem heap_overL {W W' : World} {B n s : Nat} {v : Value} {xs : List Value} {g : Nat} {c : Array Value} {t u : TypeId} {fr : Nat × Nat} (h : W.ownsRow B u s v n xs) (hg : W.grownBy W' v.ownBlock) (hh : W.heap[g]? = some (.cells c t fr)) (ht : t ≠ u) : W'.heap[g]? = some (.cells c t fr) := by
  rw [hg.block g (Array.getElem?_eq_some_iff.1 hh).1 (fun q => ?_)]
  · exact hh
  · rcases h.2 with ⟨rfl, _⟩ | ⟨k, cap, cur, rfl, _, h1, _⟩
    · cases q
    · obtain rfl : g = k := by simpa [Value.ownBlock] using q
      rw [h1] at hh
      injection hh with hh
      injection hh with _ hh _
      exact ht hh.symm
theorem own_cur {W : World} {B n g c : Nat} {t : TypeId} {xs : List Value} (h : W.ownsRow B t 1 (.slice (some ⟨g, 0, none⟩) n c) n xs) : ∃ cur, W.heap[g]? = some (.cells cur t) ∧ B ≤ g := by
  rcases h.2 with ⟨e, _⟩ | ⟨g', cap', cur, e, hB, hg, _⟩
  · cases e
  · injection e with e1 _ _
    injection e1 with e1
    injection e1 with e1 _ _
    subst e1
    exact ⟨cur, hg, hB⟩
theorem own_cap {W : World} {B n g c : Nat} {t : TypeId} {xs : List Value} (h : W.ownsRow B t 1 (.slice (some ⟨g, 0, none⟩) n c) n xs) : n ≤ c := by
  rcases h.2 with ⟨e, _⟩ | ⟨g', cap', cur, e, _, _, h1, _⟩
  · cases e
  · injection e with _ _ e3
    omega
theorem own_overT {W W' : World} {B n s C m s' : Nat} {t u : TypeId} {v v2 : Value} {xs ys : List Value} (h : W.ownsRow B t s v n xs) (h2 : W.ownsRow C u s' v2 m ys) (gr : W.grownBy W' v2.ownBlock) (ht : t ≠ u) : W'.ownsRow B t s v n xs := by
  refine ⟨h.1, ?_⟩
  rcases h.2 with e | ⟨g1, cap, cur, e, hB, h1, hr⟩
  · exact Or.inl e
  · exact Or.inr ⟨g1, cap, cur, e, hB, heap_overL h2 gr h1 ht, hr⟩
theorem own_overB {W W' : World} {B n s C m s' : Nat} {t u : TypeId} {v v2 : Value} {xs ys : List Value} (h : W.ownsRow B t s v n xs) (hv : ∀ k, v.ownBlock = some k → k < C) (h2 : W.ownsRow C u s' v2 m ys) (gr : W.grownBy W' v2.ownBlock) : W'.ownsRow B t s v n xs :=
  ownW_grown h gr fun k e q => by
    have a1 := hv k e
    have a2 := (h2.lt k q).1
    omega
end Go.Proofs.Ytcgkelgncehekab.Drw
