import Derived.Test.YtcgkelgncehekabE8y
import Derived.Test.YtcgkelgncehekabE8t
import Derived.Test.YtcgkelgncehekabN8s
namespace Go.Proofs.Ytcgkelgncehekab.Loo
open Go.RowKit Gf8 Aes By8 Cel Cf Win Drw Prm
/- LoomScripts. Written by tools/mkE8z.py. -/

theorem nextcap_n {need old : Nat} (h : old < need) (ho : old ≤ 65536) (hn : need ≤ 17592186109440) : Builtin.nextslicecap need old * 8 ≤ 281474976710656 := by
  unfold Builtin.nextslicecap
  split
  · omega
  · split
    · omega
    · rw [growBy_four]
      repeat' split
      all_goals omega
/-- append to a list that has no room left. -/
theorem run_appN (W : World) (ty : TypeId) (g n m : Nat) (f q : Nat → Int) (u : Value) (cur : Array Value) (hg : W.heap[g]? = some (.cells cur 3)) (hc : n ≤ cur.size) (hv : ∀ j, j < n → cur[j]? = some (.int .i64 (f j))) (hf : ∀ j, j < n → I64 (f j)) (hu : SliceI W u m q) (hnil : ∀ l c, u = .slice none l c → c = 0) (hn : n ≤ 65536) (hm : m ≤ 17592186043904) :
    ∃ v' W', (Builtin.append_ #[22, 22] ty #[.slice (some ⟨g, 0, none⟩) n n, u]).run Try.prog W = .ok v' W' ∧ SliceI W' v' (n + m) (catI n f q) ∧ Below W.heap.size W W' := by
  obtain ⟨i, i1, i2, i3, i4⟩ := infoI
  have hu0 := hu
  obtain ⟨⟨ao, cap, rfl, hl1, hLz, hcu⟩, hfu⟩ := hu
  have lg := (Array.getElem?_eq_some_iff.1 hg).1
  have hcell : ∀ j, j < n → W.cell? ⟨g, 0 + j, none⟩ = some (.int .i64 (f j)) := fun j hj => by
    rw [cell_of_row _ _ _ _ _ _ hg, Nat.zero_add]
    exact hv j hj
  have same : ∀ W', Below W.heap.size W W' → m = 0 → SliceI W' (.slice (some ⟨g, 0, none⟩) (n + m) n) (n + m) (catI n f q) := fun W' hb hm0 => by
    subst hm0
    refine ⟨⟨_, _, rfl, by omega, by unfold maxLen; omega, fun h0 => ⟨g, 0, rfl, Nat.lt_of_lt_of_le lg hb.size, fun j hj => ?_⟩⟩, fun j hj => ?_⟩
    · rw [cell_below hb lg, hcell j (by omega), catI_lo (by omega)]
    · rw [catI_lo (by omega)]; exact hf j (by omega)
  cases ao with
  | none =>
    have hm0 : m = 0 := by
      rcases Nat.eq_zero_or_pos m with e | e
      · exact e
      · obtain ⟨_, _, e', _⟩ := hcu e
        cases e'
    have hcap := hnil _ _ rfl
    subst hcap
    refine ⟨.slice (some ⟨g, 0, none⟩) n n, W, ?_, ?_, Below.refl _ _⟩
    · rw [hm0]
      simp [Builtin.append_, run_underlying Try.underlying22, sizeOf, typeInfo, i1, Builtin.lenOf, Builtin.firstCells, loadCells, storeCells, Addr.add_mid]
    · have := same W (Below.refl _ _) hm0
      rw [hm0] at this ⊢
      exact this
  | some ad =>
    have hnews : ∀ j z, (intsL m q)[j]? = some z → W.cell? (ad.add j) = some z := fun j z hz => by
      have hj : j < m := by have := (List.getElem?_eq_some_iff.1 hz).1; rw [intsL_len] at this; exact this
      obtain ⟨b, off, e, _, e3⟩ := hcu (by omega)
      obtain rfl : ad = ⟨b, off, none⟩ := Option.some.inj e
      rw [Go.WideShapes.add_plain, e3 j hj]
      rw [intsL_get hj] at hz
      exact hz
    by_cases hm0 : m = 0
    · have hr := run_append_room (P := Try.prog) W 22 ty 3 i Try.underlying22 i1 g n n cur hg ad m cap (intsL m q) (by rw [intsL_len, i3, Nat.mul_one]) hnews (intsL_one _ _) (by omega) (by rw [intsL_len, i3, Nat.mul_one]; omega)
      have e1 : (cur.toList.take (n * i.size) ++ intsL m q ++ cur.toList.drop (n * i.size + (intsL m q).length)).toArray = cur := by
        rw [intsL_len, hm0, Nat.add_zero, show intsL 0 q = [] from rfl, List.append_nil, List.take_append_drop]
      rw [e1] at hr
      have hb : Below W.heap.size W (W.setRow g cur) := by
        have hb0 : Below g W (W.setRow g cur) := below4 (Below.refl _ _) (Nat.le_refl _) _
        refine ⟨hb0.os, hb0.tape, hb0.output, hb0.size, fun b _ => ?_⟩
        by_cases w : b = g
        · rw [w, setRow_heap _ _ _ _ _ _ hg, hg]
        · rw [setRow_other _ _ _ _ w]
      exact ⟨_, _, hr, same _ hb hm0, hb⟩
    · have hr := run_append_grow (P := Try.prog) W 22 ty 3 i (.int .i64 0) Try.underlying22 i1 i2 ⟨g, 0, none⟩ n n (intsL n f) (by rw [intsL_len, i3, Nat.mul_one]) (fun j z hz => by
        have hj : j < n := by have := (List.getElem?_eq_some_iff.1 hz).1; rw [intsL_len] at this; exact this
        rw [Go.WideShapes.add_plain, hcell j hj]
        rw [intsL_get hj] at hz
        exact hz) ad m cap (intsL m q) (by rw [intsL_len, i3, Nat.mul_one]) hnews (by omega) (by omega) (by rw [i4]; exact nextcap_n (by omega) hn (by omega))
      refine ⟨_, _, hr, ⟨⟨_, _, rfl, grownCap_ge W (n + m) n 3, grownCap_le_maxLen W (n + m) n 3 (by unfold maxLen; omega), fun _ => ⟨W.heap.size, 0, rfl, by simp [World.alloc], fun j hj => ?_⟩⟩, catI_fits hf hfu⟩, ((Below.refl W.heap.size W).drew).alloc (Nat.le_refl _) _⟩
      have hh : (W.drew.alloc (.cells ((intsL n f).toArray ++ (intsL m q).toArray ++ Builtin.zeroCells (Value.cells (.int .i64 0)) (grownCap W (n + m) n 3 - (n + m))) 3)).heap[W.heap.size]? = some (.cells ((intsL n f).toArray ++ (intsL m q).toArray ++ Builtin.zeroCells (Value.cells (.int .i64 0)) (grownCap W (n + m) n 3 - (n + m))) 3) := heapNew W.drew _
      rw [cell_of_row _ _ _ _ _ _ hh, Nat.zero_add, Array.getElem?_append_left (by simp [intsL_len]; omega), List.append_toArray, List.getElem?_toArray, intsL_app]
      exact intsL_get hj
theorem nil_I {W : World} {f : Nat → Int} : SliceI W (.slice none 0 0) 0 f := ⟨⟨_, _, rfl, Nat.le_refl _, Nat.zero_le _, fun h => by omega⟩, fun j hj => by omega⟩
theorem sl_nn {W : World} {B k n : Nat} {v : Value} {f : Nat → Int} (h : W.ownsRow B 3 1 v k (intsL k f)) (hn : n ≤ k) : ∃ r, (∀ X, (Instr.sliceAt 22 v none (some (.int .i64 ((n : Nat) : Int))) (some (.int .i64 ((n : Nat) : Int)))).run Try.prog X = .ok r X) ∧ ((r = .slice none 0 0 ∧ n = 0) ∨ ∃ g cur, r = .slice (some ⟨g, 0, none⟩) n n ∧ W.heap[g]? = some (.cells cur 3) ∧ n ≤ cur.size ∧ ∀ j, j < n → cur[j]? = some (.int .i64 (f j))) := by
  rcases h.2 with ⟨w, w2⟩ | ⟨g, cap, cur, w, _, h2, h3, _, h5, h6⟩
  · obtain rfl : n = 0 := by omega
    obtain ⟨i, i1, _⟩ := Duc.infI
    refine ⟨.slice none 0 0, fun X => ?_, Or.inl ⟨rfl, rfl⟩⟩
    rw [w]
    simp [Instr.sliceAt, Instr.slice, run_underlying Try.underlying22, Instr.sliceBounds, run_sliceBound, sizeOf, typeInfo, i1]
  · refine ⟨.slice (some ⟨g, 0, none⟩) n n, fun X => ?_, Or.inr ⟨g, cur, rfl, h2, by omega, fun j hj => ?_⟩⟩
    · rw [w]
      have e1 : (n : Int) ≤ cap := by omega
      obtain ⟨i, i1, _⟩ := Duc.infI
      simp [Instr.sliceAt, Instr.slice, run_underlying Try.underlying22, Instr.sliceBounds, run_sliceBound, e1, sizeOf, typeInfo, i1, Addr.add_mid]
    · have := intsL_get (f := f) (show j < k by omega)
      rw [← h6, List.getElem?_take, if_pos (by omega), Array.getElem?_toList] at this
      exact this
/-- The same, and to nil. -/
theorem run_appM (W : World) (ty : TypeId) (v : Value) (n m : Nat) (f q : Nat → Int) (u : Value) (hw : (v = .slice none 0 0 ∧ n = 0) ∨ ∃ g cur, v = .slice (some ⟨g, 0, none⟩) n n ∧ W.heap[g]? = some (.cells cur 3) ∧ n ≤ cur.size ∧ ∀ j, j < n → cur[j]? = some (.int .i64 (f j))) (hf : ∀ j, j < n → I64 (f j)) (hu : SliceI W u m q) (hnil : ∀ l c, u = .slice none l c → c = 0) (hn : n ≤ 65536) (hm : m ≤ 17592186043904) :
    ∃ v' W', (Builtin.append_ #[22, 22] ty #[v, u]).run Try.prog W = .ok v' W' ∧ SliceI W' v' (n + m) (catI n f q) ∧ Below W.heap.size W W' := by
  rcases hw with ⟨rfl, rfl⟩ | ⟨g, cur, rfl, h1, h2, h3⟩
  · obtain ⟨i, i1, i2, i3, i4⟩ := infoI
    obtain ⟨⟨ao, cap, rfl, hl1, hLz, hcu⟩, hfu⟩ := hu
    cases ao with
    | none =>
      obtain rfl : m = 0 := by
        rcases Nat.eq_zero_or_pos m with e | e
        · exact e
        · obtain ⟨_, _, e', _⟩ := hcu e
          cases e'
      obtain rfl := hnil _ _ rfl
      exact ⟨.slice none 0 0, W, by simp [Builtin.append_, run_underlying Try.underlying22, sizeOf, typeInfo, i1, Builtin.lenOf, Builtin.firstCells], nil_I, Below.refl _ _⟩
    | some ad =>
      have hnews : ∀ j z, (intsL m q)[j]? = some z → W.cell? (ad.add j) = some z := fun j z hz => by
        have hj : j < m := by have := (List.getElem?_eq_some_iff.1 hz).1; rw [intsL_len] at this; exact this
        obtain ⟨b, off, e, _, e3⟩ := hcu (by omega)
        obtain rfl : ad = ⟨b, off, none⟩ := Option.some.inj e
        rw [Go.WideShapes.add_plain, e3 j hj]
        rw [intsL_get hj] at hz
        exact hz
      by_cases hm0 : m = 0
      · subst hm0
        exact ⟨.slice none 0 0, W, by simp [Builtin.append_, run_underlying Try.underlying22, sizeOf, typeInfo, i1, Builtin.lenOf, Builtin.firstCells, loadCells, loadCellsFrom], nil_I, Below.refl _ _⟩
      · have hr := run_append_nil (P := Try.prog) W 22 ty 3 i (.int .i64 0) Try.underlying22 i1 i2 ad m cap (intsL m q) (by rw [intsL_len, i3, Nat.mul_one]) hnews (by omega) (by omega) (by rw [i4]; omega)
        refine ⟨_, _, hr, ⟨⟨_, _, by rw [Nat.zero_add], by rw [Nat.zero_add]; exact grownCap_ge W m 0 3, grownCap_le_maxLen W m 0 3 (by unfold maxLen; omega), fun _ => ⟨W.heap.size, 0, rfl, by simp [World.alloc], fun j hj => ?_⟩⟩, catI_fits hf hfu⟩, ((Below.refl W.heap.size W).drew).alloc (Nat.le_refl _) _⟩
        have hh : (W.drew.alloc (.cells ((intsL m q).toArray ++ Builtin.zeroCells (Value.cells (.int .i64 0)) (grownCap W m 0 3 - m)) 3)).heap[W.heap.size]? = some (.cells ((intsL m q).toArray ++ Builtin.zeroCells (Value.cells (.int .i64 0)) (grownCap W m 0 3 - m)) 3) := heapNew W.drew _
        rw [cell_of_row _ _ _ _ _ _ hh, Nat.zero_add, Array.getElem?_append_left (by simp [intsL_len]; omega), List.getElem?_toArray]
        have e1 : catI 0 f q j = q j := by unfold catI; rw [if_neg (by omega), Nat.sub_zero]
        rw [e1]
        exact intsL_get (by omega)
  · exact run_appN W ty g n m f q u cur h1 h2 h3 hf hu hnil hn hm
theorem execSl3I {o : Oper} {a : Act} {w : World} {x y z : Operand} {v vy vz r : Value} (ho : o.op = .slice 22 x none (some y) (some z)) (hx : a.eval x = v) (hy : a.eval y = vy) (hz : a.eval z = vz) (hr : (Instr.sliceAt 22 v none (some vy) (some vz)).run Try.prog w = .ok r w) : (execOp a.eval o).run Try.prog w = .ok (.value r) w := by
  unfold execOp
  simp only [ho, hx, hy, hz, Option.map_some, Option.map_none, Sem.run_bind, hr, Result.andThen_ok, Sem.run_pure]
theorem nil_V {W : World} {f : Nat → Value} : SliceV W (.slice none 0 0) 0 f := ⟨_, _, rfl, fun h => by omega⟩

/-- append to an empty row of one's own. -/
theorem run_app0 (W : World) (ty : TypeId) (B g m : Nat) (q : Nat → Int) (u : Value) (hg : W.heap[g]? = some (.cells #[] 3)) (hB : B ≤ g) (hu : SliceI W u m q) (hnil : ∀ l c, u = .slice none l c → c = 0) (hm : m ≤ 17592186043904) :
    ∃ v' W', (Builtin.append_ #[22, 22] ty #[.slice (some ⟨g, 0, none⟩) 0 0, u]).run Try.prog W = .ok v' W' ∧ W'.ownsRow B 3 1 v' m (intsL m q) ∧ Below W.heap.size W W' := by
  obtain ⟨i, i1, i2, i3, i4⟩ := infoI
  obtain ⟨⟨ao, cap, rfl, hl1, hLz, hcu⟩, hfu⟩ := hu
  have lg := (Array.getElem?_eq_some_iff.1 hg).1
  have own0 : ∀ X : World, X.heap[g]? = some (.cells #[] 3) → X.ownsRow B 3 1 (.slice (some ⟨g, 0, none⟩) 0 0) 0 (intsL 0 q) := fun X hX => ⟨rfl, Or.inr ⟨g, 0, #[], rfl, hB, hX, Nat.le_refl _, Nat.zero_le _, rfl, rfl⟩⟩
  cases ao with
  | none =>
    obtain rfl : m = 0 := by
      rcases Nat.eq_zero_or_pos m with e | e
      · exact e
      · obtain ⟨_, _, e', _⟩ := hcu e
        cases e'
    obtain rfl := hnil _ _ rfl
    refine ⟨.slice (some ⟨g, 0, none⟩) 0 0, W, ?_, own0 W hg, Below.refl _ _⟩
    simp [Builtin.append_, run_underlying Try.underlying22, sizeOf, typeInfo, i1, Builtin.lenOf, Builtin.firstCells, loadCells, storeCells, Addr.add_mid]
  | some ad =>
    have hnews : ∀ j z, (intsL m q)[j]? = some z → W.cell? (ad.add j) = some z := fun j z hz => by
      have hj : j < m := by have := (List.getElem?_eq_some_iff.1 hz).1; rw [intsL_len] at this; exact this
      obtain ⟨b, off, e, _, e3⟩ := hcu (by omega)
      obtain rfl : ad = ⟨b, off, none⟩ := Option.some.inj e
      rw [Go.WideShapes.add_plain, e3 j hj]
      rw [intsL_get hj] at hz
      exact hz
    by_cases hm0 : m = 0
    · subst hm0
      have hr := run_append_room (P := Try.prog) W 22 ty 3 i Try.underlying22 i1 g 0 0 #[] hg ad 0 cap (intsL 0 q) (by rw [intsL_len, i3, Nat.mul_one]) hnews (intsL_one _ _) (by omega) (by rw [intsL_len, i3, Nat.mul_one]; exact Nat.zero_le _)
      have e1 : (((#[] : Array Value).toList.take (0 * i.size) ++ intsL 0 q ++ (#[] : Array Value).toList.drop (0 * i.size + (intsL 0 q).length)).toArray) = #[] := by
        rw [intsL_len, show intsL 0 q = [] from rfl]
        simp
      rw [e1] at hr
      have hgs := setRow_heap W g #[] #[] 3 (0, 0) hg
      have hb : Below W.heap.size W (W.setRow g #[]) := by
        have hb0 : Below g W (W.setRow g #[]) := below4 (Below.refl _ _) (Nat.le_refl _) _
        refine ⟨hb0.os, hb0.tape, hb0.output, hb0.size, fun b _ => ?_⟩
        by_cases w : b = g
        · rw [w, setRow_heap _ _ _ _ _ _ hg, hg]
        · rw [setRow_other _ _ _ _ w]
      exact ⟨_, _, hr, own0 _ hgs, hb⟩
    · have hr := run_append_grow (P := Try.prog) W 22 ty 3 i (.int .i64 0) Try.underlying22 i1 i2 ⟨g, 0, none⟩ 0 0 (intsL 0 q) (by rw [intsL_len, i3, Nat.mul_one]) (fun j z hz => by cases hz) ad m cap (intsL m q) (by rw [intsL_len, i3, Nat.mul_one]) hnews (by omega) (by omega) (by rw [i4]; exact nextcap_n (by omega) (by omega) (by omega))
      have hge := grownCap_ge W (0 + m) 0 3
      have hge2 := grownCap_ge W m 0 3
      refine ⟨_, _, hr, ⟨by rw [intsL_len, Nat.mul_one], Or.inr ⟨W.heap.size, _, _, by rw [Nat.zero_add], by omega, heapNew W.drew _, by omega, grownCap_le_maxLen W (0 + m) 0 3 (by unfold maxLen; omega), ?_, ?_⟩⟩, ((Below.refl W.heap.size W).drew).alloc (Nat.le_refl _) _⟩
      · simp [intsL_len, Builtin.zeroCells, Value.cells]
        omega
      · rw [show intsL 0 q = [] from rfl]
        simp [intsL_len]
section
variable {ops : Array Oper} {Q : Exit → Act → World → Prop} {K : Act → World → Prop} {j : Nat} {o : Oper} {a : Act} {W : World} {s x : Operand} {B g m n : Nat} {u v : Value} {f q : Nat → Int}
theorem stepApp0 (hos : ops[j]? = some o) (hgd : Region.wanted o (yielded ops a.tmps) = true)
    (ho : o.op = .call { callee := .builtin .append, args := #[s, x], argTypes := #[22, 22] }) (hs : a.eval s = .slice (some ⟨g, 0, none⟩) 0 0) (hx : a.eval x = u) (hg : W.heap[g]? = some (.cells #[] 3)) (hB : B ≤ g) (hu : SliceI W u m q) (hnil : ∀ l c, u = .slice none l c → c = 0) (hm : m ≤ 17592186043904)
    (hK : ∀ v' W', W'.ownsRow B 3 1 v' m (intsL m q) → Below W.heap.size W W' → K (a.put o.dst v') W') : wpOp Try.prog ops Q j K a W := by
  obtain ⟨v', W', hr, q1, q2⟩ := run_app0 W o.type B g m q u hg hB hu hnil hm
  refine stepV hos hgd (v := v') (w' := W') ?_ (hK v' W' q1 q2)
  unfold execOp
  simp only [ho, resolve, invoke, builtin, Sem.run_bind, Sem.run_pure, Result.andThen_ok, List.map_toArray, List.map_cons, List.map_nil, hs, hx, hr]
/-- What s[:n:n] leaves. -/
def Cut (W : World) (r : Value) (n : Nat) (f : Nat → Int) : Prop := (r = .slice none 0 0 ∧ n = 0) ∨ ∃ g cur, r = .slice (some ⟨g, 0, none⟩) n n ∧ W.heap[g]? = some (.cells cur 3) ∧ n ≤ cur.size ∧ ∀ j, j < n → cur[j]? = some (.int .i64 (f j))
theorem Cut.on {X : World} (h : Cut W v n f) (hb : Below W.heap.size W X) : Cut X v n f := by
  rcases h with h | ⟨g, cur, e, h1, h2⟩
  · exact Or.inl h
  · exact Or.inr ⟨g, cur, e, on9 h1 hb, h2⟩
theorem Cut.keepT {X : World} {b : Nat} {c : Array Value} {t : TypeId} (h : Cut W v n f) (hg : W.heap[b]? = some (.cells c t)) (ht : t ≠ 3) (gr : W.grownBy X (some b)) : Cut X v n f := by
  rcases h with h | ⟨g, cur, e, h1, h2⟩
  · exact Or.inl h
  · exact Or.inr ⟨g, cur, e, Loo.keepT h1 hg ht gr, h2⟩
theorem stepAppM (hos : ops[j]? = some o) (hgd : Region.wanted o (yielded ops a.tmps) = true)
    (ho : o.op = .call { callee := .builtin .append, args := #[s, x], argTypes := #[22, 22] }) (hs : a.eval s = v) (hx : a.eval x = u) (hw : Cut W v n f) (hf : ∀ j, j < n → I64 (f j)) (hu : SliceI W u m q) (hnil : ∀ l c, u = .slice none l c → c = 0) (hn : n ≤ 65536) (hm : m ≤ 17592186043904)
    (hK : ∀ v' W', SliceI W' v' (n + m) (catI n f q) → Below W.heap.size W W' → K (a.put o.dst v') W') : wpOp Try.prog ops Q j K a W := by
  obtain ⟨v', W', hr, q1, q2⟩ := run_appM W o.type v n m f q u hw hf hu hnil hn hm
  refine stepV hos hgd (v := v') (w' := W') ?_ (hK v' W' q1 q2)
  unfold execOp
  simp only [ho, resolve, invoke, builtin, Sem.run_bind, Sem.run_pure, Result.andThen_ok, List.map_toArray, List.map_cons, List.map_nil, hs, hx, hr]
theorem execBs0I {w : World} (ho : o.op = .buildSlice 22 0 #[]) : (execOp a.eval o).run Try.prog w = .ok (.value (.slice (some ⟨w.heap.size, 0, none⟩) 0 0)) (w.alloc (.cells #[] 3)) := by
  unfold execOp
  simp only [ho, List.map_toArray, List.map_nil]
  simp [go_sem]
theorem execBz {w : World} (ho : o.op = .build 29 #[]) : (execOp a.eval o).run Try.prog w = .ok (.value (.agg (hC (.slice none 0 0) 0 false false 0 (.slice none 0 0)))) w := by
  unfold execOp
  simp only [ho, List.map_toArray, List.map_nil]
  kernel_rfl
theorem execLdPz {w : World} {u v : Value} {t : TypeId} (ho : o.op = .load 25 x) (hx : a.eval x = .pointer (some ⟨g, 0, none⟩)) (hg : w.heap[g]? = some (.cells #[u, v] t)) : (execOp a.eval o).run Try.prog w = .ok (.value (.agg #[u, v])) w := by
  obtain ⟨h0, h1⟩ := plB_at hg
  have h := execLoadMid (P := Try.prog) (cs := [u, v]) ho hx (fun j z hz => by
    match j, hz with
    | 0, hz => exact h0.trans hz
    | 1, hz => exact h1.trans hz
    | j + 2, hz => cases hz) Try.underlying25 rfl (by show _ = some 2; kernel_rfl)
  exact h
end
def slLen : Value → Nat
  | .slice _ n _ => n
  | _ => 0
theorem own_len {W : World} {B n : Nat} {v : Value} {xs : List Value} {T : TypeId} {s : Nat} (h : W.ownsRow B T s v n xs) : slLen v = n := by
  obtain ⟨a, c, rfl⟩ := own_shp h
  rfl
theorem play_bad (I : LImpl) (p : Pl) (v sv : Value) (m : Nat) (sc : Nat → Int) (V : World) (hp : PlA V v p) (hs : SliceI V sv m sc) (hk : chk p ≠ 0) : Calls Try.prog 6 #[v, sv] V fun e w' => e = .returned (.tuple #[.agg (hC (.slice none 0 0) 0 false false 0 (.slice none 0 0)), .int .i64 ((chk p : Nat) : Int)]) ∧ Below V.heap.size V w' :=
  Calls.mono (I.play p v sv m sc V hp hs) fun _ _ h => ⟨h.1.1 hk, h.2⟩
theorem play_ok (I : LImpl) (p : Pl) (v sv : Value) (m : Nat) (sc : Nat → Int) (V : World) (hp : PlA V v p) (hs : SliceI V sv m sc) (hk : chk p = 0) {N M l : Nat} {lv en st : Bool} {tl : Nat → List Int} (hR : Run p (scr m sc) N) (hM : mx p (scr m sc) N = M) (hL : live p (rk p (scr m sc) N) = lv) (hE : (!lv) = en) (hS : (lv && decide (mayL p (rk p (scr m sc) N) = [])) = st) (hl : (rk p (scr m sc) N).lt = l) (ht : (rk p (scr m sc) N).tk = tl) : Calls Try.prog 6 #[v, sv] V fun e w' => ∃ pk tk tv, e = .returned (.tuple #[.agg (hC pk M en st l tk), .int .i64 ((0 : Nat) : Int)]) ∧ His V.heap.size w' pk tk tv N p.n (fun i => (Loo.pk p (scr m sc) i : Int)) tl ∧ Below V.heap.size V w' := by
  refine Calls.mono (I.play p v sv m sc V hp hs) fun e w' ⟨⟨_, h⟩, hb⟩ => ?_
  obtain ⟨pk, tk, tv, N', hr, he, hh⟩ := h hk
  obtain rfl := hr.uniq hR
  rw [hM, hL, hE, hS, hl] at he
  rw [ht] at hh
  exact ⟨pk, tk, tv, he, hh, hb⟩
set_option maxRecDepth 100000 in
set_option maxHeartbeats 4000000 in
/-- LoomScripts. -/
theorem scripts19 (I : LImpl) (p : Pl) (v v1 v2 : Value) (m1 m2 : Nat) (sc more : Nat → Int) (V : World) (hp : PlA V v p) (hv1 : SliceI V v1 m1 sc) (hv2 : SliceI V v2 m2 more) (hz1 : ∀ l c, v1 = .slice none l c → c = 0) (hz2 : ∀ l c, v2 = .slice none l c → c = 0) (hm1 : m1 ≤ 17592186043904) (hm2 : m2 ≤ 17592186043904) :
    Calls Try.prog 3 #[v, v1, v2] V fun e w' => e = .returned (.bool true) ∧ Below V.heap.size V w' := by
  have hp0 := hp
  obtain ⟨cv, tz, xz, rfl, hcv, htv, -⟩ := hp0
  go_enter Try.func3, Try.ntmps3
  by_cases hk : chk p = 0
  · obtain ⟨N, hR⟩ := run_ex p (scr m1 sc)
    obtain ⟨hR2, q1, q2, q3⟩ := scripts_same (mm := m2) (more := more) hR
    have hle := hR.le
    have hok := chk_okp hk
    have hpn := hok.n
    have hB := rk_bnd hok hR.go N (Nat.le_refl _)
    obtain ⟨M, eM⟩ : ∃ M, mx p (scr m1 sc) N = M := ⟨_, rfl⟩
    obtain ⟨l, el⟩ : ∃ l, (rk p (scr m1 sc) N).lt = l := ⟨_, rfl⟩
    obtain ⟨tl, et⟩ : ∃ tl, (rk p (scr m1 sc) N).tk = tl := ⟨_, rfl⟩
    have htl : ∀ t, (tl t).length ≤ 17592186044416 := fun t => by have := hB.ln t; rw [et] at this; omega
    have hv1s : SliceI V v1 m1 (scr m1 sc) := hv1.cg fun j hj => (if_pos hj).symm
    have hsf : ∀ j, j < N → I64 (scr m1 sc j) := fun j _ => by
      unfold scr
      split
      · rename_i q; exact hv1.2 j q
      · exact ⟨by omega, by omega⟩
    cases hl : live p (rk p (scr m1 sc) N)
    · have eS : (false && decide (mayL p (rk p (scr m1 sc) N) = [])) = false := rfl
      refine wo_ 99 [(0, .agg #[cv, tz]), (1, v1), (2, v2)] ?_
      rintro a A ⟨t0, t1, t2, -⟩
      have BW : Below V.heap.size V V := Below.refl _ _
      have BB : Below V.heap.size V V := Below.refl _ _
      refine wp_seq ?_
      obtain ⟨g3, egg3⟩ : ∃ z_ : Nat, V.heap.size = z_ := ⟨_, rfl⟩
      refine wi_ A (h3_ t0 t1 t2) (rs_ 0 (fun a ee => ?_))
      refine stepV rfl rfl (execBxP rfl (ee _) (sl3 hcv.shp) (sl3 htv.shp)) ⟨.pointer (some ⟨g3, 0, none⟩), ⟨_, rfl, by subst egg3; rfl⟩, fun X0 hX => ?_⟩
      have bQ : Below V.heap.size V X0 := by subst hX egg3; exact (belNew V _)
      have Fg3 : (X0.heap[g3]? = some (.cells (#[cv, tz]) 25)) := by subst hX egg3; exact heapNew V _
      replace BB := BB.trans (bQ.mono BB.size)
      clear bQ hX egg3 ee a
      refine rf_ [(3, .pointer (some ⟨g3, 0, none⟩))] (h2_ t1 t2) ?_
      rintro a A ⟨t3, -⟩ ⟨t1, t2, -⟩
      refine wp_seq ?_
      refine wp_seq ?_
      refine wi_ A (h3_ t1 t2 t3) (rc_ 0 (alive19 I X0) (cb_ fun X1 bQ => ?_))
      replace Fg3 := (on9 Fg3 bQ)
      replace BB := BB.trans (bQ.mono BB.size)
      clear bQ
      refine rv_ 1 (.bool false) (fun a ee => execNot8 (b := true) rfl (ee _)) (rf_ [(15, .bool false)] (h3_ t1 t2 t3) ?_)
      rintro a A ⟨t15, -⟩ ⟨t1, t2, t3, -⟩
      refine wp_cond_false t15 ?_
      refine wp_skip ?_
      clear t15
      refine wp_seq ?_
      refine wi_ A (h3_ t1 t2 t3) (rv_ 0 (.agg #[cv, tz]) (fun a ee => execLdPz rfl (ee _) Fg3) (rc_ 2 (play_ok I p _ _ m1 sc X1 (hp.on BB) (hv1.on BB) hk hR eM hl rfl eS el et) fun e X3_1 hh => ?_))
      obtain ⟨pk, tk, tv, he, hH, hb⟩ := hh
      refine ⟨_, he, ?_⟩
      have bQ : Below X1.heap.size X1 X3_1 := hb
      have FH : (His V.heap.size X3_1 pk tk tv N p.n (fun i => (Loo.pk p (scr m1 sc) i : Int)) tl) := hH.base (BB).size
      replace Fg3 := (on9 Fg3 bQ)
      replace BB := BB.trans (bQ.mono BB.size)
      clear bQ
      obtain ⟨g7, egg7⟩ : ∃ z_ : Nat, X3_1.heap.size = z_ := ⟨_, rfl⟩
      refine rs_ 6 (fun a ee => ?_)
      refine stepV rfl rfl (execAlH rfl) ⟨.pointer (some ⟨g7, 0, none⟩), ⟨_, rfl, by subst egg7; rfl⟩, fun X3_2 hX => ?_⟩
      have bQ : Below X3_1.heap.size X3_1 X3_2 := by subst hX egg7; exact (belNew X3_1 _)
      have Fg7 : (X3_2.heap[g7]? = some (.cells (hC (.slice none 0 0) 0 false false 0 (.slice none 0 0)) 29)) := by subst hX egg7; exact heapNew X3_1 _
      have Fgeg7 : (V.heap.size ≤ g7) := by subst hX egg7; exact (BB).size
      replace Fg3 := (on9 Fg3 bQ)
      replace FH := (FH.on bQ)
      replace BB := BB.trans (bQ.mono BB.size)
      clear bQ hX egg7 ee a
      refine rs_ 7 (fun a ee => ?_)
      refine stepS rfl rfl (execStH rfl (ee _) (ee _) Fg7 (sl3 FH.picks.shp) (sl3 FH.lists.shp)) ⟨_, ⟨_, rfl, rfl⟩, fun X3 hX => ?_⟩
      obtain ⟨BB, Fg3, FH, Fg7s⟩ : Below V.heap.size V X3 ∧ (X3.heap[g3]? = some (.cells (#[cv, tz]) 25)) ∧ (His V.heap.size X3 pk tk tv N p.n (fun i => (Loo.pk p (scr m1 sc) i : Int)) tl) ∧ (X3.heap[g7]? = some (.cells (hC pk M true false l tk) 29)) := by subst hX; exact ⟨below4 BB Fgeg7 _, (keepT Fg3 Fg7 (by decide) grR18), (FH.keepT Fg7 (by decide) (by decide) grR18), setRow_heap _ _ _ _ _ _ Fg7⟩
      clear Fg7 hX ee a
      refine rf_ [(7, .pointer (some ⟨g7, 0, none⟩)), (8, .int .i64 ((0 : Nat) : Int))] (h3_ t1 t2 t3) ?_
      rintro a A ⟨t7, t8, -⟩ ⟨t1, t2, t3, -⟩
      refine wp_seq ?_
      refine wp_seq ?_
      refine wi_ A (h5_ t1 t2 t3 t7 t8) (rv_ 1 (.bool false) (fun a ee => execDec (execErneq (p := 0) (q := 0) rfl (ee _)) (by decide)) (rf_ [(23, .bool false)] (h4_ t1 t2 t3 t7) ?_))
      rintro a A ⟨t23, -⟩ ⟨t1, t2, t3, t7, -⟩
      refine wp_cond_false t23 ?_
      refine wp_skip ?_
      clear t23
      refine wp_seq ?_
      refine wi_ A (h4_ t1 t2 t3 t7) (rv_ 0 (.pointer (some ⟨g7, 0, none⟩)) (fun a ee => execFh0 rfl (ee _)) (rv_ 1 (pk) (fun a ee => execLdG rfl (Or.inl rfl) (ee _) (hC_at Fg7s).1) (rv_ 2 (.int .i64 ((N : Nat) : Int)) (fun a ee => execLenI (len := N) rfl (ee _) (FH).picks.shp) (rf_ [(9, .int .i64 ((N : Nat) : Int))] (h4_ t1 t2 t3 t7) ?_))))
      rintro a A ⟨t9, -⟩ ⟨t1, t2, t3, t7, -⟩
      refine wp_seq ?_
      refine wp_seq ?_
      refine wi_ A (h5_ t1 t2 t3 t7 t9) (rv_ 1 (.bool false) (fun a ee => execDec (execGtN (p := N) (q := 65536) rfl (ee _) rfl) (decide_eq_false (by omega))) (rv_ 3 (.pointer (some ⟨g7, 2, none⟩)) (fun a ee => execFh2 rfl (ee _)) (rv_ 4 (.bool true) (fun a ee => execLdG rfl (Or.inr (Or.inr (Or.inl rfl))) (ee _) (hC_at Fg7s).2.2.1) (rv_ 6 (.pointer (some ⟨g7, 3, none⟩)) (fun a ee => execFh3 rfl (ee _)) (rv_ 7 (.bool false) (fun a ee => execLdG rfl (Or.inr (Or.inr (Or.inl rfl))) (ee _) (hC_at Fg7s).2.2.2.1) (rv_ 11 (.pointer (some ⟨g7, 5, none⟩)) (fun a ee => execFh5 rfl (ee _)) (rv_ 12 (tk) (fun a ee => execLdG rfl (Or.inr (Or.inr (Or.inr (Or.inl rfl)))) (ee _) (hC_at Fg7s).2.2.2.2.2) (rv_ 13 (.int .i64 ((p.n : Nat) : Int)) (fun a ee => execLnLL (len := p.n) rfl (ee _) (FH).lists.shp) (rv_ 14 (.pointer (some ⟨g3, 1, none⟩)) (fun a ee => execPf1 rfl (ee _)) (rv_ 15 (tz) (fun a ee => execLdG rfl (Or.inr (Or.inr (Or.inr (Or.inr (Or.inl rfl))))) (ee _) (plB_at Fg3).2) (rv_ 16 (.int .i64 ((p.n : Nat) : Int)) (fun a ee => execLnOO (len := p.n) rfl (ee _) htv.shp) (rv_ 17 (.bool false) (fun a ee => execDec (execNeN (p := p.n) (q := p.n) rfl (ee _) (ee _)) (decide_eq_false (by omega))) (rf_ [(48, .bool false)] (h5_ t1 t2 t3 t7 t9) ?_)))))))))))))
      rintro a A ⟨t48, -⟩ ⟨t1, t2, t3, t7, t9, -⟩
      refine wp_cond_false t48 ?_
      refine wp_skip ?_
      clear t48
      refine wp_seq ?_
      refine wp_seq ?_
      refine wi_ A (h5_ t1 t2 t3 t7 t9) (rf_ [(10, .int .i64 ((0 : Nat) : Int))] (h5_ t1 t2 t3 t7 t9) ?_)
      rintro a A ⟨t10, -⟩ ⟨t1, t2, t3, t7, t9, -⟩
      refine wp_block ?_
      refine wp_loop (fun a W => ∃ (i : Nat), i ≤ N ∧ (a.tmps.size = 99 ∧ a.defers = []) ∧ a.eval (.tmp 1) = v1 ∧ a.eval (.tmp 2) = v2 ∧ a.eval (.tmp 3) = .pointer (some ⟨g3, 0, none⟩) ∧ a.eval (.tmp 7) = .pointer (some ⟨g7, 0, none⟩) ∧ a.eval (.tmp 9) = .int .i64 ((N : Nat) : Int) ∧ a.eval (.tmp 10) = .int .i64 ((i : Nat) : Int) ∧ Below V.heap.size V W ∧ (W.heap[g3]? = some (.cells (#[cv, tz]) 25)) ∧ (His V.heap.size W pk tk tv N p.n (fun i => (Loo.pk p (scr m1 sc) i : Int)) tl) ∧ (W.heap[g7]? = some (.cells (hC pk M true false l tk) 29))) (fun a _ => N - (intOf (a.eval (.tmp 10))).toNat) ⟨0, Nat.zero_le _, A, t1, t2, t3, t7, t9, t10, BB, Fg3, FH, Fg7s⟩ ?_
      clear A t1 t2 t3 t7 t9 t10 BB Fg3 FH Fg7s a
      rintro a XL10 ⟨i, hi, A, t1, t2, t3, t7, t9, t10, BB, Fg3, FH, Fg7s⟩
      have esi := t10
      refine wp_seq ?_
      refine wp_seq ?_
      refine wi_ A (h6_ t1 t2 t3 t7 t9 t10) (rv_ 2 (.bool (decide (i < N))) (fun a ee => execLtW (p := i) (q := N) rfl (ee _) (ee _)) (rf_ [(51, .bool (decide (i < N)))] (h6_ t1 t2 t3 t7 t9 t10) ?_))
      rintro a A ⟨t51, -⟩ ⟨t1, t2, t3, t7, t9, t10, -⟩
      by_cases lti : i < N
      · rw [decide_eq_true lti] at t51
        refine wp_cond_true t51 ?_
        refine wp_skip ?_
        clear t51
        refine wp_seq ?_
        refine wp_block ?_
        obtain ⟨pb, po, pc, epk, -, -⟩ := ints_open FH.picks (show 0 < N by omega)
        obtain ⟨q, eq_⟩ : ∃ q, Loo.pk p (scr m1 sc) i = q := ⟨_, rfl⟩
        have hq : q < p.n := eq_ ▸ picks_in hR lti
        refine wp_seq ?_
        refine wj_ [0, 1, 2, 3, 4, 5, 6, 7, 8, 9, 10, 11, 12, 13, 14, 15, 16] [] [1, 4, 8, 11, 13] [] A (h6_ t1 t2 t3 t7 t9 t10) (fun X12 bD => ?_)
        refine dw_ 0 (.pointer (some ⟨g7, 0, none⟩)) (fun a X ee => execFh0 rfl (ee _)) (dv_ 1 (pk) (fun a X ee hb => execLdG rfl (Or.inl rfl) (ee _) (hC_at (on9 Fg7s hb)).1) (dw_ 3 (.pointer (some ⟨pb, po + i, none⟩)) (fun a X ee => execIdxN (k := i) rfl ((ee _).trans epk) (ee _) lti) (dv_ 4 (.int .i64 ((q : Nat) : Int)) (fun a X ee hb => execLdG rfl (Or.inr (Or.inl rfl)) (ee _) (by have z_ := SliceI.at ((FH.on hb)).picks epk lti; rw [← eq_]; exact z_)) (dw_ 5 (.bool false) (fun a X ee => execDec (execLtW (p := q) (q := 0) rfl (ee _) rfl) (decide_eq_false (by omega))) (dw_ 7 (.pointer (some ⟨g7, 0, none⟩)) (fun a X ee => execFh0 rfl (ee _)) (dv_ 8 (pk) (fun a X ee hb => execLdG rfl (Or.inl rfl) (ee _) (hC_at (on9 Fg7s hb)).1) (dw_ 10 (.pointer (some ⟨pb, po + i, none⟩)) (fun a X ee => execIdxN (k := i) rfl ((ee _).trans epk) (ee _) lti) (dv_ 11 (.int .i64 ((q : Nat) : Int)) (fun a X ee hb => execLdG rfl (Or.inr (Or.inl rfl)) (ee _) (by have z_ := SliceI.at ((FH.on hb)).picks epk lti; rw [← eq_]; exact z_)) (dw_ 12 (.pointer (some ⟨g3, 1, none⟩)) (fun a X ee => execPf1 rfl (ee _)) (dv_ 13 (tz) (fun a X ee hb => execLdG rfl (Or.inr (Or.inr (Or.inr (Or.inr (Or.inl rfl))))) (ee _) (plB_at (on9 Fg3 hb)).2) (dw_ 14 (.int .i64 ((p.n : Nat) : Int)) (fun a X ee => execLnOO (len := p.n) rfl (ee _) htv.shp) (dw_ 15 (.bool false) (fun a X ee => execDec (execGe8 (p := q) (q := p.n) rfl (ee _) (ee _)) (decide_eq_false (by omega))) (dz_ [(70, .bool false)] (h6_ t1 t2 t3 t7 t9 t10) ?_)))))))))))))
        rintro a A ⟨t70, -⟩ ⟨t1, t2, t3, t7, t9, t10, -⟩
        replace Fg3 := (on9 Fg3 bD)
        replace FH := (FH.on bD)
        replace Fg7s := (on9 Fg7s bD)
        replace BB := BB.trans (bD.mono BB.size)
        clear bD
        refine wp_cond_false t70 ?_
        refine wp_skip ?_
        clear t70
        refine wi_ A (h6_ t1 t2 t3 t7 t9 t10) (rv_ 1 (.int .i64 (((i : Nat) : Int) + 1)) (fun a ee => exAddZ (p := ((i : Nat) : Int)) (q := 1) rfl (ee _) rfl ⟨by omega, by omega⟩) (rf_ [(10, .int .i64 (((i : Nat) : Int) + 1))] (h5_ t1 t2 t3 t7 t9) ?_))
        rintro a A ⟨t10, -⟩ ⟨t1, t2, t3, t7, t9, -⟩
        exact ⟨⟨i + 1, lti, A, t1, t2, t3, t7, t9, t10, BB, Fg3, FH, Fg7s⟩, by show N - (intOf (a.eval (.tmp 10))).toNat < N - (intOf (Act.eval _ (.tmp 10))).toNat; rw [t10, esi]; show N - (i + 1) < N - i; omega⟩
      · rw [decide_eq_false lti] at t51
        refine wp_cond_false t51 ?_
        refine wp_exit ?_
        first | with_reducible refine exit_in ?_ | with_reducible refine exit_then (exit_in ?_) | with_reducible refine exit_then (exit_then (exit_in ?_)) | refine exit_in ?_ | refine exit_then (exit_in ?_) | refine exit_then (exit_then (exit_in ?_))
        clear t51 esi
        have Bp := BB
        clear BB
        have BB : Below XL10.heap.size XL10 XL10 := Below.refl _ _
        replace hv1s := hv1s.on Bp
        replace hv2 := hv2.on Bp
        replace hp := hp.on Bp
        refine wp_seq ?_
        obtain ⟨g71, egg71⟩ : ∃ z_ : Nat, XL10.heap.size = z_ := ⟨_, rfl⟩
        refine wi_ A (h5_ t1 t2 t3 t7 t9) (rs_ 0 (fun a ee => ?_))
        refine stepV rfl rfl (execBs0I rfl) ⟨.slice (some ⟨g71, 0, none⟩) 0 0, ⟨_, rfl, by subst egg71; rfl⟩, fun X14_1 hX => ?_⟩
        have bQ : Below XL10.heap.size XL10 X14_1 := by subst hX egg71; exact (belNew XL10 _)
        have Fg71 : (X14_1.heap[g71]? = some (.cells (#[]) 3)) := by subst hX egg71; exact heapNew XL10 _
        have Fgeg71 : (XL10.heap.size ≤ g71) := by subst hX egg71; exact (BB).size
        replace BB := BB.trans (bQ.mono BB.size)
        clear bQ hX egg71 ee a
        refine rs_ 2 (fun a ee => ?_)
        refine stepApp0 rfl rfl rfl (ee _) (ee _) Fg71 Fgeg71 (hv1s.on BB) hz1 hm1 fun s0 X14 own' hb => ⟨_, ⟨_, rfl, rfl⟩, eqw ?_⟩
        have bQ : Below X14_1.heap.size X14_1 X14 := hb
        have FXs : (X14.ownsRow XL10.heap.size 3 1 s0 (m1) (intsL (m1) (scr m1 sc))) := own'
        replace BB := BB.trans (bQ.mono BB.size)
        clear Fg71 bQ ee a
        refine rf_ [(11, s0)] (h4_ t2 t3 t7 t9) ?_
        rintro a A ⟨t11, -⟩ ⟨t2, t3, t7, t9, -⟩
        refine wp_seq ?_
        refine wp_block ?_
        refine wp_loop (fun a W => ∃ (k : Nat) (sv : Value), m1 ≤ k ∧ (a.tmps.size = 99 ∧ a.defers = []) ∧ a.eval (.tmp 2) = v2 ∧ a.eval (.tmp 3) = .pointer (some ⟨g3, 0, none⟩) ∧ a.eval (.tmp 7) = .pointer (some ⟨g7, 0, none⟩) ∧ a.eval (.tmp 9) = .int .i64 ((N : Nat) : Int) ∧ a.eval (.tmp 11) = sv ∧ Below XL10.heap.size XL10 W ∧ W.ownsRow XL10.heap.size 3 1 sv k (intsL k (scr m1 sc))) (fun a _ => N - slLen (a.eval (.tmp 11))) ⟨m1, _, Nat.le_refl _, A, t2, t3, t7, t9, t11, BB, FXs⟩ ?_
        clear A t2 t3 t7 t9 t11 BB FXs a
        rintro a XM ⟨k, sv, hmk, A, t2, t3, t7, t9, t11, BB, FXs⟩
        have es := t11
        have ek := own_len FXs
        by_cases hlt : k < N
        · refine wp_seq ?_
          refine wp_seq ?_
          refine wi_ A (h5_ t2 t3 t7 t9 t11) (rv_ 1 (.int .i64 ((k : Nat) : Int)) (fun a ee => execLenI (len := k) rfl (ee _) (own_shp FXs)) (rv_ 3 (.bool true) (fun a ee => execDec (execLtW (p := k) (q := N) rfl (ee _) (ee _)) (decide_eq_true (by omega))) (rf_ [(77, .bool true)] (h5_ t2 t3 t7 t9 t11) ?_)))
          rintro a A ⟨t77, -⟩ ⟨t2, t3, t7, t9, t11, -⟩
          refine wp_cond_true t77 ?_
          refine wp_skip ?_
          clear t77
          have hz0 : scr m1 sc k = 0 := if_neg (by omega)
          refine wp_block ?_
          obtain ⟨g79, egg79⟩ : ∃ z_ : Nat, XM.heap.size = z_ := ⟨_, rfl⟩
          refine wi_ A (h5_ t2 t3 t7 t9 t11) (rs_ 1 (fun a ee => ?_))
          refine stepV rfl rfl (execBsI (z := scr m1 sc k) rfl (by rw [hz0]; rfl)) ⟨.slice (some ⟨g79, 0, none⟩) 1 1, ⟨_, rfl, by subst egg79; rfl⟩, fun X16_1 hX => ?_⟩
          have bQ : Below XM.heap.size XM X16_1 := by subst hX egg79; exact (belNew XM _)
          have Fg79 : (X16_1.heap[g79]? = some (.cells (#[.int .i64 (scr m1 sc k)]) 3)) := by subst hX egg79; exact heapNew XM _
          have Fgeg79 : (XL10.heap.size ≤ g79) := by subst hX egg79; exact (BB).size
          replace FXs := (ownD_below FXs bQ)
          replace BB := BB.trans (bQ.mono BB.size)
          clear bQ hX egg79 ee a
          refine rs_ 2 (fun a ee => ?_)
          refine stepAppI (f := (scr m1 sc)) rfl rfl rfl (ee _) (ee _) FXs Fg79 (by omega) (BB).size fun s2 X16 own' gr => ⟨_, ⟨_, rfl, rfl⟩, eqw ?_⟩
          obtain ⟨BB, FS2⟩ : Below XL10.heap.size XL10 X16 ∧ (X16.ownsRow XL10.heap.size 3 1 s2 (k + 1) (intsL (k + 1) (scr m1 sc))) := ⟨(BB).grown gr (BB).size (fun k hk => (FXs.lt k hk).1), own'⟩
          clear FXs Fg79 ee a
          refine rf_ [(11, s2)] (h4_ t2 t3 t7 t9) ?_
          rintro a A ⟨t11, -⟩ ⟨t2, t3, t7, t9, -⟩
          exact ⟨⟨k + 1, _, by omega, A, t2, t3, t7, t9, t11, BB, FS2⟩, by show N - slLen (a.eval (.tmp 11)) < N - slLen (Act.eval _ (.tmp 11)); rw [t11, es, ek, own_len FS2]; omega⟩
        · refine wp_seq ?_
          refine wp_seq ?_
          refine wi_ A (h5_ t2 t3 t7 t9 t11) (rv_ 1 (.int .i64 ((k : Nat) : Int)) (fun a ee => execLenI (len := k) rfl (ee _) (own_shp FXs)) (rv_ 3 (.bool false) (fun a ee => execDec (execLtW (p := k) (q := N) rfl (ee _) (ee _)) (decide_eq_false (by omega))) (rf_ [(77, .bool false)] (h5_ t2 t3 t7 t9 t11) ?_)))
          rintro a A ⟨t77, -⟩ ⟨t2, t3, t7, t9, t11, -⟩
          refine wp_cond_false t77 ?_
          refine wp_exit ?_
          first | with_reducible refine exit_in ?_ | with_reducible refine exit_then (exit_in ?_) | with_reducible refine exit_then (exit_then (exit_in ?_)) | refine exit_in ?_ | refine exit_then (exit_in ?_) | refine exit_then (exit_then (exit_in ?_))
          clear t77 es
          obtain ⟨r86, hr86, hw86⟩ := sl_nn FXs (show N ≤ k by omega)
          have FC : Cut XM r86 N (scr m1 sc) := hw86
          clear hw86 FXs
          have hLz : live p (rk p (scr (N + m2) (pad N m1 sc more)) N) = false := by rw [q1]; exact hl
          have eSz : (false && decide (mayL p (rk p (scr (N + m2) (pad N m1 sc more)) N) = [])) = false := by rw [q1]; exact eS
          have elz : (rk p (scr (N + m2) (pad N m1 sc more)) N).lt = l := by rw [q1]; exact el
          have etz : (rk p (scr (N + m2) (pad N m1 sc more)) N).tk = tl := by rw [q1]; exact et
          refine wp_seq ?_
          refine wp_region_stB (σ := Value × Value × Value × (Nat → Value) × Nat) 99 [(0, 82), (1, 83), (2, 84), (3, 85), (4, 86), (5, 87), (6, 88), (7, 89), (8, 81), (9, 90), (10, 91), (11, 12), (13, 13)] (fun l_ s X => Below XL10.heap.size XL10 X ∧ (l_ 6 = false → (Cut X r86 N (scr m1 sc))) ∧ (l_ 6 = true → l_ 7 = false → (SliceI X s.1 (N + m2) (pad N m1 sc more))) ∧ (l_ 7 = true → (His XL10.heap.size X s.2.1 s.2.2.1 s.2.2.2.1 N p.n (fun i => (Loo.pk p (scr (N + m2) (pad N m1 sc more)) i : Int)) tl)) ∧ (l_ 11 = true → l_ 12 = false → (X.heap[s.2.2.2.2]? = some (.cells (hC (.slice none 0 0) 0 false false 0 (.slice none 0 0)) 29))) ∧ (l_ 11 = true → (XL10.heap.size ≤ s.2.2.2.2)) ∧ (l_ 12 = true → (X.heap[s.2.2.2.2]? = some (.cells (hC s.2.1 M true false l s.2.2.1) 29)))) (fun s => fun i_ => match i_ with | 0 => .agg #[cv, tz] | 1 => sv | 2 => .int .i64 ((N : Nat) : Int) | 3 => .int .i64 ((N : Nat) : Int) | 4 => r86 | 5 => v2 | 6 => s.1 | 7 => .tuple #[.agg (hC s.2.1 M true false l s.2.2.1), .int .i64 ((0 : Nat) : Int)] | 8 => .tuple #[.agg (hC s.2.1 M true false l s.2.2.1), .int .i64 ((0 : Nat) : Int)] | 9 => .agg (hC s.2.1 M true false l s.2.2.1) | 10 => .int .i64 ((0 : Nat) : Int) | 11 => .pointer (some ⟨s.2.2.2.2, 0, none⟩) | 12 => undef | 13 => .int .i64 ((0 : Nat) : Int) | _ => undef) (undef, undef, undef, fun _ => undef, 0) (by kernel_rfl) (by kernel_rfl) A.1 (by kernel_rfl) (by decide) (by decide) ⟨(BB.drew), (fun _ => (FC.on (Below.refl _ _).drew)), (fun q0_ q1_ => by cases q0_), (fun q0_ => by cases q0_), (fun q0_ q1_ => by cases q0_), (fun q0_ => by cases q0_), (fun q0_ => by cases q0_)⟩ ?_ ?_
          · intro i_ hi_ l_ s a X hl_ hf hdep hl2 hcl hno hT
            have up : ∀ j x, x ≠ j → updB l_ j x = l_ x := fun j x hj => by unfold updB; simp [hj]
            match i_, hi_ with
            | 0, _ => exact stepV rfl rfl (execLdPz rfl ((hf 3 (by decide)).trans t3) (on9 Fg3 hT.1)) ⟨s, ⟨_, rfl, rfl⟩, ⟨hT.1, (fun q0_ => (hT.2.1 (by rw [up 0 6 (by decide)] at q0_; exact q0_))), (fun q0_ q1_ => (hT.2.2.1 (by rw [up 0 6 (by decide)] at q0_; exact q0_) (by rw [up 0 7 (by decide)] at q1_; exact q1_))), (fun q0_ => absurd (hl_.symm.trans (hcl 7 _ rfl ((up 0 7 (by decide)).symm.trans q0_) 0 rfl)) (by decide)), (fun q0_ q1_ => (hT.2.2.2.2.1 (by rw [up 0 11 (by decide)] at q0_; exact q0_) (by rw [up 0 12 (by decide)] at q1_; exact q1_))), (fun q0_ => (hT.2.2.2.2.2.1 (by rw [up 0 11 (by decide)] at q0_; exact q0_))), (fun q0_ => absurd (hl_.symm.trans (hcl 12 _ rfl ((up 0 12 (by decide)).symm.trans q0_) 0 rfl)) (by decide))⟩, fun _ _ _ => rfl⟩
            | 1, _ => exact stepV rfl rfl (execMvB rfl ((hf 11 (by decide)).trans t11)) ⟨s, ⟨_, rfl, rfl⟩, ⟨hT.1, (fun q0_ => (hT.2.1 (by rw [up 1 6 (by decide)] at q0_; exact q0_))), (fun q0_ q1_ => absurd (hl_.symm.trans (hcl 4 _ rfl (hcl 6 _ rfl ((up 1 6 (by decide)).symm.trans q0_) 4 rfl) 1 rfl)) (by decide)), (fun q0_ => absurd (hl_.symm.trans (hcl 4 _ rfl (hcl 6 _ rfl (hcl 7 _ rfl ((up 1 7 (by decide)).symm.trans q0_) 6 rfl) 4 rfl) 1 rfl)) (by decide)), (fun q0_ q1_ => (hT.2.2.2.2.1 (by rw [up 1 11 (by decide)] at q0_; exact q0_) (by rw [up 1 12 (by decide)] at q1_; exact q1_))), (fun q0_ => (hT.2.2.2.2.2.1 (by rw [up 1 11 (by decide)] at q0_; exact q0_))), (fun q0_ => absurd (hl_.symm.trans (hcl 12 _ rfl ((up 1 12 (by decide)).symm.trans q0_) 1 rfl)) (by decide))⟩, fun _ _ _ => rfl⟩
            | 2, _ => exact stepV rfl rfl (execMvB rfl ((hf 9 (by decide)).trans t9)) ⟨s, ⟨_, rfl, rfl⟩, ⟨hT.1, (fun q0_ => (hT.2.1 (by rw [up 2 6 (by decide)] at q0_; exact q0_))), (fun q0_ q1_ => absurd (hl_.symm.trans (hcl 4 _ rfl (hcl 6 _ rfl ((up 2 6 (by decide)).symm.trans q0_) 4 rfl) 2 rfl)) (by decide)), (fun q0_ => absurd (hl_.symm.trans (hcl 4 _ rfl (hcl 6 _ rfl (hcl 7 _ rfl ((up 2 7 (by decide)).symm.trans q0_) 6 rfl) 4 rfl) 2 rfl)) (by decide)), (fun q0_ q1_ => (hT.2.2.2.2.1 (by rw [up 2 11 (by decide)] at q0_; exact q0_) (by rw [up 2 12 (by decide)] at q1_; exact q1_))), (fun q0_ => (hT.2.2.2.2.2.1 (by rw [up 2 11 (by decide)] at q0_; exact q0_))), (fun q0_ => absurd (hl_.symm.trans (hcl 12 _ rfl ((up 2 12 (by decide)).symm.trans q0_) 2 rfl)) (by decide))⟩, fun _ _ _ => rfl⟩
            | 3, _ => exact stepV rfl rfl (execMvB rfl ((hf 9 (by decide)).trans t9)) ⟨s, ⟨_, rfl, rfl⟩, ⟨hT.1, (fun q0_ => (hT.2.1 (by rw [up 3 6 (by decide)] at q0_; exact q0_))), (fun q0_ q1_ => absurd (hl_.symm.trans (hcl 4 _ rfl (hcl 6 _ rfl ((up 3 6 (by decide)).symm.trans q0_) 4 rfl) 3 rfl)) (by decide)), (fun q0_ => absurd (hl_.symm.trans (hcl 4 _ rfl (hcl 6 _ rfl (hcl 7 _ rfl ((up 3 7 (by decide)).symm.trans q0_) 6 rfl) 4 rfl) 3 rfl)) (by decide)), (fun q0_ q1_ => (hT.2.2.2.2.1 (by rw [up 3 11 (by decide)] at q0_; exact q0_) (by rw [up 3 12 (by decide)] at q1_; exact q1_))), (fun q0_ => (hT.2.2.2.2.2.1 (by rw [up 3 11 (by decide)] at q0_; exact q0_))), (fun q0_ => absurd (hl_.symm.trans (hcl 12 _ rfl ((up 3 12 (by decide)).symm.trans q0_) 3 rfl)) (by decide))⟩, fun _ _ _ => rfl⟩
            | 4, _ => exact stepV rfl rfl (execSl3I rfl (hdep _ rfl 1 rfl _ rfl _ rfl) (hdep _ rfl 2 rfl _ rfl _ rfl) (hdep _ rfl 3 rfl _ rfl _ rfl) (hr86 X)) ⟨s, ⟨_, rfl, rfl⟩, ⟨hT.1, (fun q0_ => (hT.2.1 (by rw [up 4 6 (by decide)] at q0_; exact q0_))), (fun q0_ q1_ => absurd (hl_.symm.trans (hcl 6 _ rfl ((up 4 6 (by decide)).symm.trans q0_) 4 rfl)) (by decide)), (fun q0_ => absurd (hl_.symm.trans (hcl 6 _ rfl (hcl 7 _ rfl ((up 4 7 (by decide)).symm.trans q0_) 6 rfl) 4 rfl)) (by decide)), (fun q0_ q1_ => (hT.2.2.2.2.1 (by rw [up 4 11 (by decide)] at q0_; exact q0_) (by rw [up 4 12 (by decide)] at q1_; exact q1_))), (fun q0_ => (hT.2.2.2.2.2.1 (by rw [up 4 11 (by decide)] at q0_; exact q0_))), (fun q0_ => absurd (hl_.symm.trans (hcl 12 _ rfl ((up 4 12 (by decide)).symm.trans q0_) 4 rfl)) (by decide))⟩, fun _ _ _ => rfl⟩
            | 5, _ => exact stepV rfl rfl (execMvB rfl ((hf 2 (by decide)).trans t2)) ⟨s, ⟨_, rfl, rfl⟩, ⟨hT.1, (fun q0_ => (hT.2.1 (by rw [up 5 6 (by decide)] at q0_; exact q0_))), (fun q0_ q1_ => absurd (hl_.symm.trans (hcl 6 _ rfl ((up 5 6 (by decide)).symm.trans q0_) 5 rfl)) (by decide)), (fun q0_ => absurd (hl_.symm.trans (hcl 6 _ rfl (hcl 7 _ rfl ((up 5 7 (by decide)).symm.trans q0_) 6 rfl) 5 rfl)) (by decide)), (fun q0_ q1_ => (hT.2.2.2.2.1 (by rw [up 5 11 (by decide)] at q0_; exact q0_) (by rw [up 5 12 (by decide)] at q1_; exact q1_))), (fun q0_ => (hT.2.2.2.2.2.1 (by rw [up 5 11 (by decide)] at q0_; exact q0_))), (fun q0_ => absurd (hl_.symm.trans (hcl 12 _ rfl ((up 5 12 (by decide)).symm.trans q0_) 5 rfl)) (by decide))⟩, fun _ _ _ => rfl⟩
            | 6, _ =>
              refine stepAppM rfl rfl rfl (hdep _ rfl 4 rfl _ rfl _ rfl) (hdep _ rfl 5 rfl _ rfl _ rfl) (hT.2.1 hl_) hsf (hv2.on hT.1) hz2 hR.le hm2 fun v' W' own' hb => ⟨(v', s.2.1, s.2.2.1, s.2.2.2.1, s.2.2.2.2), ⟨_, rfl, rfl⟩, ⟨hT.1.trans ((hb).mono hT.1.size), (fun q0_ => absurd q0_ (by unfold updB; simp)), (fun _q0_ _q1_ => own'), (fun q0_ => absurd (hl_.symm.trans (hcl 7 _ rfl ((up 6 7 (by decide)).symm.trans q0_) 6 rfl)) (by decide)), (fun q0_ q1_ => (on9 (hT.2.2.2.2.1 (by rw [up 6 11 (by decide)] at q0_; exact q0_) (by rw [up 6 12 (by decide)] at q1_; exact q1_)) hb)), (fun q0_ => (hT.2.2.2.2.2.1 (by rw [up 6 11 (by decide)] at q0_; exact q0_))), (fun q0_ => absurd (hl_.symm.trans (hcl 12 _ rfl ((up 6 12 (by decide)).symm.trans q0_) 6 rfl)) (by decide))⟩, fun i hi hli => ?_⟩
              match i, hi with
              | 0, _ => rfl
              | 1, _ => rfl
              | 2, _ => rfl
              | 3, _ => rfl
              | 4, _ => rfl
              | 5, _ => rfl
              | 6, _ => exact absurd (hl_.symm.trans hli) (by decide)
              | 7, _ => rfl
              | 8, _ => rfl
              | 9, _ => rfl
              | 10, _ => rfl
              | 11, _ => rfl
              | 12, _ => rfl
              | 13, _ => rfl
              | k_ + 14, h_ => exact absurd h_ (by simp)
            | 7, _ =>
              refine stepC rfl rfl (execCall2 Try.func6 (by kernel_rfl) (by kernel_rfl) rfl (hdep _ rfl 0 rfl _ rfl _ rfl) (hdep _ rfl 6 rfl _ rfl _ rfl)) (play_ok I p _ _ (N + m2) (pad N m1 sc more) X (hp.on hT.1) (hT.2.2.1 (hl2 _ rfl 6 rfl) hl_) hk hR2 (q2.trans eM) hLz rfl eSz elz etz) fun e w' hh => ?_
              obtain ⟨pk_, tk_, tv_, he, hH, hb⟩ := hh
              refine ⟨_, he, (s.1, pk_, tk_, tv_, s.2.2.2.2), ⟨_, rfl, rfl⟩, ⟨hT.1.trans ((hb).mono hT.1.size), (fun q0_ => absurd (q0_.symm.trans ((up 7 6 (by decide)).trans (hl2 _ rfl 6 rfl))) (by decide)), (fun q0_ q1_ => absurd q1_ (by unfold updB; simp)), (fun _q0_ => hH.base (hT.1).size), (fun q0_ q1_ => (on9 (hT.2.2.2.2.1 (by rw [up 7 11 (by decide)] at q0_; exact q0_) (by rw [up 7 12 (by decide)] at q1_; exact q1_)) hb)), (fun q0_ => (hT.2.2.2.2.2.1 (by rw [up 7 11 (by decide)] at q0_; exact q0_))), (fun q0_ => absurd (hl_.symm.trans (hcl 12 _ rfl ((up 7 12 (by decide)).symm.trans q0_) 7 rfl)) (by decide))⟩, fun i hi hli => ?_⟩
              match i, hi with
              | 0, _ => rfl
              | 1, _ => rfl
              | 2, _ => rfl
              | 3, _ => rfl
              | 4, _ => rfl
              | 5, _ => rfl
              | 6, _ => rfl
              | 7, _ => exact absurd (hl_.symm.trans hli) (by decide)
              | 8, _ => exact absurd (hl_.symm.trans (hcl 8 _ rfl hli 7 rfl)) (by decide)
              | 9, _ => exact absurd (hl_.symm.trans (hcl 8 _ rfl (hcl 9 _ rfl hli 8 rfl) 7 rfl)) (by decide)
              | 10, _ => rfl
              | 11, _ => rfl
              | 12, _ => rfl
              | 13, _ => rfl
              | k_ + 14, h_ => exact absurd h_ (by simp)
            | 8, _ => exact stepV rfl rfl (execMvB rfl (hdep _ rfl 7 rfl _ rfl _ rfl)) ⟨s, ⟨_, rfl, rfl⟩, ⟨hT.1, (fun q0_ => absurd (q0_.symm.trans ((up 8 6 (by decide)).trans (hcl 7 _ rfl (hl2 _ rfl 7 rfl) 6 rfl))) (by decide)), (fun q0_ q1_ => absurd (q1_.symm.trans ((up 8 7 (by decide)).trans (hl2 _ rfl 7 rfl))) (by decide)), (fun q0_ => (hT.2.2.2.1 (by rw [up 8 7 (by decide)] at q0_; exact q0_))), (fun q0_ q1_ => (hT.2.2.2.2.1 (by rw [up 8 11 (by decide)] at q0_; exact q0_) (by rw [up 8 12 (by decide)] at q1_; exact q1_))), (fun q0_ => (hT.2.2.2.2.2.1 (by rw [up 8 11 (by decide)] at q0_; exact q0_))), (fun q0_ => absurd (hl_.symm.trans (hcl 12 _ rfl ((up 8 12 (by decide)).symm.trans q0_) 8 rfl)) (by decide))⟩, fun _ _ _ => rfl⟩
            | 9, _ => exact stepV rfl rfl (execExtT rfl (hdep _ rfl 8 rfl _ rfl _ rfl) rfl) ⟨s, ⟨_, rfl, rfl⟩, ⟨hT.1, (fun q0_ => absurd (q0_.symm.trans ((up 9 6 (by decide)).trans (hcl 7 _ rfl (hcl 8 _ rfl (hl2 _ rfl 8 rfl) 7 rfl) 6 rfl))) (by decide)), (fun q0_ q1_ => absurd (q1_.symm.trans ((up 9 7 (by decide)).trans (hcl 8 _ rfl (hl2 _ rfl 8 rfl) 7 rfl))) (by decide)), (fun q0_ => (hT.2.2.2.1 (by rw [up 9 7 (by decide)] at q0_; exact q0_))), (fun q0_ q1_ => (hT.2.2.2.2.1 (by rw [up 9 11 (by decide)] at q0_; exact q0_) (by rw [up 9 12 (by decide)] at q1_; exact q1_))), (fun q0_ => (hT.2.2.2.2.2.1 (by rw [up 9 11 (by decide)] at q0_; exact q0_))), (fun q0_ => absurd (hl_.symm.trans (hcl 12 _ rfl ((up 9 12 (by decide)).symm.trans q0_) 9 rfl)) (by decide))⟩, fun _ _ _ => rfl⟩
            | 10, _ => exact stepV rfl rfl (execExtT rfl (hdep _ rfl 8 rfl _ rfl _ rfl) rfl) ⟨s, ⟨_, rfl, rfl⟩, ⟨hT.1, (fun q0_ => absurd (q0_.symm.trans ((up 10 6 (by decide)).trans (hcl 7 _ rfl (hcl 8 _ rfl (hl2 _ rfl 8 rfl) 7 rfl) 6 rfl))) (by decide)), (fun q0_ q1_ => absurd (q1_.symm.trans ((up 10 7 (by decide)).trans (hcl 8 _ rfl (hl2 _ rfl 8 rfl) 7 rfl))) (by decide)), (fun q0_ => (hT.2.2.2.1 (by rw [up 10 7 (by decide)] at q0_; exact q0_))), (fun q0_ q1_ => (hT.2.2.2.2.1 (by rw [up 10 11 (by decide)] at q0_; exact q0_) (by rw [up 10 12 (by decide)] at q1_; exact q1_))), (fun q0_ => (hT.2.2.2.2.2.1 (by rw [up 10 11 (by decide)] at q0_; exact q0_))), (fun q0_ => (hT.2.2.2.2.2.2 (by rw [up 10 12 (by decide)] at q0_; exact q0_)))⟩, fun _ _ _ => rfl⟩
            | 11, _ =>
              refine stepV rfl rfl (execAlH rfl) ⟨(s.1, s.2.1, s.2.2.1, s.2.2.2.1, X.heap.size), ⟨_, rfl, rfl⟩, ⟨hT.1.trans (((belNew X _)).mono hT.1.size), (fun q0_ => ((hT.2.1 (by rw [up 11 6 (by decide)] at q0_; exact q0_)).on (belNew X _))), (fun q0_ q1_ => ((hT.2.2.1 (by rw [up 11 6 (by decide)] at q0_; exact q0_) (by rw [up 11 7 (by decide)] at q1_; exact q1_)).on (belNew X _))), (fun q0_ => ((hT.2.2.2.1 (by rw [up 11 7 (by decide)] at q0_; exact q0_)).on (belNew X _))), (fun _q0_ _q1_ => heapNew X _), (fun _q0_ => (hT.1).size), (fun q0_ => absurd (hl_.symm.trans (hcl 12 _ rfl ((up 11 12 (by decide)).symm.trans q0_) 11 rfl)) (by decide))⟩, fun i hi hli => ?_⟩
              match i, hi with
              | 0, _ => rfl
              | 1, _ => rfl
              | 2, _ => rfl
              | 3, _ => rfl
              | 4, _ => rfl
              | 5, _ => rfl
              | 6, _ => rfl
              | 7, _ => rfl
              | 8, _ => rfl
              | 9, _ => rfl
              | 10, _ => rfl
              | 11, _ => exact absurd (hl_.symm.trans hli) (by decide)
              | 12, _ => rfl
              | 13, _ => rfl
              | k_ + 14, h_ => exact absurd h_ (by simp)
            | 12, _ =>
              refine stepS rfl rfl (execStH rfl (hdep _ rfl 11 rfl _ rfl _ rfl) (hdep _ rfl 9 rfl _ rfl _ rfl) (hT.2.2.2.2.1 (hl2 _ rfl 11 rfl) hl_) (sl3 (hT.2.2.2.1 (hl2 _ rfl 7 rfl)).picks.shp) (sl3 (hT.2.2.2.1 (hl2 _ rfl 7 rfl)).lists.shp)) ⟨s, ⟨_, rfl, rfl⟩, ⟨below4 hT.1 (hT.2.2.2.2.2.1 (hl2 _ rfl 11 rfl)) _, (fun q0_ => absurd (q0_.symm.trans ((up 12 6 (by decide)).trans (hl2 _ rfl 6 rfl))) (by decide)), (fun q0_ q1_ => absurd (q1_.symm.trans ((up 12 7 (by decide)).trans (hl2 _ rfl 7 rfl))) (by decide)), (fun q0_ => ((hT.2.2.2.1 (by rw [up 12 7 (by decide)] at q0_; exact q0_)).keepT (hT.2.2.2.2.1 (hl2 _ rfl 11 rfl) hl_) (by decide) (by decide) grR18)), (fun q0_ q1_ => absurd q1_ (by unfold updB; simp)), (fun q0_ => (hT.2.2.2.2.2.1 (by rw [up 12 11 (by decide)] at q0_; exact q0_))), (fun _q0_ => setRow_heap _ _ _ _ _ _ (hT.2.2.2.2.1 (hl2 _ rfl 11 rfl) hl_))⟩, fun i hi hli => ?_⟩
              match i, hi with
              | 0, _ => rfl
              | 1, _ => rfl
              | 2, _ => rfl
              | 3, _ => rfl
              | 4, _ => rfl
              | 5, _ => rfl
              | 6, _ => rfl
              | 7, _ => rfl
              | 8, _ => rfl
              | 9, _ => rfl
              | 10, _ => rfl
              | 11, _ => rfl
              | 12, _ => exact absurd (hl_.symm.trans hli) (by decide)
              | 13, _ => rfl
              | k_ + 14, h_ => exact absurd h_ (by simp)
            | 13, _ => exact stepV rfl rfl (Cf.execAsgB rfl (hdep _ rfl 10 rfl _ rfl _ rfl)) ⟨s, ⟨_, rfl, rfl⟩, ⟨hT.1, (fun q0_ => absurd (q0_.symm.trans ((up 13 6 (by decide)).trans (hl2 _ rfl 6 rfl))) (by decide)), (fun q0_ q1_ => absurd (q1_.symm.trans ((up 13 7 (by decide)).trans (hl2 _ rfl 7 rfl))) (by decide)), (fun q0_ => (hT.2.2.2.1 (by rw [up 13 7 (by decide)] at q0_; exact q0_))), (fun q0_ q1_ => absurd (q1_.symm.trans ((up 13 12 (by decide)).trans (hl2 _ rfl 12 rfl))) (by decide)), (fun q0_ => (hT.2.2.2.2.2.1 (by rw [up 13 11 (by decide)] at q0_; exact q0_))), (fun q0_ => (hT.2.2.2.2.2.2 (by rw [up 13 12 (by decide)] at q0_; exact q0_)))⟩, fun _ _ _ => rfl⟩
            | k_ + 14, h_ => exact absurd h_ (by simp)
          rintro l_ ⟨v88, pk2, tk2, tv2, g12⟩ a X17 h1 h2 h3 h4 hall hT
          clear BB
          clear FC
          obtain ⟨BB, FC, FA, FH2, Fg12, Fgeg12, Fg12s⟩ := hT
          clear FC
          clear FA
          replace FH2 : (His XL10.heap.size X17 pk2 tk2 tv2 N p.n (fun i => (Loo.pk p (scr (N + m2) (pad N m1 sc more)) i : Int)) tl) := FH2 (hall 7 (by decide))
          clear Fg12
          replace Fgeg12 : (XL10.heap.size ≤ g12) := Fgeg12 (hall 11 (by decide))
          replace Fg12s : (X17.heap[g12]? = some (.cells (hC pk2 M true false l tk2) 29)) := Fg12s (hall 12 (by decide))
          clear hall
          replace t7 := (h3 7 (by decide)).trans t7
          have t12 : a.eval (.tmp 12) = .pointer (some ⟨g12, 0, none⟩) := h4 (11, 12) (by decide)
          have t13 : a.eval (.tmp 13) = .int .i64 ((0 : Nat) : Int) := h4 (13, 13) (by decide)
          replace A := (⟨h1, h2.trans A.2⟩ : a.tmps.size = 99 ∧ a.defers = [])
          clear h1 h2 h3 h4
          clear t2 t3 t9 t11
          refine wp_seq ?_
          refine wi_ A (h3_ t7 t12 t13) (rv_ 1 (.bool true) (fun a ee => execDec (execEreql (p := 0) (q := 0) rfl (ee _)) (by decide)) (rv_ 3 (.agg (hC pk M true false l tk)) (fun a ee => execLdHw rfl (ee _) (on9 Fg7s BB)) (rv_ 4 (.agg (hC pk2 M true false l tk2)) (fun a ee => execLdHw rfl (ee _) Fg12s) (rc_ 5 (sameHistory19 _ _ _ _ M l N p.n true false _ _ tv tv2 (fun t => (tl t).length) (fun t j => (tl t).getD j 0) (fun t j => (tl t).getD j 0) X17 (FH.on BB).picks FH2.picks (fun i hi => congrArg (fun z : Nat => (z : Int)) (q3 i hi).symm) (by omega) (FH.on BB).lists FH2.lists (fun t ht => (FH.on BB).taken ht) (fun t ht => FH2.taken ht) (fun _ _ _ _ => rfl) (fun t _ => htl t) (by omega)) (cb_ fun X18 bQ => ?_)))))
          replace FH2 := (FH2.on bQ)
          replace Fg12s := (on9 Fg12s bQ)
          replace BB := BB.trans (bQ.mono BB.size)
          clear bQ
          refine rg_ [(6, .bool true)] ?_
          rintro a A ⟨t6, -⟩
          refine wp_ret ?_
          refine bodyPost_ret (results_tmp rfl _ _ _) A.2 ⟨?_, Bp.trans (BB.mono Bp.size)⟩
          show Ending.returned (a.eval (.tmp 6)) = _
          rw [t6]
    · obtain ⟨st, eS⟩ : ∃ st, (true && decide (mayL p (rk p (scr m1 sc) N) = [])) = st := ⟨_, rfl⟩
      refine wo_ 99 [(0, .agg #[cv, tz]), (1, v1), (2, v2)] ?_
      rintro a A ⟨t0, t1, t2, -⟩
      have BW : Below V.heap.size V V := Below.refl _ _
      have BB : Below V.heap.size V V := Below.refl _ _
      refine wp_seq ?_
      obtain ⟨g3, egg3⟩ : ∃ z_ : Nat, V.heap.size = z_ := ⟨_, rfl⟩
      refine wi_ A (h3_ t0 t1 t2) (rs_ 0 (fun a ee => ?_))
      refine stepV rfl rfl (execBxP rfl (ee _) (sl3 hcv.shp) (sl3 htv.shp)) ⟨.pointer (some ⟨g3, 0, none⟩), ⟨_, rfl, by subst egg3; rfl⟩, fun X0 hX => ?_⟩
      have bQ : Below V.heap.size V X0 := by subst hX egg3; exact (belNew V _)
      have Fg3 : (X0.heap[g3]? = some (.cells (#[cv, tz]) 25)) := by subst hX egg3; exact heapNew V _
      replace BB := BB.trans (bQ.mono BB.size)
      clear bQ hX egg3 ee a
      refine rf_ [(3, .pointer (some ⟨g3, 0, none⟩))] (h2_ t1 t2) ?_
      rintro a A ⟨t3, -⟩ ⟨t1, t2, -⟩
      refine wp_seq ?_
      refine wp_seq ?_
      refine wi_ A (h3_ t1 t2 t3) (rc_ 0 (alive19 I X0) (cb_ fun X1 bQ => ?_))
      replace Fg3 := (on9 Fg3 bQ)
      replace BB := BB.trans (bQ.mono BB.size)
      clear bQ
      refine rv_ 1 (.bool false) (fun a ee => execNot8 (b := true) rfl (ee _)) (rf_ [(15, .bool false)] (h3_ t1 t2 t3) ?_)
      rintro a A ⟨t15, -⟩ ⟨t1, t2, t3, -⟩
      refine wp_cond_false t15 ?_
      refine wp_skip ?_
      clear t15
      refine wp_seq ?_
      refine wi_ A (h3_ t1 t2 t3) (rv_ 0 (.agg #[cv, tz]) (fun a ee => execLdPz rfl (ee _) Fg3) (rc_ 2 (play_ok I p _ _ m1 sc X1 (hp.on BB) (hv1.on BB) hk hR eM hl rfl eS el et) fun e X3_1 hh => ?_))
      obtain ⟨pk, tk, tv, he, hH, hb⟩ := hh
      refine ⟨_, he, ?_⟩
      have bQ : Below X1.heap.size X1 X3_1 := hb
      have FH : (His V.heap.size X3_1 pk tk tv N p.n (fun i => (Loo.pk p (scr m1 sc) i : Int)) tl) := hH.base (BB).size
      replace Fg3 := (on9 Fg3 bQ)
      replace BB := BB.trans (bQ.mono BB.size)
      clear bQ
      obtain ⟨g7, egg7⟩ : ∃ z_ : Nat, X3_1.heap.size = z_ := ⟨_, rfl⟩
      refine rs_ 6 (fun a ee => ?_)
      refine stepV rfl rfl (execAlH rfl) ⟨.pointer (some ⟨g7, 0, none⟩), ⟨_, rfl, by subst egg7; rfl⟩, fun X3_2 hX => ?_⟩
      have bQ : Below X3_1.heap.size X3_1 X3_2 := by subst hX egg7; exact (belNew X3_1 _)
      have Fg7 : (X3_2.heap[g7]? = some (.cells (hC (.slice none 0 0) 0 false false 0 (.slice none 0 0)) 29)) := by subst hX egg7; exact heapNew X3_1 _
      have Fgeg7 : (V.heap.size ≤ g7) := by subst hX egg7; exact (BB).size
      replace Fg3 := (on9 Fg3 bQ)
      replace FH := (FH.on bQ)
      replace BB := BB.trans (bQ.mono BB.size)
      clear bQ hX egg7 ee a
      refine rs_ 7 (fun a ee => ?_)
      refine stepS rfl rfl (execStH rfl (ee _) (ee _) Fg7 (sl3 FH.picks.shp) (sl3 FH.lists.shp)) ⟨_, ⟨_, rfl, rfl⟩, fun X3 hX => ?_⟩
      obtain ⟨BB, Fg3, FH, Fg7s⟩ : Below V.heap.size V X3 ∧ (X3.heap[g3]? = some (.cells (#[cv, tz]) 25)) ∧ (His V.heap.size X3 pk tk tv N p.n (fun i => (Loo.pk p (scr m1 sc) i : Int)) tl) ∧ (X3.heap[g7]? = some (.cells (hC pk M false st l tk) 29)) := by subst hX; exact ⟨below4 BB Fgeg7 _, (keepT Fg3 Fg7 (by decide) grR18), (FH.keepT Fg7 (by decide) (by decide) grR18), setRow_heap _ _ _ _ _ _ Fg7⟩
      clear Fg7 hX ee a
      refine rf_ [(7, .pointer (some ⟨g7, 0, none⟩)), (8, .int .i64 ((0 : Nat) : Int))] (h3_ t1 t2 t3) ?_
      rintro a A ⟨t7, t8, -⟩ ⟨t1, t2, t3, -⟩
      refine wp_seq ?_
      refine wp_seq ?_
      refine wi_ A (h5_ t1 t2 t3 t7 t8) (rv_ 1 (.bool false) (fun a ee => execDec (execErneq (p := 0) (q := 0) rfl (ee _)) (by decide)) (rf_ [(23, .bool false)] (h4_ t1 t2 t3 t7) ?_))
      rintro a A ⟨t23, -⟩ ⟨t1, t2, t3, t7, -⟩
      refine wp_cond_false t23 ?_
      refine wp_skip ?_
      clear t23
      refine wp_seq ?_
      refine wi_ A (h4_ t1 t2 t3 t7) (rv_ 0 (.pointer (some ⟨g7, 0, none⟩)) (fun a ee => execFh0 rfl (ee _)) (rv_ 1 (pk) (fun a ee => execLdG rfl (Or.inl rfl) (ee _) (hC_at Fg7s).1) (rv_ 2 (.int .i64 ((N : Nat) : Int)) (fun a ee => execLenI (len := N) rfl (ee _) (FH).picks.shp) (rf_ [(9, .int .i64 ((N : Nat) : Int))] (h4_ t1 t2 t3 t7) ?_))))
      rintro a A ⟨t9, -⟩ ⟨t1, t2, t3, t7, -⟩
      refine wp_seq ?_
      refine wp_seq ?_
      refine wi_ A (h5_ t1 t2 t3 t7 t9) (rv_ 1 (.bool false) (fun a ee => execDec (execGtN (p := N) (q := 65536) rfl (ee _) rfl) (decide_eq_false (by omega))) (rv_ 3 (.pointer (some ⟨g7, 2, none⟩)) (fun a ee => execFh2 rfl (ee _)) (rv_ 4 (.bool false) (fun a ee => execLdG rfl (Or.inr (Or.inr (Or.inl rfl))) (ee _) (hC_at Fg7s).2.2.1) (rv_ 11 (.pointer (some ⟨g7, 5, none⟩)) (fun a ee => execFh5 rfl (ee _)) (rv_ 12 (tk) (fun a ee => execLdG rfl (Or.inr (Or.inr (Or.inr (Or.inl rfl)))) (ee _) (hC_at Fg7s).2.2.2.2.2) (rv_ 13 (.int .i64 ((p.n : Nat) : Int)) (fun a ee => execLnLL (len := p.n) rfl (ee _) (FH).lists.shp) (rv_ 14 (.pointer (some ⟨g3, 1, none⟩)) (fun a ee => execPf1 rfl (ee _)) (rv_ 15 (tz) (fun a ee => execLdG rfl (Or.inr (Or.inr (Or.inr (Or.inr (Or.inl rfl))))) (ee _) (plB_at Fg3).2) (rv_ 16 (.int .i64 ((p.n : Nat) : Int)) (fun a ee => execLnOO (len := p.n) rfl (ee _) htv.shp) (rv_ 17 (.bool false) (fun a ee => execDec (execNeN (p := p.n) (q := p.n) rfl (ee _) (ee _)) (decide_eq_false (by omega))) (rf_ [(48, .bool false)] (h5_ t1 t2 t3 t7 t9) ?_)))))))))))
      rintro a A ⟨t48, -⟩ ⟨t1, t2, t3, t7, t9, -⟩
      refine wp_cond_false t48 ?_
      refine wp_skip ?_
      clear t48
      refine wp_seq ?_
      refine wp_seq ?_
      refine wi_ A (h5_ t1 t2 t3 t7 t9) (rf_ [(10, .int .i64 ((0 : Nat) : Int))] (h5_ t1 t2 t3 t7 t9) ?_)
      rintro a A ⟨t10, -⟩ ⟨t1, t2, t3, t7, t9, -⟩
      refine wp_block ?_
      refine wp_loop (fun a W => ∃ (i : Nat), i ≤ N ∧ (a.tmps.size = 99 ∧ a.defers = []) ∧ a.eval (.tmp 1) = v1 ∧ a.eval (.tmp 2) = v2 ∧ a.eval (.tmp 3) = .pointer (some ⟨g3, 0, none⟩) ∧ a.eval (.tmp 7) = .pointer (some ⟨g7, 0, none⟩) ∧ a.eval (.tmp 9) = .int .i64 ((N : Nat) : Int) ∧ a.eval (.tmp 10) = .int .i64 ((i : Nat) : Int) ∧ Below V.heap.size V W ∧ (W.heap[g3]? = some (.cells (#[cv, tz]) 25)) ∧ (His V.heap.size W pk tk tv N p.n (fun i => (Loo.pk p (scr m1 sc) i : Int)) tl) ∧ (W.heap[g7]? = some (.cells (hC pk M false st l tk) 29))) (fun a _ => N - (intOf (a.eval (.tmp 10))).toNat) ⟨0, Nat.zero_le _, A, t1, t2, t3, t7, t9, t10, BB, Fg3, FH, Fg7s⟩ ?_
      clear A t1 t2 t3 t7 t9 t10 BB Fg3 FH Fg7s a
      rintro a XL10 ⟨i, hi, A, t1, t2, t3, t7, t9, t10, BB, Fg3, FH, Fg7s⟩
      have esi := t10
      refine wp_seq ?_
      refine wp_seq ?_
      refine wi_ A (h6_ t1 t2 t3 t7 t9 t10) (rv_ 2 (.bool (decide (i < N))) (fun a ee => execLtW (p := i) (q := N) rfl (ee _) (ee _)) (rf_ [(51, .bool (decide (i < N)))] (h6_ t1 t2 t3 t7 t9 t10) ?_))
      rintro a A ⟨t51, -⟩ ⟨t1, t2, t3, t7, t9, t10, -⟩
      by_cases lti : i < N
      · rw [decide_eq_true lti] at t51
        refine wp_cond_true t51 ?_
        refine wp_skip ?_
        clear t51
        refine wp_seq ?_
        refine wp_block ?_
        obtain ⟨pb, po, pc, epk, -, -⟩ := ints_open FH.picks (show 0 < N by omega)
        obtain ⟨q, eq_⟩ : ∃ q, Loo.pk p (scr m1 sc) i = q := ⟨_, rfl⟩
        have hq : q < p.n := eq_ ▸ picks_in hR lti
        refine wp_seq ?_
        refine wj_ [0, 1, 2, 3, 4, 5, 6, 7, 8, 9, 10, 11, 12, 13, 14, 15, 16] [] [1, 4, 8, 11, 13] [] A (h6_ t1 t2 t3 t7 t9 t10) (fun X12 bD => ?_)
        refine dw_ 0 (.pointer (some ⟨g7, 0, none⟩)) (fun a X ee => execFh0 rfl (ee _)) (dv_ 1 (pk) (fun a X ee hb => execLdG rfl (Or.inl rfl) (ee _) (hC_at (on9 Fg7s hb)).1) (dw_ 3 (.pointer (some ⟨pb, po + i, none⟩)) (fun a X ee => execIdxN (k := i) rfl ((ee _).trans epk) (ee _) lti) (dv_ 4 (.int .i64 ((q : Nat) : Int)) (fun a X ee hb => execLdG rfl (Or.inr (Or.inl rfl)) (ee _) (by have z_ := SliceI.at ((FH.on hb)).picks epk lti; rw [← eq_]; exact z_)) (dw_ 5 (.bool false) (fun a X ee => execDec (execLtW (p := q) (q := 0) rfl (ee _) rfl) (decide_eq_false (by omega))) (dw_ 7 (.pointer (some ⟨g7, 0, none⟩)) (fun a X ee => execFh0 rfl (ee _)) (dv_ 8 (pk) (fun a X ee hb => execLdG rfl (Or.inl rfl) (ee _) (hC_at (on9 Fg7s hb)).1) (dw_ 10 (.pointer (some ⟨pb, po + i, none⟩)) (fun a X ee => execIdxN (k := i) rfl ((ee _).trans epk) (ee _) lti) (dv_ 11 (.int .i64 ((q : Nat) : Int)) (fun a X ee hb => execLdG rfl (Or.inr (Or.inl rfl)) (ee _) (by have z_ := SliceI.at ((FH.on hb)).picks epk lti; rw [← eq_]; exact z_)) (dw_ 12 (.pointer (some ⟨g3, 1, none⟩)) (fun a X ee => execPf1 rfl (ee _)) (dv_ 13 (tz) (fun a X ee hb => execLdG rfl (Or.inr (Or.inr (Or.inr (Or.inr (Or.inl rfl))))) (ee _) (plB_at (on9 Fg3 hb)).2) (dw_ 14 (.int .i64 ((p.n : Nat) : Int)) (fun a X ee => execLnOO (len := p.n) rfl (ee _) htv.shp) (dw_ 15 (.bool false) (fun a X ee => execDec (execGe8 (p := q) (q := p.n) rfl (ee _) (ee _)) (decide_eq_false (by omega))) (dz_ [(70, .bool false)] (h6_ t1 t2 t3 t7 t9 t10) ?_)))))))))))))
        rintro a A ⟨t70, -⟩ ⟨t1, t2, t3, t7, t9, t10, -⟩
        replace Fg3 := (on9 Fg3 bD)
        replace FH := (FH.on bD)
        replace Fg7s := (on9 Fg7s bD)
        replace BB := BB.trans (bD.mono BB.size)
        clear bD
        refine wp_cond_false t70 ?_
        refine wp_skip ?_
        clear t70
        refine wi_ A (h6_ t1 t2 t3 t7 t9 t10) (rv_ 1 (.int .i64 (((i : Nat) : Int) + 1)) (fun a ee => exAddZ (p := ((i : Nat) : Int)) (q := 1) rfl (ee _) rfl ⟨by omega, by omega⟩) (rf_ [(10, .int .i64 (((i : Nat) : Int) + 1))] (h5_ t1 t2 t3 t7 t9) ?_))
        rintro a A ⟨t10, -⟩ ⟨t1, t2, t3, t7, t9, -⟩
        exact ⟨⟨i + 1, lti, A, t1, t2, t3, t7, t9, t10, BB, Fg3, FH, Fg7s⟩, by show N - (intOf (a.eval (.tmp 10))).toNat < N - (intOf (Act.eval _ (.tmp 10))).toNat; rw [t10, esi]; show N - (i + 1) < N - i; omega⟩
      · rw [decide_eq_false lti] at t51
        refine wp_cond_false t51 ?_
        refine wp_exit ?_
        first | with_reducible refine exit_in ?_ | with_reducible refine exit_then (exit_in ?_) | with_reducible refine exit_then (exit_then (exit_in ?_)) | refine exit_in ?_ | refine exit_then (exit_in ?_) | refine exit_then (exit_then (exit_in ?_))
        clear t51 esi
        have Bp := BB
        clear BB
        have BB : Below XL10.heap.size XL10 XL10 := Below.refl _ _
        replace hv1s := hv1s.on Bp
        replace hv2 := hv2.on Bp
        replace hp := hp.on Bp
        refine wp_seq ?_
        obtain ⟨g71, egg71⟩ : ∃ z_ : Nat, XL10.heap.size = z_ := ⟨_, rfl⟩
        refine wi_ A (h5_ t1 t2 t3 t7 t9) (rs_ 0 (fun a ee => ?_))
        refine stepV rfl rfl (execBs0I rfl) ⟨.slice (some ⟨g71, 0, none⟩) 0 0, ⟨_, rfl, by subst egg71; rfl⟩, fun X14_1 hX => ?_⟩
        have bQ : Below XL10.heap.size XL10 X14_1 := by subst hX egg71; exact (belNew XL10 _)
        have Fg71 : (X14_1.heap[g71]? = some (.cells (#[]) 3)) := by subst hX egg71; exact heapNew XL10 _
        have Fgeg71 : (XL10.heap.size ≤ g71) := by subst hX egg71; exact (BB).size
        replace BB := BB.trans (bQ.mono BB.size)
        clear bQ hX egg71 ee a
        refine rs_ 2 (fun a ee => ?_)
        refine stepApp0 rfl rfl rfl (ee _) (ee _) Fg71 Fgeg71 (hv1s.on BB) hz1 hm1 fun s0 X14 own' hb => ⟨_, ⟨_, rfl, rfl⟩, eqw ?_⟩
        have bQ : Below X14_1.heap.size X14_1 X14 := hb
        have FXs : (X14.ownsRow XL10.heap.size 3 1 s0 (m1) (intsL (m1) (scr m1 sc))) := own'
        replace BB := BB.trans (bQ.mono BB.size)
        clear Fg71 bQ ee a
        refine rf_ [(11, s0)] (h4_ t2 t3 t7 t9) ?_
        rintro a A ⟨t11, -⟩ ⟨t2, t3, t7, t9, -⟩
        refine wp_seq ?_
        refine wp_block ?_
        refine wp_loop (fun a W => ∃ (k : Nat) (sv : Value), m1 ≤ k ∧ (a.tmps.size = 99 ∧ a.defers = []) ∧ a.eval (.tmp 2) = v2 ∧ a.eval (.tmp 3) = .pointer (some ⟨g3, 0, none⟩) ∧ a.eval (.tmp 7) = .pointer (some ⟨g7, 0, none⟩) ∧ a.eval (.tmp 9) = .int .i64 ((N : Nat) : Int) ∧ a.eval (.tmp 11) = sv ∧ Below XL10.heap.size XL10 W ∧ W.ownsRow XL10.heap.size 3 1 sv k (intsL k (scr m1 sc))) (fun a _ => N - slLen (a.eval (.tmp 11))) ⟨m1, _, Nat.le_refl _, A, t2, t3, t7, t9, t11, BB, FXs⟩ ?_
        clear A t2 t3 t7 t9 t11 BB FXs a
        rintro a XM ⟨k, sv, hmk, A, t2, t3, t7, t9, t11, BB, FXs⟩
        have es := t11
        have ek := own_len FXs
        by_cases hlt : k < N
        · refine wp_seq ?_
          refine wp_seq ?_
          refine wi_ A (h5_ t2 t3 t7 t9 t11) (rv_ 1 (.int .i64 ((k : Nat) : Int)) (fun a ee => execLenI (len := k) rfl (ee _) (own_shp FXs)) (rv_ 3 (.bool true) (fun a ee => execDec (execLtW (p := k) (q := N) rfl (ee _) (ee _)) (decide_eq_true (by omega))) (rf_ [(77, .bool true)] (h5_ t2 t3 t7 t9 t11) ?_)))
          rintro a A ⟨t77, -⟩ ⟨t2, t3, t7, t9, t11, -⟩
          refine wp_cond_true t77 ?_
          refine wp_skip ?_
          clear t77
          have hz0 : scr m1 sc k = 0 := if_neg (by omega)
          refine wp_block ?_
          obtain ⟨g79, egg79⟩ : ∃ z_ : Nat, XM.heap.size = z_ := ⟨_, rfl⟩
          refine wi_ A (h5_ t2 t3 t7 t9 t11) (rs_ 1 (fun a ee => ?_))
          refine stepV rfl rfl (execBsI (z := scr m1 sc k) rfl (by rw [hz0]; rfl)) ⟨.slice (some ⟨g79, 0, none⟩) 1 1, ⟨_, rfl, by subst egg79; rfl⟩, fun X16_1 hX => ?_⟩
          have bQ : Below XM.heap.size XM X16_1 := by subst hX egg79; exact (belNew XM _)
          have Fg79 : (X16_1.heap[g79]? = some (.cells (#[.int .i64 (scr m1 sc k)]) 3)) := by subst hX egg79; exact heapNew XM _
          have Fgeg79 : (XL10.heap.size ≤ g79) := by subst hX egg79; exact (BB).size
          replace FXs := (ownD_below FXs bQ)
          replace BB := BB.trans (bQ.mono BB.size)
          clear bQ hX egg79 ee a
          refine rs_ 2 (fun a ee => ?_)
          refine stepAppI (f := (scr m1 sc)) rfl rfl rfl (ee _) (ee _) FXs Fg79 (by omega) (BB).size fun s2 X16 own' gr => ⟨_, ⟨_, rfl, rfl⟩, eqw ?_⟩
          obtain ⟨BB, FS2⟩ : Below XL10.heap.size XL10 X16 ∧ (X16.ownsRow XL10.heap.size 3 1 s2 (k + 1) (intsL (k + 1) (scr m1 sc))) := ⟨(BB).grown gr (BB).size (fun k hk => (FXs.lt k hk).1), own'⟩
          clear FXs Fg79 ee a
          refine rf_ [(11, s2)] (h4_ t2 t3 t7 t9) ?_
          rintro a A ⟨t11, -⟩ ⟨t2, t3, t7, t9, -⟩
          exact ⟨⟨k + 1, _, by omega, A, t2, t3, t7, t9, t11, BB, FS2⟩, by show N - slLen (a.eval (.tmp 11)) < N - slLen (Act.eval _ (.tmp 11)); rw [t11, es, ek, own_len FS2]; omega⟩
        · refine wp_seq ?_
          refine wp_seq ?_
          refine wi_ A (h5_ t2 t3 t7 t9 t11) (rv_ 1 (.int .i64 ((k : Nat) : Int)) (fun a ee => execLenI (len := k) rfl (ee _) (own_shp FXs)) (rv_ 3 (.bool false) (fun a ee => execDec (execLtW (p := k) (q := N) rfl (ee _) (ee _)) (decide_eq_false (by omega))) (rf_ [(77, .bool false)] (h5_ t2 t3 t7 t9 t11) ?_)))
          rintro a A ⟨t77, -⟩ ⟨t2, t3, t7, t9, t11, -⟩
          refine wp_cond_false t77 ?_
          refine wp_exit ?_
          first | with_reducible refine exit_in ?_ | with_reducible refine exit_then (exit_in ?_) | with_reducible refine exit_then (exit_then (exit_in ?_)) | refine exit_in ?_ | refine exit_then (exit_in ?_) | refine exit_then (exit_then (exit_in ?_))
          clear t77 es
          obtain ⟨r86, hr86, hw86⟩ := sl_nn FXs (show N ≤ k by omega)
          have FC : Cut XM r86 N (scr m1 sc) := hw86
          clear hw86 FXs
          have hLz : live p (rk p (scr (N + m2) (pad N m1 sc more)) N) = true := by rw [q1]; exact hl
          have eSz : (true && decide (mayL p (rk p (scr (N + m2) (pad N m1 sc more)) N) = [])) = st := by rw [q1]; exact eS
          have elz : (rk p (scr (N + m2) (pad N m1 sc more)) N).lt = l := by rw [q1]; exact el
          have etz : (rk p (scr (N + m2) (pad N m1 sc more)) N).tk = tl := by rw [q1]; exact et
          refine wp_seq ?_
          refine wp_region_stB (σ := Value × Value × Value × (Nat → Value) × Nat) 99 [(0, 82), (1, 83), (2, 84), (3, 85), (4, 86), (5, 87), (6, 88), (7, 89), (8, 81), (9, 90), (10, 91), (11, 12), (13, 13)] (fun l_ s X => Below XL10.heap.size XL10 X ∧ (l_ 6 = false → (Cut X r86 N (scr m1 sc))) ∧ (l_ 6 = true → l_ 7 = false → (SliceI X s.1 (N + m2) (pad N m1 sc more))) ∧ (l_ 7 = true → (His XL10.heap.size X s.2.1 s.2.2.1 s.2.2.2.1 N p.n (fun i => (Loo.pk p (scr (N + m2) (pad N m1 sc more)) i : Int)) tl)) ∧ (l_ 11 = true → l_ 12 = false → (X.heap[s.2.2.2.2]? = some (.cells (hC (.slice none 0 0) 0 false false 0 (.slice none 0 0)) 29))) ∧ (l_ 11 = true → (XL10.heap.size ≤ s.2.2.2.2)) ∧ (l_ 12 = true → (X.heap[s.2.2.2.2]? = some (.cells (hC s.2.1 M false st l s.2.2.1) 29)))) (fun s => fun i_ => match i_ with | 0 => .agg #[cv, tz] | 1 => sv | 2 => .int .i64 ((N : Nat) : Int) | 3 => .int .i64 ((N : Nat) : Int) | 4 => r86 | 5 => v2 | 6 => s.1 | 7 => .tuple #[.agg (hC s.2.1 M false st l s.2.2.1), .int .i64 ((0 : Nat) : Int)] | 8 => .tuple #[.agg (hC s.2.1 M false st l s.2.2.1), .int .i64 ((0 : Nat) : Int)] | 9 => .agg (hC s.2.1 M false st l s.2.2.1) | 10 => .int .i64 ((0 : Nat) : Int) | 11 => .pointer (some ⟨s.2.2.2.2, 0, none⟩) | 12 => undef | 13 => .int .i64 ((0 : Nat) : Int) | _ => undef) (undef, undef, undef, fun _ => undef, 0) (by kernel_rfl) (by kernel_rfl) A.1 (by kernel_rfl) (by decide) (by decide) ⟨(BB.drew), (fun _ => (FC.on (Below.refl _ _).drew)), (fun q0_ q1_ => by cases q0_), (fun q0_ => by cases q0_), (fun q0_ q1_ => by cases q0_), (fun q0_ => by cases q0_), (fun q0_ => by cases q0_)⟩ ?_ ?_
          · intro i_ hi_ l_ s a X hl_ hf hdep hl2 hcl hno hT
            have up : ∀ j x, x ≠ j → updB l_ j x = l_ x := fun j x hj => by unfold updB; simp [hj]
            match i_, hi_ with
            | 0, _ => exact stepV rfl rfl (execLdPz rfl ((hf 3 (by decide)).trans t3) (on9 Fg3 hT.1)) ⟨s, ⟨_, rfl, rfl⟩, ⟨hT.1, (fun q0_ => (hT.2.1 (by rw [up 0 6 (by decide)] at q0_; exact q0_))), (fun q0_ q1_ => (hT.2.2.1 (by rw [up 0 6 (by decide)] at q0_; exact q0_) (by rw [up 0 7 (by decide)] at q1_; exact q1_))), (fun q0_ => absurd (hl_.symm.trans (hcl 7 _ rfl ((up 0 7 (by decide)).symm.trans q0_) 0 rfl)) (by decide)), (fun q0_ q1_ => (hT.2.2.2.2.1 (by rw [up 0 11 (by decide)] at q0_; exact q0_) (by rw [up 0 12 (by decide)] at q1_; exact q1_))), (fun q0_ => (hT.2.2.2.2.2.1 (by rw [up 0 11 (by decide)] at q0_; exact q0_))), (fun q0_ => absurd (hl_.symm.trans (hcl 12 _ rfl ((up 0 12 (by decide)).symm.trans q0_) 0 rfl)) (by decide))⟩, fun _ _ _ => rfl⟩
            | 1, _ => exact stepV rfl rfl (execMvB rfl ((hf 11 (by decide)).trans t11)) ⟨s, ⟨_, rfl, rfl⟩, ⟨hT.1, (fun q0_ => (hT.2.1 (by rw [up 1 6 (by decide)] at q0_; exact q0_))), (fun q0_ q1_ => absurd (hl_.symm.trans (hcl 4 _ rfl (hcl 6 _ rfl ((up 1 6 (by decide)).symm.trans q0_) 4 rfl) 1 rfl)) (by decide)), (fun q0_ => absurd (hl_.symm.trans (hcl 4 _ rfl (hcl 6 _ rfl (hcl 7 _ rfl ((up 1 7 (by decide)).symm.trans q0_) 6 rfl) 4 rfl) 1 rfl)) (by decide)), (fun q0_ q1_ => (hT.2.2.2.2.1 (by rw [up 1 11 (by decide)] at q0_; exact q0_) (by rw [up 1 12 (by decide)] at q1_; exact q1_))), (fun q0_ => (hT.2.2.2.2.2.1 (by rw [up 1 11 (by decide)] at q0_; exact q0_))), (fun q0_ => absurd (hl_.symm.trans (hcl 12 _ rfl ((up 1 12 (by decide)).symm.trans q0_) 1 rfl)) (by decide))⟩, fun _ _ _ => rfl⟩
            | 2, _ => exact stepV rfl rfl (execMvB rfl ((hf 9 (by decide)).trans t9)) ⟨s, ⟨_, rfl, rfl⟩, ⟨hT.1, (fun q0_ => (hT.2.1 (by rw [up 2 6 (by decide)] at q0_; exact q0_))), (fun q0_ q1_ => absurd (hl_.symm.trans (hcl 4 _ rfl (hcl 6 _ rfl ((up 2 6 (by decide)).symm.trans q0_) 4 rfl) 2 rfl)) (by decide)), (fun q0_ => absurd (hl_.symm.trans (hcl 4 _ rfl (hcl 6 _ rfl (hcl 7 _ rfl ((up 2 7 (by decide)).symm.trans q0_) 6 rfl) 4 rfl) 2 rfl)) (by decide)), (fun q0_ q1_ => (hT.2.2.2.2.1 (by rw [up 2 11 (by decide)] at q0_; exact q0_) (by rw [up 2 12 (by decide)] at q1_; exact q1_))), (fun q0_ => (hT.2.2.2.2.2.1 (by rw [up 2 11 (by decide)] at q0_; exact q0_))), (fun q0_ => absurd (hl_.symm.trans (hcl 12 _ rfl ((up 2 12 (by decide)).symm.trans q0_) 2 rfl)) (by decide))⟩, fun _ _ _ => rfl⟩
            | 3, _ => exact stepV rfl rfl (execMvB rfl ((hf 9 (by decide)).trans t9)) ⟨s, ⟨_, rfl, rfl⟩, ⟨hT.1, (fun q0_ => (hT.2.1 (by rw [up 3 6 (by decide)] at q0_; exact q0_))), (fun q0_ q1_ => absurd (hl_.symm.trans (hcl 4 _ rfl (hcl 6 _ rfl ((up 3 6 (by decide)).symm.trans q0_) 4 rfl) 3 rfl)) (by decide)), (fun q0_ => absurd (hl_.symm.trans (hcl 4 _ rfl (hcl 6 _ rfl (hcl 7 _ rfl ((up 3 7 (by decide)).symm.trans q0_) 6 rfl) 4 rfl) 3 rfl)) (by decide)), (fun q0_ q1_ => (hT.2.2.2.2.1 (by rw [up 3 11 (by decide)] at q0_; exact q0_) (by rw [up 3 12 (by decide)] at q1_; exact q1_))), (fun q0_ => (hT.2.2.2.2.2.1 (by rw [up 3 11 (by decide)] at q0_; exact q0_))), (fun q0_ => absurd (hl_.symm.trans (hcl 12 _ rfl ((up 3 12 (by decide)).symm.trans q0_) 3 rfl)) (by decide))⟩, fun _ _ _ => rfl⟩
            | 4, _ => exact stepV rfl rfl (execSl3I rfl (hdep _ rfl 1 rfl _ rfl _ rfl) (hdep _ rfl 2 rfl _ rfl _ rfl) (hdep _ rfl 3 rfl _ rfl _ rfl) (hr86 X)) ⟨s, ⟨_, rfl, rfl⟩, ⟨hT.1, (fun q0_ => (hT.2.1 (by rw [up 4 6 (by decide)] at q0_; exact q0_))), (fun q0_ q1_ => absurd (hl_.symm.trans (hcl 6 _ rfl ((up 4 6 (by decide)).symm.trans q0_) 4 rfl)) (by decide)), (fun q0_ => absurd (hl_.symm.trans (hcl 6 _ rfl (hcl 7 _ rfl ((up 4 7 (by decide)).symm.trans q0_) 6 rfl) 4 rfl)) (by decide)), (fun q0_ q1_ => (hT.2.2.2.2.1 (by rw [up 4 11 (by decide)] at q0_; exact q0_) (by rw [up 4 12 (by decide)] at q1_; exact q1_))), (fun q0_ => (hT.2.2.2.2.2.1 (by rw [up 4 11 (by decide)] at q0_; exact q0_))), (fun q0_ => absurd (hl_.symm.trans (hcl 12 _ rfl ((up 4 12 (by decide)).symm.trans q0_) 4 rfl)) (by decide))⟩, fun _ _ _ => rfl⟩
            | 5, _ => exact stepV rfl rfl (execMvB rfl ((hf 2 (by decide)).trans t2)) ⟨s, ⟨_, rfl, rfl⟩, ⟨hT.1, (fun q0_ => (hT.2.1 (by rw [up 5 6 (by decide)] at q0_; exact q0_))), (fun q0_ q1_ => absurd (hl_.symm.trans (hcl 6 _ rfl ((up 5 6 (by decide)).symm.trans q0_) 5 rfl)) (by decide)), (fun q0_ => absurd (hl_.symm.trans (hcl 6 _ rfl (hcl 7 _ rfl ((up 5 7 (by decide)).symm.trans q0_) 6 rfl) 5 rfl)) (by decide)), (fun q0_ q1_ => (hT.2.2.2.2.1 (by rw [up 5 11 (by decide)] at q0_; exact q0_) (by rw [up 5 12 (by decide)] at q1_; exact q1_))), (fun q0_ => (hT.2.2.2.2.2.1 (by rw [up 5 11 (by decide)] at q0_; exact q0_))), (fun q0_ => absurd (hl_.symm.trans (hcl 12 _ rfl ((up 5 12 (by decide)).symm.trans q0_) 5 rfl)) (by decide))⟩, fun _ _ _ => rfl⟩
            | 6, _ =>
              refine stepAppM rfl rfl rfl (hdep _ rfl 4 rfl _ rfl _ rfl) (hdep _ rfl 5 rfl _ rfl _ rfl) (hT.2.1 hl_) hsf (hv2.on hT.1) hz2 hR.le hm2 fun v' W' own' hb => ⟨(v', s.2.1, s.2.2.1, s.2.2.2.1, s.2.2.2.2), ⟨_, rfl, rfl⟩, ⟨hT.1.trans ((hb).mono hT.1.size), (fun q0_ => absurd q0_ (by unfold updB; simp)), (fun _q0_ _q1_ => own'), (fun q0_ => absurd (hl_.symm.trans (hcl 7 _ rfl ((up 6 7 (by decide)).symm.trans q0_) 6 rfl)) (by decide)), (fun q0_ q1_ => (on9 (hT.2.2.2.2.1 (by rw [up 6 11 (by decide)] at q0_; exact q0_) (by rw [up 6 12 (by decide)] at q1_; exact q1_)) hb)), (fun q0_ => (hT.2.2.2.2.2.1 (by rw [up 6 11 (by decide)] at q0_; exact q0_))), (fun q0_ => absurd (hl_.symm.trans (hcl 12 _ rfl ((up 6 12 (by decide)).symm.trans q0_) 6 rfl)) (by decide))⟩, fun i hi hli => ?_⟩
              match i, hi with
              | 0, _ => rfl
              | 1, _ => rfl
              | 2, _ => rfl
              | 3, _ => rfl
              | 4, _ => rfl
              | 5, _ => rfl
              | 6, _ => exact absurd (hl_.symm.trans hli) (by decide)
              | 7, _ => rfl
              | 8, _ => rfl
              | 9, _ => rfl
              | 10, _ => rfl
              | 11, _ => rfl
              | 12, _ => rfl
              | 13, _ => rfl
              | k_ + 14, h_ => exact absurd h_ (by simp)
            | 7, _ =>
              refine stepC rfl rfl (execCall2 Try.func6 (by kernel_rfl) (by kernel_rfl) rfl (hdep _ rfl 0 rfl _ rfl _ rfl) (hdep _ rfl 6 rfl _ rfl _ rfl)) (play_ok I p _ _ (N + m2) (pad N m1 sc more) X (hp.on hT.1) (hT.2.2.1 (hl2 _ rfl 6 rfl) hl_) hk hR2 (q2.trans eM) hLz rfl eSz elz etz) fun e w' hh => ?_
              obtain ⟨pk_, tk_, tv_, he, hH, hb⟩ := hh
              refine ⟨_, he, (s.1, pk_, tk_, tv_, s.2.2.2.2), ⟨_, rfl, rfl⟩, ⟨hT.1.trans ((hb).mono hT.1.size), (fun q0_ => absurd (q0_.symm.trans ((up 7 6 (by decide)).trans (hl2 _ rfl 6 rfl))) (by decide)), (fun q0_ q1_ => absurd q1_ (by unfold updB; simp)), (fun _q0_ => hH.base (hT.1).size), (fun q0_ q1_ => (on9 (hT.2.2.2.2.1 (by rw [up 7 11 (by decide)] at q0_; exact q0_) (by rw [up 7 12 (by decide)] at q1_; exact q1_)) hb)), (fun q0_ => (hT.2.2.2.2.2.1 (by rw [up 7 11 (by decide)] at q0_; exact q0_))), (fun q0_ => absurd (hl_.symm.trans (hcl 12 _ rfl ((up 7 12 (by decide)).symm.trans q0_) 7 rfl)) (by decide))⟩, fun i hi hli => ?_⟩
              match i, hi with
              | 0, _ => rfl
              | 1, _ => rfl
              | 2, _ => rfl
              | 3, _ => rfl
              | 4, _ => rfl
              | 5, _ => rfl
              | 6, _ => rfl
              | 7, _ => exact absurd (hl_.symm.trans hli) (by decide)
              | 8, _ => exact absurd (hl_.symm.trans (hcl 8 _ rfl hli 7 rfl)) (by decide)
              | 9, _ => exact absurd (hl_.symm.trans (hcl 8 _ rfl (hcl 9 _ rfl hli 8 rfl) 7 rfl)) (by decide)
              | 10, _ => rfl
              | 11, _ => rfl
              | 12, _ => rfl
              | 13, _ => rfl
              | k_ + 14, h_ => exact absurd h_ (by simp)
            | 8, _ => exact stepV rfl rfl (execMvB rfl (hdep _ rfl 7 rfl _ rfl _ rfl)) ⟨s, ⟨_, rfl, rfl⟩, ⟨hT.1, (fun q0_ => absurd (q0_.symm.trans ((up 8 6 (by decide)).trans (hcl 7 _ rfl (hl2 _ rfl 7 rfl) 6 rfl))) (by decide)), (fun q0_ q1_ => absurd (q1_.symm.trans ((up 8 7 (by decide)).trans (hl2 _ rfl 7 rfl))) (by decide)), (fun q0_ => (hT.2.2.2.1 (by rw [up 8 7 (by decide)] at q0_; exact q0_))), (fun q0_ q1_ => (hT.2.2.2.2.1 (by rw [up 8 11 (by decide)] at q0_; exact q0_) (by rw [up 8 12 (by decide)] at q1_; exact q1_))), (fun q0_ => (hT.2.2.2.2.2.1 (by rw [up 8 11 (by decide)] at q0_; exact q0_))), (fun q0_ => absurd (hl_.symm.trans (hcl 12 _ rfl ((up 8 12 (by decide)).symm.trans q0_) 8 rfl)) (by decide))⟩, fun _ _ _ => rfl⟩
            | 9, _ => exact stepV rfl rfl (execExtT rfl (hdep _ rfl 8 rfl _ rfl _ rfl) rfl) ⟨s, ⟨_, rfl, rfl⟩, ⟨hT.1, (fun q0_ => absurd (q0_.symm.trans ((up 9 6 (by decide)).trans (hcl 7 _ rfl (hcl 8 _ rfl (hl2 _ rfl 8 rfl) 7 rfl) 6 rfl))) (by decide)), (fun q0_ q1_ => absurd (q1_.symm.trans ((up 9 7 (by decide)).trans (hcl 8 _ rfl (hl2 _ rfl 8 rfl) 7 rfl))) (by decide)), (fun q0_ => (hT.2.2.2.1 (by rw [up 9 7 (by decide)] at q0_; exact q0_))), (fun q0_ q1_ => (hT.2.2.2.2.1 (by rw [up 9 11 (by decide)] at q0_; exact q0_) (by rw [up 9 12 (by decide)] at q1_; exact q1_))), (fun q0_ => (hT.2.2.2.2.2.1 (by rw [up 9 11 (by decide)] at q0_; exact q0_))), (fun q0_ => absurd (hl_.symm.trans (hcl 12 _ rfl ((up 9 12 (by decide)).symm.trans q0_) 9 rfl)) (by decide))⟩, fun _ _ _ => rfl⟩
            | 10, _ => exact stepV rfl rfl (execExtT rfl (hdep _ rfl 8 rfl _ rfl _ rfl) rfl) ⟨s, ⟨_, rfl, rfl⟩, ⟨hT.1, (fun q0_ => absurd (q0_.symm.trans ((up 10 6 (by decide)).trans (hcl 7 _ rfl (hcl 8 _ rfl (hl2 _ rfl 8 rfl) 7 rfl) 6 rfl))) (by decide)), (fun q0_ q1_ => absurd (q1_.symm.trans ((up 10 7 (by decide)).trans (hcl 8 _ rfl (hl2 _ rfl 8 rfl) 7 rfl))) (by decide)), (fun q0_ => (hT.2.2.2.1 (by rw [up 10 7 (by decide)] at q0_; exact q0_))), (fun q0_ q1_ => (hT.2.2.2.2.1 (by rw [up 10 11 (by decide)] at q0_; exact q0_) (by rw [up 10 12 (by decide)] at q1_; exact q1_))), (fun q0_ => (hT.2.2.2.2.2.1 (by rw [up 10 11 (by decide)] at q0_; exact q0_))), (fun q0_ => (hT.2.2.2.2.2.2 (by rw [up 10 12 (by decide)] at q0_; exact q0_)))⟩, fun _ _ _ => rfl⟩
            | 11, _ =>
              refine stepV rfl rfl (execAlH rfl) ⟨(s.1, s.2.1, s.2.2.1, s.2.2.2.1, X.heap.size), ⟨_, rfl, rfl⟩, ⟨hT.1.trans (((belNew X _)).mono hT.1.size), (fun q0_ => ((hT.2.1 (by rw [up 11 6 (by decide)] at q0_; exact q0_)).on (belNew X _))), (fun q0_ q1_ => ((hT.2.2.1 (by rw [up 11 6 (by decide)] at q0_; exact q0_) (by rw [up 11 7 (by decide)] at q1_; exact q1_)).on (belNew X _))), (fun q0_ => ((hT.2.2.2.1 (by rw [up 11 7 (by decide)] at q0_; exact q0_)).on (belNew X _))), (fun _q0_ _q1_ => heapNew X _), (fun _q0_ => (hT.1).size), (fun q0_ => absurd (hl_.symm.trans (hcl 12 _ rfl ((up 11 12 (by decide)).symm.trans q0_) 11 rfl)) (by decide))⟩, fun i hi hli => ?_⟩
              match i, hi with
              | 0, _ => rfl
              | 1, _ => rfl
              | 2, _ => rfl
              | 3, _ => rfl
              | 4, _ => rfl
              | 5, _ => rfl
              | 6, _ => rfl
              | 7, _ => rfl
              | 8, _ => rfl
              | 9, _ => rfl
              | 10, _ => rfl
              | 11, _ => exact absurd (hl_.symm.trans hli) (by decide)
              | 12, _ => rfl
              | 13, _ => rfl
              | k_ + 14, h_ => exact absurd h_ (by simp)
            | 12, _ =>
              refine stepS rfl rfl (execStH rfl (hdep _ rfl 11 rfl _ rfl _ rfl) (hdep _ rfl 9 rfl _ rfl _ rfl) (hT.2.2.2.2.1 (hl2 _ rfl 11 rfl) hl_) (sl3 (hT.2.2.2.1 (hl2 _ rfl 7 rfl)).picks.shp) (sl3 (hT.2.2.2.1 (hl2 _ rfl 7 rfl)).lists.shp)) ⟨s, ⟨_, rfl, rfl⟩, ⟨below4 hT.1 (hT.2.2.2.2.2.1 (hl2 _ rfl 11 rfl)) _, (fun q0_ => absurd (q0_.symm.trans ((up 12 6 (by decide)).trans (hl2 _ rfl 6 rfl))) (by decide)), (fun q0_ q1_ => absurd (q1_.symm.trans ((up 12 7 (by decide)).trans (hl2 _ rfl 7 rfl))) (by decide)), (fun q0_ => ((hT.2.2.2.1 (by rw [up 12 7 (by decide)] at q0_; exact q0_)).keepT (hT.2.2.2.2.1 (hl2 _ rfl 11 rfl) hl_) (by decide) (by decide) grR18)), (fun q0_ q1_ => absurd q1_ (by unfold updB; simp)), (fun q0_ => (hT.2.2.2.2.2.1 (by rw [up 12 11 (by decide)] at q0_; exact q0_))), (fun _q0_ => setRow_heap _ _ _ _ _ _ (hT.2.2.2.2.1 (hl2 _ rfl 11 rfl) hl_))⟩, fun i hi hli => ?_⟩
              match i, hi with
              | 0, _ => rfl
              | 1, _ => rfl
              | 2, _ => rfl
              | 3, _ => rfl
              | 4, _ => rfl
              | 5, _ => rfl
              | 6, _ => rfl
              | 7, _ => rfl
              | 8, _ => rfl
              | 9, _ => rfl
              | 10, _ => rfl
              | 11, _ => rfl
              | 12, _ => exact absurd (hl_.symm.trans hli) (by decide)
              | 13, _ => rfl
              | k_ + 14, h_ => exact absurd h_ (by simp)
            | 13, _ => exact stepV rfl rfl (Cf.execAsgB rfl (hdep _ rfl 10 rfl _ rfl _ rfl)) ⟨s, ⟨_, rfl, rfl⟩, ⟨hT.1, (fun q0_ => absurd (q0_.symm.trans ((up 13 6 (by decide)).trans (hl2 _ rfl 6 rfl))) (by decide)), (fun q0_ q1_ => absurd (q1_.symm.trans ((up 13 7 (by decide)).trans (hl2 _ rfl 7 rfl))) (by decide)), (fun q0_ => (hT.2.2.2.1 (by rw [up 13 7 (by decide)] at q0_; exact q0_))), (fun q0_ q1_ => absurd (q1_.symm.trans ((up 13 12 (by decide)).trans (hl2 _ rfl 12 rfl))) (by decide)), (fun q0_ => (hT.2.2.2.2.2.1 (by rw [up 13 11 (by decide)] at q0_; exact q0_))), (fun q0_ => (hT.2.2.2.2.2.2 (by rw [up 13 12 (by decide)] at q0_; exact q0_)))⟩, fun _ _ _ => rfl⟩
            | k_ + 14, h_ => exact absurd h_ (by simp)
          rintro l_ ⟨v88, pk2, tk2, tv2, g12⟩ a X17 h1 h2 h3 h4 hall hT
          clear BB
          clear FC
          obtain ⟨BB, FC, FA, FH2, Fg12, Fgeg12, Fg12s⟩ := hT
          clear FC
          clear FA
          replace FH2 : (His XL10.heap.size X17 pk2 tk2 tv2 N p.n (fun i => (Loo.pk p (scr (N + m2) (pad N m1 sc more)) i : Int)) tl) := FH2 (hall 7 (by decide))
          clear Fg12
          replace Fgeg12 : (XL10.heap.size ≤ g12) := Fgeg12 (hall 11 (by decide))
          replace Fg12s : (X17.heap[g12]? = some (.cells (hC pk2 M false st l tk2) 29)) := Fg12s (hall 12 (by decide))
          clear hall
          replace t7 := (h3 7 (by decide)).trans t7
          have t12 : a.eval (.tmp 12) = .pointer (some ⟨g12, 0, none⟩) := h4 (11, 12) (by decide)
          have t13 : a.eval (.tmp 13) = .int .i64 ((0 : Nat) : Int) := h4 (13, 13) (by decide)
          replace A := (⟨h1, h2.trans A.2⟩ : a.tmps.size = 99 ∧ a.defers = [])
          clear h1 h2 h3 h4
          clear t2 t3 t9 t11
          refine wp_seq ?_
          refine wi_ A (h3_ t7 t12 t13) (rv_ 1 (.bool true) (fun a ee => execDec (execEreql (p := 0) (q := 0) rfl (ee _)) (by decide)) (rv_ 3 (.agg (hC pk M false st l tk)) (fun a ee => execLdHw rfl (ee _) (on9 Fg7s BB)) (rv_ 4 (.agg (hC pk2 M false st l tk2)) (fun a ee => execLdHw rfl (ee _) Fg12s) (rc_ 5 (sameHistory19 _ _ _ _ M l N p.n false st _ _ tv tv2 (fun t => (tl t).length) (fun t j => (tl t).getD j 0) (fun t j => (tl t).getD j 0) X17 (FH.on BB).picks FH2.picks (fun i hi => congrArg (fun z : Nat => (z : Int)) (q3 i hi).symm) (by omega) (FH.on BB).lists FH2.lists (fun t ht => (FH.on BB).taken ht) (fun t ht => FH2.taken ht) (fun _ _ _ _ => rfl) (fun t _ => htl t) (by omega)) (cb_ fun X18 bQ => ?_)))))
          replace FH2 := (FH2.on bQ)
          replace Fg12s := (on9 Fg12s bQ)
          replace BB := BB.trans (bQ.mono BB.size)
          clear bQ
          refine rg_ [(6, .bool true)] ?_
          rintro a A ⟨t6, -⟩
          refine wp_ret ?_
          refine bodyPost_ret (results_tmp rfl _ _ _) A.2 ⟨?_, Bp.trans (BB.mono Bp.size)⟩
          show Ending.returned (a.eval (.tmp 6)) = _
          rw [t6]
  · refine wo_ 99 [(0, .agg #[cv, tz]), (1, v1), (2, v2)] ?_
    rintro a A ⟨t0, t1, t2, -⟩
    have BW : Below V.heap.size V V := Below.refl _ _
    have BB : Below V.heap.size V V := Below.refl _ _
    refine wp_seq ?_
    obtain ⟨g3, egg3⟩ : ∃ z_ : Nat, V.heap.size = z_ := ⟨_, rfl⟩
    refine wi_ A (h3_ t0 t1 t2) (rs_ 0 (fun a ee => ?_))
    refine stepV rfl rfl (execBxP rfl (ee _) (sl3 hcv.shp) (sl3 htv.shp)) ⟨.pointer (some ⟨g3, 0, none⟩), ⟨_, rfl, by subst egg3; rfl⟩, fun X0 hX => ?_⟩
    have bQ : Below V.heap.size V X0 := by subst hX egg3; exact (belNew V _)
    have Fg3 : (X0.heap[g3]? = some (.cells (#[cv, tz]) 25)) := by subst hX egg3; exact heapNew V _
    replace BB := BB.trans (bQ.mono BB.size)
    clear bQ hX egg3 ee a
    refine rf_ [(3, .pointer (some ⟨g3, 0, none⟩))] (h2_ t1 t2) ?_
    rintro a A ⟨t3, -⟩ ⟨t1, t2, -⟩
    refine wp_seq ?_
    refine wp_seq ?_
    refine wi_ A (h3_ t1 t2 t3) (rc_ 0 (alive19 I X0) (cb_ fun X1 bQ => ?_))
    replace Fg3 := (on9 Fg3 bQ)
    replace BB := BB.trans (bQ.mono BB.size)
    clear bQ
    refine rv_ 1 (.bool false) (fun a ee => execNot8 (b := true) rfl (ee _)) (rf_ [(15, .bool false)] (h3_ t1 t2 t3) ?_)
    rintro a A ⟨t15, -⟩ ⟨t1, t2, t3, -⟩
    refine wp_cond_false t15 ?_
    refine wp_skip ?_
    clear t15
    refine wp_seq ?_
    refine wi_ A (h3_ t1 t2 t3) (rv_ 0 (.agg #[cv, tz]) (fun a ee => execLdPz rfl (ee _) Fg3) (rc_ 2 (play_bad I p _ _ m1 sc X1 (hp.on BB) (hv1.on BB) hk) (cb_ fun X3_1 bQ => ?_)))
    replace Fg3 := (on9 Fg3 bQ)
    replace BB := BB.trans (bQ.mono BB.size)
    clear bQ
    obtain ⟨g7, egg7⟩ : ∃ z_ : Nat, X3_1.heap.size = z_ := ⟨_, rfl⟩
    refine rs_ 6 (fun a ee => ?_)
    refine stepV rfl rfl (execAlH rfl) ⟨.pointer (some ⟨g7, 0, none⟩), ⟨_, rfl, by subst egg7; rfl⟩, fun X3_2 hX => ?_⟩
    have bQ : Below X3_1.heap.size X3_1 X3_2 := by subst hX egg7; exact (belNew X3_1 _)
    have Fg7 : (X3_2.heap[g7]? = some (.cells (hC (.slice none 0 0) 0 false false 0 (.slice none 0 0)) 29)) := by subst hX egg7; exact heapNew X3_1 _
    have Fgeg7 : (V.heap.size ≤ g7) := by subst hX egg7; exact (BB).size
    replace Fg3 := (on9 Fg3 bQ)
    replace BB := BB.trans (bQ.mono BB.size)
    clear bQ hX egg7 ee a
    refine rs_ 7 (fun a ee => ?_)
    refine stepS rfl rfl (execStH rfl (ee _) (ee _) Fg7 ⟨_, _, _, rfl⟩ ⟨_, _, _, rfl⟩) ⟨_, ⟨_, rfl, rfl⟩, fun X3 hX => ?_⟩
    obtain ⟨BB, Fg3, Fg7s⟩ : Below V.heap.size V X3 ∧ (X3.heap[g3]? = some (.cells (#[cv, tz]) 25)) ∧ (X3.heap[g7]? = some (.cells (hC (.slice none 0 0) 0 false false 0 (.slice none 0 0)) 29)) := by subst hX; exact ⟨below4 BB Fgeg7 _, (keepT Fg3 Fg7 (by decide) grR18), setRow_heap _ _ _ _ _ _ Fg7⟩
    clear Fg7 hX ee a
    refine rg_ [(7, .pointer (some ⟨g7, 0, none⟩)), (8, .int .i64 ((chk p : Nat) : Int))] ?_
    rintro a A ⟨t7, t8, -⟩
    refine wp_seq ?_
    refine wp_seq ?_
    refine wi_ A (h2_ t7 t8) (rv_ 1 (.bool true) (fun a ee => execDec (execErneq (p := chk p) (q := 0) rfl (ee _)) (decide_eq_true hk)) (rf_ [(23, .bool true)] (h1_ t7) ?_))
    rintro a A ⟨t23, -⟩ ⟨t7, -⟩
    refine wp_cond_true t23 ?_
    clear t23
    refine wp_seq ?_
    refine wi_ A (h1_ t7) (rv_ 0 (.agg (hC (.slice none 0 0) 0 false false 0 (.slice none 0 0))) (fun a ee => execLdHw rfl (ee _) Fg7s) (rv_ 1 (.agg (hC (.slice none 0 0) 0 false false 0 (.slice none 0 0))) (fun a ee => execBz rfl) (rc_ 2 (sameHistory19 _ _ _ _ 0 0 0 0 false false (fun _ => 0) (fun _ => 0) (fun _ => undef) (fun _ => undef) (fun _ => 0) (fun _ _ => 0) (fun _ _ => 0) X3 nil_I nil_I (fun _ _ => rfl) (by omega) nil_V nil_V (fun t ht => absurd ht (Nat.not_lt_zero t)) (fun t ht => absurd ht (Nat.not_lt_zero t)) (fun _ _ _ _ => rfl) (fun _ _ => by omega) (by omega)) (cb_ fun X5 bQ => ?_))))
    replace Fg3 := (on9 Fg3 bQ)
    replace Fg7s := (on9 Fg7s bQ)
    replace BB := BB.trans (bQ.mono BB.size)
    clear bQ
    refine rg_ [(6, .bool true)] ?_
    rintro a A ⟨t6, -⟩
    refine wp_ret ?_
    repeat (first | with_reducible refine ret_in ?_ | with_reducible refine ret_then ?_)
    refine bodyPost_ret (results_tmp rfl _ _ _) A.2 ⟨?_, BB⟩
    show Ending.returned (a.eval (.tmp 6)) = _
    rw [t6]
end Go.Proofs.Ytcgkelgncehekab.Loo
