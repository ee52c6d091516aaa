import Derived.Test.YtdecmmcphcomhaaQ9w
import Derived.Test.YtdecmmcphcomhaaM9e
namespace Go.Proofs.Ytdecmmcphcomhaa.Brd
open Go.RowKit Gf8 Aes By8 Cel Cf Tap Drw Prm
/- Pairs of ints in rows (stage 12: Things). Written by tools/mkQ9y.py. -/

def thC (p q : Int) : Array Value := #[.int .i64 p, .int .i64 q]
/-- A list of pairs: its ints, two a thing. -/
structure SliceT (w : World) (v : Value) (n : Nat) (h : Nat → Int) : Prop where
  shape : ∃ a cap, v = .slice a n cap ∧ (0 < n → ∃ b off, a = some ⟨b, off, none⟩ ∧ b < w.heap.size ∧ ∀ t, t < n * 2 → w.cell? ⟨b, off + t, none⟩ = some (.int .i64 (h t)))
theorem SliceT.on {w w' : World} {v : Value} {n : Nat} {h : Nat → Int} (k : SliceT w v n h) (hb : Below w.heap.size w w') : SliceT w' v n h := by
  obtain ⟨a, cap, e, h3⟩ := k.shape
  refine ⟨⟨a, cap, e, fun h0 => ?_⟩⟩
  obtain ⟨b, off, e1, e2, e3⟩ := h3 h0
  exact ⟨b, off, e1, Nat.lt_of_lt_of_le e2 hb.size, fun j hj => by rw [cell_below hb e2]; exact e3 j hj⟩
theorem SliceT.shp {w : World} {v : Value} {n : Nat} {h : Nat → Int} (k : SliceT w v n h) : ∃ a c, v = .slice a n c := by
  obtain ⟨a, c, e, _⟩ := k.shape
  exact ⟨a, c, e⟩
theorem SliceT.cg {w : World} {v : Value} {n : Nat} {f g : Nat → Int} (k : SliceT w v n f) (e : ∀ t, t < n * 2 → f t = g t) : SliceT w v n g := by
  obtain ⟨a, cap, q, h3⟩ := k.shape
  refine ⟨⟨a, cap, q, fun h0 => ?_⟩⟩
  obtain ⟨b, off, e1, e2, e3⟩ := h3 h0
  exact ⟨b, off, e1, e2, fun j hj => by rw [e3 j hj, e j hj]⟩
theorem open_th {W : World} {v : Value} {n : Nat} {h : Nat → Int} (k : SliceT W v n h) (hn : 0 < n) : ∃ b o c, v = .slice (some ⟨b, o, none⟩) n c ∧ b < W.heap.size ∧ ∀ t, t < n * 2 → W.cell? ⟨b, o + t, none⟩ = some (.int .i64 (h t)) := by
  obtain ⟨a, c, rfl, hs⟩ := k.shape
  obtain ⟨b, o, rfl, h1, h2⟩ := hs hn
  exact ⟨b, o, c, rfl, h1, h2⟩
theorem th_cell {W : World} {B n g cap t : Nat} {T : TypeId} {h : Nat → Int} (k : W.ownsRow B T 2 (.slice (some ⟨g, 0, none⟩) n cap) n (intsL (n * 2) h)) (ht : t < n * 2) : W.cell? ⟨g, 0 + t, none⟩ = some (.int .i64 (h t)) := by
  rw [Nat.zero_add]
  rcases k.2 with ⟨e, _⟩ | ⟨g', cap', cur, e, _, hg, h1, h2, h3, h4⟩
  · cases e
  · injection e with e1 _ _
    injection e1 with e1
    injection e1 with e1 _ _
    subst e1
    rw [cell_of_row _ _ _ _ _ _ hg, ← Array.getElem?_toList]
    have h5 : (cur.toList.take (n * 2))[t]? = some (.int .i64 (h t)) := by rw [h4]; exact intsL_get ht
    rw [List.getElem?_take_of_lt ht] at h5
    exact h5
theorem own_th {W : World} {B n : Nat} {T : TypeId} {v : Value} {h : Nat → Int} (k : W.ownsRow B T 2 v n (intsL (n * 2) h)) : SliceT W v n h := by
  have k2 := k.2
  rcases k2 with ⟨rfl, rfl⟩ | ⟨g, cap, cur, rfl, _, hg, _⟩
  · exact ⟨⟨_, _, rfl, fun h => by omega⟩⟩
  · exact ⟨⟨_, _, rfl, fun _ => ⟨g, 0, rfl, (Array.getElem?_eq_some_iff.1 hg).1, fun t ht => th_cell k ht⟩⟩⟩
theorem th_take {W : World} {B n i g c : Nat} {T : TypeId} {h : Nat → Int} (k : W.ownsRow B T 2 (.slice (some ⟨g, 0, none⟩) n c) n (intsL (n * 2) h)) (hi : i ≤ n) : SliceT W (.slice (some ⟨g, 0, none⟩) i c) i h := by
  have k2 := k.2
  rcases k2 with ⟨e, _⟩ | ⟨g', cap', cur, e, _, hg, _⟩
  · cases e
  · injection e with e1 _ _
    injection e1 with e1
    injection e1 with e1 _ _
    subst e1
    exact ⟨⟨_, _, rfl, fun _ => ⟨g, 0, rfl, (Array.getElem?_eq_some_iff.1 hg).1, fun t ht => th_cell k (by omega)⟩⟩⟩
theorem th_cg {W : World} {B n : Nat} {T : TypeId} {v : Value} {f g : Nat → Int} (k : W.ownsRow B T 2 v n (intsL (n * 2) f)) (e : ∀ t, t < n * 2 → f t = g t) : W.ownsRow B T 2 v n (intsL (n * 2) g) := by
  rw [← intsL_congr e]
  exact k
/-- One thing is written over. -/
def setT (h : Nat → Int) (k : Nat) (p q : Int) : Nat → Int := fun t => if t = k * 2 then p else if t = k * 2 + 1 then q else h t
theorem th_len {W : World} {B n g c : Nat} {T : TypeId} {h : Nat → Int} (k : W.ownsRow B T 2 (.slice (some ⟨g, 0, none⟩) n c) n (intsL (n * 2) h)) : n ≤ c := by
  rcases k.2 with ⟨e, _⟩ | ⟨g', cap', cur, e, _, hg, h1, _⟩
  · cases e
  · injection e with _ _ e3
    omega
theorem sl_hT (g len cap h : Nat) (hh : h ≤ cap) (W : World) : (Instr.sliceAt 55 (.slice (some ⟨g, 0, none⟩) len cap) none (some (.int .i64 (h : Int))) none).run Try.prog W = .ok (.slice (some ⟨g, 0, none⟩) h cap) W := by
  have e2 : (h : Int) ≤ cap := by omega
  have hi : ∃ i, Try.prog.info? 59 = some i := by
    have h : (Try.prog.info? 59).isSome = true := by kernel_rfl
    exact Option.isSome_iff_exists.1 h
  obtain ⟨i, i1⟩ := hi
  simp [Instr.sliceAt, Instr.slice, run_underlying Try.underlying55, Instr.sliceBounds, run_sliceBound, hh, sizeOf, typeInfo, i1]
  intro _
  rfl
theorem eqI (d : Nat) (x : Int) (W : World) : (Op.equalIn (d + 1) 3 (.int .i64 x) (.int .i64 x)).run Try.prog W = .ok true W := by
  simp only [Op.equalIn, Sem.run_bind, run_underlying Try.underlying3, Result.andThen_ok]
  simp [go_sem]
theorem eqTh (d : Nat) (p q : Int) (W : World) : (Op.equalIn (d + 2) 59 (.agg (thC p q)) (.agg (thC p q))).run Try.prog W = .ok true W := by
  have hs : ∀ W, (sizeOf 3).run Try.prog W = .ok 1 W := by intro W; simp [go_sem]
  have p0 : ∀ W, (part 3 (thC p q) 0).run Try.prog W = .ok (.int .i64 p) W := by intro W; simp [go_sem, thC]
  have p1 : ∀ W, (part 3 (thC p q) 1).run Try.prog W = .ok (.int .i64 q) W := by intro W; simp [go_sem, thC]
  rw [Op.equalIn]
  simp only [Sem.run_bind, run_underlying Try.underlying59, Result.andThen_ok, Std.Legacy.Range.forIn_eq_forIn_range', hs]
  simp [List.range', Std.Legacy.Range.size, p0, p1, eqI]

theorem size_Th (p q : Int) : (Try.prog.info? 59).map (·.size) = some (thC p q).size := by
  show _ = some 2
  kernel_rfl
theorem infoTh : ∃ i, Try.prog.info? 59 = some i ∧ i.zero = some (.agg (thC 0 0)) ∧ i.size = 2 ∧ i.bytes = 16 := by
  have h : (Try.prog.info? 59).map (fun i => (i.zero, i.size, i.bytes)) = some (some (.agg (thC 0 0)), 2, 16) := by kernel_rfl
  cases hq : Try.prog.info? 59 with
  | none => rw [hq] at h; cases h
  | some i =>
    rw [hq] at h
    simp only [Option.map_some, Option.some.injEq, Prod.mk.injEq] at h
    exact ⟨i, rfl, h.1, h.2.1, h.2.2⟩
section
variable {o : Oper} {a : Act} {w : World}
theorem execIdxTh {x i : Operand} {g off n cap k : Nat} (ho : o.op = .indexAddr 55 x i) (hx : a.eval x = .slice (some ⟨g, off, none⟩) n cap) (hi : a.eval i = .int .i64 (k : Int)) (hk : k < n) : (execOp a.eval o).run Try.prog w = .ok (.value (.pointer (some ⟨g, off + k * 2, none⟩))) w := by
  have h1 : (k : Int) < n := by omega
  unfold execOp
  simp only [ho, hx, hi]
  simp [go_sem, h1]
theorem execLdTh {x : Operand} {b f : Nat} {p q : Int} (ho : o.op = .load 59 x) (hx : a.eval x = .pointer (some ⟨b, f, none⟩)) (h0 : w.cell? ⟨b, f, none⟩ = some (.int .i64 p)) (h1 : w.cell? ⟨b, f + 1, none⟩ = some (.int .i64 q)) : (execOp a.eval o).run Try.prog w = .ok (.value (.agg (thC p q))) w := by
  have h := execLoadMid (P := Try.prog) (w := w) (cs := (thC p q).toList) ho hx (fun j v hj => by
    match j, hj with
    | 0, hj => exact h0.trans hj
    | 1, hj => exact h1.trans hj
    | j + 2, hj => simp [thC] at hj) Try.underlying59 rfl (size_Th _ _)
  exact h
theorem execBdTh {x y : Operand} {p q : Int} (ho : o.op = .build 59 #[(0, x), (1, y)]) (hx : a.eval x = .int .i64 p) (hy : a.eval y = .int .i64 q) : (execOp a.eval o).run Try.prog w = .ok (.value (.agg (thC p q))) w := by
  unfold execOp
  simp only [ho, List.map_toArray, List.map_cons, List.map_nil, hx, hy]
  simp [go_sem, thC]
theorem execLenTh {x : Operand} {v : Value} {len : Nat} (ho : o.op = .call { callee := .builtin .len, args := #[x], argTypes := #[55] }) (hx : a.eval x = v) (hv : ∃ ao c, v = .slice ao len c) : (execOp a.eval o).run Try.prog w = .ok (.value (.int .i64 (len : Int))) w := by
  obtain ⟨g, c, rfl⟩ := hv
  unfold execOp
  simp only [ho, resolve, invoke, builtin, List.map_toArray, List.map_cons, List.map_nil, hx]
  simp [go_sem]
theorem execBs1Th {x : Operand} {p q : Int} (ho : o.op = .buildSlice 55 1 #[(0, x)]) (hx : a.eval x = .agg (thC p q)) : (execOp a.eval o).run Try.prog w = .ok (.value (.slice (some ⟨w.heap.size, 0, none⟩) 1 1)) (w.alloc (.cells (thC p q) 59)) := by
  unfold execOp
  simp only [ho, List.map_toArray, List.map_cons, List.map_nil, hx]
  simp [go_sem, thC]
end
/-- append of one. -/
theorem stepAppTh {ops : Array Oper} {Q : Exit → Act → World → Prop} {K : Act → World → Prop} {j : Nat} {o : Oper} {a : Act} {W : World} {s x : Operand} {B n g : Nat} {v : Value} {h : Nat → Int} (hos : ops[j]? = some o) (hgd : Region.wanted o (yielded ops a.tmps) = true)
    (ho : o.op = .call { callee := .builtin .append, args := #[s, x], argTypes := #[55, 55] }) (hs : a.eval s = v) (hx : a.eval x = .slice (some ⟨g, 0, none⟩) 1 1) (hown : W.ownsRow B 59 2 v n (intsL (n * 2) h)) (hg : W.heap[g]? = some (.cells (thC (h (n * 2)) (h (n * 2 + 1))) 59)) (hn : n + 1 ≤ 8000000000000) (hB : B ≤ W.heap.size)
    (hK : ∀ v' W', W'.ownsRow B 59 2 v' (n + 1) (intsL ((n + 1) * 2) h) → W.grownBy W' v.ownBlock → K (a.put o.dst v') W') : wpOp Try.prog ops Q j K a W := by
  obtain ⟨i, i1, i2, i3, i4⟩ := infoTh
  obtain ⟨v', W', run, q1, q2⟩ := execAppO (W := W) (m := 1) (c := 1) (news := (thC (h (n * 2)) (h (n * 2 + 1))).toList) ho Try.underlying55 i1 i2 i3 i4 (by simp [Value.cells, thC]) (by decide) hs hown hx (by simp [thC]) (fun j u hu => by
    rw [Go.WideShapes.add_plain, cell_of_row _ _ _ _ _ _ hg, Nat.zero_add, ← Array.getElem?_toList]
    exact hu) (fun u hu => by
    simp [thC] at hu
    rcases hu with rfl | rfl <;> rfl) (by unfold maxLen; omega) (by omega) hB
  have e : intsL (n * 2) h ++ (thC (h (n * 2)) (h (n * 2 + 1))).toList = intsL ((n + 1) * 2) h := by
    rw [show (n + 1) * 2 = n * 2 + 1 + 1 by omega, intsL_succ, intsL_succ, List.append_assoc]
    rfl
  rw [e] at q1
  exact stepV hos hgd run (hK v' W' q1 q2)
theorem size_Pr (p q : Int) : (Try.prog.info? 58).map (·.size) = some (thC p q).size := by
  show _ = some 2
  kernel_rfl
theorem infoPr : ∃ i, Try.prog.info? 58 = some i ∧ i.zero = some (.agg (thC 0 0)) ∧ i.size = 2 ∧ i.bytes = 16 := by
  have h : (Try.prog.info? 58).map (fun i => (i.zero, i.size, i.bytes)) = some (some (.agg (thC 0 0)), 2, 16) := by kernel_rfl
  cases hq : Try.prog.info? 58 with
  | none => rw [hq] at h; cases h
  | some i =>
    rw [hq] at h
    simp only [Option.map_some, Option.some.injEq, Prod.mk.injEq] at h
    exact ⟨i, rfl, h.1, h.2.1, h.2.2⟩
section
variable {o : Oper} {a : Act} {w : World}
theorem execIdxPr {x i : Operand} {g off n cap k : Nat} (ho : o.op = .indexAddr 52 x i) (hx : a.eval x = .slice (some ⟨g, off, none⟩) n cap) (hi : a.eval i = .int .i64 (k : Int)) (hk : k < n) : (execOp a.eval o).run Try.prog w = .ok (.value (.pointer (some ⟨g, off + k * 2, none⟩))) w := by
  have h1 : (k : Int) < n := by omega
  unfold execOp
  simp only [ho, hx, hi]
  simp [go_sem, h1]
theorem execLdPr {x : Operand} {b f : Nat} {p q : Int} (ho : o.op = .load 58 x) (hx : a.eval x = .pointer (some ⟨b, f, none⟩)) (h0 : w.cell? ⟨b, f, none⟩ = some (.int .i64 p)) (h1 : w.cell? ⟨b, f + 1, none⟩ = some (.int .i64 q)) : (execOp a.eval o).run Try.prog w = .ok (.value (.agg (thC p q))) w := by
  have h := execLoadMid (P := Try.prog) (w := w) (cs := (thC p q).toList) ho hx (fun j v hj => by
    match j, hj with
    | 0, hj => exact h0.trans hj
    | 1, hj => exact h1.trans hj
    | j + 2, hj => simp [thC] at hj) Try.underlying58 rfl (size_Pr _ _)
  exact h
theorem execBdPr {x y : Operand} {p q : Int} (ho : o.op = .build 58 #[(0, x), (1, y)]) (hx : a.eval x = .int .i64 p) (hy : a.eval y = .int .i64 q) : (execOp a.eval o).run Try.prog w = .ok (.value (.agg (thC p q))) w := by
  unfold execOp
  simp only [ho, List.map_toArray, List.map_cons, List.map_nil, hx, hy]
  simp [go_sem, thC]
theorem execLenPr {x : Operand} {v : Value} {len : Nat} (ho : o.op = .call { callee := .builtin .len, args := #[x], argTypes := #[52] }) (hx : a.eval x = v) (hv : ∃ ao c, v = .slice ao len c) : (execOp a.eval o).run Try.prog w = .ok (.value (.int .i64 (len : Int))) w := by
  obtain ⟨g, c, rfl⟩ := hv
  unfold execOp
  simp only [ho, resolve, invoke, builtin, List.map_toArray, List.map_cons, List.map_nil, hx]
  simp [go_sem]
theorem execBs1Pr {x : Operand} {p q : Int} (ho : o.op = .buildSlice 52 1 #[(0, x)]) (hx : a.eval x = .agg (thC p q)) : (execOp a.eval o).run Try.prog w = .ok (.value (.slice (some ⟨w.heap.size, 0, none⟩) 1 1)) (w.alloc (.cells (thC p q) 58)) := by
  unfold execOp
  simp only [ho, List.map_toArray, List.map_cons, List.map_nil, hx]
  simp [go_sem, thC]
end
/-- append of one. -/
theorem stepAppPr {ops : Array Oper} {Q : Exit → Act → World → Prop} {K : Act → World → Prop} {j : Nat} {o : Oper} {a : Act} {W : World} {s x : Operand} {B n g : Nat} {v : Value} {h : Nat → Int} (hos : ops[j]? = some o) (hgd : Region.wanted o (yielded ops a.tmps) = true)
    (ho : o.op = .call { callee := .builtin .append, args := #[s, x], argTypes := #[52, 52] }) (hs : a.eval s = v) (hx : a.eval x = .slice (some ⟨g, 0, none⟩) 1 1) (hown : W.ownsRow B 58 2 v n (intsL (n * 2) h)) (hg : W.heap[g]? = some (.cells (thC (h (n * 2)) (h (n * 2 + 1))) 58)) (hn : n + 1 ≤ 8000000000000) (hB : B ≤ W.heap.size)
    (hK : ∀ v' W', W'.ownsRow B 58 2 v' (n + 1) (intsL ((n + 1) * 2) h) → W.grownBy W' v.ownBlock → K (a.put o.dst v') W') : wpOp Try.prog ops Q j K a W := by
  obtain ⟨i, i1, i2, i3, i4⟩ := infoPr
  obtain ⟨v', W', run, q1, q2⟩ := execAppO (W := W) (m := 1) (c := 1) (news := (thC (h (n * 2)) (h (n * 2 + 1))).toList) ho Try.underlying52 i1 i2 i3 i4 (by simp [Value.cells, thC]) (by decide) hs hown hx (by simp [thC]) (fun j u hu => by
    rw [Go.WideShapes.add_plain, cell_of_row _ _ _ _ _ _ hg, Nat.zero_add, ← Array.getElem?_toList]
    exact hu) (fun u hu => by
    simp [thC] at hu
    rcases hu with rfl | rfl <;> rfl) (by unfold maxLen; omega) (by omega) hB
  have e : intsL (n * 2) h ++ (thC (h (n * 2)) (h (n * 2 + 1))).toList = intsL ((n + 1) * 2) h := by
    rw [show (n + 1) * 2 = n * 2 + 1 + 1 by omega, intsL_succ, intsL_succ, List.append_assoc]
    rfl
  rw [e] at q1
  exact stepV hos hgd run (hK v' W' q1 q2)
section
variable {o : Oper} {a : Act} {w : World}
theorem execNeTh {x y : Operand} {p q : Int} (ho : o.op = .binOp .neq 59 x y 59) (hx : a.eval x = .agg (thC p q)) (hy : a.eval y = .agg (thC p q)) : (execOp a.eval o).run Try.prog w = .ok (.value (.bool false)) w := by
  unfold execOp
  simp only [ho, hx, hy]
  have h := eqTh 9998 p q w
  simp [go_sem, h]
theorem execMkTh {x y : Operand} {n : Nat} (ho : o.op = .makeSlice 55 x y) (hx : a.eval x = .int .i64 (n : Int)) (hy : a.eval y = .int .i64 (n : Int)) (hn : n ≤ 8000000000000) : (execOp a.eval o).run Try.prog w = .ok (.value (.slice (some ⟨w.heap.size, 0, none⟩) n n)) (w.alloc (.cells (madeCells (thC 0 0) (n * 2)) 59)) := by
  obtain ⟨i, h1, h2, h3, h4⟩ := infoTh
  have h := run_make (P := Try.prog) w 55 59 i (.agg (thC 0 0)) Try.underlying55 h1 h2 .i64 .i64 (n : Int) (n : Int) (by omega) (by omega) (by rw [h4]; omega) (by omega)
  rw [h3, Int.toNat_natCast] at h
  unfold execOp
  simp only [ho, hx, hy, Sem.run_bind, h, Result.andThen_ok, Sem.run_pure]
  rfl
end
theorem own_mkTh (W : World) (n : Nat) (h : Nat → Int) (hn : n ≤ 8000000000000) (hs : ∀ t, t < n * 2 → h t = 0) : (W.alloc (.cells (madeCells (thC 0 0) (n * 2)) 59)).ownsRow W.heap.size 59 2 (.slice (some ⟨W.heap.size, 0, none⟩) n n) n (intsL (n * 2) h) := by
  refine ⟨by rw [intsL_len], Or.inr ⟨_, _, _, rfl, Nat.le_refl _, heapNew W _, Nat.le_refl _, by unfold maxLen; omega, by simp [madeCells], ?_⟩⟩
  apply List.ext_getElem?
  intro j
  by_cases q : j < n * 2
  · have e : (thC 0 0)[j % 2]? = some (.int .i64 0) := by
      rcases Nat.mod_two_eq_zero_or_one j with z | z <;> rw [z] <;> rfl
    rw [intsL_get q, hs j q, List.getElem?_take_of_lt q]
    simp [madeCells, q]
    rcases Nat.mod_two_eq_zero_or_one j with z | z <;> simp [thC, z]
  · rw [List.getElem?_eq_none (by simp; omega), List.getElem?_eq_none (by rw [intsL_len]; omega)]
/-- A thing is stored into a row of one's own. -/
theorem stepStTh {ops : Array Oper} {Q : Exit → Act → World → Prop} {K : Act → World → Prop} {j : Nat} {o : Oper} {a : Act} {W : World} {x y : Operand} {B n g c k : Nat} {p q : Int} {h : Nat → Int} (hos : ops[j]? = some o) (hgd : Region.wanted o (yielded ops a.tmps) = true)
    (ho : o.op = .store 59 x y) (hx : a.eval x = .pointer (some ⟨g, 0 + k * 2, none⟩)) (hy : a.eval y = .agg (thC p q)) (hown : W.ownsRow B 59 2 (.slice (some ⟨g, 0, none⟩) n c) n (intsL (n * 2) h)) (hk : k < n)
    (hK : ∀ W', W'.ownsRow B 59 2 (.slice (some ⟨g, 0, none⟩) n c) n (intsL (n * 2) (setT h k p q)) → W.grownBy W' (some g) → K (a.put o.dst undef) W') : wpOp Try.prog ops Q j K a W := by
  have ho2 := hown.2
  rcases ho2 with ⟨e, _⟩ | ⟨g', cap, cur, e, hB, hg, h1, h2, h3, h4⟩
  · cases e
  · injection e with e1 _ e3
    injection e1 with e1
    injection e1 with e1 _ _
    subst e1
    subst e3
    have hcs : n * 2 ≤ cur.size := by
      have : (cur.toList.take (n * 2)).length = n * 2 := by rw [h4, intsL_len]
      rw [List.length_take, Array.length_toList] at this
      omega
    have hst := execStMid (P := Try.prog) (w := W) ho hx hy hg (by show 0 + k * 2 + 2 ≤ cur.size; omega) (size_Th p q) (by simp [thC, Value.oneCell'])
    rw [Nat.zero_add] at hst
    refine stepS hos hgd hst (hK _ ⟨by rw [intsL_len], Or.inr ⟨g, c, _, rfl, hB, setRow_heap _ _ _ _ _ _ hg, h1, h2, ?_, ?_⟩⟩ ⟨rfl, rfl, rfl, by simp [World.setRow], fun i _ hne => setRow_other _ _ _ _ (fun z => hne (by rw [z]))⟩)
    · have hsz : (thC p q).size = 2 := rfl
      have e5 : cur.size = c * 2 := h3
      simp [hsz]
      omega
    · apply List.ext_getElem?
      intro t
      have hsz : (thC p q).size = 2 := rfl
      by_cases ht : t < n * 2
      · rw [List.getElem?_take_of_lt ht, intsL_get ht]
        have h5 : (cur.toList.take (n * 2))[t]? = some (.int .i64 (h t)) := by rw [h4]; exact intsL_get ht
        rw [List.getElem?_take_of_lt ht] at h5
        have hlen : (cur.toList.take (k * 2)).length = k * 2 := by rw [List.length_take, Array.length_toList]; omega
        show (cur.toList.take (k * 2) ++ (thC p q).toList ++ cur.toList.drop (k * 2 + (thC p q).size))[t]? = some (.int .i64 (if t = k * 2 then p else if t = k * 2 + 1 then q else h t))
        rw [hsz, List.append_assoc]
        by_cases q1 : t < k * 2
        · rw [List.getElem?_append_left (by omega), List.getElem?_take_of_lt q1, if_neg (by omega), if_neg (by omega)]
          exact h5
        · rw [List.getElem?_append_right (by omega), hlen]
          by_cases q2 : t = k * 2
          · subst q2
            rw [if_pos rfl, Nat.sub_self]
            rfl
          · by_cases q3 : t = k * 2 + 1
            · subst q3
              rw [if_neg (by omega), if_pos rfl, show k * 2 + 1 - k * 2 = 1 by omega]
              rfl
            · rw [if_neg q2, if_neg q3, List.getElem?_append_right (by show 2 ≤ _; omega)]
              show (cur.toList.drop (k * 2 + 2))[t - k * 2 - 2]? = _
              rw [List.getElem?_drop, show k * 2 + 2 + (t - k * 2 - 2) = t by omega]
              exact h5
      · rw [List.getElem?_eq_none (by rw [List.length_take]; omega), List.getElem?_eq_none (by rw [intsL_len]; omega)]
end Go.Proofs.Ytdecmmcphcomhaa.Brd
