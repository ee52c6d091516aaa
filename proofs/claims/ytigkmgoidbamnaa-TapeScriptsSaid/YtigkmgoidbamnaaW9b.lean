import Derived.Test.YtigkmgoidbamnaaV9z
namespace Go.Proofs.Ytigkmgoidbamnaa.Tap
open Go.RowKit Gf8 Aes By8 Cel Cf
/- TapeScripts: steps, tapes and books in memory. -/

/-- Pairs of cells, one behind the other. -/
def pairL (x y : Nat → Value) : Nat → List Value
  | 0 => []
  | n + 1 => pairL x y n ++ [x n, y n]
theorem pairL_len (x y : Nat → Value) : ∀ n, (pairL x y n).length = n * 2
  | 0 => rfl
  | n + 1 => by simp only [pairL, List.length_append, pairL_len x y n, List.length_cons, List.length_nil]; omega
theorem pairL_get (x y : Nat → Value) : ∀ (n k : Nat), k < n → (pairL x y n)[k * 2]? = some (x k) ∧ (pairL x y n)[k * 2 + 1]? = some (y k)
  | 0, k, h => by omega
  | n + 1, k, h => by
    simp only [pairL]
    by_cases e : k = n
    · subst e
      rw [List.getElem?_append_right (by rw [pairL_len]; omega), List.getElem?_append_right (by rw [pairL_len]; omega), pairL_len]
      simp
    · rw [List.getElem?_append_left (by rw [pairL_len]; omega), List.getElem?_append_left (by rw [pairL_len]; omega)]
      exact pairL_get x y n k (by omega)
theorem pairL_congr {x y x' y' : Nat → Value} : ∀ n, (∀ i, i < n → x i = x' i ∧ y i = y' i) → pairL x y n = pairL x' y' n
  | 0, _ => rfl
  | n + 1, h => by
    simp only [pairL]
    rw [pairL_congr n (fun i hi => h i (by omega)), (h n (by omega)).1, (h n (by omega)).2]
theorem pair_cells {W : World} {B m g c : Nat} {t : TypeId} {x y : Nat → Value} (h : W.ownsRow B t 2 (.slice (some ⟨g, 0, none⟩) m c) m (pairL x y m)) {k : Nat} (hk : k < m) : W.cell? ⟨g, k * 2, none⟩ = some (x k) ∧ W.cell? ⟨g, k * 2 + 1, none⟩ = some (y k) := by
  rcases h.2 with ⟨e, _⟩ | ⟨g', cap, cur, e, _, hg, h1, h2, h3, h4⟩
  · cases e
  · injection e with e1 _ _
    injection e1 with e1
    injection e1 with e1 _ _
    subst e1
    have hp := pairL_get x y m k hk
    rw [← h4, List.getElem?_take, if_pos (by omega), List.getElem?_take, if_pos (by omega)] at hp
    exact ⟨by rw [cell_of_row _ _ _ _ _ _ hg, ← Array.getElem?_toList]; exact hp.1, by rw [cell_of_row _ _ _ _ _ _ hg, ← Array.getElem?_toList]; exact hp.2⟩
/-- A book's cells, a step's cells. -/
def bkC (p : Value) (at' : Nat) : Array Value := #[p, .int .i64 (at' : Int)]
def stC (kd tt nn : Int) (p : Value) : Array Value := #[.int .i64 kd, .int .i64 tt, .int .i64 nn, p]
theorem size_bk (p : Value) (at' : Nat) : (Try.prog.info? 29).map (·.size) = some (bkC p at').size := by
  show _ = some 2
  kernel_rfl
theorem size_st (kd tt nn : Int) (p : Value) : (Try.prog.info? 32).map (·.size) = some (stC kd tt nn p).size := by
  show _ = some 4
  kernel_rfl
theorem bkC_at {W : World} {g : Nat} {p : Value} {at' : Nat} {t : TypeId} {fr : Nat × Nat} (h : W.heap[g]? = some (.cells (bkC p at') t fr)) : W.cell? ⟨g, 0, none⟩ = some p ∧ W.cell? ⟨g, 1, none⟩ = some (.int .i64 (at' : Int)) := by
  refine ⟨?_, ?_⟩
  · rw [cell_of_row _ _ _ _ _ _ h]; rfl
  · rw [cell_of_row _ _ _ _ _ _ h]; rfl
theorem stC_at {W : World} {g : Nat} {kd tt nn : Int} {p : Value} {t : TypeId} {fr : Nat × Nat} (h : W.heap[g]? = some (.cells (stC kd tt nn p) t fr)) : W.cell? ⟨g, 0, none⟩ = some (.int .i64 kd) ∧ W.cell? ⟨g, 1, none⟩ = some (.int .i64 tt) ∧ W.cell? ⟨g, 2, none⟩ = some (.int .i64 nn) ∧ W.cell? ⟨g, 3, none⟩ = some p := by
  refine ⟨?_, ?_, ?_, ?_⟩
  all_goals (rw [cell_of_row _ _ _ _ _ _ h]; rfl)
section
variable {o : Oper} {a : Act} {w : World}
theorem execIdxT {x i : Operand} {g n cap k : Nat} (ho : o.op = .indexAddr 26 x i) (hx : a.eval x = .slice (some ⟨g, 0, none⟩) n cap) (hi : a.eval i = .int .i64 (k : Int)) (hk : k < n) : (execOp a.eval o).run Try.prog w = .ok (.value (.pointer (some ⟨g, k * 2, none⟩))) w := by
  have h1 : (k : Int) < n := by omega
  unfold execOp
  simp only [ho, hx, hi]
  simp [go_sem, h1]
theorem execIdxK {x i : Operand} {g n cap k : Nat} (ho : o.op = .indexAddr 30 x i) (hx : a.eval x = .slice (some ⟨g, 0, none⟩) n cap) (hi : a.eval i = .int .i64 (k : Int)) (hk : k < n) : (execOp a.eval o).run Try.prog w = .ok (.value (.pointer (some ⟨g, k * 2, none⟩))) w := by
  have h1 : (k : Int) < n := by omega
  unfold execOp
  simp only [ho, hx, hi]
  simp [go_sem, h1]
theorem execIdxSp {x i : Operand} {g off n cap k : Nat} (ho : o.op = .indexAddr 22 x i) (hx : a.eval x = .slice (some ⟨g, off, none⟩) n cap) (hi : a.eval i = .int .i64 (k : Int)) (hk : k < n) : (execOp a.eval o).run Try.prog w = .ok (.value (.pointer (some ⟨g, off + k * 4, none⟩))) w := by
  have h1 : (k : Int) < n := by omega
  unfold execOp
  simp only [ho, hx, hi]
  simp [go_sem, h1]
theorem execLdT {x : Operand} {b f : Nat} {p : Nat → Nat} {l at' : Nat} (ho : o.op = .load 25 x) (hx : a.eval x = .pointer (some ⟨b, f, none⟩)) (h0 : w.cell? ⟨b, f, none⟩ = some (.string (strN p l))) (h1 : w.cell? ⟨b, f + 1, none⟩ = some (.int .i64 (at' : Int))) : (execOp a.eval o).run Try.prog w = .ok (.value (.agg (tpC p l at'))) w := by
  have h := execLoadMid (P := Try.prog) (w := w) (cs := (tpC p l at').toList) ho hx (fun j v hj => by
    match j with
    | 0 => rw [Nat.add_zero, h0]; exact hj
    | 1 => rw [h1]; exact hj
    | k + 2 => simp [tpC] at hj) Try.underlying25 rfl (size_tp _ _ _)
  exact h
theorem execLdK {x : Operand} {b f : Nat} {p : Value} {at' : Nat} (ho : o.op = .load 29 x) (hx : a.eval x = .pointer (some ⟨b, f, none⟩)) (h0 : w.cell? ⟨b, f, none⟩ = some p) (h1 : w.cell? ⟨b, f + 1, none⟩ = some (.int .i64 (at' : Int))) : (execOp a.eval o).run Try.prog w = .ok (.value (.agg (bkC p at'))) w := by
  have h := execLoadMid (P := Try.prog) (w := w) (cs := (bkC p at').toList) ho hx (fun j v hj => by
    match j with
    | 0 => rw [Nat.add_zero, h0]; exact hj
    | 1 => rw [h1]; exact hj
    | k + 2 => simp [bkC] at hj) Try.underlying29 rfl (size_bk _ _)
  exact h
theorem execLdSp {x : Operand} {b f : Nat} {kd tt nn : Int} {p : Value} (ho : o.op = .load 32 x) (hx : a.eval x = .pointer (some ⟨b, f, none⟩)) (h0 : w.cell? ⟨b, f, none⟩ = some (.int .i64 kd)) (h1 : w.cell? ⟨b, f + 1, none⟩ = some (.int .i64 tt)) (h2 : w.cell? ⟨b, f + 2, none⟩ = some (.int .i64 nn)) (h3 : w.cell? ⟨b, f + 3, none⟩ = some p) : (execOp a.eval o).run Try.prog w = .ok (.value (.agg (stC kd tt nn p))) w := by
  have h := execLoadMid (P := Try.prog) (w := w) (cs := (stC kd tt nn p).toList) ho hx (fun j v hj => by
    match j with
    | 0 => rw [Nat.add_zero, h0]; exact hj
    | 1 => rw [h1]; exact hj
    | 2 => rw [h2]; exact hj
    | 3 => rw [h3]; exact hj
    | k + 4 => simp [stC] at hj) Try.underlying32 rfl (size_st _ _ _ _)
  exact h
theorem bk_one {p : Value} (at' : Nat) (h : ∃ g l k, p = .slice g l k) : (bkC p at').all (·.oneCell') = true := by
  obtain ⟨_, _, _, rfl⟩ := h
  simp [bkC, Value.oneCell']
theorem st_one {p : Value} (kd tt nn : Int) (h : ∃ g l k, p = .slice g l k) : (stC kd tt nn p).all (·.oneCell') = true := by
  obtain ⟨_, _, _, rfl⟩ := h
  simp [stC, Value.oneCell']
theorem execStRowA {x y : Operand} {g : Nat} {ty : TypeId} {cs cur : Array Value} {t : TypeId} (ho : o.op = .store ty x y) (hx : a.eval x = .pointer (some ⟨g, 0, none⟩)) (hy : a.eval y = .agg cs) (hg : w.heap[g]? = some (.cells cur t)) (hs : cur.size = cs.size) (hi : (Try.prog.info? ty).map (·.size) = some cs.size) (h1 : cs.all (·.oneCell') = true) :
    (execOp a.eval o).run Try.prog w = .ok .skip (w.setRow g cs) := by
  have h := execStMid (P := Try.prog) ho hx hy hg (by rw [hs]; omega) hi h1
  have e : (cur.toList.take 0 ++ cs.toList ++ cur.toList.drop (0 + cs.size)).toArray = cs := by
    rw [List.take_zero, List.nil_append, Nat.zero_add, List.drop_of_length_le (by rw [Array.length_toList, hs]; exact Nat.le_refl _), List.append_nil]
  rw [e] at h
  exact h
theorem execAllK (ho : o.op = .alloc 29) : (execOp a.eval o).run Try.prog w = .ok (.value (.pointer (some ⟨w.heap.size, 0, none⟩))) (w.alloc (.cells (bkC (.slice none 0 0) 0) 29)) := by
  unfold execOp
  simp only [ho]
  simp [go_sem, bkC]
theorem execAllSp (ho : o.op = .alloc 32) : (execOp a.eval o).run Try.prog w = .ok (.value (.pointer (some ⟨w.heap.size, 0, none⟩))) (w.alloc (.cells (stC 0 0 0 (.slice none 0 0)) 32)) := by
  unfold execOp
  simp only [ho]
  simp [go_sem, stC]
theorem execFldK0 {x : Operand} {b f : Nat} (ho : o.op = .fieldAddr 29 x 0) (hx : a.eval x = .pointer (some ⟨b, f, none⟩)) : (execOp a.eval o).run Try.prog w = .ok (.value (.pointer (some ⟨b, f, none⟩))) w := by
  unfold execOp
  simp only [ho, hx]
  simp [go_sem]
theorem execFldK1 {x : Operand} {b f : Nat} (ho : o.op = .fieldAddr 29 x 1) (hx : a.eval x = .pointer (some ⟨b, f, none⟩)) : (execOp a.eval o).run Try.prog w = .ok (.value (.pointer (some ⟨b, f + 1, none⟩))) w := by
  unfold execOp
  simp only [ho, hx]
  simp [go_sem]
theorem execFldS0 {x : Operand} {b : Nat} (ho : o.op = .fieldAddr 32 x 0) (hx : a.eval x = .pointer (some ⟨b, 0, none⟩)) : (execOp a.eval o).run Try.prog w = .ok (.value (.pointer (some ⟨b, 0, none⟩))) w := by
  unfold execOp
  simp only [ho, hx]
  simp [go_sem]
theorem execFldS1 {x : Operand} {b : Nat} (ho : o.op = .fieldAddr 32 x 1) (hx : a.eval x = .pointer (some ⟨b, 0, none⟩)) : (execOp a.eval o).run Try.prog w = .ok (.value (.pointer (some ⟨b, 1, none⟩))) w := by
  unfold execOp
  simp only [ho, hx]
  simp [go_sem]
theorem execFldS2 {x : Operand} {b : Nat} (ho : o.op = .fieldAddr 32 x 2) (hx : a.eval x = .pointer (some ⟨b, 0, none⟩)) : (execOp a.eval o).run Try.prog w = .ok (.value (.pointer (some ⟨b, 2, none⟩))) w := by
  unfold execOp
  simp only [ho, hx]
  simp [go_sem]
theorem execFldS3 {x : Operand} {b : Nat} (ho : o.op = .fieldAddr 32 x 3) (hx : a.eval x = .pointer (some ⟨b, 0, none⟩)) : (execOp a.eval o).run Try.prog w = .ok (.value (.pointer (some ⟨b, 3, none⟩))) w := by
  unfold execOp
  simp only [ho, hx]
  simp [go_sem]
theorem execBldK0 (ho : o.op = .build 29 #[]) : (execOp a.eval o).run Try.prog w = .ok (.value (.agg (bkC (.slice none 0 0) 0))) w := by
  unfold execOp
  simp only [ho]
  simp [go_sem, bkC]
theorem execBldK1 {x : Operand} {p : Value} (ho : o.op = .build 29 #[(0, x)]) (hx : a.eval x = p) (sp : ∃ g l k, p = .slice g l k) : (execOp a.eval o).run Try.prog w = .ok (.value (.agg (bkC p 0))) w := by
  obtain ⟨_, _, _, rfl⟩ := sp
  unfold execOp
  simp only [ho, List.map_toArray, List.map_cons, List.map_nil, hx]
  simp [go_sem, bkC]
theorem execBldK2 {x y : Operand} {p : Value} {at' : Nat} (ho : o.op = .build 29 #[(0, x), (1, y)]) (hx : a.eval x = p) (hy : a.eval y = .int .i64 (at' : Int)) (sp : ∃ g l k, p = .slice g l k) : (execOp a.eval o).run Try.prog w = .ok (.value (.agg (bkC p at'))) w := by
  obtain ⟨_, _, _, rfl⟩ := sp
  unfold execOp
  simp only [ho, List.map_toArray, List.map_cons, List.map_nil, hx, hy]
  simp [go_sem, bkC]
theorem execBsT {x : Operand} {p : Nat → Nat} {l at' : Nat} (ho : o.op = .buildSlice 26 1 #[(0, x)]) (hx : a.eval x = .agg (tpC p l at')) : (execOp a.eval o).run Try.prog w = .ok (.value (.slice (some ⟨w.heap.size, 0, none⟩) 1 1)) (w.alloc (.cells (tpC p l at') 25)) := by
  unfold execOp
  simp only [ho, List.map_toArray, List.map_cons, List.map_nil, hx]
  simp [go_sem, tpC]
theorem execBsK {x : Operand} {p : Value} {at' : Nat} (ho : o.op = .buildSlice 30 1 #[(0, x)]) (hx : a.eval x = .agg (bkC p at')) (sp : ∃ g l k, p = .slice g l k) : (execOp a.eval o).run Try.prog w = .ok (.value (.slice (some ⟨w.heap.size, 0, none⟩) 1 1)) (w.alloc (.cells (bkC p at') 29)) := by
  obtain ⟨_, _, _, rfl⟩ := sp
  unfold execOp
  simp only [ho, List.map_toArray, List.map_cons, List.map_nil, hx]
  simp [go_sem, bkC]
theorem execLenT {x : Operand} {v : Value} {len : Nat} (ho : o.op = .call { callee := .builtin .len, args := #[x], argTypes := #[26] }) (hx : a.eval x = v) (hv : ∃ ao c, v = .slice ao len c) : (execOp a.eval o).run Try.prog w = .ok (.value (.int .i64 (len : Int))) w := by
  obtain ⟨ao, c, rfl⟩ := hv
  unfold execOp
  simp only [ho, resolve, invoke, builtin, Sem.run_bind, Sem.run_pure, Result.andThen_ok, List.map_toArray, List.map_cons, List.map_nil, hx]
  simp [go_sem]
theorem execLenSp {x : Operand} {v : Value} {len : Nat} (ho : o.op = .call { callee := .builtin .len, args := #[x], argTypes := #[22] }) (hx : a.eval x = v) (hv : ∃ ao c, v = .slice ao len c) : (execOp a.eval o).run Try.prog w = .ok (.value (.int .i64 (len : Int))) w := by
  obtain ⟨ao, c, rfl⟩ := hv
  unfold execOp
  simp only [ho, resolve, invoke, builtin, Sem.run_bind, Sem.run_pure, Result.andThen_ok, List.map_toArray, List.map_cons, List.map_nil, hx]
  simp [go_sem]
end
theorem infoTp : ∃ i, Try.prog.info? 25 = some i ∧ i.zero = some (.agg (tpC (fun _ => 0) 0 0)) ∧ i.size = 2 ∧ i.bytes = 24 := by
  exact ⟨_, rfl, by kernel_rfl, by kernel_rfl, by kernel_rfl⟩
theorem infoBk : ∃ i, Try.prog.info? 29 = some i ∧ i.zero = some (.agg (bkC (.slice none 0 0) 0)) ∧ i.size = 2 ∧ i.bytes = 32 := by
  exact ⟨_, rfl, by kernel_rfl, by kernel_rfl, by kernel_rfl⟩
theorem stepAppT {ops : Array Oper} {Q : Exit → Act → World → Prop} {K : Act → World → Prop} {j : Nat} {o : Oper} {a : Act} {W : World} {s x : Operand} {B n g : Nat} {v : Value} {xs : List Value} {p : Nat → Nat} {l at' : Nat} (hos : ops[j]? = some o) (hgd : Region.wanted o (yielded ops a.tmps) = true)
    (ho : o.op = .call { callee := .builtin .append, args := #[s, x], argTypes := #[26, 26] }) (hs : a.eval s = v) (hx : a.eval x = .slice (some ⟨g, 0, none⟩) 1 1) (hown : W.ownsRow B 25 2 v n xs) (hg : W.heap[g]? = some (.cells (tpC p l at') 25)) (hn : n ≤ 3000000000000) (hB : B ≤ W.heap.size)
    (hK : ∀ v' W', W'.ownsRow B 25 2 v' (n + 1) (xs ++ [.string (strN p l), .int .i64 (at' : Int)]) → W.grownBy W' v.ownBlock → K (a.put o.dst v') W') : wpOp Try.prog ops Q j K a W := by
  obtain ⟨i, i1, i2, i3, i4⟩ := infoTp
  obtain ⟨v', W', run, q1, q2⟩ := execAppO (W := W) (news := [.string (strN p l), .int .i64 (at' : Int)]) ho Try.underlying26 i1 i2 i3 i4 rfl (by decide) hs hown hx rfl (fun j u hu => by
    rw [Go.WideShapes.add_plain, cell_of_row _ _ _ _ _ _ hg, Nat.zero_add, ← Array.getElem?_toList]
    exact hu) (fun u hu => by
    simp only [List.mem_cons, List.not_mem_nil, or_false] at hu
    rcases hu with rfl | rfl <;> rfl) (by unfold maxLen; omega) (by omega) hB
  exact stepV hos hgd run (hK v' W' q1 q2)
theorem stepAppK {ops : Array Oper} {Q : Exit → Act → World → Prop} {K : Act → World → Prop} {j : Nat} {o : Oper} {a : Act} {W : World} {s x : Operand} {B n g : Nat} {v : Value} {xs : List Value} {p : Value} {at' : Nat} (hos : ops[j]? = some o) (hgd : Region.wanted o (yielded ops a.tmps) = true)
    (ho : o.op = .call { callee := .builtin .append, args := #[s, x], argTypes := #[30, 30] }) (hs : a.eval s = v) (hx : a.eval x = .slice (some ⟨g, 0, none⟩) 1 1) (hown : W.ownsRow B 29 2 v n xs) (hg : W.heap[g]? = some (.cells (bkC p at') 29)) (sp : ∃ g l k, p = .slice g l k) (hn : n ≤ 3000000000000) (hB : B ≤ W.heap.size)
    (hK : ∀ v' W', W'.ownsRow B 29 2 v' (n + 1) (xs ++ [p, .int .i64 (at' : Int)]) → W.grownBy W' v.ownBlock → K (a.put o.dst v') W') : wpOp Try.prog ops Q j K a W := by
  obtain ⟨i, i1, i2, i3, i4⟩ := infoBk
  obtain ⟨v', W', run, q1, q2⟩ := execAppO (W := W) (news := [p, .int .i64 (at' : Int)]) ho Try.underlying30 i1 i2 i3 i4 rfl (by decide) hs hown hx rfl (fun j u hu => by
    rw [Go.WideShapes.add_plain, cell_of_row _ _ _ _ _ _ hg, Nat.zero_add, ← Array.getElem?_toList]
    exact hu) (fun u hu => by
    simp only [List.mem_cons, List.not_mem_nil, or_false] at hu
    rcases hu with rfl | rfl
    · exact one_of sp
    · rfl) (by unfold maxLen; omega) (by omega) hB
  exact stepV hos hgd run (hK v' W' q1 q2)
/-- The tapes and the books. -/
structure TB (V : World) (tv bv : Value) (m : Nat) (P : Nat → Nat → Nat) (Ln At : Nat → Nat) (pv : Nat → Value) (W : World) : Prop where
  tap : W.ownsRow V.heap.size 25 2 tv m (pairL (fun t => .string (strN (P t) (Ln t))) (fun t => .int .i64 (At t : Int)) m)
  boo : W.ownsRow V.heap.size 29 2 bv m (pairL pv (fun t => .int .i64 (At t : Int)) m)
  ok : ∀ t, t < m → At t ≤ Ln t ∧ Ln t ≤ 140737488351232 ∧ SliceN V (pv t) (Ln t) (P t) ∧ ∀ l c, pv t = .slice none l c → c = 0
  pos : 0 < m
theorem TB.on {V : World} {tv bv : Value} {m : Nat} {P : Nat → Nat → Nat} {Ln At : Nat → Nat} {pv : Nat → Value} {W W' : World} (h : TB V tv bv m P Ln At pv W) (hb : Below W.heap.size W W') : TB V tv bv m P Ln At pv W' := ⟨ownsLL_below h.tap hb, ownsLL_below h.boo hb, h.ok, h.pos⟩
theorem TB.set {V : World} {tv bv : Value} {m : Nat} {P : Nat → Nat → Nat} {Ln At : Nat → Nat} {pv : Nat → Value} {W : World} {g : Nat} {cur c : Array Value} {t : TypeId} (h : TB V tv bv m P Ln At pv W) (hg : W.heap[g]? = some (.cells cur t)) (h1 : t ≠ 25) (h2 : t ≠ 29) : TB V tv bv m P Ln At pv (W.setRow g c) := ⟨own_setR h.tap hg h1, own_setR h.boo hg h2, h.ok, h.pos⟩
/-- One more. -/
theorem tb_push {V : World} {tv bv tv' bv' : Value} {m : Nat} {P : Nat → Nat → Nat} {Ln At : Nat → Nat} {pv : Nat → Value} {W W' : World} {q : Nat → Nat} {l at' : Nat} {pw : Value} (h : TB V tv bv m P Ln At pv W)
    (ht : W'.ownsRow V.heap.size 25 2 tv' (m + 1) (pairL (fun t => .string (strN (P t) (Ln t))) (fun t => .int .i64 (At t : Int)) m ++ [.string (strN q l), .int .i64 (at' : Int)]))
    (hb : W'.ownsRow V.heap.size 29 2 bv' (m + 1) (pairL pv (fun t => .int .i64 (At t : Int)) m ++ [pw, .int .i64 (at' : Int)])) (h1 : at' ≤ l) (h2 : l ≤ 140737488351232) (h3 : SliceN V pw l q) (h4 : ∀ l c, pw = .slice none l c → c = 0) :
    TB V tv' bv' (m + 1) (fun t => if t = m then q else P t) (fun t => if t = m then l else Ln t) (fun t => if t = m then at' else At t) (fun t => if t = m then pw else pv t) W' := by
  refine ⟨?_, ?_, fun t ht => ?_, by omega⟩
  · simp only [pairL, if_true]
    rw [pairL_congr (x' := fun t => .string (strN (P t) (Ln t))) (y' := fun t => .int .i64 (At t : Int)) m (fun i hi => by simp [show ¬ i = m by omega])]
    exact ht
  · simp only [pairL, if_true]
    rw [pairL_congr (x' := pv) (y' := fun t => .int .i64 (At t : Int)) m (fun i hi => by simp [show ¬ i = m by omega])]
    exact hb
  · by_cases e : t = m
    · simp only [if_pos e]
      exact ⟨h1, h2, h3, h4⟩
    · simp only [if_neg e]
      exact h.ok t (by omega)
end Go.Proofs.Ytigkmgoidbamnaa.Tap
