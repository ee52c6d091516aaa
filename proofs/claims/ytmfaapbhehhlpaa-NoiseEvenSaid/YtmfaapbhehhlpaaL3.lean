import Derived.Test.YtmfaapbhehhlpaaL1
import Derived.Deep.MidRow
import Derived.Laws.CopyRow
namespace Go.Proofs.Ytmfaapbhehhlpaa.Aes
open Go.RowKit Gf8
/- One operation by what it yields; pieces of rows; copy. -/

section
variable {P : Program} {ops : Array Oper} {rest : List Oper} {o : Oper} {a : Act} {w w' : World} {Q : Exit → Act → World → Prop}
/-- One operation, by what it yields. -/
theorem wpList_ex {v : Value} (hw : Region.wanted o (yielded ops a.tmps) = true) (he : (execOp a.eval o).run P w = .ok (.value v) w') (h : wpList P ops Q rest (a.put o.dst v) w') : wpList P ops Q (o :: rest) a w :=
  BigFrame.wpList_want hw fun K hK => by unfold Oper.wp; rw [he]; exact hK _ _ h
theorem execCutLH {ty : TypeId} {x l h : Operand} {v vl vh r : Value} (ho : o.op = .slice ty x (some l) (some h) none) (hx : a.eval x = v) (hl : a.eval l = vl) (hh : a.eval h = vh)
    (hr : (Instr.sliceAt ty v (some vl) (some vh) none).run P w = .ok r w) : (execOp a.eval o).run P w = .ok (.value r) w := by
  unfold execOp
  simp only [ho, hx, hl, hh, Option.map_some, Option.map_none, Sem.run_bind, hr, Result.andThen_ok, Sem.run_pure]
theorem execCutL {ty : TypeId} {x l : Operand} {v vl r : Value} (ho : o.op = .slice ty x (some l) none none) (hx : a.eval x = v) (hl : a.eval l = vl)
    (hr : (Instr.sliceAt ty v (some vl) none none).run P w = .ok r w) : (execOp a.eval o).run P w = .ok (.value r) w := by
  unfold execOp
  simp only [ho, hx, hl, Option.map_some, Option.map_none, Sem.run_bind, hr, Result.andThen_ok, Sem.run_pure]
/-- A whole array out of the middle of a row. -/
theorem execLoadMid {ty : TypeId} {x : Operand} {b f : Nat} {cs : List Value} {d : TypeDesc} (ho : o.op = .load ty x) (hx : a.eval x = .pointer (some ⟨b, f, none⟩)) (hc : w.rangeAt b f cs) (hu : P.underlying ty = some d) (hd : d.isRow = true) (hi : (P.info? ty).map (·.size) = some cs.length) :
    (execOp a.eval o).run P w = .ok (.value (.agg cs.toArray)) w := by
  unfold execOp
  simp only [ho, hx, Sem.run_bind, run_loadAt_mid w b f ty cs d hc hu hd hi, Result.andThen_ok, Sem.run_pure]
/-- copy of bytes into a row that is known whole. -/
theorem execCopyB {x y : Operand} {g f n c m c2 : Nat} {ad : Addr} {cur : Array Value} {t : TypeId} {cs : List Value} (ho : o.op = .call { callee := .builtin .copy, args := #[x, y], argTypes := #[31, 31] })
    (hx : a.eval x = .slice (some ⟨g, f, none⟩) n c) (hy : a.eval y = .slice (some ad) m c2) (hg : w.heap[g]? = some (.cells cur t)) (hn : cs.length = Nat.min m n)
    (hs : ∀ j v, cs[j]? = some v → w.cell? (ad.add j) = some v) (hf : f + cs.length ≤ cur.size) (h1 : ∀ v ∈ cs, v.oneCell' = true) :
    (execOp a.eval o).run Try.prog w = .ok (.value (.int .i64 (cs.length : Int))) (w.setRow g (cur.toList.take f ++ cs ++ cur.toList.drop (f + cs.length)).toArray) := by
  have h := run_copy_row Try.prog w 31 31 o.type 5 g f n c ad m c2 cur t cs Try.underlying31 (by kernel_rfl) hg hn hs hf h1
  unfold execOp
  simp only [ho, resolve, invoke, builtin, Sem.run_bind, Sem.run_pure, Result.andThen_ok, List.map_toArray, List.map_cons, List.map_nil, hx, hy, h]
  rfl
/-- A whole array into the middle of a row. -/
theorem execStMid {ty : TypeId} {x y : Operand} {g f : Nat} {cells cur : Array Value} {t : TypeId} (ho : o.op = .store ty x y) (hx : a.eval x = .pointer (some ⟨g, f, none⟩)) (hy : a.eval y = .agg cells) (hg : w.heap[g]? = some (.cells cur t)) (hf : f + cells.size ≤ cur.size) (hi : (P.info? ty).map (·.size) = some cells.size) (h1 : cells.all (·.oneCell') = true) :
    (execOp a.eval o).run P w = .ok .skip (w.setRow g (cur.toList.take f ++ cells.toList ++ cur.toList.drop (f + cells.size)).toArray) := by
  have this := run_storeCells_at P g f t cells.toList 0 cur w hg (by simpa using hf) (fun v hv => (Array.all_eq_true_iff_forall_mem.1 h1) v (by simpa using hv))
  simp only [Nat.add_zero, Array.length_toList] at this
  unfold execOp
  cases hq : P.info? ty with
  | none => simp [hq] at hi
  | some i =>
    have hs : cells.size = i.size := by simp [hq] at hi; omega
    simp only [ho, hx, hy, Instr.storeAt, Instr.sureAddr, Sem.run_bind, Sem.run_pure, Result.andThen_ok]
    simp [storeVar, sizeOf, typeInfo, hq, Value.cells, ← hs, this]
theorem wpList_exS (hw : Region.wanted o (yielded ops a.tmps) = true) (he : (execOp a.eval o).run P w = .ok .skip w') (h : wpList P ops Q rest (a.put o.dst undef) w') : wpList P ops Q (o :: rest) a w :=
  BigFrame.wpList_want hw fun K hK => by unfold Oper.wp; rw [he]; exact hK _ _ h
end
/-- A row of which m places from n on are h's. -/
def spl (f : Nat → Nat) (n m : Nat) (h : Nat → Nat) : Nat → Nat := fun i => if n ≤ i ∧ i < n + m then h (i - n) else f i
theorem bA_splice (N n m : Nat) (f h : Nat → Nat) (hn : n + m ≤ N) : ((bA N f).toList.take n ++ bytesL m h ++ (bA N f).toList.drop (n + m)).toArray = bA N (spl f n m h) := by
  apply Array.ext_getElem?
  intro i
  have hl : ((bA N f).toList.take n).length = n := by simp [bA_size]; omega
  rw [List.getElem?_toArray, List.append_assoc]
  by_cases h1 : i < n
  · rw [List.getElem?_append_left (by omega), List.getElem?_take, if_pos h1, Array.getElem?_toList, bA_at N f (by omega), bA_at N _ (by omega)]
    unfold spl; rw [if_neg (by omega)]
  · rw [List.getElem?_append_right (by omega), hl]
    by_cases h2 : i < n + m
    · rw [List.getElem?_append_left (by rw [bytesL_len]; omega), bytesL_at m h (by omega), bA_at N _ (by omega)]
      unfold spl; rw [if_pos ⟨by omega, h2⟩]
    · rw [List.getElem?_append_right (by rw [bytesL_len]; omega), bytesL_len, List.getElem?_drop, Array.getElem?_toList]
      rw [show n + m + (i - n - m) = i by omega]
      by_cases h3 : i < N
      · rw [bA_at N f h3, bA_at N _ h3]; unfold spl; rw [if_neg (by omega)]
      · rw [Array.getElem?_eq_none (by rw [bA_size]; omega), Array.getElem?_eq_none (by rw [bA_size]; omega)]
theorem stepU {P : Program} {ops : Array Oper} {Q : Exit → Act → World → Prop} {j : Nat} {o : Oper} {a : Act} {w : World} {K : Act → World → Prop} (ho : ops[j]? = some o) (hw : Region.wanted o (yielded ops a.tmps) = false) (hK : K (a.put o.dst undef) w) : wpOp P ops Q j K a w := by
  unfold wpOp
  rw [ho]
  simp only [hw]
  exact hK
theorem unwantedNo {ops : Array Oper} {o : Oper} {tmps : Array Value} {k : Nat} {b : Bool} (hg : o.guard = some (k, b)) (hy : yielded ops tmps k = none) : Region.wanted o (yielded ops tmps) = false := by
  simp [Region.wanted, hg, hy]
theorem yieldedNo {ops : Array Oper} {a : Act} {k d : Nat} {o : Oper} (ho : ops[k]? = some o) (hd : o.dst = some d) (hv : a.eval (.tmp d) = undef) : yielded ops a.tmps k = none := by
  simp only [Act.eval, Array.getD_eq_getD_getElem?] at hv
  cases hq : a.tmps[d]? with
  | none => simp [yielded, ho, hd, hq]
  | some v =>
    rw [hq] at hv
    simp at hv
    simp [yielded, ho, hd, hq, hv, undef]
end Go.Proofs.Ytmfaapbhehhlpaa.Aes
