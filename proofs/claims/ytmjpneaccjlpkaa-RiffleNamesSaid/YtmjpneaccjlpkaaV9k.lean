import Derived.Test.YtmjpneaccjlpkaaX7b
import Derived.Test.YtmjpneaccjlpkaaX7f
import Derived.Test.YtmjpneaccjlpkaaE9a
import Derived.Test.YtmjpneaccjlpkaaY6
import Derived.Laws.IdiomStrings
import Derived.Laws.Strings2
namespace Go.Proofs.Ytmjpneaccjlpkaa.Tap
open Go.RowKit Gf8 Aes By8 Cel Cf
/- Strings of bytes: one of them, a piece, and back to a list; rows that bear a conversion's mark. -/
theorem strN_size (p : Nat → Nat) (n : Nat) : (strN p n).size = n := by
 unfold strN
 rw [strOfNums_size]
 unfold numL
 simp
theorem strN_list (p : Nat → Nat) (n : Nat) : (strN p n).data.toList = (List.range n).map fun i => UInt8.ofNat (p i) := by
 unfold strN
 rw [strOfNums_data]
 unfold numL
 rw [List.map_map]
 apply List.map_congr_left
 intro i _
 simp
theorem strN_at (p : Nat → Nat) (n i : Nat) (hi : i < n) (hp : p i < 256) (h : i < (strN p n).data.size) : ((strN p n).data[i]'h).toNat = p i := by
 have e : (strN p n).data[i]? = some (UInt8.ofNat (p i)) := by
  rw [← Array.getElem?_toList, strN_list]
  simp [hi]
 rw [Array.getElem?_eq_getElem h] at e
 rw [Option.some.inj e]
 simp [hp]
section
variable {o : Oper} {a : Act} {w : World}
theorem execLenSt {x : Operand} {p : Nat → Nat} {n : Nat} (ho : o.op = .call { callee := .builtin .len, args := #[x], argTypes := #[9] }) (hx : a.eval x = .string (strN p n)) : (execOp a.eval o).run Try.prog w = .ok (.value (.int .i64 (n : Int))) w := by
 unfold execOp
 simp only [ho, resolve, invoke, builtin, Sem.run_bind, Sem.run_pure, Result.andThen_ok, List.map_toArray, List.map_cons, List.map_nil, hx]
 simp [go_sem, strN_size]
set_option maxRecDepth 100000 in
theorem execIdxSt {x y : Operand} {p : Nat → Nat} {n i : Nat} (ho : o.op = .index 9 x y) (hx : a.eval x = .string (strN p n)) (hy : a.eval y = .int .i64 (i : Int)) (hi : i < n) (hp : p i < 256) : (execOp a.eval o).run Try.prog w = .ok (.value (.int .u8 (p i : Nat))) w := by
 unfold execOp
 simp only [ho, hx, hy]
 have h := run_index_string (P := Try.prog) w 9 (strN p n) .i64 (i : Int) Try.underlying9
 rw [dif_pos ⟨by omega, by rw [strN_size]; omega⟩] at h
 simp only [Sem.run_bind, h, Result.andThen_ok, Sem.run_pure]
 congr 3
 have hs : i < (strN p n).data.size := by have := strN_size p n; simp only [ByteArray.size] at this; omega
 have := strN_at p n i hi hp hs
 rw [← this]
 rfl
end
def OwnM (W : World) (B : Nat) (v : Value) (n : Nat) (p : Nat → Nat) : Prop :=
 ∃ g cap cur fz, v = .slice (some ⟨g, 0, none⟩) n cap ∧ B ≤ g ∧ W.heap[g]? = some (.cells cur 5 fz) ∧ n ≤ cap ∧ cap ≤ maxLen ∧ cur.size = cap ∧ (∀ j, j < n → cur[j]? = some (.int .u8 (p j : Nat))) ∧ (∀ j, j < n → p j < 256) ∧ (cap ≤ fz.1 ∨ fz.2 = 0)
theorem OwnM.slice {W : World} {B n : Nat} {v : Value} {p : Nat → Nat} (h : OwnM W B v n p) : SliceN W v n p := by
 obtain ⟨g, cap, cur, fz, rfl, hB, hg, h1, h2, h3, h4, h5, h6⟩ := h
 refine ⟨⟨_, _, rfl, h1, by unfold maxLen at h2; omega, fun _ => ⟨g, 0, rfl, (Array.getElem?_eq_some_iff.1 hg).1, fun j hj => ?_⟩⟩, h5⟩
 rw [cell_of_row _ _ _ _ _ _ hg, Nat.zero_add]
 exact h4 j hj
theorem OwnM.on {W W' : World} {B n : Nat} {v : Value} {p : Nat → Nat} (h : OwnM W B v n p) (hb : Below W.heap.size W W') : OwnM W' B v n p := by
 obtain ⟨g, cap, cur, fz, rfl, hB, hg, hr⟩ := h
 exact ⟨g, cap, cur, fz, rfl, hB, by rw [hb.block _ (Array.getElem?_eq_some_iff.1 hg).1]; exact hg, hr⟩
theorem OwnM.base {W : World} {B C n : Nat} {v : Value} {p : Nat → Nat} (h : OwnM W C v n p) (hB : B ≤ C) : OwnM W B v n p := by
 obtain ⟨g, cap, cur, fz, e, h1, hr⟩ := h
 exact ⟨g, cap, cur, fz, e, Nat.le_trans hB h1, hr⟩
end Go.Proofs.Ytmjpneaccjlpkaa.Tap

namespace Go.Proofs.Ytmjpneaccjlpkaa.Tap
open Go.RowKit Gf8 Aes By8 Cel Cf
/- The program's Tape: New, Left, Used, behind. -/
theorem results_cell9 {P : Program} {fn : Func} {p : Tmp} {ty : TypeId} (h : fn.results = #[.cell p ty]) (tmps : Array Value) (w : World) (g : Nat) (t : TypeId) (cs : Array Value) (fr : Nat × Nat) (d : TypeDesc)
  (hp : tmps.getD p undef = .pointer (some ⟨g, 0, none⟩)) (hg : w.heap[g]? = some (.cells cs t fr))
  (hu : P.underlying ty = some d) (hd : (match d with | .struct _ | .array _ _ => true | _ => false) = true) (hi : (P.info? ty).map (·.size) = some cs.size) :
  (results fn tmps).run P w = .ok (.agg cs) w := by
 have hp' : tmps[p]?.getD undef = .pointer (some ⟨g, 0, none⟩) := by simpa using hp
 simp [results, h, hp', asAddr, run_loadVar_row w g t ty cs fr d hg hu hd hi]
theorem results_ct9 {P : Program} {fn : Func} {p u : Tmp} {ty : TypeId} (h : fn.results = #[.cell p ty, .tmp u]) (tmps : Array Value) (w : World) (g : Nat) (t : TypeId) (cs : Array Value) (fr : Nat × Nat) (d : TypeDesc)
  (hp : tmps.getD p undef = .pointer (some ⟨g, 0, none⟩)) (hg : w.heap[g]? = some (.cells cs t fr))
  (hu : P.underlying ty = some d) (hd : (match d with | .struct _ | .array _ _ => true | _ => false) = true) (hi : (P.info? ty).map (·.size) = some cs.size) :
  (results fn tmps).run P w = .ok (.tuple #[.agg cs, tmps.getD u undef]) w := by
 have hp' : tmps[p]?.getD undef = .pointer (some ⟨g, 0, none⟩) := by simpa using hp
 simp [results, h, hp', asAddr, run_loadVar_row w g t ty cs fr d hg hu hd hi]
theorem results_tct9 {P : Program} {fn : Func} {p u v : Tmp} {ty : TypeId} (h : fn.results = #[.tmp v, .cell p ty, .tmp u]) (tmps : Array Value) (w : World) (g : Nat) (t : TypeId) (cs : Array Value) (fr : Nat × Nat) (d : TypeDesc)
  (hp : tmps.getD p undef = .pointer (some ⟨g, 0, none⟩)) (hg : w.heap[g]? = some (.cells cs t fr))
  (hu : P.underlying ty = some d) (hd : (match d with | .struct _ | .array _ _ => true | _ => false) = true) (hi : (P.info? ty).map (·.size) = some cs.size) :
  (results fn tmps).run P w = .ok (.tuple #[tmps.getD v undef, .agg cs, tmps.getD u undef]) w := by
 have hp' : tmps[p]?.getD undef = .pointer (some ⟨g, 0, none⟩) := by simpa using hp
 simp [results, h, hp', asAddr, run_loadVar_row w g t ty cs fr d hg hu hd hi]
def tpC (p : Nat → Nat) (l at' : Nat) : Array Value := #[.string (strN p l), .int .i64 (at' : Int)]
theorem size_tp (p : Nat → Nat) (l at' : Nat) : (Try.prog.info? 108).map (·.size) = some (tpC p l at').size := by
 show _ = some 2
 kernel_rfl
theorem tp_one (p : Nat → Nat) (l at' : Nat) : (tpC p l at').all (·.oneCell') = true := by simp [tpC, Value.oneCell']
theorem tp_zero (p : Nat → Nat) : tpC p 0 0 = #[.string ⟨#[]⟩, .int .i64 0] := rfl
theorem tpC_at {W : World} {g : Nat} {p : Nat → Nat} {l at' : Nat} {t : TypeId} {fr : Nat × Nat} (h : W.heap[g]? = some (.cells (tpC p l at') t fr)) : W.cell? ⟨g, 0, none⟩ = some (.string (strN p l)) ∧ W.cell? ⟨g, 1, none⟩ = some (.int .i64 (at' : Int)) := by
 refine ⟨?_, ?_⟩
 ·rw [cell_of_row _ _ _ _ _ _ h]; rfl
 ·rw [cell_of_row _ _ _ _ _ _ h]; rfl
theorem two9 (W : World) (o q : Obj) : ((W.alloc o).alloc q).heap[W.heap.size]? = some o ∧ ((W.alloc o).alloc q).heap[W.heap.size + 1]? = some q := by
 have h2 := heapNew (W.alloc o) q
 have e : (W.alloc o).heap.size = W.heap.size + 1 := by simp
 refine ⟨?_, ?_⟩
 ·rw [(belNew (W.alloc o) q).block _ (by omega)]
  exact heapNew W o
 ·rw [e] at h2
  exact h2
set_option maxRecDepth 20000 in
theorem new_any (p : Nat → Nat) (len : Nat) (v : Value) (V : World) (hv : SliceN V v len p) :
  Calls Try.prog 66 #[v] V fun e w' => e = .returned (.agg (tpC p len 0)) ∧ Below V.heap.size V w' := by
 have HV : Hid (SliceN V v len p) := hv
 clear hv
 go_enter Try.func66, Try.ntmps66
 go_wp2_with (first
  | (refine wpList_ex rfl (execStr rfl rfl (HV.out.on (belNew V _))) ?_))
 refine bodyPost_ret (results_cell9 (cs := tpC p len 0) rfl _ _ V.heap.size 108 (0, 0) _ rfl (heapNew V _) Try.underlying108 rfl (size_tp _ _ _)) rfl ⟨rfl, belNew V _⟩
set_option maxRecDepth 20000 in
theorem left_any (p : Nat → Nat) (l at' : Nat) (V : World) (h : at' ≤ l) (hl : l ≤ 140737488351232) :
  Calls Try.prog 87 #[.agg (tpC p l at')] V fun e w' => e = .returned (.int .i64 ((l - at' : Nat) : Int)) ∧ Below V.heap.size V w' := by
 have e : ((l - at' : Nat) : Int) = (l : Int) - at' := by omega
 rw [e]
 clear e
 go_enter Try.func87, Try.ntmps87
 unfold tpC
 go_wp2_with (first
  | (refine wpList_ex rfl (execLenSt (p := p) (n := l) rfl rfl) ?_))
 go_ret
 exact ⟨rfl, belNew V _⟩
set_option maxRecDepth 20000 in
theorem used_any (p : Nat → Nat) (l at' : Nat) (V : World) :
  Calls Try.prog 68 #[.agg (tpC p l at')] V fun e w' => e = .returned (.int .i64 (at' : Int)) ∧ Below V.heap.size V w' := by
 go_enter Try.func68, Try.ntmps68
 unfold tpC
 go_wp2
 go_ret
 exact ⟨rfl, belNew V _⟩
set_option maxRecDepth 20000 in
theorem behind_any (p : Nat → Nat) (l at' n : Nat) (V : World) (h : at' + n ≤ l) (hl : l ≤ 140737488351232) :
  Calls Try.prog 88 #[.agg (tpC p l at'), .int .i64 (n : Int)] V fun e w' => e = .returned (.agg (tpC p l (at' + n))) ∧ Below V.heap.size V w' := by
 have w2 : IntKind.i64.wrap ((at' : Int) + n) = ((at' + n : Nat) : Int) := by simp [IntKind.wrap, IntKind.bits, IntKind.signed]; omega
 go_enter Try.func88, Try.ntmps88
 unfold tpC
 go_wp2
 have e : ((at' : Int) + n) = ((at' + n : Nat) : Int) := by omega
 rw [e]
 refine bodyPost_ret (results_cell9 (cs := tpC p l (at' + n)) rfl _ _ (V.heap.size + 1) 108 (0, 0) _ rfl (two9 V _ _).2 Try.underlying108 rfl (size_tp _ _ _)) rfl ⟨rfl, (belNew V _).trans ((belNew _ _).mono (belNew V _).size)⟩
section
variable {o : Oper} {a : Act} {w : World}
theorem execStTp {x y : Operand} {g : Nat} {p : Nat → Nat} {l at' : Nat} {cur : Array Value} {t : TypeId} (ho : o.op = .store 108 x y) (hx : a.eval x = .pointer (some ⟨g, 0, none⟩)) (hy : a.eval y = .agg (tpC p l at')) (hg : w.heap[g]? = some (.cells cur t)) (hs : cur.size = 2) :
  (execOp a.eval o).run Try.prog w = .ok .skip (w.setRow g (tpC p l at')) := by
 have h := execStMid (P := Try.prog) ho hx hy hg (by rw [hs]; exact Nat.le_refl _) (size_tp _ _ _) (tp_one _ _ _)
 have e : (cur.toList.take 0 ++ (tpC p l at').toList ++ cur.toList.drop (0 + (tpC p l at').size)).toArray = tpC p l at' := by
  rw [List.take_zero, List.nil_append, Nat.zero_add, List.drop_of_length_le (by rw [Array.length_toList, hs]; exact Nat.le_refl _), List.append_nil]
 rw [e] at h
 exact h
theorem execLdTp {x : Operand} {g : Nat} {p : Nat → Nat} {l at' : Nat} {t : TypeId} {fr : Nat × Nat} (ho : o.op = .load 108 x) (hx : a.eval x = .pointer (some ⟨g, 0, none⟩)) (hg : w.heap[g]? = some (.cells (tpC p l at') t fr)) :
  (execOp a.eval o).run Try.prog w = .ok (.value (.agg (tpC p l at'))) w := by
 have h := execLoadMid (P := Try.prog) (w := w) (cs := (tpC p l at').toList) ho hx (fun j v hj => by rw [cell_of_row _ _ _ _ _ _ hg, Nat.zero_add, ← Array.getElem?_toList]; exact hj) Try.underlying108 rfl (size_tp _ _ _)
 exact h
theorem execFldTp0 {x : Operand} {b : Nat} (ho : o.op = .fieldAddr 108 x 0) (hx : a.eval x = .pointer (some ⟨b, 0, none⟩)) : (execOp a.eval o).run Try.prog w = .ok (.value (.pointer (some ⟨b, 0, none⟩))) w := by
 unfold execOp
 simp only [ho, hx]
 simp [go_sem]
theorem execFldTp1 {x : Operand} {b : Nat} (ho : o.op = .fieldAddr 108 x 1) (hx : a.eval x = .pointer (some ⟨b, 0, none⟩)) : (execOp a.eval o).run Try.prog w = .ok (.value (.pointer (some ⟨b, 1, none⟩))) w := by
 unfold execOp
 simp only [ho, hx]
 simp [go_sem]
theorem execLd9 {x : Operand} {b f : Nat} {s : ByteArray} (ho : o.op = .load 9 x) (hx : a.eval x = .pointer (some ⟨b, f, none⟩)) (hc : w.cell? ⟨b, f, none⟩ = some (.string s)) : (execOp a.eval o).run Try.prog w = .ok (.value (.string s)) w := by
 unfold execOp
 simp only [ho, hx]
 simp [go_sem, hc]
theorem execLd3 {x : Operand} {b f : Nat} {v : Int} (ho : o.op = .load 3 x) (hx : a.eval x = .pointer (some ⟨b, f, none⟩)) (hc : w.cell? ⟨b, f, none⟩ = some (.int .i64 v)) : (execOp a.eval o).run Try.prog w = .ok (.value (.int .i64 v)) w := by
 unfold execOp
 simp only [ho, hx]
 simp [go_sem, hc]
theorem execAllTp (ho : o.op = .alloc 108) (p : Nat → Nat) : (execOp a.eval o).run Try.prog w = .ok (.value (.pointer (some ⟨w.heap.size, 0, none⟩))) (w.alloc (.cells (tpC p 0 0) 108)) := by
 rw [tp_zero]
 unfold execOp
 simp only [ho]
 simp [go_sem]
theorem execBoxTp {x : Operand} {p : Nat → Nat} {l at' : Nat} (ho : o.op = .box 108 x) (hx : a.eval x = .agg (tpC p l at')) : (execOp a.eval o).run Try.prog w = .ok (.value (.pointer (some ⟨w.heap.size, 0, none⟩))) (w.alloc (.cells (tpC p l at') 108)) := by
 unfold execOp
 simp only [ho, hx]
 simp [go_sem, tpC]
end
end Go.Proofs.Ytmjpneaccjlpkaa.Tap
