import Derived.Test.YtldhhfkplongiaaV9j
namespace Go.Proofs.Ytldhhfkplongiaa.Tap
open Go.RowKit Gf8 Aes By8 Cel Cf
/- The program's Tape: New, Left, Used, behind. -/

theorem results_cell9 {P : Program} {fn : Func} {p : Tmp} {ty : TypeId} (h : fn.results = #[.cell p ty]) (tmps : Array Value) (w : World) (g : Nat) (t : TypeId) (cs : Array Value) (fr : Nat × Nat) (d : TypeDesc)
    (hp : tmps.getD p undef = .pointer (some ⟨g, 0, none⟩)) (hg : w.heap[g]? = some (.cells cs t fr))
    (hu : P.underlying ty = some d) (hd : (match d with | .struct _ | .array _ _ => true | _ => false) = true) (hi : (P.info? ty).map (·.size) = some cs.size) :
    (results fn tmps).run P w = .ok (.agg cs) w := by
  have hp' : tmps[p]?.getD undef = .pointer (some ⟨g, 0, none⟩) := by simpa using hp
  simp [results, h, hp', asAddr, run_loadVar_row w g t ty cs fr d hg hu hd hi]
theorem results_ct9 {P : Program} {fn : Func} {p u : Tmp} {ty : TypeId} (h : fn.results = #[.cell p ty, .tmp u]) (tmps : Array Value) (w : World) (g : Nat) (t : TypeId) (cs : Array Value) (fr : Nat × Nat) (d : TypeDesc)
    (hp : tmps.getD p undef = .pointer (some ⟨g, 0, none⟩)) (hg : w.heap[g]? = some (.cells cs t fr))
    (hu : P.underlying ty = some d) (hd : (match d with | .struct _ | .array _ _ => true | _ => false) = true) (hi : (P.info? ty).map (·.size) = some cs.size) :
    (results fn tmps).run P w = .ok (.tuple #[.agg cs, tmps.getD u undef]) w := by
  have hp' : tmps[p]?.getD undef = .pointer (some ⟨g, 0, none⟩) := by simpa using hp
  simp [results, h, hp', asAddr, run_loadVar_row w g t ty cs fr d hg hu hd hi]
theorem results_tct9 {P : Program} {fn : Func} {p u v : Tmp} {ty : TypeId} (h : fn.results = #[.tmp v, .cell p ty, .tmp u]) (tmps : Array Value) (w : World) (g : Nat) (t : TypeId) (cs : Array Value) (fr : Nat × Nat) (d : TypeDesc)
    (hp : tmps.getD p undef = .pointer (some ⟨g, 0, none⟩)) (hg : w.heap[g]? = some (.cells cs t fr))
    (hu : P.underlying ty = some d) (hd : (match d with | .struct _ | .array _ _ => true | _ => false) = true) (hi : (P.info? ty).map (·.size) = some cs.size) :
    (results fn tmps).run P w = .ok (.tuple #[tmps.getD v undef, .agg cs, tmps.getD u undef]) w := by
  have hp' : tmps[p]?.getD undef = .pointer (some ⟨g, 0, none⟩) := by simpa using hp
  simp [results, h, hp', asAddr, run_loadVar_row w g t ty cs fr d hg hu hd hi]
/-- The cells of a Tape. -/
def tpC (p : Nat → Nat) (l at' : Nat) : Array Value := #[.string (strN p l), .int .i64 (at' : Int)]
theorem tp_one (p : Nat → Nat) (l at' : Nat) : (tpC p l at').all (·.oneCell') = true := by simp [tpC, Value.oneCell']
theorem tp_zero (p : Nat → Nat) : tpC p 0 0 = #[.string ⟨#[]⟩, .int .i64 0] := rfl
theorem tpC_at {W : World} {g : Nat} {p : Nat → Nat} {l at' : Nat} {t : TypeId} {fr : Nat × Nat} (h : W.heap[g]? = some (.cells (tpC p l at') t fr)) : W.cell? ⟨g, 0, none⟩ = some (.string (strN p l)) ∧ W.cell? ⟨g, 1, none⟩ = some (.int .i64 (at' : Int)) := by
  refine ⟨?_, ?_⟩
  · rw [cell_of_row _ _ _ _ _ _ h]; rfl
  · rw [cell_of_row _ _ _ _ _ _ h]; rfl
theorem two9 (W : World) (o q : Obj) : ((W.alloc o).alloc q).heap[W.heap.size]? = some o ∧ ((W.alloc o).alloc q).heap[W.heap.size + 1]? = some q := by
  have h2 := heapNew (W.alloc o) q
  have e : (W.alloc o).heap.size = W.heap.size + 1 := by simp
  refine ⟨?_, ?_⟩
  · rw [(belNew (W.alloc o) q).block _ (by omega)]
    exact heapNew W o
  · rw [e] at h2
    exact h2
section
variable {o : Oper} {a : Act} {w : World}
theorem execLd9 {x : Operand} {b f : Nat} {s : ByteArray} (ho : o.op = .load 9 x) (hx : a.eval x = .pointer (some ⟨b, f, none⟩)) (hc : w.cell? ⟨b, f, none⟩ = some (.string s)) : (execOp a.eval o).run Try.prog w = .ok (.value (.string s)) w := by
  unfold execOp
  simp only [ho, hx]
  simp [go_sem, hc]
theorem execLd3 {x : Operand} {b f : Nat} {v : Int} (ho : o.op = .load 3 x) (hx : a.eval x = .pointer (some ⟨b, f, none⟩)) (hc : w.cell? ⟨b, f, none⟩ = some (.int .i64 v)) : (execOp a.eval o).run Try.prog w = .ok (.value (.int .i64 v)) w := by
  unfold execOp
  simp only [ho, hx]
  simp [go_sem, hc]
end
end Go.Proofs.Ytldhhfkplongiaa.Tap
