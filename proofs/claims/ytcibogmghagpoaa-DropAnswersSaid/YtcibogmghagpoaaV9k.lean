import Derived.Test.YtcibogmghagpoaaV9j
namespace Go.Proofs.Ytcibogmghagpoaa.Tap
open Go.RowKit Gf8 Aes By8 Cel Cf
/- The program's Tape: New, Left, Used, behind. -/

theorem results_cell9 {P : Program} {fn : Func} {p : Tmp} {ty : TypeId} (h : fn.results = #[.cell p ty]) (tmps : Array Value) (w : World) (g : Nat) (t : TypeId) (cs : Array Value) (fr : Nat × Nat) (d : TypeDesc)
    (hp : tmps.getD p undef = .pointer (some ⟨g, 0, none⟩)) (hg : w.heap[g]? = some (.cells cs t fr))
    (hu : P.underlying ty = some d) (hd : (match d with | .struct _ | .array _ _ => true | _ => false) = true) (hi : (P.info? ty).map (·.size) = some cs.size) :
    (results fn tmps).run P w = .ok (.agg cs) w := by
  have hp' : tmps[p]?.getD undef = .pointer (some ⟨g, 0, none⟩) := by simpa using hp
  simp [results, h, hp', asAddr, run_loadVar_row w g t ty cs fr d hg hu hd hi]
theorem two9 (W : World) (o q : Obj) : ((W.alloc o).alloc q).heap[W.heap.size]? = some o ∧ ((W.alloc o).alloc q).heap[W.heap.size + 1]? = some q := by
  have h2 := heapNew (W.alloc o) q
  have e : (W.alloc o).heap.size = W.heap.size + 1 := by simp
  refine ⟨?_, ?_⟩
  · rw [(belNew (W.alloc o) q).block _ (by omega)]
    exact heapNew W o
  · rw [e] at h2
    exact h2
section
variable {o : Oper} {a : Act} {w : World}
theorem execLd3 {x : Operand} {b f : Nat} {v : Int} (ho : o.op = .load 3 x) (hx : a.eval x = .pointer (some ⟨b, f, none⟩)) (hc : w.cell? ⟨b, f, none⟩ = some (.int .i64 v)) : (execOp a.eval o).run Try.prog w = .ok (.value (.int .i64 v)) w := by
  unfold execOp
  simp only [ho, hx]
  simp [go_sem, hc]
end
end Go.Proofs.Ytcibogmghagpoaa.Tap
