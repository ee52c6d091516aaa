import Derived.Test.YtghnhfigihnciaaGreatU8a
namespace Go.Proofs.YtghnhfigihnciaaGreat.Rnd
open Go.RowKit Gf8 Aes By8 Cel Cf Win
/- The laws' plain; RoundChecks. Written by tools/mkU8b.py. -/

theorem wd0 (V : World) : Wd V 0 (.slice none 0 0) 0 (fun _ => 0) (fun _ => undef) (fun _ => 0) (fun _ _ _ => 0) := ⟨⟨⟨none, 0, rfl, Nat.le_refl _, by omega, fun h => absurd h (Nat.lt_irrefl _)⟩, fun j hj => absurd hj (Nat.not_lt_zero j), fun j hj => absurd hj (Nat.not_lt_zero j)⟩, by omega, fun j hj => absurd hj (Nat.not_lt_zero j), ⟨by omega, by omega⟩⟩
theorem res_c1 {P : Program} {fn : Func} {p : Tmp} {ty : TypeId} (tmps : Array Value) (w : World) (g : Nat) (t : TypeId) (cs : Array Value) (fr : Nat × Nat) (d : TypeDesc) (h : fn.results = #[.cell p ty]) (hp : tmps.getD p undef = .pointer (some ⟨g, 0, none⟩)) (hg : w.heap[g]? = some (.cells cs t fr)) (hu : P.underlying ty = some d) (hd : (match d with | .struct _ | .array _ _ => true | _ => false) = true) (hi : (P.info? ty).map (·.size) = some cs.size) :
    (results fn tmps).run P w = .ok (.agg cs) w := by
  have hp' : tmps[p]?.getD undef = .pointer (some ⟨g, 0, none⟩) := by simpa using hp
  simp [results, h, hp', asAddr, run_loadVar_row w g t ty cs fr d hg hu hd hi]
section
variable {o : Oper} {a : Act} {w : World}
theorem execBdS (ho : o.op = .build 33 #[]) : (execOp a.eval o).run Tryz.prog w = .ok (.value (.agg (sC 0 0 (.slice none 0 0)))) w := by
  unfold execOp
  simp only [ho, List.map_toArray, List.map_nil]
  kernel_rfl
end
end Go.Proofs.YtghnhfigihnciaaGreat.Rnd
