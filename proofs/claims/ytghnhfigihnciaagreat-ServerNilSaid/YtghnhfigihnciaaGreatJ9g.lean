import Derived.Test.YtghnhfigihnciaaGreatJ9e
namespace Go.Proofs.YtghnhfigihnciaaGreat.Win
open Go.RowKit Gf8 Aes By8 Cel Cf
/- slices.Clone of tags, the program's copyOf, Open. Written by tools/mkJ9g.py. -/

section
variable {o : Oper} {a : Act} {w : World}
end
theorem results_cell1 {P : Program} {fn : Func} {p : Tmp} {ty : TypeId} (h : fn.results = #[.cell p ty]) (tmps : Array Value) (w : World) (g : Nat) (t : TypeId) (cs : Array Value) (fr : Nat × Nat) (d : TypeDesc)
    (hp : tmps.getD p undef = .pointer (some ⟨g, 0, none⟩)) (hg : w.heap[g]? = some (.cells cs t fr))
    (hu : P.underlying ty = some d) (hd : (match d with | .struct _ | .array _ _ => true | _ => false) = true) (hi : (P.info? ty).map (·.size) = some cs.size) :
    (results fn tmps).run P w = .ok (.agg cs) w := by
  have hp' : tmps[p]?.getD undef = .pointer (some ⟨g, 0, none⟩) := by simpa using hp
  simp [results, h, hp', asAddr, run_loadVar_row w g t ty cs fr d hg hu hd hi]
end Go.Proofs.YtghnhfigihnciaaGreat.Win
