import Derived.Test.YtepdejnholphcaaGreatU8a
namespace Go.Proofs.YtepdejnholphcaaGreat.Rnd
open Go.RowKit Gf8 Aes By8 Cel Cf Win
/- The laws' plain; RoundChecks. Written by tools/mkU8b.py. -/

theorem wd0 (V : World) : Wd V 0 (.slice none 0 0) 0 (fun _ => 0) (fun _ => undef) (fun _ => 0) (fun _ _ _ => 0) := ⟨⟨⟨none, 0, rfl, Nat.le_refl _, by omega, fun h => absurd h (Nat.lt_irrefl _)⟩, fun j hj => absurd hj (Nat.not_lt_zero j), fun j hj => absurd hj (Nat.not_lt_zero j)⟩, by omega, fun j hj => absurd hj (Nat.not_lt_zero j), ⟨by omega, by omega⟩⟩
section
variable {o : Oper} {a : Act} {w : World}
theorem execBdS (ho : o.op = .build 29 #[]) : (execOp a.eval o).run Tryz.prog w = .ok (.value (.agg (sC 0 0 (.slice none 0 0)))) w := by
  unfold execOp
  simp only [ho, List.map_toArray, List.map_nil]
  kernel_rfl
end
end Go.Proofs.YtepdejnholphcaaGreat.Rnd
