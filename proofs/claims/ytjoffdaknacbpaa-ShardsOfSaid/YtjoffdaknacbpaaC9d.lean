import Derived.Test.YtjoffdaknacbpaaC9c
import Derived.Test.YtjoffdaknacbpaaJ8
namespace Go.Proofs.Ytjoffdaknacbpaa.Win
open Go.RowKit Gf8 Aes By8 Cel Cf
/- The reference's Len, Has. Written by tools/mkC9d.py. -/

section
variable {o : Oper} {a : Act} {w : World}
theorem range16w {b off : Nat} {f : Nat → Nat} (h : ∀ j, j < 16 → w.cell? ⟨b, off + j, none⟩ = some (.int .u8 ((f j : Nat) : Int))) : w.rangeAt b off (bytesL 16 f) := by
  intro j v hv
  have lj : j < 16 := by have := (List.getElem?_eq_some_iff.1 hv).1; rw [bytesL_len] at this; exact this
  rw [bytesL_at 16 f lj] at hv
  rw [h j lj]; exact hv
theorem len16w (f : Nat → Nat) : (Try.prog.info? 31).map (·.size) = some (bytesL 16 f).length := by rw [bytesL_len]; kernel_rfl
theorem execLdT {x : Operand} {b off : Nat} {f : Nat → Nat} (ho : o.op = .load 31 x) (hx : a.eval x = .pointer (some ⟨b, off, none⟩)) (h : ∀ j, j < 16 → w.cell? ⟨b, off + j, none⟩ = some (.int .u8 ((f j : Nat) : Int))) : (execOp a.eval o).run Try.prog w = .ok (.value (.agg (bA 16 f))) w := by
  unfold execOp
  simp only [ho, hx, Sem.run_bind, run_loadAt_mid (P := Try.prog) w b off 31 (bytesL 16 f) _ (range16w h) Try.underlying31 rfl (len16w f), Result.andThen_ok, Sem.run_pure]
  rfl
end
end Go.Proofs.Ytjoffdaknacbpaa.Win
