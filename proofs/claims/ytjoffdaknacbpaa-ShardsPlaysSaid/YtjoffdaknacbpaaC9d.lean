import Derived.Test.YtjoffdaknacbpaaC9c
import Derived.Test.YtjoffdaknacbpaaI1
namespace Go.Proofs.Ytjoffdaknacbpaa.Win
open Go.RowKit Gf8 Aes By8 Cel Cf
/- The reference's Len, Has. Written by tools/mkC9d.py. -/

section
variable {o : Oper} {a : Act} {w : World}
theorem range16w {b off : Nat} {f : Nat → Nat} (h : ∀ j, j < 16 → w.cell? ⟨b, off + j, none⟩ = some (.int .u8 ((f j : Nat) : Int))) : w.rangeAt b off (bytesL 16 f) := by
  intro j v hv
  have lj : j < 16 := by have := (List.getElem?_eq_some_iff.1 hv).1; rw [bytesL_len] at this; exact this
  rw [bytesL_at 16 f lj] at hv
  rw [h j lj]; exact hv
theorem len16w (f : Nat → Nat) : (Try.prog.info? 31).map (·.size) = some (bytesL 16 f).length := by rw [bytesL_len]; kernel_rfl
theorem execLdT {x : Operand} {b off : Nat} {f : Nat → Nat} (ho : o.op = .load 31 x) (hx : a.eval x = .pointer (some ⟨b, off, none⟩)) (h : ∀ j, j < 16 → w.cell? ⟨b, off + j, none⟩ = some (.int .u8 ((f j : Nat) : Int))) : (execOp a.eval o).run Try.prog w = .ok (.value (.agg (bA 16 f))) w := by
  unfold execOp
  simp only [ho, hx, Sem.run_bind, run_loadAt_mid (P := Try.prog) w b off 31 (bytesL 16 f) _ (range16w h) Try.underlying31 rfl (len16w f), Result.andThen_ok, Sem.run_pure]
  rfl
theorem eqB_tv {f g : Nat → Nat} (hf : ∀ i, i < 16 → f i < 256) (hg : ∀ i, i < 16 → g i < 256) : eqB 16 f g = decide (tv f 16 = tv g 16) := by
  by_cases h : tv f 16 = tv g 16
  · rw [decide_eq_true h]
    exact eqB_true ((tv_iff hf hg).1 h)
  · rw [decide_eq_false h]
    cases hb : eqB 16 f g with
    | false => rfl
    | true =>
      unfold eqB at hb
      rw [List.all_eq_true] at hb
      exact absurd (tv_eq fun j hj => by
        have := hb j (List.mem_range.2 hj)
        have h2 : ((f j : Nat) : Int) = ((g j : Nat) : Int) := by simpa using this
        omega) h
theorem execeql16t {x y : Operand} {f g : Nat → Nat} (ho : o.op = .binOp .eql 31 x y 31) (hx : a.eval x = .agg (bA 16 f)) (hy : a.eval y = .agg (bA 16 g)) (h : eqB 16 f g = true) : (execOp a.eval o).run Try.prog w = .ok (.value (.bool true)) w := by
  rw [← h]; exact exec_eql16 ho hx hy
theorem execeql16f {x y : Operand} {f g : Nat → Nat} (ho : o.op = .binOp .eql 31 x y 31) (hx : a.eval x = .agg (bA 16 f)) (hy : a.eval y = .agg (bA 16 g)) (h : eqB 16 f g = false) : (execOp a.eval o).run Try.prog w = .ok (.value (.bool false)) w := by
  rw [← h]; exact exec_eql16 ho hx hy
end
end Go.Proofs.Ytjoffdaknacbpaa.Win
