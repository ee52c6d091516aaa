import Derived.Test.YtghnhfigihnciaaGreatC9c
import Derived.Test.YtghnhfigihnciaaGreatI1
namespace Go.Proofs.YtghnhfigihnciaaGreat.Win
open Go.RowKit Gf8 Aes By8 Cel Cf
/- The reference's Len, Has. Written by tools/mkC9d.py. -/

/-- The epochs as a list. -/
def tgL (n : Nat) (t : Nat → Nat → Nat) : List Nat := (List.range n).map fun k => tv (t k) 16
def esL (n : Nat) (nu : Nat → Int) (ln : Nat → Nat) (t : Nat → Nat → Nat → Nat) : List Ep := (List.range n).map fun j => (nu j, tgL (ln j) (t j))
/-- The lengths' sum, as an int holds it. -/
def sW (ln : Nat → Nat) : Nat → Int
  | 0 => 0
  | i + 1 => IntKind.i64.wrap (sW ln i + ((ln i : Nat) : Int))
section
variable {o : Oper} {a : Act} {w : World}
theorem range16w {b off : Nat} {f : Nat → Nat} (h : ∀ j, j < 16 → w.cell? ⟨b, off + j, none⟩ = some (.int .u8 ((f j : Nat) : Int))) : w.rangeAt b off (bytesL 16 f) := by
  intro j v hv
  have lj : j < 16 := by have := (List.getElem?_eq_some_iff.1 hv).1; rw [bytesL_len] at this; exact this
  rw [bytesL_at 16 f lj] at hv
  rw [h j lj]; exact hv
theorem len16w (f : Nat → Nat) : (Tryz.prog.info? 74).map (·.size) = some (bytesL 16 f).length := by rw [bytesL_len]; kernel_rfl
theorem execLdT {x : Operand} {b off : Nat} {f : Nat → Nat} (ho : o.op = .load 74 x) (hx : a.eval x = .pointer (some ⟨b, off, none⟩)) (h : ∀ j, j < 16 → w.cell? ⟨b, off + j, none⟩ = some (.int .u8 ((f j : Nat) : Int))) : (execOp a.eval o).run Tryz.prog w = .ok (.value (.agg (bA 16 f))) w := by
  unfold execOp
  simp only [ho, hx, Sem.run_bind, run_loadAt_mid (P := Tryz.prog) w b off 74 (bytesL 16 f) _ (range16w h) Tryz.underlying74 rfl (len16w f), Result.andThen_ok, Sem.run_pure]
  rfl
theorem execneq16t {x y : Operand} {f g : Nat → Nat} (ho : o.op = .binOp .neq 74 x y 74) (hx : a.eval x = .agg (bA 16 f)) (hy : a.eval y = .agg (bA 16 g)) (h : eqB 16 f g = true) : (execOp a.eval o).run Tryz.prog w = .ok (.value (.bool false)) w := by
  have := exec_neq16 (w := w) ho hx hy
  rw [h] at this
  exact this
end
end Go.Proofs.YtghnhfigihnciaaGreat.Win
