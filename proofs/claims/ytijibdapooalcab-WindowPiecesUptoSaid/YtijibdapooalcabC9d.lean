import Derived.Test.YtijibdapooalcabC9c
import Derived.Test.YtijibdapooalcabI1
namespace Go.Proofs.Ytijibdapooalcab.Win
open Go.RowKit Gf8 Aes By8 Cel Cf
/- The reference's Len, Has. Written by tools/mkC9d.py. -/

/-- The epochs as a list. -/
def tgL (n : Nat) (t : Nat → Nat → Nat) : List Nat := (List.range n).map fun k => tv (t k) 16
def esL (n : Nat) (nu : Nat → Int) (ln : Nat → Nat) (t : Nat → Nat → Nat → Nat) : List Ep := (List.range n).map fun j => (nu j, tgL (ln j) (t j))
theorem len_tgL {n : Nat} {t : Nat → Nat → Nat} : (tgL n t).length = n := by
  unfold tgL
  rw [List.length_map, List.length_range]
/-- The lengths' sum, as an int holds it. -/
def sW (ln : Nat → Nat) : Nat → Int
  | 0 => 0
  | i + 1 => IntKind.i64.wrap (sW ln i + ((ln i : Nat) : Int))
theorem esL_succ {n : Nat} {nu : Nat → Int} {ln : Nat → Nat} {t : Nat → Nat → Nat → Nat} : esL (n + 1) nu ln t = esL n nu ln t ++ [(nu n, tgL (ln n) (t n))] := by
  unfold esL
  rw [List.range_succ, List.map_append]
  rfl
theorem len_app (a b : List Ep) : wLen (a ++ b) = wLen a + wLen b := by
  induction a with
  | nil => show wLen b = 0 + wLen b; omega
  | cons x a ih => rw [List.cons_append, len_cons, len_cons, ih]; omega
theorem len_esL {n : Nat} {nu : Nat → Int} {ln : Nat → Nat} {t : Nat → Nat → Nat → Nat} : wLen (esL (n + 1) nu ln t) = wLen (esL n nu ln t) + ln n := by
  rw [esL_succ, len_app, len_cons]
  show _ + ((tgL (ln n) (t n)).length + 0) = _
  rw [len_tgL, Nat.add_zero]
/-- A sum that fits is the sum. -/
theorem sW_fit {nu : Nat → Int} {ln : Nat → Nat} {t : Nat → Nat → Nat → Nat} : ∀ n, wLen (esL n nu ln t) < 9223372036854775808 → sW ln n = ((wLen (esL n nu ln t) : Nat) : Int)
  | 0, _ => rfl
  | n + 1, h => by
    rw [len_esL] at h ⊢
    show IntKind.i64.wrap (sW ln n + ((ln n : Nat) : Int)) = _
    rw [sW_fit (nu := nu) (t := t) n (by omega), ← Int.natCast_add]
    exact wrap_i64_nat h
section
variable {o : Oper} {a : Act} {w : World}
theorem execAdW {x y : Operand} {p q : Int} (ho : o.op = .binOp .add 3 x y 3) (hx : a.eval x = .int .i64 p) (hy : a.eval y = .int .i64 q) : (execOp a.eval o).run Try.prog w = .ok (.value (.int .i64 (IntKind.i64.wrap (p + q)))) w := by
  unfold execOp
  simp only [ho, hx, hy]
  simp [go_sem]
theorem range16w {b off : Nat} {f : Nat → Nat} (h : ∀ j, j < 16 → w.cell? ⟨b, off + j, none⟩ = some (.int .u8 ((f j : Nat) : Int))) : w.rangeAt b off (bytesL 16 f) := by
  intro j v hv
  have lj : j < 16 := by have := (List.getElem?_eq_some_iff.1 hv).1; rw [bytesL_len] at this; exact this
  rw [bytesL_at 16 f lj] at hv
  rw [h j lj]; exact hv
theorem len16w (f : Nat → Nat) : (Try.prog.info? 36).map (·.size) = some (bytesL 16 f).length := by rw [bytesL_len]; kernel_rfl
theorem execLdT {x : Operand} {b off : Nat} {f : Nat → Nat} (ho : o.op = .load 36 x) (hx : a.eval x = .pointer (some ⟨b, off, none⟩)) (h : ∀ j, j < 16 → w.cell? ⟨b, off + j, none⟩ = some (.int .u8 ((f j : Nat) : Int))) : (execOp a.eval o).run Try.prog w = .ok (.value (.agg (bA 16 f))) w := by
  unfold execOp
  simp only [ho, hx, Sem.run_bind, run_loadAt_mid (P := Try.prog) w b off 36 (bytesL 16 f) _ (range16w h) Try.underlying36 rfl (len16w f), Result.andThen_ok, Sem.run_pure]
  rfl
theorem eqB_tv {f g : Nat → Nat} (hf : ∀ i, i < 16 → f i < 256) (hg : ∀ i, i < 16 → g i < 256) : eqB 16 f g = decide (tv f 16 = tv g 16) := by
  by_cases h : tv f 16 = tv g 16
  · rw [decide_eq_true h]
    exact eqB_true ((tv_iff hf hg).1 h)
  · rw [decide_eq_false h]
    cases hb : eqB 16 f g with
    | false => rfl
    | true =>
      unfold eqB at hb
      rw [List.all_eq_true] at hb
      exact absurd (tv_eq fun j hj => by
        have := hb j (List.mem_range.2 hj)
        have h2 : ((f j : Nat) : Int) = ((g j : Nat) : Int) := by simpa using this
        omega) h
theorem execeql16t {x y : Operand} {f g : Nat → Nat} (ho : o.op = .binOp .eql 36 x y 36) (hx : a.eval x = .agg (bA 16 f)) (hy : a.eval y = .agg (bA 16 g)) (h : eqB 16 f g = true) : (execOp a.eval o).run Try.prog w = .ok (.value (.bool true)) w := by
  rw [← h]; exact exec_eql16 ho hx hy
theorem execeql16f {x y : Operand} {f g : Nat → Nat} (ho : o.op = .binOp .eql 36 x y 36) (hx : a.eval x = .agg (bA 16 f)) (hy : a.eval y = .agg (bA 16 g)) (h : eqB 16 f g = false) : (execOp a.eval o).run Try.prog w = .ok (.value (.bool false)) w := by
  rw [← h]; exact exec_eql16 ho hx hy
theorem execneq16t {x y : Operand} {f g : Nat → Nat} (ho : o.op = .binOp .neq 36 x y 36) (hx : a.eval x = .agg (bA 16 f)) (hy : a.eval y = .agg (bA 16 g)) (h : eqB 16 f g = true) : (execOp a.eval o).run Try.prog w = .ok (.value (.bool false)) w := by
  have := exec_neq16 (w := w) ho hx hy
  rw [h] at this
  exact this
end
end Go.Proofs.Ytijibdapooalcab.Win
