import Derived.Test.YtepdejnholphcaaGreatC9h
namespace Go.Proofs.YtepdejnholphcaaGreat.Win
open Go.RowKit Gf8 Aes By8 Cel Cf
/- What the reference's Check needs. Written by tools/mkC9i.py. -/

def epC (nu : Int) (v : Value) : Array Value := #[.int .i64 nu, v]
theorem epC_0 {W : World} {g : Nat} {nu : Int} {v : Value} {t : TypeId} (h : W.heap[g]? = some (.cells (epC nu v) t)) : W.cell? ⟨g, 0, none⟩ = some (.int .i64 nu) := by rw [cell_of_row _ _ _ _ _ _ h]; rfl
theorem epC_1 {W : World} {g : Nat} {nu : Int} {v : Value} {t : TypeId} (h : W.heap[g]? = some (.cells (epC nu v) t)) : W.cell? ⟨g, 0 + 1, none⟩ = some v := by rw [cell_of_row _ _ _ _ _ _ h]; rfl
section
variable {o : Oper} {a : Act} {w : World}
theorem exIlss2 {x y : Operand} {p q : Int} (ho : o.op = .binOp .lss 2 x y 2) (hx : a.eval x = .int .i64 p) (hy : a.eval y = .int .i64 q) : (execOp a.eval o).run Tryz.prog w = .ok (.value (.bool (decide (p < q)))) w := by
  unfold execOp
  simp only [ho, hx, hy]
  simp [go_sem]
theorem exIgtr2 {x y : Operand} {p q : Int} (ho : o.op = .binOp .gtr 2 x y 2) (hx : a.eval x = .int .i64 p) (hy : a.eval y = .int .i64 q) : (execOp a.eval o).run Tryz.prog w = .ok (.value (.bool (decide (p > q)))) w := by
  unfold execOp
  simp only [ho, hx, hy]
  simp [go_sem]
theorem exIleq2 {x y : Operand} {p q : Int} (ho : o.op = .binOp .leq 2 x y 2) (hx : a.eval x = .int .i64 p) (hy : a.eval y = .int .i64 q) : (execOp a.eval o).run Tryz.prog w = .ok (.value (.bool (decide (p ≤ q)))) w := by
  unfold execOp
  simp only [ho, hx, hy]
  simp [go_sem]
theorem exIgeq2 {x y : Operand} {p q : Int} (ho : o.op = .binOp .geq 2 x y 2) (hx : a.eval x = .int .i64 p) (hy : a.eval y = .int .i64 q) : (execOp a.eval o).run Tryz.prog w = .ok (.value (.bool (decide (p ≥ q)))) w := by
  unfold execOp
  simp only [ho, hx, hy]
  simp [go_sem]
theorem exIeql2 {x y : Operand} {p q : Int} (ho : o.op = .binOp .eql 2 x y 2) (hx : a.eval x = .int .i64 p) (hy : a.eval y = .int .i64 q) : (execOp a.eval o).run Tryz.prog w = .ok (.value (.bool (decide (p = q)))) w := by
  unfold execOp
  simp only [ho, hx, hy]
  by_cases h : p = q
  · subst h; simp [go_sem]
  · simp [go_sem, h]
theorem exIneq2 {x y : Operand} {p q : Int} (ho : o.op = .binOp .neq 2 x y 2) (hx : a.eval x = .int .i64 p) (hy : a.eval y = .int .i64 q) : (execOp a.eval o).run Tryz.prog w = .ok (.value (.bool (decide (p ≠ q)))) w := by
  unfold execOp
  simp only [ho, hx, hy]
  by_cases h : p = q
  · subst h; simp [go_sem]
  · simp [go_sem, h]
theorem exIlss3 {x y : Operand} {p q : Int} (ho : o.op = .binOp .lss 3 x y 3) (hx : a.eval x = .int .i64 p) (hy : a.eval y = .int .i64 q) : (execOp a.eval o).run Tryz.prog w = .ok (.value (.bool (decide (p < q)))) w := by
  unfold execOp
  simp only [ho, hx, hy]
  simp [go_sem]
theorem exIgtr3 {x y : Operand} {p q : Int} (ho : o.op = .binOp .gtr 3 x y 3) (hx : a.eval x = .int .i64 p) (hy : a.eval y = .int .i64 q) : (execOp a.eval o).run Tryz.prog w = .ok (.value (.bool (decide (p > q)))) w := by
  unfold execOp
  simp only [ho, hx, hy]
  simp [go_sem]
theorem exIleq3 {x y : Operand} {p q : Int} (ho : o.op = .binOp .leq 3 x y 3) (hx : a.eval x = .int .i64 p) (hy : a.eval y = .int .i64 q) : (execOp a.eval o).run Tryz.prog w = .ok (.value (.bool (decide (p ≤ q)))) w := by
  unfold execOp
  simp only [ho, hx, hy]
  simp [go_sem]
theorem exIgeq3 {x y : Operand} {p q : Int} (ho : o.op = .binOp .geq 3 x y 3) (hx : a.eval x = .int .i64 p) (hy : a.eval y = .int .i64 q) : (execOp a.eval o).run Tryz.prog w = .ok (.value (.bool (decide (p ≥ q)))) w := by
  unfold execOp
  simp only [ho, hx, hy]
  simp [go_sem]
theorem exIeql3 {x y : Operand} {p q : Int} (ho : o.op = .binOp .eql 3 x y 3) (hx : a.eval x = .int .i64 p) (hy : a.eval y = .int .i64 q) : (execOp a.eval o).run Tryz.prog w = .ok (.value (.bool (decide (p = q)))) w := by
  unfold execOp
  simp only [ho, hx, hy]
  by_cases h : p = q
  · subst h; simp [go_sem]
  · simp [go_sem, h]
theorem execGtN {x y : Operand} {p q : Nat} (ho : o.op = .binOp .gtr 3 x y 3) (hx : a.eval x = .int .i64 (p : Int)) (hy : a.eval y = .int .i64 (q : Int)) : (execOp a.eval o).run Tryz.prog w = .ok (.value (.bool (decide (q < p)))) w := by
  unfold execOp
  simp only [ho, hx, hy]
  simp [go_sem]
theorem execSub2 {x y : Operand} {p q z : Int} (ho : o.op = .binOp .sub 2 x y 2) (hx : a.eval x = .int .i64 p) (hy : a.eval y = .int .i64 q) (hz : p - q = z) (h1 : -9223372036854775808 ≤ z) (h2 : z < 9223372036854775808) : (execOp a.eval o).run Tryz.prog w = .ok (.value (.int .i64 z)) w := by
  subst hz
  have e : IntKind.i64.wrap (p - q) = p - q := by rw [IntKind.wrap_i64]; omega
  unfold execOp
  simp only [ho, hx, hy]
  simp [go_sem, e]
theorem execLdWn {x : Operand} {g : Nat} {nw : Int} {v : Value} {t : TypeId} (ho : o.op = .load 27 x) (hx : a.eval x = .pointer (some ⟨g, 0, none⟩)) (hg : w.heap[g]? = some (.cells (wC nw v) t)) : (execOp a.eval o).run Tryz.prog w = .ok (.value (.agg (wC nw v))) w := by
  have h0 := wC_0 hg
  have h1 := wC_1 hg
  have hr := run_loadAt_mid (P := Tryz.prog) w g 0 27 [.int .i64 nw, v] _ (fun j z hz => by
    match j, hz with
    | 0, hz => rw [← hz]; exact h0
    | 1, hz => rw [← hz]; exact h1) Tryz.underlying27 rfl (by kernel_rfl)
  unfold execOp
  simp only [ho, hx, Sem.run_bind, hr, Result.andThen_ok, Sem.run_pure]
  rfl
theorem execLdEp {x : Operand} {b off : Nat} {nu : Int} {v : Value} (ho : o.op = .load 57 x) (hx : a.eval x = .pointer (some ⟨b, off, none⟩)) (h0 : w.cell? ⟨b, off + 0, none⟩ = some (.int .i64 nu)) (h1 : w.cell? ⟨b, off + 1, none⟩ = some v) : (execOp a.eval o).run Tryz.prog w = .ok (.value (.agg (epC nu v))) w := by
  have hr := run_loadAt_mid (P := Tryz.prog) w b off 57 [.int .i64 nu, v] _ (fun j z hz => by
    match j, hz with
    | 0, hz => rw [← hz]; exact h0
    | 1, hz => rw [← hz]; exact h1) Tryz.underlying57 rfl (by kernel_rfl)
  unfold execOp
  simp only [ho, hx, Sem.run_bind, hr, Result.andThen_ok, Sem.run_pure]
  rfl
theorem execAllEp (ho : o.op = .alloc 57) : (execOp a.eval o).run Tryz.prog w = .ok (.value (.pointer (some ⟨w.heap.size, 0, none⟩))) (w.alloc (.cells (epC 0 (.slice none 0 0)) 57)) := by
  unfold execOp
  simp only [ho]
  simp [go_sem, epC]
theorem execStEp {x y : Operand} {g : Nat} {n0 nu : Int} {v0 v : Value} (ho : o.op = .store 57 x y) (hx : a.eval x = .pointer (some ⟨g, 0, none⟩)) (hy : a.eval y = .agg (epC nu v)) (hg : w.heap[g]? = some (.cells (epC n0 v0) 57)) (hv : v.oneCell' = true) : (execOp a.eval o).run Tryz.prog w = .ok .skip (w.setRow g (epC nu v)) := by
  have h := execStMid (P := Tryz.prog) ho hx hy hg (Nat.le_refl _) (show (Tryz.prog.info? 57).map (·.size) = some (epC nu v).size from by show _ = some 2; kernel_rfl) (by
    have h0 : (Value.int .i64 nu).oneCell' = true := rfl
    simp [epC, hv, h0])
  exact h
end
theorem inc_iff {m : Nat} {t : Nat → Nat → Nat} : Inc (tgL m t) ↔ ∀ k, k + 1 < m → tv (t k) 16 < tv (t (k + 1)) 16 := by
  refine ⟨inc_tgL, fun h => ?_⟩
  have far : ∀ d k, k + d + 1 < m → tv (t k) 16 < tv (t (k + d + 1)) 16 := fun d => by
    induction d with
    | zero => intro k hk; exact h k hk
    | succ d ih =>
      intro k hk
      have h1 := ih k (by omega)
      have h2 := h (k + d + 1) (by omega)
      show _ < tv (t (k + d + 1 + 1)) 16
      omega
  refine List.pairwise_iff_getElem.2 fun i j hi hj hij => ?_
  rw [len_tgL] at hi hj
  have := far (j - i - 1) i (by omega)
  rw [show i + (j - i - 1) + 1 = j by omega] at this
  simpa [tgL] using this
theorem rise_iff {n : Nat} {nu : Nat → Int} {ln : Nat → Nat} {t : Nat → Nat → Nat → Nat} : Rise (esL n nu ln t) ↔ ∀ k, k + 1 < n → nu k < nu (k + 1) := by
  have hl : (esL n nu ln t).length = n := by unfold esL; rw [List.length_map, List.length_range]
  constructor
  · intro h k hk
    have h2 := List.pairwise_iff_getElem.1 h k (k + 1) (by omega) (by omega) (by omega)
    simpa [esL] using h2
  · intro h
    have far : ∀ d k, k + d + 1 < n → nu k < nu (k + d + 1) := fun d => by
      induction d with
      | zero => intro k hk; exact h k hk
      | succ d ih =>
        intro k hk
        have h1 := ih k (by omega)
        have h2 := h (k + d + 1) (by omega)
        show _ < nu (k + d + 1 + 1)
        omega
    refine List.pairwise_iff_getElem.2 fun i j hi hj hij => ?_
    rw [hl] at hi hj
    have := far (j - i - 1) i (by omega)
    rw [show i + (j - i - 1) + 1 = j by omega] at this
    simpa [esL] using this
theorem each_iff {n : Nat} {nu : Nat → Int} {ln : Nat → Nat} {t : Nat → Nat → Nat → Nat} {P : Ep → Prop} : (∀ x ∈ esL n nu ln t, P x) ↔ ∀ j, j < n → P (nu j, tgL (ln j) (t j)) := by
  unfold esL
  constructor
  · intro h j hj
    exact h _ (List.mem_map.2 ⟨j, List.mem_range.2 hj, rfl⟩)
  · intro h x hx
    obtain ⟨j, h1, rfl⟩ := List.mem_map.1 hx
    exact h j (List.mem_range.1 h1)
/-- Few epochs stand within a span. -/
theorem few {n : Nat} {nu : Nat → Int} {nw s : Int} (h : ∀ k, k + 1 < n → nu k < nu (k + 1)) (hk : ∀ j, j < n → nu j ≤ nw ∧ nw - s < nu j) (hs : s ≤ 8) : n ≤ 8 := by
  by_cases q : n = 0
  · omega
  · have far : ∀ d, d < n → nu 0 + (d : Int) ≤ nu d := fun d => by
      induction d with
      | zero => intro _; show nu 0 + 0 ≤ nu 0; omega
      | succ d ih =>
        intro hd
        have h1 := ih (by omega)
        have h2 := h d hd
        show nu 0 + ((d + 1 : Nat) : Int) ≤ nu (d + 1)
        omega
    have h1 := far (n - 1) (by omega)
    have h2 := (hk (n - 1) (by omega)).1
    have h3 := (hk 0 (by omega)).2
    omega
theorem al_few {ln : Nat → Nat} : ∀ n, (∀ j, j < n → ln j ≤ 8796093022208) → alN ln n ≤ n * 8796093022208
  | 0, _ => Nat.le_refl _
  | n + 1, h => by
    have h1 := al_few n fun j hj => h j (by omega)
    have h2 := h n (by omega)
    show alN ln n + ln n ≤ _
    omega
end Go.Proofs.YtepdejnholphcaaGreat.Win
