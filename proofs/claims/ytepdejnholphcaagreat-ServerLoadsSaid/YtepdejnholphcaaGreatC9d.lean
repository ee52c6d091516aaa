import Derived.Test.YtepdejnholphcaaGreatC9c
import Derived.Test.YtepdejnholphcaaGreatI1
namespace Go.Proofs.YtepdejnholphcaaGreat.Win
open Go.RowKit Gf8 Aes By8 Cel Cf
/- The reference's Len, Has. Written by tools/mkC9d.py. -/

/-- The epochs as a list. -/
def tgL (n : Nat) (t : Nat → Nat → Nat) : List Nat := (List.range n).map fun k => tv (t k) 16
def esL (n : Nat) (nu : Nat → Int) (ln : Nat → Nat) (t : Nat → Nat → Nat → Nat) : List Ep := (List.range n).map fun j => (nu j, tgL (ln j) (t j))
theorem mem_tgL {z n : Nat} {t : Nat → Nat → Nat} : z ∈ tgL n t ↔ ∃ k, k < n ∧ tv (t k) 16 = z := by
  unfold tgL
  rw [List.mem_map]
  exact ⟨fun ⟨k, h1, h2⟩ => ⟨k, List.mem_range.1 h1, h2⟩, fun ⟨k, h1, h2⟩ => ⟨k, List.mem_range.2 h1, h2⟩⟩
theorem len_tgL {n : Nat} {t : Nat → Nat → Nat} : (tgL n t).length = n := by
  unfold tgL
  rw [List.length_map, List.length_range]
/-- The lengths' sum, as an int holds it. -/
def sW (ln : Nat → Nat) : Nat → Int
  | 0 => 0
  | i + 1 => IntKind.i64.wrap (sW ln i + ((ln i : Nat) : Int))
theorem esL_succ {n : Nat} {nu : Nat → Int} {ln : Nat → Nat} {t : Nat → Nat → Nat → Nat} : esL (n + 1) nu ln t = esL n nu ln t ++ [(nu n, tgL (ln n) (t n))] := by
  unfold esL
  rw [List.range_succ, List.map_append]
  rfl
theorem len_app (a b : List Ep) : wLen (a ++ b) = wLen a + wLen b := by
  induction a with
  | nil => show wLen b = 0 + wLen b; omega
  | cons x a ih => rw [List.cons_append, len_cons, len_cons, ih]; omega
theorem len_esL {n : Nat} {nu : Nat → Int} {ln : Nat → Nat} {t : Nat → Nat → Nat → Nat} : wLen (esL (n + 1) nu ln t) = wLen (esL n nu ln t) + ln n := by
  rw [esL_succ, len_app, len_cons]
  show _ + ((tgL (ln n) (t n)).length + 0) = _
  rw [len_tgL, Nat.add_zero]
/-- A sum that fits is the sum. -/
theorem sW_fit {nu : Nat → Int} {ln : Nat → Nat} {t : Nat → Nat → Nat → Nat} : ∀ n, wLen (esL n nu ln t) < 9223372036854775808 → sW ln n = ((wLen (esL n nu ln t) : Nat) : Int)
  | 0, _ => rfl
  | n + 1, h => by
    rw [len_esL] at h ⊢
    show IntKind.i64.wrap (sW ln n + ((ln n : Nat) : Int)) = _
    rw [sW_fit (nu := nu) (t := t) n (by omega), ← Int.natCast_add]
    exact wrap_i64_nat h
section
variable {o : Oper} {a : Act} {w : World}
theorem execAdW {x y : Operand} {p q : Int} (ho : o.op = .binOp .add 3 x y 3) (hx : a.eval x = .int .i64 p) (hy : a.eval y = .int .i64 q) : (execOp a.eval o).run Tryz.prog w = .ok (.value (.int .i64 (IntKind.i64.wrap (p + q)))) w := by
  unfold execOp
  simp only [ho, hx, hy]
  simp [go_sem]
theorem range16w {b off : Nat} {f : Nat → Nat} (h : ∀ j, j < 16 → w.cell? ⟨b, off + j, none⟩ = some (.int .u8 ((f j : Nat) : Int))) : w.rangeAt b off (bytesL 16 f) := by
  intro j v hv
  have lj : j < 16 := by have := (List.getElem?_eq_some_iff.1 hv).1; rw [bytesL_len] at this; exact this
  rw [bytesL_at 16 f lj] at hv
  rw [h j lj]; exact hv
theorem len16w (f : Nat → Nat) : (Tryz.prog.info? 66).map (·.size) = some (bytesL 16 f).length := by rw [bytesL_len]; kernel_rfl
theorem execLdT {x : Operand} {b off : Nat} {f : Nat → Nat} (ho : o.op = .load 66 x) (hx : a.eval x = .pointer (some ⟨b, off, none⟩)) (h : ∀ j, j < 16 → w.cell? ⟨b, off + j, none⟩ = some (.int .u8 ((f j : Nat) : Int))) : (execOp a.eval o).run Tryz.prog w = .ok (.value (.agg (bA 16 f))) w := by
  unfold execOp
  simp only [ho, hx, Sem.run_bind, run_loadAt_mid (P := Tryz.prog) w b off 66 (bytesL 16 f) _ (range16w h) Tryz.underlying66 rfl (len16w f), Result.andThen_ok, Sem.run_pure]
  rfl
theorem eqB_tv {f g : Nat → Nat} (hf : ∀ i, i < 16 → f i < 256) (hg : ∀ i, i < 16 → g i < 256) : eqB 16 f g = decide (tv f 16 = tv g 16) := by
  by_cases h : tv f 16 = tv g 16
  · rw [decide_eq_true h]
    exact eqB_true ((tv_iff hf hg).1 h)
  · rw [decide_eq_false h]
    cases hb : eqB 16 f g with
    | false => rfl
    | true =>
      unfold eqB at hb
      rw [List.all_eq_true] at hb
      exact absurd (tv_eq fun j hj => by
        have := hb j (List.mem_range.2 hj)
        have h2 : ((f j : Nat) : Int) = ((g j : Nat) : Int) := by simpa using this
        omega) h
theorem execeql16t {x y : Operand} {f g : Nat → Nat} (ho : o.op = .binOp .eql 66 x y 66) (hx : a.eval x = .agg (bA 16 f)) (hy : a.eval y = .agg (bA 16 g)) (h : eqB 16 f g = true) : (execOp a.eval o).run Tryz.prog w = .ok (.value (.bool true)) w := by
  rw [← h]; exact exec_eql16 ho hx hy
theorem execeql16f {x y : Operand} {f g : Nat → Nat} (ho : o.op = .binOp .eql 66 x y 66) (hx : a.eval x = .agg (bA 16 f)) (hy : a.eval y = .agg (bA 16 g)) (h : eqB 16 f g = false) : (execOp a.eval o).run Tryz.prog w = .ok (.value (.bool false)) w := by
  rw [← h]; exact exec_eql16 ho hx hy
theorem execneq16t {x y : Operand} {f g : Nat → Nat} (ho : o.op = .binOp .neq 66 x y 66) (hx : a.eval x = .agg (bA 16 f)) (hy : a.eval y = .agg (bA 16 g)) (h : eqB 16 f g = true) : (execOp a.eval o).run Tryz.prog w = .ok (.value (.bool false)) w := by
  have := exec_neq16 (w := w) ho hx hy
  rw [h] at this
  exact this
end
set_option maxRecDepth 100000 in
set_option maxHeartbeats 4000000 in
/-- The reference's Len. -/
theorem rlen16 (nw : Int) (ev : Value) (n : Nat) (nu : Nat → Int) (tw : Nat → Value) (ln : Nat → Nat) (t : Nat → Nat → Nat → Nat) (V : World) (hE : Eps V ev n nu tw ln t) (hn : n < 9223372036854775808) :
    Calls Tryz.prog 25 #[.agg (wC nw ev)] V fun e w' => e = .returned (.int .i64 (sW ln n)) ∧ Below V.heap.size V w' := by
  go_enter Tryz.func25, Tryz.ntmps25
  refine wo_ 22 [(0, .agg (wC nw ev))] ?_
  rintro a A ⟨t0, -⟩
  have BW : Below V.heap.size V V := Below.refl _ _
  refine wp_seq ?_
  obtain ⟨g1, egg1⟩ : ∃ z_ : Nat, V.heap.size = z_ := ⟨_, rfl⟩
  refine wi_ A (h1_ t0) (rs_ 0 (fun a ee => ?_))
  refine stepV rfl rfl (execBoxW rfl (ee _)) ⟨.pointer (some ⟨g1, 0, none⟩), ⟨_, rfl, by subst egg1; rfl⟩, fun X0 hX => ?_⟩
  have bQ : Below V.heap.size V X0 := by subst hX egg1; exact (belNew V _)
  have Fg1 : (X0.heap[g1]? = some (.cells (wC nw ev) 27)) := by subst hX egg1; exact heapNew V _
  have bX := bQ
  clear bQ hX egg1 ee a
  refine rg_ [(1, .pointer (some ⟨g1, 0, none⟩))] ?_
  rintro a A ⟨t1, -⟩
  replace hE := (hE.on bX)
  have ZX0 := bX.size
  replace BW := BW.trans (bX.mono BW.size)
  clear bX
  have BB : Below X0.heap.size X0 X0 := Below.refl _ _
  refine wp_seq ?_
  refine wi_ A (h1_ t1) (rf_ [(3, .int .i64 ((0 : Nat) : Int))] (h1_ t1) ?_)
  rintro a A ⟨t3, -⟩ ⟨t1, -⟩
  refine wp_seq ?_
  refine wp_seq ?_
  refine wi_ A (h2_ t1 t3) (rf_ [(4, .int .i64 ((0 : Nat) : Int))] (h2_ t1 t3) ?_)
  rintro a A ⟨t4, -⟩ ⟨t1, t3, -⟩
  refine wp_block ?_
  refine wp_loop (fun a W => ∃ (i : Nat), i ≤ n ∧ (a.tmps.size = 22 ∧ a.defers = []) ∧ a.eval (.tmp 1) = .pointer (some ⟨g1, 0, none⟩) ∧ a.eval (.tmp 3) = .int .i64 (sW ln i) ∧ a.eval (.tmp 4) = .int .i64 ((i : Nat) : Int) ∧ Below X0.heap.size X0 W) (fun a _ => n - (intOf (a.eval (.tmp 4))).toNat) ⟨0, Nat.zero_le _, A, t1, t3, t4, BB⟩ ?_
  clear A t1 t3 t4 BB a
  rintro a XL ⟨i, hi, A, t1, t3, t4, BB⟩
  have es := t4
  refine wp_seq ?_
  refine wp_seq ?_
  refine wi_ A (h3_ t1 t3 t4) (rv_ 1 (.pointer (some ⟨g1, 1, none⟩)) (fun a ee => execFldW1 rfl (ee _)) (rv_ 2 (ev) (fun a ee => execLdEs rfl (ee _) (wC_1 (on9 Fg1 BB))) (rv_ 3 (.int .i64 ((n : Nat) : Int)) (fun a ee => execLenEs (len := n) rfl (ee _) hE.shp) (rv_ 4 (.bool (decide (i < n))) (fun a ee => execLtW (p := i) (q := n) rfl (ee _) (ee _)) (rf_ [(9, .bool (decide (i < n)))] (h3_ t1 t3 t4) ?_)))))
  rintro a A ⟨t9, -⟩ ⟨t1, t3, t4, -⟩
  by_cases lti : i < n
  · rw [decide_eq_true lti] at t9
    refine wp_cond_true t9 ?_
    refine wp_skip ?_
    clear t9
    obtain ⟨eb, eo, ec, ee_, heb, hec⟩ := hE.at (show 0 < n by omega)
    have cE : ∀ X, Below X0.heap.size X0 X → X.cell? ⟨eb, eo + i * 2 + 1, none⟩ = some (tw i) := fun X hX => by rw [cell_below hX heb]; exact (hec i lti).2
    refine wp_seq ?_
    refine wp_block ?_
    refine wi_ A (h3_ t1 t3 t4) (rv_ 1 (.pointer (some ⟨g1, 1, none⟩)) (fun a ee => execFldW1 rfl (ee _)) (rv_ 2 (ev) (fun a ee => execLdEs rfl (ee _) (wC_1 (on9 Fg1 BB))) (rv_ 4 (.pointer (some ⟨eb, eo + i * 2, none⟩)) (fun a ee => execIdxEs (k := i) rfl ((ee _).trans ee_) (ee _) lti) (rv_ 5 (.pointer (some ⟨eb, eo + i * 2 + 1, none⟩)) (fun a ee => execFldE1 rfl (ee _)) (rv_ 6 (tw i) (fun a ee => execLdTs rfl (ee _) (cE XL BB)) (rv_ 7 (.int .i64 ((ln i : Nat) : Int)) (fun a ee => execLenTs (len := ln i) rfl (ee _) (hE.lists i lti).shp) (rv_ 8 (.int .i64 (sW ln (i + 1))) (fun a ee => execAdW rfl (ee _) (ee _)) (rf_ [(3, .int .i64 (sW ln (i + 1)))] (h2_ t1 t4) ?_))))))))
    rintro a A ⟨t3, -⟩ ⟨t1, t4, -⟩
    refine wi_ A (h3_ t1 t3 t4) (rv_ 1 (.int .i64 ((i + 1 : Nat) : Int)) (fun a ee => execAd8 (p := i) (q := 1) rfl (ee _) rfl (by omega)) (rf_ [(4, .int .i64 ((i + 1 : Nat) : Int))] (h2_ t1 t3) ?_))
    rintro a A ⟨t4, -⟩ ⟨t1, t3, -⟩
    exact ⟨⟨i + 1, lti, A, t1, t3, t4, BB⟩, by show n - (intOf (a.eval (.tmp 4))).toNat < n - (intOf (Act.eval _ (.tmp 4))).toNat; rw [t4, es]; show n - (i + 1) < n - i; omega⟩
  · rw [decide_eq_false lti] at t9
    refine wp_cond_false t9 ?_
    refine wp_exit ?_
    first | with_reducible refine exit_in ?_ | with_reducible refine exit_then (exit_in ?_) | with_reducible refine exit_then (exit_then (exit_in ?_)) | refine exit_in ?_ | refine exit_then (exit_in ?_) | refine exit_then (exit_then (exit_in ?_))
    clear t9 es
    obtain rfl : i = n := by omega
    have BW2 := BW.trans (BB.mono BW.size)
    refine wp_seq ?_
    refine wi_ A (h3_ t1 t3 t4) (rg_ [(2, .int .i64 (sW ln i))] ?_)
    rintro a A ⟨t2, -⟩
    refine wp_ret ?_
    refine bodyPost_ret (results_tmp rfl _ _ _) A.2 ⟨?_, BW2⟩
    show Ending.returned (a.eval (.tmp 2)) = _
    rw [t2]
end Go.Proofs.YtepdejnholphcaaGreat.Win
