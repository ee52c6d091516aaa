import Derived.Test.YtepdejnholphcaaGreatJ9b
import Derived.Test.YtepdejnholphcaaGreatJ9c
import Derived.Test.YtepdejnholphcaaGreatC9q
namespace Go.Proofs.YtepdejnholphcaaGreat.Win
open Go.RowKit Gf8 Aes By8 Cel Cf
open Go.ChangeMaps Go.MapKept
/- The program's tagsRise, held, right, Check. Written by tools/mkJ9e.py. -/

theorem below_grow (W : World) (q : Nat) (os : Array Obj) : Below W.heap.size W (Sort.grow (W.drewN q) os) :=
  ⟨rfl, rfl, rfl, by simp [Sort.grow, World.drewN], fun k hk => by
    have : k < (W.drewN q).heap.size := hk
    rw [Sort.heap_grow_old _ _ this]; rfl⟩
theorem pcmp (f g : Nat → Nat) (V : World) (hf : ∀ i, i < 16 → f i < 256) (hg : ∀ i, i < 16 → g i < 256) : Calls Tryz.prog 38 #[.agg (bA 16 f), .agg (bA 16 g)] V fun e w' => e = .returned (.int .i64 (cmpT (tv f 16) (tv g 16))) ∧ Below V.heap.size V w' :=
  (pcompare hf hg V).mono fun _ _ ⟨h1, q, os, h2⟩ => ⟨h1, by rw [h2]; exact below_grow V q os⟩
theorem cmpT_n {a b : Nat} (h : a < b) : ¬ (cmpT a b ≥ 0) := by unfold cmpT; rw [if_pos h]; omega
theorem cmpT_y {a b : Nat} (h : ¬ a < b) : cmpT a b ≥ 0 := by unfold cmpT; rw [if_neg h]; split <;> omega
section
variable {W X : World} {b g B : Nat} {S : List (Nat → Nat)} {o : Obj} {c : Array Value} {t : TypeId}
theorem MS.lt (h : MS W b S) : b < W.heap.size := by
  obtain ⟨es, clock, hb, -⟩ := h.map
  exact (Array.getElem?_eq_some_iff.1 hb).1
theorem MS.on (h : MS W b S) (hb : Below W.heap.size W X) : MS X b S := by
  obtain ⟨es, clock, q, r⟩ := h.map
  exact ⟨⟨es, clock, by rw [hb.block b h.lt]; exact q, r⟩, h.byt, h.nod⟩
theorem ms_new (W : World) : MS (W.alloc (.map #[] 0)) W.heap.size [] := ⟨⟨#[], 0, heapNew W _, rfl, by simp⟩, by simp, by simp [tvs]⟩
theorem belSet {V : World} (h : Below B V W) (hb : B ≤ b) : Below B V (setBlock W b o) :=
  h.trans ⟨rfl, rfl, rfl, by simp [setBlock], fun k hk => by
    show (W.heap.setIfInBounds b o)[k]? = W.heap[k]?
    rw [Array.getElem?_setIfInBounds_ne (by omega)]⟩
theorem set_ne (h : MS W b S) (hg : W.heap[g]? = some (.cells c t)) : g ≠ b := by
  obtain ⟨es, clock, q, -⟩ := h.map
  rintro rfl
  rw [hg] at q
  cases q
theorem onSet (h : MS W b S) (hg : W.heap[g]? = some (.cells c t)) : (setBlock W b o).heap[g]? = some (.cells c t) := by
  have hne := set_ne h hg
  show (W.heap.setIfInBounds b o)[g]? = _
  rw [Array.getElem?_setIfInBounds_ne (Ne.symm hne)]
  exact hg
theorem onRowM {r : Array Value} (h : MS W b S) (hg : W.heap[g]? = some (.cells c t)) : MS (W.setRow g r) b S := by
  obtain ⟨es, clock, q, r2⟩ := h.map
  exact ⟨⟨es, clock, by rw [setRow_other _ _ _ _ (Ne.symm (set_ne h hg))]; exact q, r2⟩, h.byt, h.nod⟩
end
section
variable {o : Oper} {a : Act} {w : World}
theorem execMkM (ho : o.op = .makeMap 82 none) : (execOp a.eval o).run Tryz.prog w = .ok (.value (.map (some w.heap.size))) (w.alloc (.map #[] 0)) := by
  unfold execOp
  simp only [ho]
  simp [go_sem, Instr.makeMap]
theorem execUnit (ho : o.op = .build 71 #[]) : (execOp a.eval o).run Tryz.prog w = .ok (.value (.agg #[])) w := by
  unfold execOp
  simp only [ho]
  simp [go_sem]
theorem execMU {x y z : Operand} {b : Nat} {k : Value} {w2 : World} (ho : o.op = .mapUpdate 82 x y z) (hx : a.eval x = .map (some b)) (hy : a.eval y = k) (hz : a.eval z = .agg #[]) (h : (Instr.mapUpdate 82 (.map (some b)) k (.agg #[])).run Tryz.prog w = .ok () w2) : (execOp a.eval o).run Tryz.prog w = .ok .skip w2 := by
  unfold execOp
  simp only [ho, hx, hy, hz]
  simp [h, Result.andThen]
theorem execLenM {x : Operand} {b : Nat} {S : List (Nat → Nat)} (ho : o.op = .call { callee := .builtin .len, args := #[x], argTypes := #[82] }) (hx : a.eval x = .map (some b)) (h : MS w b S) : (execOp a.eval o).run Tryz.prog w = .ok (.value (.int .i64 ((S.length : Nat) : Int))) w := by
  obtain ⟨es, clock, hb, hk, -⟩ := h.map
  have e : es.size = S.length := by have := congrArg List.length hk; simpa using this
  unfold execOp
  simp only [ho, resolve, invoke, builtin, List.map_toArray, List.map_cons, List.map_nil, hx]
  simp [Builtin.len_, run_underlying und68, MapKept.run_getObj_map hb, e, Result.andThen, goInt]
end
theorem ms_step {S : List (Nat → Nat)} {i j : Nat} {nu : Nat → Int} {ln : Nat → Nat} {t : Nat → Nat → Nat → Nat} (h : ∀ x, x ∈ tvs S ↔ x ∈ wAll (esL i nu ln t) ∨ x ∈ tgL j (t i)) : ∀ x, x ∈ tvs (insM S (t i j)) ↔ x ∈ wAll (esL i nu ln t) ∨ x ∈ tgL (j + 1) (t i) := fun x => by
  rw [mem_insM, h x]
  simp only [tgL, List.range_succ, List.map_append, List.mem_append, List.map_cons, List.map_nil, List.mem_singleton]
  exact or_assoc
theorem ms_next {S : List (Nat → Nat)} {i : Nat} {nu : Nat → Int} {ln : Nat → Nat} {t : Nat → Nat → Nat → Nat} (h : ∀ x, x ∈ tvs S ↔ x ∈ wAll (esL i nu ln t) ∨ x ∈ tgL (ln i) (t i)) : ∀ x, x ∈ tvs S ↔ x ∈ wAll (esL (i + 1) nu ln t) := fun x => by
  rw [h x]
  simp [esL, List.range_succ, wAll]
set_option maxRecDepth 100000 in
set_option maxHeartbeats 4000000 in
/-- The program's tagsRise. -/
theorem pasc_t (v : Value) (m : Nat) (t : Nat → Nat → Nat) (V : World) (hT : Tgs V v m t) (h0 : 0 < m) (hm : m < 9223372036854775808) (hI : Inc (tgL m t)) :
    Calls Tryz.prog 36 #[v] V fun e w' => e = .returned (.bool true) ∧ Below V.heap.size V w' := by
  go_enter Tryz.func36, Tryz.ntmps36
  refine wo_ 21 [(0, v)] ?_
  rintro a A ⟨t0, -⟩
  have BW : Below V.heap.size V V := Below.refl _ _
  have BB : Below V.heap.size V V := Below.refl _ _
  refine wp_seq ?_
  refine wi_ A (h1_ t0) (rf_ [] (h1_ t0) ?_)
  rintro a A - ⟨t0, -⟩
  refine wp_seq ?_
  refine wp_seq ?_
  refine wi_ A (h1_ t0) (rf_ [(3, .int .i64 ((1 : Nat) : Int))] (h1_ t0) ?_)
  rintro a A ⟨t3, -⟩ ⟨t0, -⟩
  refine wp_block ?_
  refine wp_loop (fun a W => ∃ (j : Nat), j ≤ m ∧ (1 ≤ j) ∧ (a.tmps.size = 21 ∧ a.defers = []) ∧ a.eval (.tmp 0) = v ∧ a.eval (.tmp 3) = .int .i64 ((j : Nat) : Int) ∧ Below V.heap.size V W) (fun a _ => m - (intOf (a.eval (.tmp 3))).toNat) ⟨1, h0, Nat.le_refl _, A, t0, t3, BB⟩ ?_
  clear A t0 t3 BB a
  rintro a XL2 ⟨j, hj, hj1, A, t0, t3, BB⟩
  have esj := t3
  refine wp_seq ?_
  refine wp_seq ?_
  refine wi_ A (h2_ t0 t3) (rv_ 2 (.int .i64 ((m : Nat) : Int)) (fun a ee => execLenTs (len := m) rfl (ee _) hT.shp) (rv_ 3 (.bool (decide (j < m))) (fun a ee => execLtW (p := j) (q := m) rfl (ee _) (ee _)) (rf_ [(7, .bool (decide (j < m)))] (h2_ t0 t3) ?_)))
  rintro a A ⟨t7, -⟩ ⟨t0, t3, -⟩
  by_cases ltj : j < m
  · rw [decide_eq_true ltj] at t7
    refine wp_cond_true t7 ?_
    refine wp_skip ?_
    clear t7
    refine wp_seq ?_
    refine wp_block ?_
    obtain ⟨tb, to_, tc, et_, htb, htc⟩ := hT.at h0
    have cT : ∀ X, Below V.heap.size V X → ∀ j_, j_ < 16 → X.cell? ⟨tb, to_ + j * 16 + j_, none⟩ = some (.int .u8 ((t j j_ : Nat) : Int)) := fun X hX j_ hj_ => by rw [cell_below hX htb]; exact htc j (by omega) j_ hj_
    have cU : ∀ X, Below V.heap.size V X → ∀ j_, j_ < 16 → X.cell? ⟨tb, to_ + (j - 1) * 16 + j_, none⟩ = some (.int .u8 ((t (j - 1) j_ : Nat) : Int)) := fun X hX j_ hj_ => by rw [cell_below hX htb]; exact htc (j - 1) (by omega) j_ hj_
    refine wp_seq ?_
    have hless : tv (t (j - 1)) 16 < tv (t j) 16 := by have q_ := inc_iff.1 hI (j - 1) (by omega); rw [show j - 1 + 1 = j by omega] at q_; exact q_
    refine wj_ [0, 1, 2, 3, 4, 5, 6, 7, 8, 9, 10] [9] [4, 8] [] A (h2_ t0 t3) (fun X4_0 bD => ?_)
    refine dw_ 2 (.int .i64 ((j - 1 : Nat) : Int)) (fun a X ee => By8.execSubI (p := j) (q := 1) rfl (ee _) rfl (by omega) (by omega)) (dw_ 3 (.pointer (some ⟨tb, to_ + (j - 1) * 16, none⟩)) (fun a X ee => execIdxTs (k := j - 1) rfl ((ee _).trans et_) (ee _) (by omega)) (dv_ 4 (.agg (bA 16 (t (j - 1)))) (fun a X ee hb => execLdT rfl (ee _) (fun j_ hj_ => cU X (BB.trans (hb.mono BB.size)) j_ hj_)) (dw_ 7 (.pointer (some ⟨tb, to_ + j * 16, none⟩)) (fun a X ee => execIdxTs (k := j) rfl ((ee _).trans et_) (ee _) (by omega)) (dv_ 8 (.agg (bA 16 (t j))) (fun a X ee hb => execLdT rfl (ee _) (fun j_ hj_ => cT X (BB.trans (hb.mono BB.size)) j_ hj_)) (dc_ 9 (pcmp (t (j - 1)) (t j) X4_0 (hT.byt (j - 1) (by omega)) (hT.byt j (by omega))) (cb_ fun X4 bQ => ?_))))))
    replace bD := bD.trans (bQ.mono bD.size)
    clear bQ
    refine ⟨Or.inr bD, ?_⟩
    refine dw_ 10 (.bool false) (fun a X ee => execDec (exIgeq3 (p := (cmpT (tv (t (j - 1)) 16) (tv (t j) 16))) (q := 0) rfl (ee _) rfl) (decide_eq_false (cmpT_n hless))) (dz_ [(20, .bool false)] (h2_ t0 t3) ?_)
    rintro a A ⟨t20, -⟩ ⟨t0, t3, -⟩
    replace BB := BB.trans (bD.mono BB.size)
    clear bD
    refine wp_cond_false t20 ?_
    refine wp_skip ?_
    clear t20
    refine wi_ A (h2_ t0 t3) (rv_ 1 (.int .i64 ((j + 1 : Nat) : Int)) (fun a ee => execAd8 (p := j) (q := 1) rfl (ee _) rfl (by omega)) (rf_ [(3, .int .i64 ((j + 1 : Nat) : Int))] (h1_ t0) ?_))
    rintro a A ⟨t3, -⟩ ⟨t0, -⟩
    exact ⟨⟨j + 1, ltj, Nat.le_succ_of_le hj1, A, t0, t3, BB⟩, by show m - (intOf (a.eval (.tmp 3))).toNat < m - (intOf (Act.eval _ (.tmp 3))).toNat; rw [t3, esj]; show m - (j + 1) < m - j; omega⟩
  · rw [decide_eq_false ltj] at t7
    refine wp_cond_false t7 ?_
    refine wp_exit ?_
    first | with_reducible refine exit_in ?_ | with_reducible refine exit_then (exit_in ?_) | with_reducible refine exit_then (exit_then (exit_in ?_)) | refine exit_in ?_ | refine exit_then (exit_in ?_) | refine exit_then (exit_then (exit_in ?_))
    clear t7 esj
    have ejm : j = m := by omega
    have BW2 := BW.trans (BB.mono BW.size)
    refine wp_seq ?_
    refine wi_ A (h2_ t0 t3) (rg_ [(2, .bool true)] ?_)
    rintro a A ⟨t2, -⟩
    refine wp_ret ?_
    refine bodyPost_ret (results_tmp rfl _ _ _) A.2 ⟨?_, BW2⟩
    show Ending.returned (a.eval (.tmp 2)) = _
    rw [t2]
set_option maxRecDepth 100000 in
set_option maxHeartbeats 4000000 in
/-- The program's tagsRise. -/
theorem pasc_f (v : Value) (m : Nat) (t : Nat → Nat → Nat) (V : World) (hT : Tgs V v m t) (h0 : 0 < m) (hm : m < 9223372036854775808) (hI : ¬ Inc (tgL m t)) :
    Calls Tryz.prog 36 #[v] V fun e w' => e = .returned (.bool false) ∧ Below V.heap.size V w' := by
  go_enter Tryz.func36, Tryz.ntmps36
  refine wo_ 21 [(0, v)] ?_
  rintro a A ⟨t0, -⟩
  have BW : Below V.heap.size V V := Below.refl _ _
  have BB : Below V.heap.size V V := Below.refl _ _
  refine wp_seq ?_
  refine wi_ A (h1_ t0) (rf_ [] (h1_ t0) ?_)
  rintro a A - ⟨t0, -⟩
  refine wp_seq ?_
  refine wp_seq ?_
  refine wi_ A (h1_ t0) (rf_ [(3, .int .i64 ((1 : Nat) : Int))] (h1_ t0) ?_)
  rintro a A ⟨t3, -⟩ ⟨t0, -⟩
  refine wp_block ?_
  refine wp_loop (fun a W => ∃ (j : Nat), j ≤ m ∧ (1 ≤ j) ∧ (∀ k_, k_ + 1 < j → tv (t k_) 16 < tv (t (k_ + 1)) 16) ∧ (a.tmps.size = 21 ∧ a.defers = []) ∧ a.eval (.tmp 0) = v ∧ a.eval (.tmp 3) = .int .i64 ((j : Nat) : Int) ∧ Below V.heap.size V W) (fun a _ => m - (intOf (a.eval (.tmp 3))).toNat) ⟨1, h0, Nat.le_refl _, fun k_ h => absurd h (by omega), A, t0, t3, BB⟩ ?_
  clear A t0 t3 BB a
  rintro a XL2 ⟨j, hj, hj1, hj2, A, t0, t3, BB⟩
  have esj := t3
  refine wp_seq ?_
  refine wp_seq ?_
  refine wi_ A (h2_ t0 t3) (rv_ 2 (.int .i64 ((m : Nat) : Int)) (fun a ee => execLenTs (len := m) rfl (ee _) hT.shp) (rv_ 3 (.bool (decide (j < m))) (fun a ee => execLtW (p := j) (q := m) rfl (ee _) (ee _)) (rf_ [(7, .bool (decide (j < m)))] (h2_ t0 t3) ?_)))
  rintro a A ⟨t7, -⟩ ⟨t0, t3, -⟩
  by_cases ltj : j < m
  · rw [decide_eq_true ltj] at t7
    refine wp_cond_true t7 ?_
    refine wp_skip ?_
    clear t7
    refine wp_seq ?_
    refine wp_block ?_
    obtain ⟨tb, to_, tc, et_, htb, htc⟩ := hT.at h0
    have cT : ∀ X, Below V.heap.size V X → ∀ j_, j_ < 16 → X.cell? ⟨tb, to_ + j * 16 + j_, none⟩ = some (.int .u8 ((t j j_ : Nat) : Int)) := fun X hX j_ hj_ => by rw [cell_below hX htb]; exact htc j (by omega) j_ hj_
    have cU : ∀ X, Below V.heap.size V X → ∀ j_, j_ < 16 → X.cell? ⟨tb, to_ + (j - 1) * 16 + j_, none⟩ = some (.int .u8 ((t (j - 1) j_ : Nat) : Int)) := fun X hX j_ hj_ => by rw [cell_below hX htb]; exact htc (j - 1) (by omega) j_ hj_
    refine wp_seq ?_
    by_cases hless : tv (t (j - 1)) 16 < tv (t j) 16
    · refine wj_ [0, 1, 2, 3, 4, 5, 6, 7, 8, 9, 10] [9] [4, 8] [] A (h2_ t0 t3) (fun X4_0 bD => ?_)
      refine dw_ 2 (.int .i64 ((j - 1 : Nat) : Int)) (fun a X ee => By8.execSubI (p := j) (q := 1) rfl (ee _) rfl (by omega) (by omega)) (dw_ 3 (.pointer (some ⟨tb, to_ + (j - 1) * 16, none⟩)) (fun a X ee => execIdxTs (k := j - 1) rfl ((ee _).trans et_) (ee _) (by omega)) (dv_ 4 (.agg (bA 16 (t (j - 1)))) (fun a X ee hb => execLdT rfl (ee _) (fun j_ hj_ => cU X (BB.trans (hb.mono BB.size)) j_ hj_)) (dw_ 7 (.pointer (some ⟨tb, to_ + j * 16, none⟩)) (fun a X ee => execIdxTs (k := j) rfl ((ee _).trans et_) (ee _) (by omega)) (dv_ 8 (.agg (bA 16 (t j))) (fun a X ee hb => execLdT rfl (ee _) (fun j_ hj_ => cT X (BB.trans (hb.mono BB.size)) j_ hj_)) (dc_ 9 (pcmp (t (j - 1)) (t j) X4_0 (hT.byt (j - 1) (by omega)) (hT.byt j (by omega))) (cb_ fun X4 bQ => ?_))))))
      replace bD := bD.trans (bQ.mono bD.size)
      clear bQ
      refine ⟨Or.inr bD, ?_⟩
      refine dw_ 10 (.bool false) (fun a X ee => execDec (exIgeq3 (p := (cmpT (tv (t (j - 1)) 16) (tv (t j) 16))) (q := 0) rfl (ee _) rfl) (decide_eq_false (cmpT_n hless))) (dz_ [(20, .bool false)] (h2_ t0 t3) ?_)
      rintro a A ⟨t20, -⟩ ⟨t0, t3, -⟩
      replace BB := BB.trans (bD.mono BB.size)
      clear bD
      refine wp_cond_false t20 ?_
      refine wp_skip ?_
      clear t20
      refine wi_ A (h2_ t0 t3) (rv_ 1 (.int .i64 ((j + 1 : Nat) : Int)) (fun a ee => execAd8 (p := j) (q := 1) rfl (ee _) rfl (by omega)) (rf_ [(3, .int .i64 ((j + 1 : Nat) : Int))] (h1_ t0) ?_))
      rintro a A ⟨t3, -⟩ ⟨t0, -⟩
      exact ⟨⟨j + 1, ltj, Nat.le_succ_of_le hj1, fun k_ h => by by_cases q_ : k_ + 1 < j; exact hj2 k_ q_; rw [show k_ = j - 1 by omega, show j - 1 + 1 = j by omega]; exact hless, A, t0, t3, BB⟩, by show m - (intOf (a.eval (.tmp 3))).toNat < m - (intOf (Act.eval _ (.tmp 3))).toNat; rw [t3, esj]; show m - (j + 1) < m - j; omega⟩
    · refine wj_ [0, 1, 2, 3, 4, 5, 6, 7, 8, 9, 10] [9] [4, 8] [] A (h2_ t0 t3) (fun X4_0 bD => ?_)
      refine dw_ 2 (.int .i64 ((j - 1 : Nat) : Int)) (fun a X ee => By8.execSubI (p := j) (q := 1) rfl (ee _) rfl (by omega) (by omega)) (dw_ 3 (.pointer (some ⟨tb, to_ + (j - 1) * 16, none⟩)) (fun a X ee => execIdxTs (k := j - 1) rfl ((ee _).trans et_) (ee _) (by omega)) (dv_ 4 (.agg (bA 16 (t (j - 1)))) (fun a X ee hb => execLdT rfl (ee _) (fun j_ hj_ => cU X (BB.trans (hb.mono BB.size)) j_ hj_)) (dw_ 7 (.pointer (some ⟨tb, to_ + j * 16, none⟩)) (fun a X ee => execIdxTs (k := j) rfl ((ee _).trans et_) (ee _) (by omega)) (dv_ 8 (.agg (bA 16 (t j))) (fun a X ee hb => execLdT rfl (ee _) (fun j_ hj_ => cT X (BB.trans (hb.mono BB.size)) j_ hj_)) (dc_ 9 (pcmp (t (j - 1)) (t j) X4_0 (hT.byt (j - 1) (by omega)) (hT.byt j (by omega))) (cb_ fun X4 bQ => ?_))))))
      replace bD := bD.trans (bQ.mono bD.size)
      clear bQ
      refine ⟨Or.inr bD, ?_⟩
      refine dw_ 10 (.bool true) (fun a X ee => execDec (exIgeq3 (p := (cmpT (tv (t (j - 1)) 16) (tv (t j) 16))) (q := 0) rfl (ee _) rfl) (decide_eq_true (cmpT_y hless))) (dz_ [(20, .bool true)] (h2_ t0 t3) ?_)
      rintro a A ⟨t20, -⟩ ⟨t0, t3, -⟩
      replace BB := BB.trans (bD.mono BB.size)
      clear bD
      refine wp_cond_true t20 ?_
      clear t20
      refine wp_seq ?_
      refine wi_ A (h2_ t0 t3) (rg_ [(2, .bool false)] ?_)
      rintro a A ⟨t2, -⟩
      have BW2 := BW.trans (BB.mono BW.size)
      refine wp_ret ?_
      repeat (first | with_reducible refine ret_in ?_ | with_reducible refine ret_then ?_)
      refine bodyPost_ret (results_tmp rfl _ _ _) A.2 ⟨?_, BW2⟩
      show Ending.returned (a.eval (.tmp 2)) = _
      rw [t2]
  · rw [decide_eq_false ltj] at t7
    refine wp_cond_false t7 ?_
    refine wp_exit ?_
    first | with_reducible refine exit_in ?_ | with_reducible refine exit_then (exit_in ?_) | with_reducible refine exit_then (exit_then (exit_in ?_)) | refine exit_in ?_ | refine exit_then (exit_in ?_) | refine exit_then (exit_then (exit_in ?_))
    clear t7 esj
    have ejm : j = m := by omega
    rw [ejm] at hj2
    exact absurd (inc_iff.2 hj2) hI
set_option maxRecDepth 100000 in
set_option maxHeartbeats 4000000 in
/-- The program's held. -/
theorem pheld (nw : Int) (ev : Value) (n : Nat) (nu : Nat → Int) (tw : Nat → Value) (ln : Nat → Nat) (t : Nat → Nat → Nat → Nat) (V : World) (hE : Eps V ev n nu tw ln t) (hn : n < 9223372036854775808) (hl : ∀ j, j < n → ln j ≤ 8796093022208) :
    Calls Tryz.prog 37 #[.agg (wC nw ev)] V fun e w' => (∃ b S, e = .returned (.map (some b)) ∧ MS w' b S ∧ V.heap.size ≤ b ∧ ∀ x, x ∈ tvs S ↔ x ∈ wAll (esL n nu ln t)) ∧ Below V.heap.size V w' := by
  go_enter Tryz.func37, Tryz.ntmps37
  refine wo_ 29 [(0, .agg (wC nw ev))] ?_
  rintro a A ⟨t0, -⟩
  have BW : Below V.heap.size V V := Below.refl _ _
  refine wp_seq ?_
  obtain ⟨g1, egg1⟩ : ∃ z_ : Nat, V.heap.size = z_ := ⟨_, rfl⟩
  refine wi_ A (h1_ t0) (rs_ 0 (fun a ee => ?_))
  refine stepV rfl rfl (execBoxW rfl (ee _)) ⟨.pointer (some ⟨g1, 0, none⟩), ⟨_, rfl, by subst egg1; rfl⟩, fun X0 hX => ?_⟩
  have bQ : Below V.heap.size V X0 := by subst hX egg1; exact (belNew V _)
  have Fg1 : (X0.heap[g1]? = some (.cells (wC nw ev) 27)) := by subst hX egg1; exact heapNew V _
  have bX := bQ
  clear bQ hX egg1 ee a
  refine rg_ [(1, .pointer (some ⟨g1, 0, none⟩))] ?_
  rintro a A ⟨t1, -⟩
  replace hE := (hE.on bX)
  have ZX0 := bX.size
  replace BW := BW.trans (bX.mono BW.size)
  clear bX
  have BB : Below X0.heap.size X0 X0 := Below.refl _ _
  refine wp_seq ?_
  obtain ⟨b8, egb8⟩ : ∃ z_ : Nat, X0.heap.size = z_ := ⟨_, rfl⟩
  refine wi_ A (h1_ t1) (rs_ 0 (fun a ee => ?_))
  refine stepV rfl rfl (execMkM rfl) ⟨.map (some b8), ⟨_, rfl, by subst egb8; rfl⟩, fun X1 hX => ?_⟩
  have bQ : Below X0.heap.size X0 X1 := by subst hX egb8; exact (belNew X0 _)
  have FM : (MS X1 b8 []) := by subst hX egb8; exact ms_new X0
  have FMg : (X0.heap.size ≤ b8) := by subst hX egb8; exact (BB).size
  replace BB := BB.trans (bQ.mono BB.size)
  clear bQ hX egb8 ee a
  refine rf_ [(3, .map (some b8))] (h1_ t1) ?_
  rintro a A ⟨t3, -⟩ ⟨t1, -⟩
  refine wp_seq ?_
  refine wp_seq ?_
  refine wi_ A (h2_ t1 t3) (rv_ 0 (.pointer (some ⟨g1, 1, none⟩)) (fun a ee => execFldW1 rfl (ee _)) (rv_ 1 (ev) (fun a ee => execLdEs rfl (ee _) (wC_1 (on9 Fg1 BB))) (rv_ 2 (.int .i64 ((n : Nat) : Int)) (fun a ee => execLenEs (len := n) rfl (ee _) hE.shp) (rf_ [(10, ev), (11, .int .i64 ((n : Nat) : Int)), (12, .int .i64 ((0 : Nat) : Int))] (h2_ t1 t3) ?_))))
  rintro a A ⟨t10, t11, t12, -⟩ ⟨t1, t3, -⟩
  refine wp_block ?_
  refine wp_loop (fun a W => ∃ (i : Nat) (Sa : List (Nat → Nat)), i ≤ n ∧ (∀ x, x ∈ tvs Sa ↔ x ∈ wAll (esL i nu ln t)) ∧ (a.tmps.size = 29 ∧ a.defers = []) ∧ a.eval (.tmp 1) = .pointer (some ⟨g1, 0, none⟩) ∧ a.eval (.tmp 3) = .map (some b8) ∧ a.eval (.tmp 10) = ev ∧ a.eval (.tmp 11) = .int .i64 ((n : Nat) : Int) ∧ a.eval (.tmp 12) = .int .i64 ((i : Nat) : Int) ∧ Below X0.heap.size X0 W ∧ (MS W b8 Sa)) (fun a _ => n - (intOf (a.eval (.tmp 12))).toNat) ⟨0, [], Nat.zero_le _, fun x => by simp [tvs, esL, wAll], A, t1, t3, t10, t11, t12, BB, FM⟩ ?_
  clear A t1 t3 t10 t11 t12 BB FM a
  rintro a XL3 ⟨i, Sa, hi, hQa, A, t1, t3, t10, t11, t12, BB, FM⟩
  have esi := t12
  refine wp_seq ?_
  refine wi_ A (h5_ t1 t3 t10 t11 t12) (rv_ 0 (.bool (decide (i < n))) (fun a ee => execLtW (p := i) (q := n) rfl (ee _) (ee _)) (rf_ [(13, .bool (decide (i < n)))] (h5_ t1 t3 t10 t11 t12) ?_))
  rintro a A ⟨t13, -⟩ ⟨t1, t3, t10, t11, t12, -⟩
  refine wp_seq ?_
  by_cases lti : i < n
  · rw [decide_eq_true lti] at t13
    refine wp_cond_true t13 ?_
    refine wp_skip ?_
    clear t13
    refine wp_seq ?_
    refine wp_block ?_
    have hT := hE.lists i lti
    obtain ⟨eb, eo, ec, ee_, heb, hec⟩ := hE.at (show 0 < n by omega)
    have cE : ∀ X, Below X0.heap.size X0 X → X.cell? ⟨eb, eo + i * 2 + 1, none⟩ = some (tw i) := fun X hX => by rw [cell_below hX heb]; exact (hec i lti).2
    have cN : ∀ X, Below X0.heap.size X0 X → X.cell? ⟨eb, eo + i * 2 + 0, none⟩ = some (.int .i64 (nu i)) := fun X hX => by rw [cell_below hX heb]; exact (hec i lti).1
    have hln := hl i lti
    refine wp_seq ?_
    obtain ⟨g5, egg5⟩ : ∃ z_ : Nat, XL3.heap.size = z_ := ⟨_, rfl⟩
    refine wi_ A (h5_ t1 t3 t10 t11 t12) (rv_ 0 (.pointer (some ⟨eb, eo + i * 2, none⟩)) (fun a ee => execIdxEs (k := i) rfl ((ee _).trans ee_) (ee _) lti) (rv_ 1 (.agg (epC (nu i) (tw i))) (fun a ee => execLdEp rfl (ee _) (cN XL3 BB) (cE XL3 BB)) (rs_ 2 (fun a ee => ?_))))
    refine stepV rfl rfl (execAllEp rfl) ⟨.pointer (some ⟨g5, 0, none⟩), ⟨_, rfl, by subst egg5; rfl⟩, fun X4_1 hX => ?_⟩
    have bQ : Below XL3.heap.size XL3 X4_1 := by subst hX egg5; exact (belNew XL3 _)
    have Fg5 : (X4_1.heap[g5]? = some (.cells (epC 0 (.slice none 0 0)) 57)) := by subst hX egg5; exact heapNew XL3 _
    have FGe : (X0.heap.size ≤ g5) := by subst hX egg5; exact (BB).size
    replace FM := (FM.on bQ)
    replace BB := BB.trans (bQ.mono BB.size)
    clear bQ hX egg5 ee a
    refine rs_ 3 (fun a ee => ?_)
    refine stepS rfl rfl (execStEp rfl (ee _) (ee _) Fg5 (by obtain ⟨_, _, e_⟩ := hT.shp; rw [e_]; rfl)) ⟨_, ⟨_, rfl, rfl⟩, fun X4 hX => ?_⟩
    obtain ⟨BB, FM, Fe⟩ : Below X0.heap.size X0 X4 ∧ (MS X4 b8 Sa) ∧ (X4.heap[g5]? = some (.cells (epC (nu i) (tw i)) 57)) := by subst hX; exact ⟨below4 BB FGe _, (onRowM FM Fg5), setRow_heap _ _ _ _ _ _ Fg5⟩
    clear Fg5 hX ee a
    refine rf_ [(5, .pointer (some ⟨g5, 0, none⟩))] (h5_ t1 t3 t10 t11 t12) ?_
    rintro a A ⟨t5, -⟩ ⟨t1, t3, t10, t11, t12, -⟩
    clear FGe
    refine wp_seq ?_
    refine wi_ A (h6_ t1 t3 t10 t11 t12 t5) (rv_ 0 (.pointer (some ⟨g5, 0 + 1, none⟩)) (fun a ee => execFldE1 rfl (ee _)) (rv_ 1 (tw i) (fun a ee => execLdTs rfl (ee _) (epC_1 Fe)) (rv_ 2 (.int .i64 ((ln i : Nat) : Int)) (fun a ee => execLenTs (len := ln i) rfl (ee _) hT.shp) (rf_ [(17, tw i), (18, .int .i64 ((ln i : Nat) : Int)), (19, .int .i64 ((0 : Nat) : Int))] (h5_ t1 t3 t10 t11 t12) ?_))))
    rintro a A ⟨t17, t18, t19, -⟩ ⟨t1, t3, t10, t11, t12, -⟩
    clear Fe
    refine wp_block ?_
    refine wp_loop (fun a W => ∃ (j : Nat) (Sb : List (Nat → Nat)), j ≤ ln i ∧ (∀ x, x ∈ tvs Sb ↔ x ∈ wAll (esL i nu ln t) ∨ x ∈ tgL j (t i)) ∧ (a.tmps.size = 29 ∧ a.defers = []) ∧ a.eval (.tmp 1) = .pointer (some ⟨g1, 0, none⟩) ∧ a.eval (.tmp 3) = .map (some b8) ∧ a.eval (.tmp 10) = ev ∧ a.eval (.tmp 11) = .int .i64 ((n : Nat) : Int) ∧ a.eval (.tmp 12) = .int .i64 ((i : Nat) : Int) ∧ a.eval (.tmp 17) = tw i ∧ a.eval (.tmp 18) = .int .i64 ((ln i : Nat) : Int) ∧ a.eval (.tmp 19) = .int .i64 ((j : Nat) : Int) ∧ Below X0.heap.size X0 W ∧ (MS W b8 Sb)) (fun a _ => ln i - (intOf (a.eval (.tmp 19))).toNat) ⟨0, Sa, Nat.zero_le _, fun x => by rw [hQa x]; simp [tgL], A, t1, t3, t10, t11, t12, t17, t18, t19, BB, FM⟩ ?_
    clear A t1 t3 t10 t11 t12 t17 t18 t19 BB FM a
    rintro a XL6 ⟨j, Sb, hj, hQb, A, t1, t3, t10, t11, t12, t17, t18, t19, BB, FM⟩
    have esj := t19
    refine wp_seq ?_
    refine wi_ A (h8_ t1 t3 t10 t11 t12 t17 t18 t19) (rv_ 0 (.bool (decide (j < ln i))) (fun a ee => execLtW (p := j) (q := ln i) rfl (ee _) (ee _)) (rf_ [(20, .bool (decide (j < ln i)))] (h8_ t1 t3 t10 t11 t12 t17 t18 t19) ?_))
    rintro a A ⟨t20, -⟩ ⟨t1, t3, t10, t11, t12, t17, t18, t19, -⟩
    refine wp_seq ?_
    by_cases ltj : j < ln i
    · rw [decide_eq_true ltj] at t20
      refine wp_cond_true t20 ?_
      refine wp_skip ?_
      clear t20
      refine wp_seq ?_
      refine wp_block ?_
      obtain ⟨tb, to_, tc, et_, htb, htc⟩ := hT.at (show 0 < ln i by omega)
      have cT : ∀ X, Below X0.heap.size X0 X → ∀ j_, j_ < 16 → X.cell? ⟨tb, to_ + j * 16 + j_, none⟩ = some (.int .u8 ((t i j j_ : Nat) : Int)) := fun X hX j_ hj_ => by rw [cell_below hX htb]; exact htc j ltj j_ hj_
      refine wp_seq ?_
      obtain ⟨g7, egg7⟩ : ∃ z_ : Nat, XL6.heap.size = z_ := ⟨_, rfl⟩
      refine wi_ A (h8_ t1 t3 t10 t11 t12 t17 t18 t19) (rv_ 0 (.pointer (some ⟨tb, to_ + j * 16, none⟩)) (fun a ee => execIdxTs (k := j) rfl ((ee _).trans et_) (ee _) ltj) (rv_ 1 (.agg (bA 16 (t i j))) (fun a ee => execLdT rfl (ee _) (fun j_ hj_ => cT XL6 BB j_ hj_)) (rs_ 2 (fun a ee => ?_))))
      refine stepV rfl rfl (execAl16 rfl) ⟨.pointer (some ⟨g7, 0, none⟩), ⟨_, rfl, by subst egg7; rfl⟩, fun X7_1 hX => ?_⟩
      have bQ : Below XL6.heap.size XL6 X7_1 := by subst hX egg7; exact (belNew XL6 _)
      have Fg7 : (X7_1.heap[g7]? = some (.cells (bA 16 fun _ => 0) 66)) := by subst hX egg7; exact heapNew XL6 _
      have FGt : (X0.heap.size ≤ g7) := by subst hX egg7; exact (BB).size
      replace FM := (FM.on bQ)
      replace BB := BB.trans (bQ.mono BB.size)
      clear bQ hX egg7 ee a
      refine rs_ 3 (fun a ee => ?_)
      refine stepS rfl rfl (execSt16 rfl (ee _) (ee _) Fg7) ⟨_, ⟨_, rfl, rfl⟩, fun X7 hX => ?_⟩
      obtain ⟨BB, FM, Ft⟩ : Below X0.heap.size X0 X7 ∧ (MS X7 b8 Sb) ∧ (X7.heap[g7]? = some (.cells (bA 16 (t i j)) 66)) := by subst hX; exact ⟨below4 BB FGt _, (onRowM FM Fg7), setRow_heap _ _ _ _ _ _ Fg7⟩
      clear Fg7 hX ee a
      refine rf_ [(7, .pointer (some ⟨g7, 0, none⟩))] (h8_ t1 t3 t10 t11 t12 t17 t18 t19) ?_
      rintro a A ⟨t7, -⟩ ⟨t1, t3, t10, t11, t12, t17, t18, t19, -⟩
      clear FGt
      refine wi_ A (h9_ t1 t3 t10 t11 t12 t17 t18 t19 t7) (rv_ 1 (.agg (bA 16 (t i j))) (fun a ee => execLdT rfl (ee _) (fun j_ hj_ => at16 Ft hj_)) (rv_ 2 (.agg #[]) (fun a ee => execUnit rfl) (rs_ 3 (fun a ee => ?_))))
      obtain ⟨o_, ho_, hM_⟩ := FM.put (hT.byt j ltj)
      refine stepS rfl rfl (execMU rfl (ee _) (ee _) (ee _) ho_) ⟨_, ⟨_, rfl, rfl⟩, fun X8 hX => ?_⟩
      obtain ⟨BB, Ft, FMn⟩ : Below X0.heap.size X0 X8 ∧ (X8.heap[g7]? = some (.cells (bA 16 (t i j)) 66)) ∧ (MS X8 b8 (insM Sb (t i j))) := by subst hX; exact ⟨belSet BB FMg, (onSet FM Ft), hM_⟩
      clear FM hX ee a
      refine rf_ [] (h8_ t1 t3 t10 t11 t12 t17 t18 t19) ?_
      rintro a A - ⟨t1, t3, t10, t11, t12, t17, t18, t19, -⟩
      clear Ft
      refine wi_ A (h8_ t1 t3 t10 t11 t12 t17 t18 t19) (rv_ 0 (.int .i64 ((j + 1 : Nat) : Int)) (fun a ee => execAd8 (p := j) (q := 1) rfl (ee _) rfl (by omega)) (rf_ [(19, .int .i64 ((j + 1 : Nat) : Int))] (h7_ t1 t3 t10 t11 t12 t17 t18) ?_))
      rintro a A ⟨t19, -⟩ ⟨t1, t3, t10, t11, t12, t17, t18, -⟩
      exact ⟨⟨j + 1, insM Sb (t i j), ltj, ms_step hQb, A, t1, t3, t10, t11, t12, t17, t18, t19, BB, FMn⟩, by show ln i - (intOf (a.eval (.tmp 19))).toNat < ln i - (intOf (Act.eval _ (.tmp 19))).toNat; rw [t19, esj]; show ln i - (j + 1) < ln i - j; omega⟩
    · rw [decide_eq_false ltj] at t20
      refine wp_cond_false t20 ?_
      refine wp_exit ?_
      first | with_reducible refine exit_in ?_ | with_reducible refine exit_then (exit_in ?_) | with_reducible refine exit_then (exit_then (exit_in ?_)) | refine exit_in ?_ | refine exit_then (exit_in ?_) | refine exit_then (exit_then (exit_in ?_))
      clear t20 esj
      have ejn : j = ln i := by omega
      rw [ejn] at hQb
      refine wi_ A (h5_ t1 t3 t10 t11 t12) (rv_ 0 (.int .i64 ((i + 1 : Nat) : Int)) (fun a ee => execAd8 (p := i) (q := 1) rfl (ee _) rfl (by omega)) (rf_ [(12, .int .i64 ((i + 1 : Nat) : Int))] (h4_ t1 t3 t10 t11) ?_))
      rintro a A ⟨t12, -⟩ ⟨t1, t3, t10, t11, -⟩
      exact ⟨⟨i + 1, Sb, lti, ms_next hQb, A, t1, t3, t10, t11, t12, BB, FM⟩, by show n - (intOf (a.eval (.tmp 12))).toNat < n - (intOf (Act.eval _ (.tmp 12))).toNat; rw [t12, esi]; show n - (i + 1) < n - i; omega⟩
  · rw [decide_eq_false lti] at t13
    refine wp_cond_false t13 ?_
    refine wp_exit ?_
    first | with_reducible refine exit_in ?_ | with_reducible refine exit_then (exit_in ?_) | with_reducible refine exit_then (exit_then (exit_in ?_)) | refine exit_in ?_ | refine exit_then (exit_in ?_) | refine exit_then (exit_then (exit_in ?_))
    clear t13 esi
    have ein : i = n := by omega
    rw [ein] at hQa
    have BW2 := BW.trans (BB.mono BW.size)
    have hge := Nat.le_trans BW.size FMg
    refine wp_seq ?_
    refine wi_ A (h5_ t1 t3 t10 t11 t12) (rg_ [(2, .map (some b8))] ?_)
    rintro a A ⟨t2, -⟩
    refine wp_ret ?_
    refine bodyPost_ret (results_tmp rfl _ _ _) A.2 ⟨⟨b8, Sa, ?_, FM, hge, hQa⟩, BW2⟩
    show Ending.returned (a.eval (.tmp 2)) = _
    rw [t2]
end Go.Proofs.YtepdejnholphcaaGreat.Win
