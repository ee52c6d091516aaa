import Derived.Test.YtijibdapooalcaaC9d
namespace Go.Proofs.Ytijibdapooalcaa.Win
open Go.RowKit Gf8 Aes By8 Cel Cf
/- The reference's Has. Written by tools/mkC9e.py. -/

set_option maxRecDepth 100000 in
set_option maxHeartbeats 4000000 in
/-- The reference's Has. -/
theorem rhas16 (nw : Int) (ev : Value) (n : Nat) (nu : Nat → Int) (tw : Nat → Value) (ln : Nat → Nat) (t : Nat → Nat → Nat → Nat) (f : Nat → Nat) (V : World) (hf : ∀ i, i < 16 → f i < 256) (hE : Eps V ev n nu tw ln t) (hn : n < 9223372036854775808) :
    Calls Try.prog 15 #[.agg (wC nw ev), .agg (bA 16 f)] V fun e w' => e = .returned (.bool (decide (tv f 16 ∈ wAll (esL n nu ln t)))) ∧ Below V.heap.size V w' := by
  go_enter Try.func15, Try.ntmps15
  refine wo_ 36 [(0, .agg (wC nw ev)), (1, .agg (bA 16 f))] ?_
  rintro a A ⟨t0, t1, -⟩
  have BW : Below V.heap.size V V := Below.refl _ _
  refine wp_seq ?_
  obtain ⟨g2, egg2⟩ : ∃ z_ : Nat, V.heap.size = z_ := ⟨_, rfl⟩
  refine wi_ A (h2_ t0 t1) (rs_ 0 (fun a ee => ?_))
  refine stepV rfl rfl (execBoxW rfl (ee _)) ⟨.pointer (some ⟨g2, 0, none⟩), ⟨_, rfl, by subst egg2; rfl⟩, fun X0_1 hX => ?_⟩
  have bQ : Below V.heap.size V X0_1 := by subst hX egg2; exact (belNew V _)
  have Fg2 : (X0_1.heap[g2]? = some (.cells (wC nw ev) 25)) := by subst hX egg2; exact heapNew V _
  have bX := bQ
  clear bQ hX egg2 ee a
  obtain ⟨g3, egg3⟩ : ∃ z_ : Nat, X0_1.heap.size = z_ := ⟨_, rfl⟩
  refine rs_ 1 (fun a ee => ?_)
  refine stepV rfl rfl (execBox16 rfl (ee _)) ⟨.pointer (some ⟨g3, 0, none⟩), ⟨_, rfl, by subst egg3; rfl⟩, fun X0 hX => ?_⟩
  have bQ : Below X0_1.heap.size X0_1 X0 := by subst hX egg3; exact (belNew X0_1 _)
  have Fg3 : (X0.heap[g3]? = some (.cells (bA 16 f) 34)) := by subst hX egg3; exact heapNew X0_1 _
  replace Fg2 := (on9 Fg2 bQ)
  replace bX := bX.trans (bQ.mono bX.size)
  clear bQ hX egg3 ee a
  refine rg_ [(2, .pointer (some ⟨g2, 0, none⟩)), (3, .pointer (some ⟨g3, 0, none⟩))] ?_
  rintro a A ⟨t2, t3, -⟩
  replace hE := (hE.on bX)
  have ZX0 := bX.size
  replace BW := BW.trans (bX.mono BW.size)
  clear bX
  have BB : Below X0.heap.size X0 X0 := Below.refl _ _
  refine wp_seq ?_
  refine wp_seq ?_
  refine wi_ A (h2_ t2 t3) (rf_ [(5, .int .i64 ((0 : Nat) : Int))] (h2_ t2 t3) ?_)
  rintro a A ⟨t5, -⟩ ⟨t2, t3, -⟩
  refine wp_block ?_
  refine wp_loop (fun a W => ∃ (i : Nat), i ≤ n ∧ (∀ j_, j_ < i → ∀ k_, k_ < ln j_ → tv (t j_ k_) 16 ≠ tv f 16) ∧ (a.tmps.size = 36 ∧ a.defers = []) ∧ a.eval (.tmp 2) = .pointer (some ⟨g2, 0, none⟩) ∧ a.eval (.tmp 3) = .pointer (some ⟨g3, 0, none⟩) ∧ a.eval (.tmp 5) = .int .i64 ((i : Nat) : Int) ∧ Below X0.heap.size X0 W) (fun a _ => n - (intOf (a.eval (.tmp 5))).toNat) ⟨0, Nat.zero_le _, fun j_ h => absurd h (Nat.not_lt_zero j_), A, t2, t3, t5, BB⟩ ?_
  clear A t2 t3 t5 BB a
  rintro a XL2 ⟨i, hi, hi2, A, t2, t3, t5, BB⟩
  have esi := t5
  refine wp_seq ?_
  refine wp_seq ?_
  refine wi_ A (h3_ t2 t3 t5) (rv_ 1 (.pointer (some ⟨g2, 1, none⟩)) (fun a ee => execFldW1 rfl (ee _)) (rv_ 2 (ev) (fun a ee => execLdEs rfl (ee _) (wC_1 (on9 Fg2 BB))) (rv_ 3 (.int .i64 ((n : Nat) : Int)) (fun a ee => execLenEs (len := n) rfl (ee _) hE.shp) (rv_ 4 (.bool (decide (i < n))) (fun a ee => execLtW (p := i) (q := n) rfl (ee _) (ee _)) (rf_ [(11, .bool (decide (i < n)))] (h3_ t2 t3 t5) ?_)))))
  rintro a A ⟨t11, -⟩ ⟨t2, t3, t5, -⟩
  by_cases lti : i < n
  · rw [decide_eq_true lti] at t11
    refine wp_cond_true t11 ?_
    refine wp_skip ?_
    clear t11
    refine wp_seq ?_
    refine wp_block ?_
    have hT := hE.lists i lti
    have hln : ln i < 9223372036854775808 := by obtain ⟨_, c_, _, q1, q2, _⟩ := hT.shape; omega
    obtain ⟨eb, eo, ec, ee_, heb, hec⟩ := hE.at (show 0 < n by omega)
    have cE : ∀ X, Below X0.heap.size X0 X → X.cell? ⟨eb, eo + i * 2 + 1, none⟩ = some (tw i) := fun X hX => by rw [cell_below hX heb]; exact (hec i lti).2
    refine wp_seq ?_
    refine wi_ A (h3_ t2 t3 t5) (rf_ [(6, .int .i64 ((0 : Nat) : Int))] (h3_ t2 t3 t5) ?_)
    rintro a A ⟨t6, -⟩ ⟨t2, t3, t5, -⟩
    refine wp_block ?_
    refine wp_loop (fun a W => ∃ (k : Nat), k ≤ ln i ∧ (∀ k_, k_ < k → tv (t i k_) 16 ≠ tv f 16) ∧ (a.tmps.size = 36 ∧ a.defers = []) ∧ a.eval (.tmp 2) = .pointer (some ⟨g2, 0, none⟩) ∧ a.eval (.tmp 3) = .pointer (some ⟨g3, 0, none⟩) ∧ a.eval (.tmp 5) = .int .i64 ((i : Nat) : Int) ∧ a.eval (.tmp 6) = .int .i64 ((k : Nat) : Int) ∧ Below X0.heap.size X0 W) (fun a _ => ln i - (intOf (a.eval (.tmp 6))).toNat) ⟨0, Nat.zero_le _, fun k_ h => absurd h (Nat.not_lt_zero k_), A, t2, t3, t5, t6, BB⟩ ?_
    clear A t2 t3 t5 t6 BB a
    rintro a XL5 ⟨k, hk, hk2, A, t2, t3, t5, t6, BB⟩
    have esk := t6
    refine wp_seq ?_
    refine wp_seq ?_
    refine wi_ A (h4_ t2 t3 t5 t6) (rv_ 1 (.pointer (some ⟨g2, 1, none⟩)) (fun a ee => execFldW1 rfl (ee _)) (rv_ 2 (ev) (fun a ee => execLdEs rfl (ee _) (wC_1 (on9 Fg2 BB))) (rv_ 4 (.pointer (some ⟨eb, eo + i * 2, none⟩)) (fun a ee => execIdxEs (k := i) rfl ((ee _).trans ee_) (ee _) lti) (rv_ 5 (.pointer (some ⟨eb, eo + i * 2 + 1, none⟩)) (fun a ee => execFldE1 rfl (ee _)) (rv_ 6 (tw i) (fun a ee => execLdTs rfl (ee _) (cE XL5 BB)) (rv_ 7 (.int .i64 ((ln i : Nat) : Int)) (fun a ee => execLenTs (len := ln i) rfl (ee _) (hE.lists i lti).shp) (rv_ 8 (.bool (decide (k < ln i))) (fun a ee => execLtW (p := k) (q := ln i) rfl (ee _) (ee _)) (rf_ [(22, .bool (decide (k < ln i)))] (h4_ t2 t3 t5 t6) ?_))))))))
    rintro a A ⟨t22, -⟩ ⟨t2, t3, t5, t6, -⟩
    by_cases ltk : k < ln i
    · rw [decide_eq_true ltk] at t22
      refine wp_cond_true t22 ?_
      refine wp_skip ?_
      clear t22
      refine wp_seq ?_
      refine wp_block ?_
      obtain ⟨tb, to_, tc, et_, htb, htc⟩ := hT.at (show 0 < ln i by omega)
      have cT : ∀ X, Below X0.heap.size X0 X → ∀ j, j < 16 → X.cell? ⟨tb, to_ + k * 16 + j, none⟩ = some (.int .u8 ((t i k j : Nat) : Int)) := fun X hX j hj => by rw [cell_below hX htb]; exact htc k ltk j hj
      refine wp_seq ?_
      cases hq : eqB 16 (t i k) f with
      | true =>
        refine wj_ [0, 1, 2, 3, 4, 5, 6, 7, 8, 9, 10] [] [1, 5, 8, 9] [] A (h4_ t2 t3 t5 t6) (fun X7 bD => ?_)
        refine dw_ 0 (.pointer (some ⟨g2, 1, none⟩)) (fun a X ee => execFldW1 rfl (ee _)) (dv_ 1 (ev) (fun a X ee hb => execLdEs rfl (ee _) (wC_1 (on9 Fg2 (BB.trans (hb.mono BB.size))))) (dw_ 3 (.pointer (some ⟨eb, eo + i * 2, none⟩)) (fun a X ee => execIdxEs (k := i) rfl ((ee _).trans ee_) (ee _) lti) (dw_ 4 (.pointer (some ⟨eb, eo + i * 2 + 1, none⟩)) (fun a X ee => execFldE1 rfl (ee _)) (dv_ 5 (tw i) (fun a X ee hb => execLdTs rfl (ee _) (cE X (BB.trans (hb.mono BB.size)))) (dw_ 7 (.pointer (some ⟨tb, to_ + k * 16, none⟩)) (fun a X ee => execIdxTs (k := k) rfl ((ee _).trans et_) (ee _) ltk) (dv_ 8 (.agg (bA 16 (t i k))) (fun a X ee hb => execLdT rfl (ee _) (fun j_ hj_ => cT X (BB.trans (hb.mono BB.size)) j_ hj_)) (dv_ 9 (.agg (bA 16 f)) (fun a X ee hb => execLdT rfl (ee _) (fun j_ hj_ => at16 (on9 Fg3 (BB.trans (hb.mono BB.size))) hj_)) (dw_ 10 (.bool true) (fun a X ee => execeql16t rfl (ee _) (ee _) hq) (dz_ [(35, .bool true)] (h4_ t2 t3 t5 t6) ?_)))))))))
        rintro a A ⟨t35, -⟩ ⟨t2, t3, t5, t6, -⟩
        replace BB := BB.trans (bD.mono BB.size)
        clear bD
        refine wp_cond_true t35 ?_
        clear t35
        refine wp_seq ?_
        refine wi_ A (h4_ t2 t3 t5 t6) (rg_ [(4, .bool true)] ?_)
        rintro a A ⟨t4, -⟩
        have BW2 := BW.trans (BB.mono BW.size)
        refine wp_ret ?_
        repeat (first | with_reducible refine ret_in ?_ | with_reducible refine ret_then ?_)
        refine bodyPost_ret (results_tmp rfl _ _ _) A.2 ⟨?_, BW2⟩
        show Ending.returned (a.eval (.tmp 4)) = _
        rw [t4]
        rw [decide_eq_true (mem_esL.2 ⟨i, lti, k, ltk, of_decide_eq_true (by rw [← eqB_tv (hT.byt k ltk) hf]; exact hq)⟩)]
      | false =>
        refine wj_ [0, 1, 2, 3, 4, 5, 6, 7, 8, 9, 10] [] [1, 5, 8, 9] [] A (h4_ t2 t3 t5 t6) (fun X7 bD => ?_)
        refine dw_ 0 (.pointer (some ⟨g2, 1, none⟩)) (fun a X ee => execFldW1 rfl (ee _)) (dv_ 1 (ev) (fun a X ee hb => execLdEs rfl (ee _) (wC_1 (on9 Fg2 (BB.trans (hb.mono BB.size))))) (dw_ 3 (.pointer (some ⟨eb, eo + i * 2, none⟩)) (fun a X ee => execIdxEs (k := i) rfl ((ee _).trans ee_) (ee _) lti) (dw_ 4 (.pointer (some ⟨eb, eo + i * 2 + 1, none⟩)) (fun a X ee => execFldE1 rfl (ee _)) (dv_ 5 (tw i) (fun a X ee hb => execLdTs rfl (ee _) (cE X (BB.trans (hb.mono BB.size)))) (dw_ 7 (.pointer (some ⟨tb, to_ + k * 16, none⟩)) (fun a X ee => execIdxTs (k := k) rfl ((ee _).trans et_) (ee _) ltk) (dv_ 8 (.agg (bA 16 (t i k))) (fun a X ee hb => execLdT rfl (ee _) (fun j_ hj_ => cT X (BB.trans (hb.mono BB.size)) j_ hj_)) (dv_ 9 (.agg (bA 16 f)) (fun a X ee hb => execLdT rfl (ee _) (fun j_ hj_ => at16 (on9 Fg3 (BB.trans (hb.mono BB.size))) hj_)) (dw_ 10 (.bool false) (fun a X ee => execeql16f rfl (ee _) (ee _) hq) (dz_ [(35, .bool false)] (h4_ t2 t3 t5 t6) ?_)))))))))
        rintro a A ⟨t35, -⟩ ⟨t2, t3, t5, t6, -⟩
        replace BB := BB.trans (bD.mono BB.size)
        clear bD
        refine wp_cond_false t35 ?_
        refine wp_skip ?_
        clear t35
        have hne : tv (t i k) 16 ≠ tv f 16 := of_decide_eq_false (by rw [← eqB_tv (hT.byt k ltk) hf]; exact hq)
        refine wi_ A (h4_ t2 t3 t5 t6) (rv_ 1 (.int .i64 ((k + 1 : Nat) : Int)) (fun a ee => execAd8 (p := k) (q := 1) rfl (ee _) rfl (by omega)) (rf_ [(6, .int .i64 ((k + 1 : Nat) : Int))] (h3_ t2 t3 t5) ?_))
        rintro a A ⟨t6, -⟩ ⟨t2, t3, t5, -⟩
        exact ⟨⟨k + 1, ltk, fun k_ h => by rcases Nat.lt_or_eq_of_le (Nat.le_of_lt_succ h) with h_ | h_; exact hk2 k_ h_; exact h_ ▸ hne, A, t2, t3, t5, t6, BB⟩, by show ln i - (intOf (a.eval (.tmp 6))).toNat < ln i - (intOf (Act.eval _ (.tmp 6))).toNat; rw [t6, esk]; show ln i - (k + 1) < ln i - k; omega⟩
    · rw [decide_eq_false ltk] at t22
      refine wp_cond_false t22 ?_
      refine wp_exit ?_
      first | with_reducible refine exit_in ?_ | with_reducible refine exit_then (exit_in ?_) | with_reducible refine exit_then (exit_then (exit_in ?_)) | refine exit_in ?_ | refine exit_then (exit_in ?_) | refine exit_then (exit_then (exit_in ?_))
      clear t22 esk
      obtain rfl : k = ln i := by omega
      clear t6
      refine wi_ A (h3_ t2 t3 t5) (rv_ 1 (.int .i64 ((i + 1 : Nat) : Int)) (fun a ee => execAd8 (p := i) (q := 1) rfl (ee _) rfl (by omega)) (rf_ [(5, .int .i64 ((i + 1 : Nat) : Int))] (h2_ t2 t3) ?_))
      rintro a A ⟨t5, -⟩ ⟨t2, t3, -⟩
      exact ⟨⟨i + 1, lti, fun j_ h => by rcases Nat.lt_or_eq_of_le (Nat.le_of_lt_succ h) with h_ | h_; exact hi2 j_ h_; exact h_ ▸ hk2, A, t2, t3, t5, BB⟩, by show n - (intOf (a.eval (.tmp 5))).toNat < n - (intOf (Act.eval _ (.tmp 5))).toNat; rw [t5, esi]; show n - (i + 1) < n - i; omega⟩
  · rw [decide_eq_false lti] at t11
    refine wp_cond_false t11 ?_
    refine wp_exit ?_
    first | with_reducible refine exit_in ?_ | with_reducible refine exit_then (exit_in ?_) | with_reducible refine exit_then (exit_then (exit_in ?_)) | refine exit_in ?_ | refine exit_then (exit_in ?_) | refine exit_then (exit_then (exit_in ?_))
    clear t11 esi
    obtain rfl : i = n := by omega
    have BW2 := BW.trans (BB.mono BW.size)
    refine wp_seq ?_
    refine wi_ A (h3_ t2 t3 t5) (rg_ [(4, .bool false)] ?_)
    rintro a A ⟨t4, -⟩
    refine wp_ret ?_
    refine bodyPost_ret (results_tmp rfl _ _ _) A.2 ⟨?_, BW2⟩
    show Ending.returned (a.eval (.tmp 4)) = _
    rw [t4]
    rw [decide_eq_false (fun h_ => by obtain ⟨j_, q1, k_, q2, q3⟩ := mem_esL.1 h_; exact hi2 j_ q1 k_ q2 q3)]
end Go.Proofs.Ytijibdapooalcaa.Win
