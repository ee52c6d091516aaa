import Derived.Test.YtijibdapooalcaaC9j
namespace Go.Proofs.Ytijibdapooalcaa.Win
open Go.RowKit Gf8 Aes By8 Cel Cf
/- The law's in. Written by tools/mkC9k.py. -/

set_option maxRecDepth 100000 in
set_option maxHeartbeats 4000000 in
/-- The law's in. -/
theorem in16 (n : Nat) (t : Nat → Nat → Nat) (f : Nat → Nat) (v : Value) (V : World) (hT : Tgs V v n t) (hf : ∀ i, i < 16 → f i < 256) :
    Calls Try.prog 21 #[v, .agg (bA 16 f)] V fun e w' => e = .returned (.bool (decide (tv f 16 ∈ tgL n t))) ∧ Below V.heap.size V w' := by
  go_enter Try.func21, Try.ntmps21
  refine wo_ 18 [(0, v), (1, .agg (bA 16 f))] ?_
  rintro a A ⟨t0, t1, -⟩
  have BW : Below V.heap.size V V := Below.refl _ _
  refine wp_seq ?_
  obtain ⟨g3, egg3⟩ : ∃ z_ : Nat, V.heap.size = z_ := ⟨_, rfl⟩
  refine wi_ A (h2_ t0 t1) (rs_ 0 (fun a ee => ?_))
  refine stepV rfl rfl (execBox16 rfl (ee _)) ⟨.pointer (some ⟨g3, 0, none⟩), ⟨_, rfl, by subst egg3; rfl⟩, fun X0 hX => ?_⟩
  have bQ : Below V.heap.size V X0 := by subst hX egg3; exact (belNew V _)
  have Fg3 : (X0.heap[g3]? = some (.cells (bA 16 f) 34)) := by subst hX egg3; exact heapNew V _
  have bX := bQ
  clear bQ hX egg3 ee a
  refine rf_ [(3, .pointer (some ⟨g3, 0, none⟩))] (h1_ t0) ?_
  rintro a A ⟨t3, -⟩ ⟨t0, -⟩
  replace hT := (hT.on bX)
  have ZX0 := bX.size
  replace BW := BW.trans (bX.mono BW.size)
  clear bX
  have hn : n < 9223372036854775808 := by obtain ⟨_, c_, _, q1, q2, _⟩ := hT.shape; omega
  have BB : Below X0.heap.size X0 X0 := Below.refl _ _
  refine wp_seq ?_
  refine wp_seq ?_
  refine wi_ A (h2_ t0 t3) (rf_ [(5, .int .i64 ((0 : Nat) : Int))] (h2_ t0 t3) ?_)
  rintro a A ⟨t5, -⟩ ⟨t0, t3, -⟩
  refine wp_block ?_
  refine wp_loop (fun a W => ∃ (i : Nat), i ≤ n ∧ (∀ k_, k_ < i → tv (t k_) 16 ≠ tv f 16) ∧ (a.tmps.size = 18 ∧ a.defers = []) ∧ a.eval (.tmp 0) = v ∧ a.eval (.tmp 3) = .pointer (some ⟨g3, 0, none⟩) ∧ a.eval (.tmp 5) = .int .i64 ((i : Nat) : Int) ∧ Below X0.heap.size X0 W) (fun a _ => n - (intOf (a.eval (.tmp 5))).toNat) ⟨0, Nat.zero_le _, fun k_ h => absurd h (Nat.not_lt_zero k_), A, t0, t3, t5, BB⟩ ?_
  clear A t0 t3 t5 BB a
  rintro a XL2 ⟨i, hi, hi2, A, t0, t3, t5, BB⟩
  have esi := t5
  refine wp_seq ?_
  refine wp_seq ?_
  refine wi_ A (h3_ t0 t3 t5) (rv_ 2 (.int .i64 ((n : Nat) : Int)) (fun a ee => execLenTs (len := n) rfl (ee _) hT.shp) (rv_ 3 (.bool (decide (i < n))) (fun a ee => execLtW (p := i) (q := n) rfl (ee _) (ee _)) (rf_ [(9, .bool (decide (i < n)))] (h3_ t0 t3 t5) ?_)))
  rintro a A ⟨t9, -⟩ ⟨t0, t3, t5, -⟩
  by_cases lti : i < n
  · rw [decide_eq_true lti] at t9
    refine wp_cond_true t9 ?_
    refine wp_skip ?_
    clear t9
    refine wp_seq ?_
    refine wp_block ?_
    obtain ⟨tb, to_, tc, et_, htb, htc⟩ := hT.at (show 0 < n by omega)
    have cT : ∀ X, Below X0.heap.size X0 X → ∀ j, j < 16 → X.cell? ⟨tb, to_ + i * 16 + j, none⟩ = some (.int .u8 ((t i j : Nat) : Int)) := fun X hX j hj => by rw [cell_below hX htb]; exact htc i lti j hj
    refine wp_seq ?_
    cases hq : eqB 16 (t i) f with
    | true =>
      refine wj_ [0, 1, 2, 3, 4, 5] [] [3, 4] [] A (h3_ t0 t3 t5) (fun X4 bD => ?_)
      refine dw_ 2 (.pointer (some ⟨tb, to_ + i * 16, none⟩)) (fun a X ee => execIdxTs (k := i) rfl ((ee _).trans et_) (ee _) lti) (dv_ 3 (.agg (bA 16 (t i))) (fun a X ee hb => execLdT rfl (ee _) (fun j_ hj_ => cT X (BB.trans (hb.mono BB.size)) j_ hj_)) (dv_ 4 (.agg (bA 16 f)) (fun a X ee hb => execLdT rfl (ee _) (fun j_ hj_ => at16 (on9 Fg3 (BB.trans (hb.mono BB.size))) hj_)) (dw_ 5 (.bool true) (fun a X ee => execeql16t rfl (ee _) (ee _) hq) (dz_ [(17, .bool true)] (h3_ t0 t3 t5) ?_))))
      rintro a A ⟨t17, -⟩ ⟨t0, t3, t5, -⟩
      replace BB := BB.trans (bD.mono BB.size)
      clear bD
      refine wp_cond_true t17 ?_
      clear t17
      refine wp_seq ?_
      refine wi_ A (h3_ t0 t3 t5) (rg_ [(4, .bool true)] ?_)
      rintro a A ⟨t4, -⟩
      have BW2 := BW.trans (BB.mono BW.size)
      refine wp_ret ?_
      repeat (first | with_reducible refine ret_in ?_ | with_reducible refine ret_then ?_)
      refine bodyPost_ret (results_tmp rfl _ _ _) A.2 ⟨?_, BW2⟩
      show Ending.returned (a.eval (.tmp 4)) = _
      rw [t4]
      rw [decide_eq_true (mem_tgL.2 ⟨i, lti, of_decide_eq_true (by rw [← eqB_tv (hT.byt i lti) hf]; exact hq)⟩)]
    | false =>
      refine wj_ [0, 1, 2, 3, 4, 5] [] [3, 4] [] A (h3_ t0 t3 t5) (fun X4 bD => ?_)
      refine dw_ 2 (.pointer (some ⟨tb, to_ + i * 16, none⟩)) (fun a X ee => execIdxTs (k := i) rfl ((ee _).trans et_) (ee _) lti) (dv_ 3 (.agg (bA 16 (t i))) (fun a X ee hb => execLdT rfl (ee _) (fun j_ hj_ => cT X (BB.trans (hb.mono BB.size)) j_ hj_)) (dv_ 4 (.agg (bA 16 f)) (fun a X ee hb => execLdT rfl (ee _) (fun j_ hj_ => at16 (on9 Fg3 (BB.trans (hb.mono BB.size))) hj_)) (dw_ 5 (.bool false) (fun a X ee => execeql16f rfl (ee _) (ee _) hq) (dz_ [(17, .bool false)] (h3_ t0 t3 t5) ?_))))
      rintro a A ⟨t17, -⟩ ⟨t0, t3, t5, -⟩
      replace BB := BB.trans (bD.mono BB.size)
      clear bD
      refine wp_cond_false t17 ?_
      refine wp_skip ?_
      clear t17
      have hne : tv (t i) 16 ≠ tv f 16 := of_decide_eq_false (by rw [← eqB_tv (hT.byt i lti) hf]; exact hq)
      refine wi_ A (h3_ t0 t3 t5) (rv_ 1 (.int .i64 ((i + 1 : Nat) : Int)) (fun a ee => execAd8 (p := i) (q := 1) rfl (ee _) rfl (by omega)) (rf_ [(5, .int .i64 ((i + 1 : Nat) : Int))] (h2_ t0 t3) ?_))
      rintro a A ⟨t5, -⟩ ⟨t0, t3, -⟩
      exact ⟨⟨i + 1, lti, fun k_ h => by rcases Nat.lt_or_eq_of_le (Nat.le_of_lt_succ h) with h_ | h_; exact hi2 k_ h_; exact h_ ▸ hne, A, t0, t3, t5, BB⟩, by show n - (intOf (a.eval (.tmp 5))).toNat < n - (intOf (Act.eval _ (.tmp 5))).toNat; rw [t5, esi]; show n - (i + 1) < n - i; omega⟩
  · rw [decide_eq_false lti] at t9
    refine wp_cond_false t9 ?_
    refine wp_exit ?_
    first | with_reducible refine exit_in ?_ | with_reducible refine exit_then (exit_in ?_) | with_reducible refine exit_then (exit_then (exit_in ?_)) | refine exit_in ?_ | refine exit_then (exit_in ?_) | refine exit_then (exit_then (exit_in ?_))
    clear t9 esi
    obtain rfl : i = n := by omega
    have BW2 := BW.trans (BB.mono BW.size)
    refine wp_seq ?_
    refine wi_ A (h3_ t0 t3 t5) (rg_ [(4, .bool false)] ?_)
    rintro a A ⟨t4, -⟩
    refine wp_ret ?_
    refine bodyPost_ret (results_tmp rfl _ _ _) A.2 ⟨?_, BW2⟩
    show Ending.returned (a.eval (.tmp 4)) = _
    rw [t4]
    rw [decide_eq_false (fun h_ => by obtain ⟨k_, q1, q2⟩ := mem_tgL.1 h_; exact hi2 k_ q1 q2)]
end Go.Proofs.Ytijibdapooalcaa.Win

namespace Go.Proofs.Ytijibdapooalcaa.Win
open Go.RowKit Gf8 Aes By8 Cel Cf
/- The law's same, of like windows. Written by tools/mkC9l.py. -/

theorem ne16 {X : World} {g : Nat} {c : Obj} (h : X.heap[g]? = some c) : g ≠ X.heap.size := fun e => by
  have := (Array.getElem?_eq_some_iff.1 h).1
  omega
end Go.Proofs.Ytijibdapooalcaa.Win
