import Derived.Test.YtijibdapooalcabL9a
import Derived.Laws.Cover3
namespace Go.Proofs.Ytijibdapooalcab.Win
open Go.RowKit Gf8 Aes By8 Cel Cf
/- WindowKeeps: the law's whole. Written by tools/mkL9b.py. -/

theorem CpW.on {B n : Nat} {W W' : World} {v : Value} {nu : Nat → Int} {tw : Nat → Value} {ln : Nat → Nat} {t : Nat → Nat → Nat → Nat} (h : CpW B W v n nu tw ln t) (hb : Below W.heap.size W W') : CpW B W' v n nu tw ln t := by
  obtain ⟨g, c, e, q1, q2, q3⟩ := h
  exact ⟨g, c, e, ownE_below q1 hb, fun j hj => (q2 j hj).on hb, q3⟩
theorem execNeNil {o : Oper} {a : Act} {w : World} {x : Operand} (ho : o.op = .binOp .neq 25 x (.const (.slice none 0 0)) 25) (hx : a.eval x = .slice none 0 0) : (execOp a.eval o).run Try.prog w = .ok (.value (.bool false)) w := by
  have h := run_neq_slice_nil (P := Try.prog) w 25 36 none 0 0 Try.underlying25
  unfold execOp
  simp only [ho, hx]
  simp [go_sem, Act.eval, h]
/-- A row's cells. -/
theorem own_epv {W : World} {B n g c k : Nat} {nu : Nat → Int} {tw : Nat → Value} (h : W.ownsRow B 47 2 (.slice (some ⟨g, 0, none⟩) n c) n (epV nu tw n)) (hk : k < n) : W.cell? ⟨g, 0 + k * 2 + 0, none⟩ = some (.int .i64 (nu k)) ∧ W.cell? ⟨g, 0 + k * 2 + 1, none⟩ = some (tw k) := by
  rcases h.2 with ⟨e, _⟩ | ⟨g', cap, cur, e, _, hg, q1, q2, q3, q4⟩
  · cases e
  · injection e with e1 _ e3
    injection e1 with e1
    injection e1 with e1 _ _
    subst e1
    have h5 := epV_at nu tw n k hk
    rw [← q4, List.getElem?_take_of_lt (by omega), List.getElem?_take_of_lt (by omega)] at h5
    exact ⟨by rw [cell_of_row _ _ _ _ _ _ hg, Nat.zero_add, ← Array.getElem?_toList]; exact h5.1, by rw [cell_of_row _ _ _ _ _ _ hg, Nat.zero_add, ← Array.getElem?_toList]; exact h5.2⟩
theorem own_tgv {W : World} {B n g c k i : Nat} {t : Nat → Nat → Nat} (h : W.ownsRow B 36 16 (.slice (some ⟨g, 0, none⟩) n c) n (tgV t n)) (hk : k < n) (hi : i < 16) : W.cell? ⟨g, 0 + k * 16 + i, none⟩ = some (.int .u8 ((t k i : Nat) : Int)) := by
  rcases h.2 with ⟨e, _⟩ | ⟨g', cap, cur, e, _, hg, q1, q2, q3, q4⟩
  · cases e
  · injection e with e1 _ e3
    injection e1 with e1
    injection e1 with e1 _ _
    subst e1
    have h5 := tgV_at t n k i hk hi
    rw [← q4, List.getElem?_take_of_lt (by omega)] at h5
    rw [cell_of_row _ _ _ _ _ _ hg, Nat.zero_add, ← Array.getElem?_toList]
    exact h5
theorem own_cap {W : World} {B n g c s : Nat} {ty : TypeId} {xs : List Value} (h : W.ownsRow B ty s (.slice (some ⟨g, 0, none⟩) n c) n xs) : n ≤ c ∧ c ≤ maxLen ∧ g < W.heap.size := by
  rcases h.2 with ⟨e, _⟩ | ⟨g', cap, cur, e, _, hg, q1, q2, q3, q4⟩
  · cases e
  · injection e with e1 _ e3
    injection e1 with e1
    injection e1 with e1 _ _
    subst e1
    subst e3
    exact ⟨q1, q2, (Array.getElem?_eq_some_iff.1 hg).1⟩
set_option maxRecDepth 100000 in
set_option maxHeartbeats 4000000 in
/-- The law's whole. -/
theorem whole16 (B : Nat) (nw : Int) (cv ev : Value) (n : Nat) (nu : Nat → Int) (uw tw : Nat → Value) (ln : Nat → Nat) (t : Nat → Nat → Nat → Nat) (V : World) (hC : CpW B V cv n nu uw ln t) (hE : Eps V ev n nu tw ln t) (hbt : ∀ j, j < n → ∀ k, k < ln j → ∀ i, i < 16 → t j k i < 256) :
    Calls Try.prog 16 #[.agg (wC nw cv), .agg (wC nw ev)] V fun e w' => e = .returned (.bool true) ∧ Below V.heap.size V w' := by
  go_enter Try.func16, Try.ntmps16
  refine wo_ 90 [(0, .agg (wC nw cv)), (1, .agg (wC nw ev))] ?_
  rintro a A ⟨t0, t1, -⟩
  have BW : Below V.heap.size V V := Below.refl _ _
  refine wp_seq ?_
  obtain ⟨g2, egg2⟩ : ∃ z_ : Nat, V.heap.size = z_ := ⟨_, rfl⟩
  refine wi_ A (h2_ t0 t1) (rs_ 0 (fun a ee => ?_))
  refine stepV rfl rfl (execBoxW rfl (ee _)) ⟨.pointer (some ⟨g2, 0, none⟩), ⟨_, rfl, by subst egg2; rfl⟩, fun X0_1 hX => ?_⟩
  have bQ : Below V.heap.size V X0_1 := by subst hX egg2; exact (belNew V _)
  have Fg2 : (X0_1.heap[g2]? = some (.cells (wC nw cv) 24)) := by subst hX egg2; exact heapNew V _
  have bX := bQ
  clear bQ hX egg2 ee a
  obtain ⟨g3, egg3⟩ : ∃ z_ : Nat, X0_1.heap.size = z_ := ⟨_, rfl⟩
  refine rs_ 1 (fun a ee => ?_)
  refine stepV rfl rfl (execBoxW rfl (ee _)) ⟨.pointer (some ⟨g3, 0, none⟩), ⟨_, rfl, by subst egg3; rfl⟩, fun X0 hX => ?_⟩
  have bQ : Below X0_1.heap.size X0_1 X0 := by subst hX egg3; exact (belNew X0_1 _)
  have Fg3 : (X0.heap[g3]? = some (.cells (wC nw ev) 24)) := by subst hX egg3; exact heapNew X0_1 _
  replace Fg2 := (on9 Fg2 bQ)
  replace bX := bX.trans (bQ.mono bX.size)
  clear bQ hX egg3 ee a
  refine rg_ [(2, .pointer (some ⟨g2, 0, none⟩)), (3, .pointer (some ⟨g3, 0, none⟩))] ?_
  rintro a A ⟨t2, t3, -⟩
  replace hE := (hE.on bX)
  replace hC := (hC.on bX)
  have ZX0 := bX.size
  replace BW := BW.trans (bX.mono BW.size)
  clear bX
  have BB : Below X0.heap.size X0 X0 := Below.refl _ _
  have hF := hC.eps hbt hE.nums
  obtain ⟨g, c, ecv, hr, hl, -⟩ := hC
  obtain ⟨hc1, hc2, hg⟩ := own_cap hr
  have hmx : maxLen < 9223372036854775808 := by decide
  refine wp_seq ?_
  refine wp_seq ?_
  refine wi_ A (h2_ t2 t3) (rv_ 0 (.agg (wC nw cv)) (fun a ee => execLdWn rfl (ee _) (on9 Fg2 BB)) (rv_ 1 (.agg (wC nw ev)) (fun a ee => execLdWn rfl (ee _) (on9 Fg3 BB)) (rc_ 2 (same16w nw X0 (hF.on BB) (hE.on BB) rfl) (cb_ fun X1 bQ => ?_))))
  replace BB := BB.trans (bQ.mono BB.size)
  clear bQ
  refine rv_ 3 (.bool false) (fun a ee => execNot8 (b := true) rfl (ee _)) (rf_ [(13, .bool false)] (h1_ t2) ?_)
  rintro a A ⟨t13, -⟩ ⟨t2, -⟩
  refine wp_cond_false t13 ?_
  refine wp_skip ?_
  clear t13
  refine wp_seq ?_
  refine wi_ A (h1_ t2) (rv_ 0 (.pointer (some ⟨g2, 1, none⟩)) (fun a ee => execFldW1 rfl (ee _)) (rv_ 1 (cv) (fun a ee => execLdEs rfl (ee _) (wC_1 (on9 Fg2 BB))) (rv_ 2 (.int .i64 ((n : Nat) : Int)) (fun a ee => execLenEs (len := n) rfl (ee _) hF.shp) (rf_ [(5, .int .i64 ((n : Nat) : Int))] (h1_ t2) ?_))))
  rintro a A ⟨t5, -⟩ ⟨t2, -⟩
  refine wp_seq ?_
  refine wi_ A (h2_ t2 t5) (rv_ 0 (.pointer (some ⟨g2, 1, none⟩)) (fun a ee => execFldW1 rfl (ee _)) (rv_ 1 (cv) (fun a ee => execLdEs rfl (ee _) (wC_1 (on9 Fg2 BB))) (rv_ 3 (.int .i64 ((n + 2 : Nat) : Int)) (fun a ee => execAd8 (p := n) (q := 2) rfl (ee _) rfl (by omega)) (rv_ 4 (.slice (some ⟨g, 0, none⟩) (n + 2) c) (fun a ee => execSlHE rfl ((ee _).trans ecv) (ee _) (by omega)) (rf_ [(6, .slice (some ⟨g, 0, none⟩) (n + 2) c)] (h2_ t2 t5) ?_)))))
  rintro a A ⟨t6, -⟩ ⟨t2, t5, -⟩
  have m0 := own_epv hr (show n < n + 2 by omega)
  have m1 := own_epv hr (show n + 1 < n + 2 by omega)
  rw [show (up (up nu n (-77)) (n + 1) (-78)) n = -77 by rw [up_ne _ _ (by omega), up_at], show (up (up uw n (.slice none 0 0)) (n + 1) (.slice none 0 0)) n = .slice none 0 0 by rw [up_ne _ _ (by omega), up_at]] at m0
  rw [show (up (up nu n (-77)) (n + 1) (-78)) (n + 1) = -78 from up_at _ _ _, show (up (up uw n (.slice none 0 0)) (n + 1) (.slice none 0 0)) (n + 1) = .slice none 0 0 from up_at _ _ _] at m1
  have k0 : ∀ X, Below X0.heap.size X0 X → X.cell? ⟨g, 0 + n * 2 + 0, none⟩ = some (.int .i64 (-77)) ∧ X.cell? ⟨g, 0 + n * 2 + 1, none⟩ = some (.slice none 0 0) := fun X hX => by rw [cell_below hX hg, cell_below hX hg]; exact m0
  have k1 : ∀ X, Below X0.heap.size X0 X → X.cell? ⟨g, 0 + (n + 1) * 2 + 0, none⟩ = some (.int .i64 (-78)) ∧ X.cell? ⟨g, 0 + (n + 1) * 2 + 1, none⟩ = some (.slice none 0 0) := fun X hX => by rw [cell_below hX hg, cell_below hX hg]; exact m1
  refine wp_seq ?_
  refine wp_seq ?_
  refine wi_ A (h3_ t2 t5 t6) (rv_ 2 (.pointer (some ⟨g, 0 + n * 2, none⟩)) (fun a ee => execIdxEs (k := n) rfl ((ee _).trans rfl) (ee _) (by omega)) (rv_ 3 (.pointer (some ⟨g, 0 + n * 2 + 0, none⟩)) (fun a ee => execFldE0 rfl (ee _)) (rv_ 4 (.int .i64 (-77)) (fun a ee => execLd2 rfl (ee _) (k0 X1 BB).1) (rv_ 5 (.bool false) (fun a ee => execDec (exIneq2 (p := -77) (q := -77) rfl (ee _) rfl) (decide_eq_false (fun h_ => h_ rfl))) (rv_ 9 (.int .i64 ((n + 1 : Nat) : Int)) (fun a ee => execAd8 (p := n) (q := 1) rfl (ee _) rfl (by omega)) (rv_ 10 (.pointer (some ⟨g, 0 + (n + 1) * 2, none⟩)) (fun a ee => execIdxEs (k := n + 1) rfl ((ee _).trans rfl) (ee _) (by omega)) (rv_ 11 (.pointer (some ⟨g, 0 + (n + 1) * 2 + 0, none⟩)) (fun a ee => execFldE0 rfl (ee _)) (rv_ 12 (.int .i64 (-78)) (fun a ee => execLd2 rfl (ee _) (k1 X1 BB).1) (rv_ 13 (.bool false) (fun a ee => execDec (exIneq2 (p := -78) (q := -78) rfl (ee _) rfl) (decide_eq_false (fun h_ => h_ rfl))) (rv_ 18 (.pointer (some ⟨g, 0 + n * 2, none⟩)) (fun a ee => execIdxEs (k := n) rfl ((ee _).trans rfl) (ee _) (by omega)) (rv_ 19 (.pointer (some ⟨g, 0 + n * 2 + 1, none⟩)) (fun a ee => execFldE1 rfl (ee _)) (rv_ 20 (.slice none 0 0) (fun a ee => execLdTs rfl (ee _) (k0 X1 BB).2) (rv_ 21 (.bool false) (fun a ee => execNeNil rfl (ee _)) (rv_ 26 (.int .i64 ((n + 1 : Nat) : Int)) (fun a ee => execAd8 (p := n) (q := 1) rfl (ee _) rfl (by omega)) (rv_ 27 (.pointer (some ⟨g, 0 + (n + 1) * 2, none⟩)) (fun a ee => execIdxEs (k := n + 1) rfl ((ee _).trans rfl) (ee _) (by omega)) (rv_ 28 (.pointer (some ⟨g, 0 + (n + 1) * 2 + 1, none⟩)) (fun a ee => execFldE1 rfl (ee _)) (rv_ 29 (.slice none 0 0) (fun a ee => execLdTs rfl (ee _) (k1 X1 BB).2) (rv_ 30 (.bool false) (fun a ee => execNeNil rfl (ee _)) (rf_ [(53, .bool false)] (h2_ t2 t5) ?_)))))))))))))))))))
  rintro a A ⟨t53, -⟩ ⟨t2, t5, -⟩
  refine wp_cond_false t53 ?_
  refine wp_skip ?_
  clear t53
  refine wp_seq ?_
  refine wp_seq ?_
  refine wi_ A (h2_ t2 t5) (rf_ [(7, .int .i64 ((0 : Nat) : Int))] (h2_ t2 t5) ?_)
  rintro a A ⟨t7, -⟩ ⟨t2, t5, -⟩
  refine wp_block ?_
  refine wp_loop (fun a W => ∃ (i : Nat), i ≤ n ∧ (a.tmps.size = 90 ∧ a.defers = []) ∧ a.eval (.tmp 2) = .pointer (some ⟨g2, 0, none⟩) ∧ a.eval (.tmp 5) = .int .i64 ((n : Nat) : Int) ∧ a.eval (.tmp 7) = .int .i64 ((i : Nat) : Int) ∧ Below X0.heap.size X0 W) (fun a _ => n - (intOf (a.eval (.tmp 7))).toNat) ⟨0, Nat.zero_le _, A, t2, t5, t7, BB⟩ ?_
  clear A t2 t5 t7 BB a
  rintro a XL8 ⟨i, hi, A, t2, t5, t7, BB⟩
  have esi := t7
  refine wp_seq ?_
  refine wp_seq ?_
  refine wi_ A (h3_ t2 t5 t7) (rv_ 2 (.bool (decide (i < n))) (fun a ee => execLtW (p := i) (q := n) rfl (ee _) (ee _)) (rf_ [(56, .bool (decide (i < n)))] (h3_ t2 t5 t7) ?_))
  rintro a A ⟨t56, -⟩ ⟨t2, t5, t7, -⟩
  by_cases lti : i < n
  · rw [decide_eq_true lti] at t56
    refine wp_cond_true t56 ?_
    refine wp_skip ?_
    clear t56
    refine wp_seq ?_
    refine wp_block ?_
    obtain ⟨gm, cm, em, hm⟩ := hl i lti
    obtain ⟨hm1, hm2, hgm⟩ := own_cap hm
    have hTe := hF.lists i lti
    obtain ⟨wb, wo, wc, we, hwb, hwc⟩ := hF.at (show 0 < n by omega)
    have wN : ∀ X, Below X0.heap.size X0 X → X.cell? ⟨wb, wo + i * 2 + 0, none⟩ = some (.int .i64 (nu i)) := fun X hX => by rw [cell_below hX hwb]; exact (hwc i lti).1
    have wT : ∀ X, Below X0.heap.size X0 X → X.cell? ⟨wb, wo + i * 2 + 1, none⟩ = some (uw i) := fun X hX => by rw [cell_below hX hwb]; exact (hwc i lti).2
    refine wp_seq ?_
    refine wi_ A (h3_ t2 t5 t7) (rv_ 0 (.pointer (some ⟨g2, 1, none⟩)) (fun a ee => execFldW1 rfl (ee _)) (rv_ 1 (cv) (fun a ee => execLdEs rfl (ee _) (wC_1 (on9 Fg2 BB))) (rv_ 3 (.pointer (some ⟨wb, wo + i * 2, none⟩)) (fun a ee => execIdxEs (k := i) rfl ((ee _).trans we) (ee _) lti) (rv_ 4 (.pointer (some ⟨wb, wo + i * 2 + 1, none⟩)) (fun a ee => execFldE1 rfl (ee _)) (rv_ 5 (uw i) (fun a ee => execLdTs rfl (ee _) (wT XL8 BB)) (rv_ 6 (.int .i64 ((ln i : Nat) : Int)) (fun a ee => execLenTs (len := ln i) rfl (ee _) hTe.shp) (rf_ [(8, .int .i64 ((ln i : Nat) : Int))] (h3_ t2 t5 t7) ?_)))))))
    rintro a A ⟨t8, -⟩ ⟨t2, t5, t7, -⟩
    refine wp_seq ?_
    refine wi_ A (h4_ t2 t5 t7 t8) (rv_ 0 (.pointer (some ⟨g2, 1, none⟩)) (fun a ee => execFldW1 rfl (ee _)) (rv_ 1 (cv) (fun a ee => execLdEs rfl (ee _) (wC_1 (on9 Fg2 BB))) (rv_ 3 (.pointer (some ⟨wb, wo + i * 2, none⟩)) (fun a ee => execIdxEs (k := i) rfl ((ee _).trans we) (ee _) lti) (rv_ 4 (.pointer (some ⟨wb, wo + i * 2 + 1, none⟩)) (fun a ee => execFldE1 rfl (ee _)) (rv_ 5 (uw i) (fun a ee => execLdTs rfl (ee _) (wT XL8 BB)) (rv_ 7 (.int .i64 ((ln i + 2 : Nat) : Int)) (fun a ee => execAd8 (p := ln i) (q := 2) rfl (ee _) rfl (by omega)) (rv_ 8 (.slice (some ⟨gm, 0, none⟩) (ln i + 2) cm) (fun a ee => execSlH16 rfl ((ee _).trans em) (ee _) (sl16_h gm 0 (ln i) cm (ln i + 2) (by omega) XL8)) (rf_ [(9, .slice (some ⟨gm, 0, none⟩) (ln i + 2) cm)] (h4_ t2 t5 t7 t8) ?_))))))))
    rintro a A ⟨t9, -⟩ ⟨t2, t5, t7, t8, -⟩
    have q0 : ∀ X, Below X0.heap.size X0 X → ∀ j_, j_ < 16 → X.cell? ⟨gm, 0 + (ln i) * 16 + j_, none⟩ = some (.int .u8 ((33 : Nat) : Int)) := fun X hX j_ hj_ => by
      rw [cell_below hX hgm, own_tgv hm (show (ln i) < ln i + 2 by omega) hj_]
      unfold mk2 catT two2
      rw [if_neg (by omega), if_pos (by omega)]
    have q1 : ∀ X, Below X0.heap.size X0 X → ∀ j_, j_ < 16 → X.cell? ⟨gm, 0 + (ln i + 1) * 16 + j_, none⟩ = some (.int .u8 ((63 : Nat) : Int)) := fun X hX j_ hj_ => by
      rw [cell_below hX hgm, own_tgv hm (show (ln i + 1) < ln i + 2 by omega) hj_]
      unfold mk2 catT two2
      rw [if_neg (by omega), if_neg (by omega)]
    refine wp_seq ?_
    refine wj_ [0, 1, 2, 3, 4, 5, 6, 7, 8, 9, 10, 11, 12, 13, 14] [4, 12] [3, 11] [] A (h5_ t2 t5 t7 t8 t9) (fun X12_0 bD => ?_)
    refine dw_ 2 (.pointer (some ⟨gm, 0 + (ln i) * 16, none⟩)) (fun a X ee => execIdxTs (k := ln i) rfl ((ee _).trans rfl) (ee _) (by omega)) (dv_ 3 (.agg (bA 16 (fun _ => 33))) (fun a X ee hb => execLdT rfl (ee _) (fun j_ hj_ => q0 X (BB.trans (hb.mono BB.size)) j_ hj_)) (dc_ 4 (tag16 33 X12_0 (by decide)) (cb_ fun X12_1 bQ => ?_)))
    replace bD := bD.trans (bQ.mono bD.size)
    clear bQ
    refine ⟨Or.inr bD, ?_⟩
    refine dw_ 5 (.bool false) (fun a X ee => execneq16t rfl (ee _) (ee _) (eqB_true (fun _ _ => rfl))) (dw_ 9 (.int .i64 ((ln i + 1 : Nat) : Int)) (fun a X ee => execAd8 (p := ln i) (q := 1) rfl (ee _) rfl (by omega)) (dw_ 10 (.pointer (some ⟨gm, 0 + (ln i + 1) * 16, none⟩)) (fun a X ee => execIdxTs (k := ln i + 1) rfl ((ee _).trans rfl) (ee _) (by omega)) (dv_ 11 (.agg (bA 16 (fun _ => 63))) (fun a X ee hb => execLdT rfl (ee _) (fun j_ hj_ => q1 X (BB.trans (hb.mono BB.size)) j_ hj_)) (dc_ 12 (tag16 63 X12_1 (by decide)) (cb_ fun X12 bQ => ?_)))))
    replace bD := bD.trans (bQ.mono bD.size)
    clear bQ
    refine ⟨Or.inr bD, ?_⟩
    refine dw_ 13 (.bool false) (fun a X ee => execneq16t rfl (ee _) (ee _) (eqB_true (fun _ _ => rfl))) (dz_ [(89, .bool false)] (h3_ t2 t5 t7) ?_)
    rintro a A ⟨t89, -⟩ ⟨t2, t5, t7, -⟩
    replace BB := BB.trans (bD.mono BB.size)
    clear bD
    refine wp_cond_false t89 ?_
    refine wp_skip ?_
    clear t89
    refine wi_ A (h3_ t2 t5 t7) (rv_ 1 (.int .i64 ((i + 1 : Nat) : Int)) (fun a ee => execAd8 (p := i) (q := 1) rfl (ee _) rfl (by omega)) (rf_ [(7, .int .i64 ((i + 1 : Nat) : Int))] (h2_ t2 t5) ?_))
    rintro a A ⟨t7, -⟩ ⟨t2, t5, -⟩
    exact ⟨⟨i + 1, lti, A, t2, t5, t7, BB⟩, by show n - (intOf (a.eval (.tmp 7))).toNat < n - (intOf (Act.eval _ (.tmp 7))).toNat; rw [t7, esi]; show n - (i + 1) < n - i; omega⟩
  · rw [decide_eq_false lti] at t56
    refine wp_cond_false t56 ?_
    refine wp_exit ?_
    first | with_reducible refine exit_in ?_ | with_reducible refine exit_then (exit_in ?_) | with_reducible refine exit_then (exit_then (exit_in ?_)) | refine exit_in ?_ | refine exit_then (exit_in ?_) | refine exit_then (exit_then (exit_in ?_))
    clear t56 esi
    have BW2 := BW.trans (BB.mono BW.size)
    refine wp_seq ?_
    refine wi_ A (h3_ t2 t5 t7) (rg_ [(4, .bool true)] ?_)
    rintro a A ⟨t4, -⟩
    refine wp_ret ?_
    refine bodyPost_ret (results_tmp rfl _ _ _) A.2 ⟨?_, BW2⟩
    show Ending.returned (a.eval (.tmp 4)) = _
    rw [t4]
end Go.Proofs.Ytijibdapooalcab.Win
