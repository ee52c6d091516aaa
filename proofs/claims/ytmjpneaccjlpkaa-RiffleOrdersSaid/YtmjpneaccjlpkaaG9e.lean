import Derived.Test.YtmjpneaccjlpkaaF9c
import Derived.Test.YtmjpneaccjlpkaaF9b
import Derived.Test.YtmjpneaccjlpkaaG9d
import Derived.Test.YtmjpneaccjlpkaaP9c
namespace Go.Proofs.Ytmjpneaccjlpkaa.Drw
open Go.RowKit Gf8 Aes By8 Cel Cf Tap
/- The reference's wrong and Below. Written by tools/mkG9e.py. -/
set_option maxRecDepth 100000 in
set_option maxHeartbeats 4000000 in
theorem wrong_any (f : Nat → Int) (n : Nat) (v : Value) (V : World) (hv : SliceI V v n f) (hn : n ≤ 17592186044416) :
  Calls Try.prog 57 #[v] V fun e w' => e = .returned (.bool (anyB f n)) ∧ Below V.heap.size V w' := by
 obtain ⟨ia, ic, rfl, -, -, hsh⟩ := id hv.shape
 have FI := hv
 go_enter Try.func57, Try.ntmps57
 refine wp_seq ?_
 refine wo_ 22 [(0, .slice ia n ic)] ?_
 rintro a A ⟨t0, -⟩
 refine wi_ A (h1_ t0) (rf_ [] (h1_ t0) ?_)
 rintro a A - ⟨t0, -⟩
 have BW : Below V.heap.size V V := Below.refl _ _
 have BB := BW
 refine wp_seq (wp_seq ?_)
 refine wi_ A (h1_ t0) (rf_ [(3, .int .i64 ((0 : Nat) : Int))] (h1_ t0) ?_)
 rintro a A ⟨t3, -⟩ ⟨t0, -⟩
 refine wp_block ?_
 refine wp_loop (fun a W => ∃ i : Nat, i ≤ n ∧ anyB f i = false ∧ (a.tmps.size = 22 ∧ a.defers = []) ∧ a.eval (.tmp 0) = .slice ia n ic ∧ a.eval (.tmp 3) = .int .i64 ((i : Nat) : Int) ∧ Below V.heap.size V W) (fun a _ => n - (intOf (a.eval (.tmp 3))).toNat) ⟨0, Nat.zero_le _, rfl, A, t0, t3, BB⟩ ?_
 rintro a XL ⟨i, hi, hno, A, t0, t3, BB⟩
 have e3 := t3
 refine wp_seq (wp_seq ?_)
 refine wi_ A (h2_ t0 t3) (rv_ 2 (.int .i64 ((n : Nat) : Int)) (fun a e => execLenI (len := n) rfl (e _) ((FI.on BB)).shp) (rv_ 3 (.bool (decide (i < n))) (fun a e => execLtW (p := i) (q := n) rfl (e _) (e _)) (rf_ [(7, .bool (decide (i < n)))] (h2_ t0 t3) ?_)))
 rintro a A ⟨t7, -⟩ ⟨t0, t3, -⟩
 by_cases hlt : i < n
 ·rw [decide_eq_true hlt] at t7
  refine wp_cond_true t7 (wp_skip ?_)
  clear t7
  obtain ⟨ib, io, rfl, hib, hcell⟩ := hsh (by omega)
  have cI : ∀ X, Below V.heap.size V X → X.cell? ⟨ib, io + i, none⟩ = some (.int .i64 (f i)) := fun X hX => by rw [cell_below hX hib]; exact hcell i hlt
  refine wp_seq (wp_block ?_)
  by_cases h1 : f i < 1
  ·refine wp_seq ?_
   refine wi_ A (h2_ t0 t3) (rv_ 2 (.pointer (some ⟨ib, io + i, none⟩)) (fun a e => execIdxN (k := i) rfl (e _) (e _) hlt) (rv_ 3 (.int .i64 (f i)) (fun a e => execLd3 rfl (e _) (cI XL BB)) (rv_ 4 (.bool true) (fun a e => execLtCt (p := (f i)) (q := 1) rfl (e _) (by exact h1)) (rf_ [(21, .bool true)] (h2_ t0 t3) ?_))))
   rintro a A ⟨t21, -⟩ ⟨t0, t3, -⟩
   refine wp_cond_true t21 ?_
   refine wp_seq ?_
   refine wi_ A (h3_ t0 t3 t21) (rg_ [(2, .bool true)] ?_)
   rintro a A ⟨t2, -⟩
   have hy : anyB f n = true := anyB_yes hlt (Or.inl h1)
   rw [hy]
   refine wp_ret ?_
   repeat (first | with_reducible refine ret_in ?_ | with_reducible refine ret_then ?_)
   refine bodyPost_ret (results_tmp rfl _ _ _) A.2 ⟨?_, BB⟩
   show Ending.returned (a.eval (.tmp 2)) = _
   rw [t2]
  ·by_cases h2 : 256 < f i
   ·refine wp_seq ?_
    refine wi_ A (h2_ t0 t3) (rv_ 2 (.pointer (some ⟨ib, io + i, none⟩)) (fun a e => execIdxN (k := i) rfl (e _) (e _) hlt) (rv_ 3 (.int .i64 (f i)) (fun a e => execLd3 rfl (e _) (cI XL BB)) (rv_ 4 (.bool false) (fun a e => execLtCf (p := (f i)) (q := 1) rfl (e _) (by exact h1)) (rv_ 8 (.pointer (some ⟨ib, io + i, none⟩)) (fun a e => execIdxN (k := i) rfl (e _) (e _) hlt) (rv_ 9 (.int .i64 (f i)) (fun a e => execLd3 rfl (e _) (cI XL BB)) (rv_ 10 (.bool true) (fun a e => execGtCt (p := (f i)) (q := 256) rfl (e _) (by exact h2)) (rf_ [(21, .bool true)] (h2_ t0 t3) ?_)))))))
    rintro a A ⟨t21, -⟩ ⟨t0, t3, -⟩
    refine wp_cond_true t21 ?_
    refine wp_seq ?_
    refine wi_ A (h3_ t0 t3 t21) (rg_ [(2, .bool true)] ?_)
    rintro a A ⟨t2, -⟩
    have hy : anyB f n = true := anyB_yes hlt (Or.inr h2)
    rw [hy]
    refine wp_ret ?_
    repeat (first | with_reducible refine ret_in ?_ | with_reducible refine ret_then ?_)
    refine bodyPost_ret (results_tmp rfl _ _ _) A.2 ⟨?_, BB⟩
    show Ending.returned (a.eval (.tmp 2)) = _
    rw [t2]
   ·refine wp_seq ?_
    refine wi_ A (h2_ t0 t3) (rv_ 2 (.pointer (some ⟨ib, io + i, none⟩)) (fun a e => execIdxN (k := i) rfl (e _) (e _) hlt) (rv_ 3 (.int .i64 (f i)) (fun a e => execLd3 rfl (e _) (cI XL BB)) (rv_ 4 (.bool false) (fun a e => execLtCf (p := (f i)) (q := 1) rfl (e _) (by exact h1)) (rv_ 8 (.pointer (some ⟨ib, io + i, none⟩)) (fun a e => execIdxN (k := i) rfl (e _) (e _) hlt) (rv_ 9 (.int .i64 (f i)) (fun a e => execLd3 rfl (e _) (cI XL BB)) (rv_ 10 (.bool false) (fun a e => execGtCf (p := (f i)) (q := 256) rfl (e _) (by exact h2)) (rf_ [(21, .bool false)] (h2_ t0 t3) ?_)))))))
    rintro a A ⟨t21, -⟩ ⟨t0, t3, -⟩
    refine wp_cond_false t21 (wp_skip ?_)
    clear t21
    refine wi_ A (h2_ t0 t3) (rv_ 1 (.int .i64 ((i + 1 : Nat) : Int)) (fun a e => execAd8 (p := i) (q := 1) rfl (e _) rfl (by omega)) (rf_ [(3, .int .i64 ((i + 1 : Nat) : Int))] (h1_ t0) ?_))
    rintro a A ⟨t3, -⟩ ⟨t0, -⟩
    exact ⟨⟨i + 1, hlt, by simp only [anyB, hno, Bool.false_or, decide_eq_false_iff_not]; unfold bad; omega, A, t0, t3, BB⟩, by show n - (intOf (a.eval (.tmp 3))).toNat < n - (intOf (Act.eval _ (.tmp 3))).toNat; rw [t3, e3]; show n - (i + 1) < n - i; omega⟩
 ·rw [decide_eq_false hlt] at t7
  refine wp_cond_false t7 ?_
  refine wp_exit ?_
  first | with_reducible refine exit_in ?_ | with_reducible refine exit_then (exit_in ?_) | with_reducible refine exit_then (exit_then (exit_in ?_)) | refine exit_in ?_ | refine exit_then (exit_in ?_) | refine exit_then (exit_then (exit_in ?_))
  clear t7
  have hin : i = n := by omega
  rw [hin] at hno
  rw [hno]
  refine wp_seq ?_
  refine wi_ A (h2_ t0 t3) (rg_ [(2, .bool false)] ?_)
  rintro a A ⟨t2, -⟩
  refine wp_ret ?_
  repeat (first | with_reducible refine ret_in ?_ | with_reducible refine ret_then ?_)
  refine bodyPost_ret (results_tmp rfl _ _ _) A.2 ⟨?_, BB⟩
  show Ending.returned (a.eval (.tmp 2)) = _
  rw [t2]
set_option maxRecDepth 100000 in
set_option maxHeartbeats 4000000 in
theorem rbelow_ok (p : Nat → Nat) (l at' b : Nat) (v : Value) (V : World) (hv : SliceN V v l p) (hl : l ≤ 140737488351232) (hat : at' ≤ l) (hb2 : 2 ≤ b) (hb : b ≤ 256) :
  Calls Try.prog 58 #[v, .int .i64 ((at' : Nat) : Int), .int .i64 ((b : Nat) : Int)] V fun e w' => e = .returned (.tuple #[.int .i64 ((dV p l at' (b : Int) : Nat) : Int), .int .i64 ((dN p l at' (b : Int) : Nat) : Int), .int .i64 ((dE p l at' (b : Int) : Nat) : Int)]) ∧ Below V.heap.size V w' := by
 obtain ⟨pa, pc, rfl, -, -, hsh⟩ := id hv.shape
 have hp := hv.bytes
 go_enter Try.func58, Try.ntmps58
 refine wp_seq ?_
 refine wo_ 41 [(0, .slice pa l pc), (1, .int .i64 ((at' : Nat) : Int)), (2, .int .i64 ((b : Nat) : Int))] ?_
 rintro a A ⟨t0, t1, t2, -⟩
 refine wi_ A (h3_ t0 t1 t2) (rf_ [] (h3_ t0 t1 t2) ?_)
 rintro a A - ⟨t0, t1, t2, -⟩
 have BW : Below V.heap.size V V := Below.refl _ _
 have BB := BW
 refine wp_seq (wp_seq ?_)
 refine wi_ A (h3_ t0 t1 t2) (rv_ 1 (.bool false) (fun a e => execDec (execLtW (p := b) (q := 1) rfl (e _) rfl) (decide_eq_false (by omega))) (rv_ 4 (.bool false) (fun a e => execDec (execGtN (p := b) (q := 256) rfl (e _) rfl) (decide_eq_false (by omega))) (rf_ [(15, .bool false)] (h3_ t0 t1 t2) ?_)))
 rintro a A ⟨t15, -⟩ ⟨t0, t1, t2, -⟩
 refine wp_cond_false t15 (wp_skip ?_)
 clear t15
 refine wp_seq (wp_seq ?_)
 refine wi_ A (h3_ t0 t1 t2) (rv_ 1 (.bool false) (fun a e => execDec (execEqN (p := b) (q := 1) rfl (e _) rfl) (decide_eq_false (by omega))) (rf_ [(17, .bool false)] (h3_ t0 t1 t2) ?_))
 rintro a A ⟨t17, -⟩ ⟨t0, t1, t2, -⟩
 refine wp_cond_false t17 (wp_skip ?_)
 clear t17
 refine wp_seq (wp_block ?_)
 refine wp_loop (fun a W => ∃ i : Nat, at' ≤ i ∧ i ≤ l ∧ scan p b (l - i) i = scan p b (l - at') at' ∧ (a.tmps.size = 41 ∧ a.defers = []) ∧ a.eval (.tmp 0) = .slice pa l pc ∧ a.eval (.tmp 1) = .int .i64 ((i : Nat) : Int) ∧ a.eval (.tmp 2) = .int .i64 ((b : Nat) : Int) ∧ Below V.heap.size V W) (fun a _ => l - (intOf (a.eval (.tmp 1))).toNat) ⟨at', Nat.le_refl _, hat, rfl, A, t0, t1, t2, BB⟩ ?_
 rintro a XL ⟨i, hai, hil, hsc, A, t0, t1, t2, BB⟩
 have e1 := t1
 refine wp_seq (wp_seq ?_)
 refine wi_ A (h3_ t0 t1 t2) (rv_ 2 (.int .i64 ((l : Nat) : Int)) (fun a e => execLenV (len := l) rfl (e _) ⟨_, _, rfl⟩) (rv_ 3 (.bool (decide (i < l))) (fun a e => execLtW (p := i) (q := l) rfl (e _) (e _)) (rf_ [(22, .bool (decide (i < l)))] (h3_ t0 t1 t2) ?_)))
 rintro a A ⟨t22, -⟩ ⟨t0, t1, t2, -⟩
 by_cases hlt : i < l
 ·rw [decide_eq_true hlt] at t22
  refine wp_cond_true t22 (wp_skip ?_)
  clear t22
  obtain ⟨pb, po, rfl, hpb, hcell⟩ := hsh (by omega)
  have cI : ∀ X, Below V.heap.size V X → X.cell? ⟨pb, po + i, none⟩ = some (.int .u8 ((p i : Nat) : Int)) := fun X hX => by rw [cell_below hX hpb]; exact hcell i hlt
  have hpi := hp i hlt
  have hstep : scan p b (l - i) i = if p i / b < 256 / b then i else scan p b (l - (i + 1)) (i + 1) := by rw [show l - i = (l - (i + 1)) + 1 by omega]; rfl
  refine wp_seq (wp_block ?_)
  refine wp_seq ?_
  refine wi_ A (h3_ t0 t1 t2) (rv_ 2 (.pointer (some ⟨pb, po + i, none⟩)) (fun a e => execIdxB9 (k := i) rfl (e _) (e _) hlt) (rv_ 3 (.int .u8 ((p i : Nat) : Int)) (fun a e => execLdB rfl (e _) (cI XL BB)) (rv_ 4 (.int .i64 ((p i : Nat) : Int)) (fun a e => execCv53 rfl (e _) hpi) (rf_ [(9, .int .i64 ((p i : Nat) : Int))] (h3_ t0 t1 t2) ?_))))
  rintro a A ⟨t9, -⟩ ⟨t0, t1, t2, -⟩
  refine wp_seq ?_
  refine wj_ [0, 1, 2, 3, 4, 5] [] [] [] A (h4_ t0 t1 t2 t9) (fun X8 bD => ?_)
  refine dw_ 2 (.int .i64 (((p i) / b : Nat) : Int)) (fun a X e => execQuoD (p := p i) (q := b) rfl (e _) (e _) (by omega) (by omega)) (dw_ 4 (.int .i64 ((256 / b : Nat) : Int)) (fun a X e => execQuoD (p := 256) (q := b) rfl rfl (e _) (by omega) (by omega)) (dw_ 5 (.bool (decide ((p i) / b < 256 / b))) (fun a X e => execLtW (p := (p i) / b) (q := 256 / b) rfl (e _) (e _)) (dz_ [(35, .bool (decide ((p i) / b < 256 / b)))] (h4_ t0 t1 t2 t9) ?_)))
  rintro a A ⟨t35, -⟩ ⟨t0, t1, t2, t9, -⟩
  replace BB := BB.trans (bD.mono BB.size)
  clear bD
  by_cases hq : p i / b < 256 / b
  ·rw [decide_eq_true hq] at t35
   refine wp_cond_true t35 ?_
   clear t35
   rw [if_pos hq] at hstep
   refine wp_seq ?_
   refine wi_ A (h4_ t0 t1 t2 t9) (rv_ 2 (.int .i64 (((p i) % b : Nat) : Int)) (fun a e => Aes.execRemI (p := p i) (q := b) rfl (e _) (e _) (by omega)) (rv_ 4 (.int .i64 ((i + 1 : Nat) : Int)) (fun a e => execAd8 (p := i) (q := 1) rfl (e _) rfl (by omega)) (rg_ [(6, .int .i64 (((p i) % b : Nat) : Int)), (7, .int .i64 ((i + 1 : Nat) : Int)), (8, .int .i64 ((0 : Nat) : Int))] ?_)))
   rintro a A ⟨t6, t7, t8, -⟩
   have hS : dS p l at' (b : Int) = i := by show scan p (b : Int).toNat (l - at') at' = i; rw [Int.toNat_natCast, ← hsc, hstep]
   have hE : dE p l at' (b : Int) = 0 := by unfold dE; rw [if_neg (by omega), if_neg (by omega), hS, if_pos hlt]
   have hV : dV p l at' (b : Int) = p i % b := by unfold dV; rw [if_pos ⟨hE, by omega⟩, hS, Int.toNat_natCast]
   have hN : dN p l at' (b : Int) = i + 1 := by unfold dN; rw [if_pos hE, if_neg (by omega), hS]
   rw [hE, hV, hN]
   refine wp_ret ?_
   repeat (first | with_reducible refine ret_in ?_ | with_reducible refine ret_then ?_)
   refine bodyPost_ret (results_tmp3 rfl _ _ _) A.2 ⟨?_, BB⟩
   show Ending.returned (.tuple #[a.eval (.tmp 6), a.eval (.tmp 7), a.eval (.tmp 8)]) = _
   rw [t6, t7, t8]
  ·rw [decide_eq_false hq] at t35
   refine wp_cond_false t35 (wp_skip ?_)
   clear t35
   rw [if_neg hq] at hstep
   refine wi_ A (h4_ t0 t1 t2 t9) (rv_ 1 (.int .i64 ((i + 1 : Nat) : Int)) (fun a e => execAd8 (p := i) (q := 1) rfl (e _) rfl (by omega)) (rf_ [(1, .int .i64 ((i + 1 : Nat) : Int))] (h2_ t0 t2) ?_))
   rintro a A ⟨t1, -⟩ ⟨t0, t2, -⟩
   exact ⟨⟨i + 1, by omega, hlt, by rw [← hstep, hsc], A, t0, t1, t2, BB⟩, by show l - (intOf (a.eval (.tmp 1))).toNat < l - (intOf (Act.eval _ (.tmp 1))).toNat; rw [t1, e1]; show l - (i + 1) < l - i; omega⟩
 ·rw [decide_eq_false hlt] at t22
  refine wp_cond_false t22 ?_
  refine wp_exit ?_
  first | with_reducible refine exit_in ?_ | with_reducible refine exit_then (exit_in ?_) | with_reducible refine exit_then (exit_then (exit_in ?_)) | refine exit_in ?_ | refine exit_then (exit_in ?_) | refine exit_then (exit_then (exit_in ?_))
  clear t22
  have hS : dS p l at' (b : Int) = l := by
   show scan p (b : Int).toNat (l - at') at' = l
   rw [Int.toNat_natCast, ← hsc, show l - i = 0 by omega]
   show i = l
   omega
  have hE : dE p l at' (b : Int) = 3 := by unfold dE; rw [if_neg (by omega), if_neg (by omega), hS, if_neg (Nat.lt_irrefl _)]
  have hV : dV p l at' (b : Int) = 0 := by unfold dV; rw [if_neg (fun q => by rw [hE] at q; omega)]
  have hN : dN p l at' (b : Int) = 0 := by unfold dN; rw [if_neg (by rw [hE]; decide)]
  rw [hE, hV, hN]
  refine wp_seq ?_
  refine wi_ A (h3_ t0 t1 t2) (rg_ [(6, .int .i64 ((0 : Nat) : Int)), (7, .int .i64 ((0 : Nat) : Int)), (8, .int .i64 ((3 : Nat) : Int))] ?_)
  rintro a A ⟨t6, t7, t8, -⟩
  refine wp_ret ?_
  refine bodyPost_ret (results_tmp3 rfl _ _ _) A.2 ⟨?_, BB⟩
  show Ending.returned (.tuple #[a.eval (.tmp 6), a.eval (.tmp 7), a.eval (.tmp 8)]) = _
  rw [t6, t7, t8]
set_option maxRecDepth 20000 in
theorem rbelow_any (p : Nat → Nat) (l at' : Nat) (b : Int) (v : Value) (V : World) (hv : SliceN V v l p) (hl : l ≤ 140737488351232) (hat : at' ≤ l) :
  Calls Try.prog 58 #[v, .int .i64 ((at' : Nat) : Int), .int .i64 b] V fun e w' => e = .returned (.tuple #[.int .i64 ((dV p l at' b : Nat) : Int), .int .i64 ((dN p l at' b : Nat) : Int), .int .i64 ((dE p l at' b : Nat) : Int)]) ∧ Below V.heap.size V w' := by
 by_cases h1 : b < 1
 ·have hE : dE p l at' b = 2 := if_pos (Or.inl h1)
  have hV : dV p l at' b = 0 := by unfold dV; rw [if_neg (fun q => by rw [hE] at q; omega)]
  have hN : dN p l at' b = 0 := by unfold dN; rw [if_neg (by rw [hE]; decide)]
  rw [hE, hV, hN]
  clear hE hV hN hv hl hat
  go_enter Try.func58, Try.ntmps58
  go_wp2
  refine bodyPost_ret (results_tmp3 rfl _ _ _) rfl ⟨rfl, Below.refl _ _⟩
 ·by_cases h2 : 256 < b
  ·have hE : dE p l at' b = 2 := if_pos (Or.inr h2)
   have hV : dV p l at' b = 0 := by unfold dV; rw [if_neg (fun q => by rw [hE] at q; omega)]
   have hN : dN p l at' b = 0 := by unfold dN; rw [if_neg (by rw [hE]; decide)]
   rw [hE, hV, hN]
   have i2 : b > 256 := h2
   clear hE hV hN hv hl hat h2
   go_enter Try.func58, Try.ntmps58
   go_wp2
   refine bodyPost_ret (results_tmp3 rfl _ _ _) rfl ⟨rfl, Below.refl _ _⟩
  ·by_cases h3 : b = 1
   ·subst h3
    have hE : dE p l at' 1 = 0 := by unfold dE; rw [if_neg (by omega), if_pos rfl]
    have hV : dV p l at' 1 = 0 := by unfold dV; rw [if_neg (fun q => q.2 rfl)]
    have hN : dN p l at' 1 = at' := by unfold dN; rw [if_pos hE, if_pos rfl]
    rw [hE, hV, hN]
    clear hE hV hN hv hl hat h1 h2
    go_enter Try.func58, Try.ntmps58
    go_wp2
    refine bodyPost_ret (results_tmp3 rfl _ _ _) rfl ⟨rfl, Below.refl _ _⟩
   ·obtain ⟨c, rfl⟩ : ∃ c : Nat, b = c := ⟨b.toNat, by omega⟩
    exact rbelow_ok p l at' c v V hv hl hat (by omega) (by omega)
end Go.Proofs.Ytmjpneaccjlpkaa.Drw
