import Derived.Test.YtmjpneaccjlpkaaF9b
import Derived.Test.YtmjpneaccjlpkaaF9a
import Derived.Test.YtmjpneaccjlpkaaQ9k
namespace Go.Proofs.Ytmjpneaccjlpkaa.Brd
open Go.RowKit Gf8 Aes By8 Cel Cf Tap Drw Prm
/- Package braid as it landed: begin, told, visit. Written by tools/mkQ9l.py. -/
def rsC (l x : Value) : Array Value := #[l, x]
def x2 (l x : Value) (t : Nat) : Value := if t = 0 then l else x
def ffB (sf : Nat → Int) (t j : Nat) : Int := if t = 0 then (gN sf j : Int) else (sumN (gN sf) j : Int)
theorem size_rs (l x : Value) : (Try.prog.info? 114).map (·.size) = some (rsC l x).size := by
 show _ = some 2
 kernel_rfl
theorem rs_one {l x : Value} (hl : ∃ g n c, l = .slice g n c) (hx : ∃ g n c, x = .slice g n c) : (rsC l x).all (·.oneCell') = true := by
 obtain ⟨_, _, _, rfl⟩ := hl
 obtain ⟨_, _, _, rfl⟩ := hx
 simp [rsC, Value.oneCell']
theorem rs_at0 {W : World} {g : Nat} {l x : Value} {t : TypeId} (h : W.heap[g]? = some (.cells (rsC l x) t)) : W.cell? ⟨g, 0, none⟩ = some l := by rw [cell_of_row _ _ _ _ _ _ h]; rfl
theorem rs_at1 {W : World} {g : Nat} {l x : Value} {t : TypeId} (h : W.heap[g]? = some (.cells (rsC l x) t)) : W.cell? ⟨g, 1, none⟩ = some x := by rw [cell_of_row _ _ _ _ _ _ h]; rfl
section
variable {o : Oper} {a : Act} {w : World}
theorem execAllRs (ho : o.op = .alloc 114) : (execOp a.eval o).run Try.prog w = .ok (.value (.pointer (some ⟨w.heap.size, 0, none⟩))) (w.alloc (.cells (rsC (.slice none 0 0) (.slice none 0 0)) 114)) := by
 unfold execOp rsC
 simp only [ho]
 simp [go_sem]
theorem execBoxRs {x : Operand} {l y : Value} (ho : o.op = .box 114 x) (hx : a.eval x = .agg (rsC l y)) : (execOp a.eval o).run Try.prog w = .ok (.value (.pointer (some ⟨w.heap.size, 0, none⟩))) (w.alloc (.cells (rsC l y) 114)) := by
 unfold execOp
 simp only [ho, hx]
 simp [go_sem, rsC]
theorem execFldRs0 {x : Operand} {b : Nat} (ho : o.op = .fieldAddr 114 x 0) (hx : a.eval x = .pointer (some ⟨b, 0, none⟩)) : (execOp a.eval o).run Try.prog w = .ok (.value (.pointer (some ⟨b, 0, none⟩))) w := by
 unfold execOp
 simp only [ho, hx]
 simp [go_sem]
theorem execFldRs1 {x : Operand} {b : Nat} (ho : o.op = .fieldAddr 114 x 1) (hx : a.eval x = .pointer (some ⟨b, 0, none⟩)) : (execOp a.eval o).run Try.prog w = .ok (.value (.pointer (some ⟨b, 1, none⟩))) w := by
 unfold execOp
 simp only [ho, hx]
 simp [go_sem]
theorem execBdRs {x y : Operand} {l z : Value} (ho : o.op = .build 114 #[(0, x), (1, y)]) (hx : a.eval x = l) (hy : a.eval y = z) (hl : ∃ g n c, l = .slice g n c) (hz : ∃ g n c, z = .slice g n c) : (execOp a.eval o).run Try.prog w = .ok (.value (.agg (rsC l z))) w := by
 obtain ⟨_, _, _, rfl⟩ := hl
 obtain ⟨_, _, _, rfl⟩ := hz
 unfold execOp
 simp only [ho, List.map_toArray, List.map_cons, List.map_nil, hx, hy]
 simp [go_sem, rsC]
theorem execStRs {x y : Operand} {g : Nat} {l z : Value} {cur : Array Value} {t : TypeId} (ho : o.op = .store 114 x y) (hx : a.eval x = .pointer (some ⟨g, 0, none⟩)) (hy : a.eval y = .agg (rsC l z)) (hg : w.heap[g]? = some (.cells cur t)) (hl : ∃ g n c, l = .slice g n c) (hz : ∃ g n c, z = .slice g n c) (hs : cur.size = 2 := by rfl) :
  (execOp a.eval o).run Try.prog w = .ok .skip (w.setRow g (rsC l z)) := by
 have h := execStMid (P := Try.prog) ho hx hy hg (by rw [hs]; exact Nat.le_refl _) (size_rs _ _) (rs_one hl hz)
 have e : (cur.toList.take 0 ++ (rsC l z).toList ++ cur.toList.drop (0 + (rsC l z).size)).toArray = rsC l z := by
  rw [List.take_zero, List.nil_append, Nat.zero_add, List.drop_of_length_le (by rw [Array.length_toList, hs]; exact Nat.le_refl _), List.append_nil]
 rw [e] at h
 exact h
theorem execLdRs {x : Operand} {g : Nat} {l z : Value} {t : TypeId} {fr : Nat × Nat} (ho : o.op = .load 114 x) (hx : a.eval x = .pointer (some ⟨g, 0, none⟩)) (hg : w.heap[g]? = some (.cells (rsC l z) t fr)) :
  (execOp a.eval o).run Try.prog w = .ok (.value (.agg (rsC l z))) w := by
 have h := execLoadMid (P := Try.prog) (w := w) (cs := (rsC l z).toList) ho hx (fun j v hj => by rw [cell_of_row _ _ _ _ _ _ hg, Nat.zero_add, ← Array.getElem?_toList]; exact hj) Try.underlying114 rfl (size_rs _ _)
 exact h
end
set_option maxRecDepth 100000 in
set_option maxHeartbeats 4000000 in
theorem ptold (r : Nat → Nat) (J d : Nat) (l x : Value) (V : World) (hl : SliceI V l J (fun j => (r j : Int))) (hd : d < sumN r J) (hb : sumN r J ≤ 1000000) (hJ64 : J ≤ 64) :
  Calls Try.prog 73 #[.agg (rsC l x), .int .i64 ((d : Nat) : Int)] V fun e w' => e = .returned (.tuple #[.int .i64 ((pj r d J : Nat) : Int), .int .i64 ((d - sumN r (pj r d J) : Nat) : Int)]) ∧ Below V.heap.size V w' := by
 have hJ : 0 < J := by
  rcases Nat.eq_zero_or_pos J with q | q
  ·subst q; exact absurd hd (Nat.not_lt_zero _)
  ·exact q
 obtain ⟨la, lc, rfl, -, -, hsh⟩ := id hl.shape
 obtain ⟨lb, lo, rfl, hlb, hcell⟩ := hsh hJ
 have cR : ∀ j, j < J → ∀ X, Below V.heap.size V X → X.cell? ⟨lb, lo + j, none⟩ = some (.int .i64 ((r j : Nat) : Int)) := fun j hj X hX => by rw [cell_below hX hlb]; exact hcell j hj
 go_enter Try.func73, Try.ntmps73
 refine wp_open (fun a => (a.tmps.size = 24 ∧ a.defers = []) ∧ a.eval (.tmp 0) = .agg (rsC (.slice (some ⟨lb, lo, none⟩) J lc) x) ∧ a.eval (.tmp 1) = .int .i64 ((d : Nat) : Int)) ⟨⟨rfl, rfl⟩, rfl, rfl⟩ ?_
 rintro a ⟨A, t0, t1⟩
 have BB : Below V.heap.size V V := Below.refl _ _
 refine wp_seq ?_
 obtain ⟨g2, egg2⟩ : ∃ z_ : Nat, V.heap.size = z_ := ⟨_, rfl⟩
 refine wi_ A (h2_ t0 t1) (rs_ 0 (fun a e => ?_))
 refine stepV rfl rfl (execBoxRs rfl (e _)) ⟨.pointer (some ⟨g2, 0, none⟩), ⟨_, rfl, by subst egg2; rfl⟩, fun X0 hX => ?_⟩
 have bQ : Below V.heap.size V X0 := by subst hX egg2; exact (belNew V _)
 have F2 : (X0.heap[g2]? = some (.cells (rsC (.slice (some ⟨lb, lo, none⟩) J lc) (x)) 114)) := by subst hX egg2; exact heapNew V _
 replace BB := BB.trans (bQ.mono BB.size)
 clear bQ hX egg2 e a
 refine rf_ [(2, .pointer (some ⟨g2, 0, none⟩)), (4, .int .i64 ((0 : Nat) : Int))] (h1_ t1) ?_
 rintro a A ⟨t2, t4, -⟩ ⟨t1, -⟩
 obtain ⟨hP1, hP2, hP3⟩ := pj_lt hd
 refine wp_seq (wp_block ?_)
 refine wp_loop (fun a W => ∃ j : Nat, j ≤ pj r d J ∧ (a.tmps.size = 24 ∧ a.defers = []) ∧ a.eval (.tmp 1) = .int .i64 ((d - sumN r j : Nat) : Int) ∧ a.eval (.tmp 2) = .pointer (some ⟨g2, 0, none⟩) ∧ a.eval (.tmp 4) = .int .i64 ((j : Nat) : Int) ∧ Below V.heap.size V W ∧ (W.heap[g2]? = some (.cells (rsC (.slice (some ⟨lb, lo, none⟩) J lc) (x)) 114))) (fun a _ => pj r d J - (intOf (a.eval (.tmp 4))).toNat) ⟨0, Nat.zero_le _, A, t1, t2, t4, BB, F2⟩ ?_
 rintro a XL ⟨j, hj, A, t1, t2, t4, BB, F2⟩
 have es := t4
 refine wp_seq (wp_seq ?_)
 have hjJ : j < J := by omega
 by_cases hlt : j < pj r d J
 ·have hm := sumN_at (r := r) hlt
  refine wi_ A (h3_ t1 t2 t4) (rv_ 1 (.pointer (some ⟨g2, 0, none⟩)) (fun a e => execFldRs0 rfl (e _)) (rv_ 2 (.slice (some ⟨lb, lo, none⟩) J lc) (fun a e => execLdLI (v := .slice (some ⟨lb, lo, none⟩) J lc) rfl (e _) (rs_at0 F2)) (rv_ 4 (.pointer (some ⟨lb, lo + j, none⟩)) (fun a e => execIdxN (k := j) rfl (e _) (e _) hjJ) (rv_ 5 (.int .i64 ((r j : Nat) : Int)) (fun a e => execLd3 rfl (e _) (cR j hjJ XL BB)) (rv_ 6 (.bool true) (fun a e => execDec (execGe8 (p := d - sumN r j) (q := r j) rfl (e _) (e _)) (decide_eq_true (by omega))) (rf_ [(12, .bool true)] (h3_ t1 t2 t4) ?_))))))
  rintro a A ⟨t12, -⟩ ⟨t1, t2, t4, -⟩
  refine wp_cond_true t12 (wp_skip ?_)
  clear t12
  refine wp_block ?_
  refine wp_seq ?_
  refine wi_ A (h3_ t1 t2 t4) (rv_ 1 (.pointer (some ⟨g2, 0, none⟩)) (fun a e => execFldRs0 rfl (e _)) (rv_ 2 (.slice (some ⟨lb, lo, none⟩) J lc) (fun a e => execLdLI (v := .slice (some ⟨lb, lo, none⟩) J lc) rfl (e _) (rs_at0 F2)) (rv_ 4 (.pointer (some ⟨lb, lo + j, none⟩)) (fun a e => execIdxN (k := j) rfl (e _) (e _) hjJ) (rv_ 5 (.int .i64 ((r j : Nat) : Int)) (fun a e => execLd3 rfl (e _) (cR j hjJ XL BB)) (rv_ 6 (.int .i64 ((d - sumN r j - (r j) : Nat) : Int)) (fun a e => By8.execSubI (p := d - sumN r j) (q := r j) rfl (e _) (e _) (by omega) (by omega)) (rf_ [(1, .int .i64 ((d - sumN r j - (r j) : Nat) : Int))] (h2_ t2 t4) ?_))))))
  rintro a A ⟨t1, -⟩ ⟨t2, t4, -⟩
  refine wi_ A (h3_ t1 t2 t4) (rv_ 1 (.int .i64 ((j + 1 : Nat) : Int)) (fun a e => execAd8 (p := j) (q := 1) rfl (e _) rfl (by omega)) (rf_ [(4, .int .i64 ((j + 1 : Nat) : Int))] (h2_ t1 t2) ?_))
  rintro a A ⟨t4, -⟩ ⟨t1, t2, -⟩
  have e1 : d - sumN r j - r j = d - sumN r (j + 1) := by show _ = d - (sumN r j + r j); omega
  rw [e1] at t1
  refine ⟨⟨j + 1, by omega, A, t1, t2, t4, BB, F2⟩, ?_⟩
  show pj r d J - (intOf (a.eval (.tmp 4))).toNat < pj r d J - (intOf (Act.eval _ (.tmp 4))).toNat
  rw [t4, es]
  show pj r d J - (j + 1) < pj r d J - j
  omega
 ·have hjP : pj r d J = j := by omega
  rw [hjP] at hP2 hP3
  refine wi_ A (h3_ t1 t2 t4) (rv_ 1 (.pointer (some ⟨g2, 0, none⟩)) (fun a e => execFldRs0 rfl (e _)) (rv_ 2 (.slice (some ⟨lb, lo, none⟩) J lc) (fun a e => execLdLI (v := .slice (some ⟨lb, lo, none⟩) J lc) rfl (e _) (rs_at0 F2)) (rv_ 4 (.pointer (some ⟨lb, lo + j, none⟩)) (fun a e => execIdxN (k := j) rfl (e _) (e _) hjJ) (rv_ 5 (.int .i64 ((r j : Nat) : Int)) (fun a e => execLd3 rfl (e _) (cR j hjJ XL BB)) (rv_ 6 (.bool false) (fun a e => execDec (execGe8 (p := d - sumN r j) (q := r j) rfl (e _) (e _)) (decide_eq_false (by omega))) (rf_ [(12, .bool false)] (h3_ t1 t2 t4) ?_))))))
  rintro a A ⟨t12, -⟩ ⟨t1, t2, t4, -⟩
  refine wp_cond_false t12 ?_
  refine wp_exit ?_
  first | with_reducible refine exit_in ?_ | with_reducible refine exit_then (exit_in ?_) | with_reducible refine exit_then (exit_then (exit_in ?_)) | refine exit_in ?_ | refine exit_then (exit_in ?_) | refine exit_then (exit_then (exit_in ?_))
  clear t12 es t2 F2
  obtain rfl : j = pj r d J := by omega
  refine wp_seq ?_
  refine wi_ A (h2_ t1 t4) (rg_ [(4, .int .i64 ((pj r d J : Nat) : Int)), (5, .int .i64 ((d - sumN r (pj r d J) : Nat) : Int))] ?_)
  rintro a A ⟨t4, t5, -⟩
  refine wp_ret ?_
  refine bodyPost_ret (results_tmp2 rfl _ _ _) A.2 ⟨?_, BB⟩
  show Ending.returned (.tuple #[a.eval (.tmp 4), a.eval (.tmp 5)]) = _
  rw [t4, t5]
set_option maxRecDepth 100000 in
set_option maxHeartbeats 4000000 in
theorem pvisit (U V : World) (k t u j p q : Nat) (x : Nat → Value) (nn : Nat → Nat) (ff : Nat → Nat → Int) (BB : Below U.heap.size U V) (FM : FmI U.heap.size k x nn ff V) (ht : t < k) (hu : u < k) (htu : t ≠ u) (hjt : j < nn t) (hju : j < nn u) (hp : ff u j = (p : Int)) (hq : ff t j = (q : Int)) (hp1 : p ≤ 1000000) (hq1 : 1 ≤ q) (hq2 : q ≤ 1000000) :
  Calls Try.prog 74 #[.agg (rsC (x t) (x u)), .int .i64 ((j : Nat) : Int)] V fun e w' => e = .returned (.int .i64 ((p : Nat) : Int)) ∧ FmI U.heap.size k x nn (updF (updF ff u j ((p + 1 : Nat) : Int)) t j ((q - 1 : Nat) : Int)) w' ∧ Saved (fun b => (x t).ownBlock = some b ∨ (x u).ownBlock = some b) V w' ∧ Below U.heap.size U w' := by
 obtain ⟨gt, ct, et, hBt, hgt⟩ := ownL_some9 (FM.rows t ht) (by omega)
 obtain ⟨gu, cu, eu, hBu, hgu⟩ := ownL_some9 (FM.rows u hu) (by omega)
 go_enter Try.func74, Try.ntmps74
 refine wp_open (fun a => (a.tmps.size = 26 ∧ a.defers = []) ∧ a.eval (.tmp 0) = .agg (rsC (x t) (x u)) ∧ a.eval (.tmp 1) = .int .i64 ((j : Nat) : Int)) ⟨⟨rfl, rfl⟩, rfl, rfl⟩ ?_
 rintro a ⟨A, t0, t1⟩
 have FXs : Saved (fun b => (x t).ownBlock = some b ∨ (x u).ownBlock = some b) V V := Saved.refl _ _
 refine wp_seq ?_
 obtain ⟨g2, egg2⟩ : ∃ z_ : Nat, V.heap.size = z_ := ⟨_, rfl⟩
 refine wi_ A (h2_ t0 t1) (rs_ 0 (fun a e => ?_))
 refine stepV rfl rfl (execBoxRs rfl (e _)) ⟨.pointer (some ⟨g2, 0, none⟩), ⟨_, rfl, by subst egg2; rfl⟩, fun X0 hX => ?_⟩
 have bQ : Below V.heap.size V X0 := by subst hX egg2; exact (belNew V _)
 have F2 : (X0.heap[g2]? = some (.cells (rsC (x t) (x u)) 114)) := by subst hX egg2; exact heapNew V _
 have Fn : (g2 ≠ gt ∧ g2 ≠ gu) := by subst hX egg2; exact ⟨fun q => by have := (FM.rows t ht).lt gt (by rw [et]; rfl); omega, fun q => by have := (FM.rows u hu).lt gu (by rw [eu]; rfl); omega⟩
 replace FM := (FM.on bQ)
 replace FXs := (FXs.below bQ FXs.size)
 replace BB := BB.trans (bQ.mono BB.size)
 clear bQ hX egg2 e a
 refine rf_ [(2, .pointer (some ⟨g2, 0, none⟩)), (4, .int .i64 ((0 : Nat) : Int))] (h1_ t1) ?_
 rintro a A ⟨t2, t4, -⟩ ⟨t1, -⟩
 refine wp_seq ?_
 refine wi_ A (h3_ t1 t2 t4) (rv_ 0 (.pointer (some ⟨g2, 1, none⟩)) (fun a e => execFldRs1 rfl (e _)) (rv_ 1 (x u) (fun a e => execLdLI (v := x u) rfl (e _) (rs_at1 F2)) (rv_ 3 (.pointer (some ⟨gu, 0 + j, none⟩)) (fun a e => execIdxN (k := j) rfl ((e _).trans eu) (e _) hju) (rv_ 4 (.int .i64 ((p : Nat) : Int)) (fun a e => execLd3 rfl (e _) ((FM.cell hu eu hju).1.trans (by rw [hp]))) (rf_ [(5, .int .i64 ((p : Nat) : Int))] (h2_ t1 t2) ?_)))))
 rintro a A ⟨t5, -⟩ ⟨t1, t2, -⟩
 refine wp_seq ?_
 refine wi_ A (h3_ t1 t2 t5) (rv_ 0 (.pointer (some ⟨g2, 1, none⟩)) (fun a e => execFldRs1 rfl (e _)) (rv_ 1 (x u) (fun a e => execLdLI (v := x u) rfl (e _) (rs_at1 F2)) (rv_ 3 (.pointer (some ⟨gu, 0 + j, none⟩)) (fun a e => execIdxN (k := j) rfl ((e _).trans eu) (e _) hju) (rv_ 4 (.int .i64 ((p : Nat) : Int)) (fun a e => execLd3 rfl (e _) ((FM.cell hu eu hju).1.trans (by rw [hp]))) (rv_ 5 (.int .i64 ((p + 1 : Nat) : Int)) (fun a e => execAd8 (p := p) (q := 1) rfl (e _) rfl (by omega)) (rv_ 6 (.pointer (some ⟨gu, 0 + j, none⟩)) (fun a e => execIdxN (k := j) rfl ((e _).trans eu) (e _) hju) (rs_ 7 (fun a e => ?_))))))))
 obtain ⟨hc_, hf_⟩ := FM.cell hu eu hju
 refine stepS rfl rfl (execStI9 rfl (e _) (e _) hc_ hf_) ⟨_, ⟨_, rfl, rfl⟩, fun X2 hX => ?_⟩
 obtain ⟨BB, FXs, F2, FM1⟩ : Below U.heap.size U X2 ∧ (Saved (fun b => (x t).ownBlock = some b ∨ (x u).ownBlock = some b) V X2) ∧ (X2.heap[g2]? = some (.cells (rsC (x t) (x u)) 114)) ∧ (FmI U.heap.size k x nn (updF ff u j ((p + 1 : Nat) : Int)) X2) := by subst hX; exact ⟨(BB).setCell hBu _, (FXs.cell _ (Or.inr (Or.inr (by rw [eu]; rfl)))), ((Below.heap_setCell _ _ _ _ Fn.2).trans F2), FM.set hu eu _⟩
 clear FM hX e a
 refine rf_ [] (h3_ t1 t2 t5) ?_
 rintro a A - ⟨t1, t2, t5, -⟩
 refine wp_seq ?_
 refine wi_ A (h3_ t1 t2 t5) (rv_ 0 (.pointer (some ⟨g2, 0, none⟩)) (fun a e => execFldRs0 rfl (e _)) (rv_ 1 (x t) (fun a e => execLdLI (v := x t) rfl (e _) (rs_at0 F2)) (rv_ 3 (.pointer (some ⟨gt, 0 + j, none⟩)) (fun a e => execIdxN (k := j) rfl ((e _).trans et) (e _) hjt) (rv_ 4 (.int .i64 ((q : Nat) : Int)) (fun a e => execLd3 rfl (e _) ((FM1.cell ht et hjt).1.trans (by rw [updF_o htu, hq]))) (rv_ 5 (.int .i64 ((q - 1 : Nat) : Int)) (fun a e => By8.execSubI (p := q) (q := 1) rfl (e _) rfl (by omega) (by omega)) (rv_ 6 (.pointer (some ⟨gt, 0 + j, none⟩)) (fun a e => execIdxN (k := j) rfl ((e _).trans et) (e _) hjt) (rs_ 7 (fun a e => ?_))))))))
 obtain ⟨hc_, hf_⟩ := FM1.cell ht et hjt
 refine stepS rfl rfl (execStI9 rfl (e _) (e _) hc_ hf_) ⟨_, ⟨_, rfl, rfl⟩, fun X3 hX => ?_⟩
 obtain ⟨BB, FXs, F2, FM2⟩ : Below U.heap.size U X3 ∧ (Saved (fun b => (x t).ownBlock = some b ∨ (x u).ownBlock = some b) V X3) ∧ (X3.heap[g2]? = some (.cells (rsC (x t) (x u)) 114)) ∧ (FmI U.heap.size k x nn (updF (updF ff u j ((p + 1 : Nat) : Int)) t j ((q - 1 : Nat) : Int)) X3) := by subst hX; exact ⟨(BB).setCell hBt _, (FXs.cell _ (Or.inr (Or.inl (by rw [et]; rfl)))), ((Below.heap_setCell _ _ _ _ Fn.1).trans F2), FM1.set ht et _⟩
 clear FM1 hX e a
 refine rf_ [] (h1_ t5) ?_
 rintro a A - ⟨t5, -⟩
 clear F2
 refine wp_seq ?_
 refine wi_ A (h1_ t5) (rg_ [(4, .int .i64 ((p : Nat) : Int))] ?_)
 rintro a A ⟨t4, -⟩
 refine wp_ret ?_
 refine bodyPost_ret (results_tmp rfl _ _ _) A.2 ⟨?_, FM2, FXs, BB⟩
 show Ending.returned (a.eval (.tmp 4)) = _
 rw [t4]
set_option maxRecDepth 100000 in
set_option maxHeartbeats 4000000 in
theorem pbegin (sf : Nat → Int) (J : Nat) (v : Value) (V : World) (hv : SliceI V v J sf) (hJ : J ≤ 64) (hok : okS sf J = true) :
  Calls Try.prog 72 #[v] V fun e w' => ∃ l x, e = .returned (.agg (rsC l x)) ∧ FmI V.heap.size 2 (x2 l x) (fun _ => J) (ffB sf) w' ∧ Below V.heap.size V w' := by
 obtain ⟨ia, ic, rfl, hic, -, hsh⟩ := id hv.shape
 have FI := hv
 go_enter Try.func72, Try.ntmps72
 refine wp_open (fun a => (a.tmps.size = 25 ∧ a.defers = []) ∧ a.eval (.tmp 0) = .slice ia J ic) ⟨⟨rfl, rfl⟩, rfl⟩ ?_
 rintro a ⟨A, t0⟩
 have BB : Below V.heap.size V V := Below.refl _ _
 refine wp_seq ?_
 obtain ⟨g2, egg2⟩ : ∃ z_ : Nat, V.heap.size = z_ := ⟨_, rfl⟩
 refine wi_ A (h1_ t0) (rs_ 0 (fun a e => ?_))
 refine stepV rfl rfl (execAllRs rfl) ⟨.pointer (some ⟨g2, 0, none⟩), ⟨_, rfl, by subst egg2; rfl⟩, fun X0 hX => ?_⟩
 have bQ : Below V.heap.size V X0 := by subst hX egg2; exact (belNew V _)
 have F2 : (X0.heap[g2]? = some (.cells (rsC (.slice none 0 0) (.slice none 0 0)) 114)) := by subst hX egg2; exact heapNew V _
 have F2g : (V.heap.size ≤ g2) := by subst hX egg2; exact (BB).size
 replace BB := BB.trans (bQ.mono BB.size)
 clear bQ hX egg2 e a
 refine rf_ [(2, .pointer (some ⟨g2, 0, none⟩))] (h1_ t0) ?_
 rintro a A ⟨t2, -⟩ ⟨t0, -⟩
 refine wp_seq ?_
 obtain ⟨g3, egg3⟩ : ∃ z_ : Nat, X0.heap.size = z_ := ⟨_, rfl⟩
 refine wi_ A (h2_ t0 t2) (rv_ 1 (.int .i64 ((J : Nat) : Int)) (fun a e => execLenI (len := J) rfl (e _) ((FI.on BB)).shp) (rs_ 2 (fun a e => ?_)))
 refine stepV rfl rfl (execMkN rfl (e _) (e _) (by omega)) ⟨.slice (some ⟨g3, 0, none⟩) J J, ⟨_, rfl, by subst egg3; rfl⟩, fun X1 hX => ?_⟩
 have bQ : Below X0.heap.size X0 X1 := by subst hX egg3; exact (belNew X0 _)
 have FO : (X1.ownsRow V.heap.size 3 1 (.slice (some ⟨g3, 0, none⟩) J J) (J) (intsL (J) (fun j => if j < 0 then (sumN (gN sf) j : Int) else 0))) := by subst hX egg3; exact ownD_base (own_mkZ X0 J _ (by omega) (fun j_ _ => if_neg (Nat.not_lt_zero _))) (BB).size
 have Fg3 : (V.heap.size ≤ g3) := by subst hX egg3; exact (BB).size
 have Fne : (g2 ≠ g3) := by subst hX egg3; exact ne9 F2
 replace F2 := (on9 F2 bQ)
 replace BB := BB.trans (bQ.mono BB.size)
 clear bQ hX egg3 e a
 refine rf_ [(3, .slice (some ⟨g3, 0, none⟩) J J)] (h2_ t0 t2) ?_
 rintro a A ⟨t3, -⟩ ⟨t0, t2, -⟩
 refine wp_seq (wp_seq ?_)
 refine wi_ A (h3_ t0 t2 t3) (rv_ 1 (.int .i64 ((J : Nat) : Int)) (fun a e => execLenI (len := J) rfl (e _) ⟨_, _, rfl⟩) (rf_ [(8, .slice (some ⟨g3, 0, none⟩) J J), (9, .int .i64 ((J : Nat) : Int)), (10, .int .i64 ((0 : Nat) : Int))] (h3_ t0 t2 t3) ?_))
 rintro a A ⟨t8, t9, t10, -⟩ ⟨t0, t2, t3, -⟩
 clear t8
 refine wp_block ?_
 refine wp_loop (fun a W => ∃ (i : Nat), i ≤ J ∧ (a.tmps.size = 25 ∧ a.defers = []) ∧ a.eval (.tmp 0) = .slice ia J ic ∧ a.eval (.tmp 2) = .pointer (some ⟨g2, 0, none⟩) ∧ a.eval (.tmp 3) = .slice (some ⟨g3, 0, none⟩) J J ∧ a.eval (.tmp 9) = .int .i64 ((J : Nat) : Int) ∧ a.eval (.tmp 10) = .int .i64 ((i : Nat) : Int) ∧ Below V.heap.size V W ∧ (W.heap[g2]? = some (.cells (rsC (.slice none 0 0) (.slice none 0 0)) 114)) ∧ (W.ownsRow V.heap.size 3 1 (.slice (some ⟨g3, 0, none⟩) J J) (J) (intsL (J) (fun j => if j < i then (sumN (gN sf) j : Int) else 0)))) (fun a _ => J - (intOf (a.eval (.tmp 10))).toNat) ⟨0, Nat.zero_le _, A, t0, t2, t3, t9, t10, BB, F2, FO⟩ ?_
 rintro a XL3 ⟨i, hi, A, t0, t2, t3, t9, t10, BB, F2, FO⟩
 have esi := t10
 refine wp_seq ?_
 refine wi_ A (h5_ t0 t2 t3 t9 t10) (rv_ 0 (.bool (decide (i < J))) (fun a e => execLtW (p := i) (q := J) rfl (e _) (e _)) (rf_ [(11, .bool (decide (i < J)))] (h5_ t0 t2 t3 t9 t10) ?_))
 rintro a A ⟨t11, -⟩ ⟨t0, t2, t3, t9, t10, -⟩
 refine wp_seq ?_
 by_cases lti : i < J
 ·rw [decide_eq_true lti] at t11
  refine wp_cond_true t11 (wp_skip ?_)
  clear t11
  refine wp_seq (wp_block ?_)
  have cS : ∀ X, Below V.heap.size V X → Calls Try.prog 70 #[sliced ia 0 i ic 1] X fun e w' => e = .returned (.int .i64 ((sumN (gN sf) i : Nat) : Int)) ∧ Below X.heap.size X w' := fun X hX => by
   have h_ := SliceI.sub (FI.on hX) 0 i (Nat.zero_le _) (by omega)
   rw [Nat.sub_zero] at h_
   have hb_ := sumN_mono (r := gN sf) (show i ≤ J by omega)
   exact psum sf i _ X (h_.cg fun j _ => by rw [Nat.zero_add]) (by omega) (fun j hj => (okS_iff.1 hok j (by omega)).1) (by have := okS_sum hok; omega)
  refine wp_seq ?_
  refine wi_ A (h5_ t0 t2 t3 t9 t10) (rf_ [(4, .int .i64 ((i : Nat) : Int))] (h5_ t0 t2 t3 t9 t10) ?_)
  rintro a A ⟨t4, -⟩ ⟨t0, t2, t3, t9, t10, -⟩
  refine wi_ A (h6_ t0 t2 t3 t9 t10 t4) (rv_ 4 (sliced ia 0 i ic 1) (fun a e => By8.execSlH rfl (e _) (e _) (sl_hA ia J ic i (by omega) XL3)) (rc_ 5 (cS XL3 BB) (cb_ fun X5_1 bQ => ?_)))
  replace F2 := (on9 F2 bQ)
  replace FO := (ownD_below FO bQ)
  replace BB := BB.trans (bQ.mono BB.size)
  clear bQ
  refine rv_ 6 (.pointer (some ⟨g3, 0 + i, none⟩)) (fun a e => execIdxN (k := i) rfl (e _) (e _) lti) (rs_ 7 (fun a e => ?_))
  obtain ⟨hc_, hf_⟩ := own_cellI FO lti
  refine stepS rfl rfl (execStI9 rfl (e _) (e _) hc_ hf_) ⟨_, ⟨_, rfl, rfl⟩, fun X5 hX => ?_⟩
  obtain ⟨BB, F2, FO2⟩ : Below V.heap.size V X5 ∧ (X5.heap[g2]? = some (.cells (rsC (.slice none 0 0) (.slice none 0 0)) 114)) ∧ (X5.ownsRow V.heap.size 3 1 (.slice (some ⟨g3, 0, none⟩) J J) (J) (intsL (J) (fun j => if j < (i + 1) then (sumN (gN sf) j : Int) else 0))) := by subst hX; exact ⟨(BB).setCell Fg3 _, ((Below.heap_setCell _ _ _ _ Fne).trans F2), own_fill (F := fun j => (sumN (gN sf) j : Int)) FO rfl⟩
  clear FO hX e a
  refine rf_ [] (h5_ t0 t2 t3 t9 t10) ?_
  rintro a A - ⟨t0, t2, t3, t9, t10, -⟩
  refine wi_ A (h5_ t0 t2 t3 t9 t10) (rv_ 0 (.int .i64 ((i + 1 : Nat) : Int)) (fun a e => execAd8 (p := i) (q := 1) rfl (e _) rfl (by omega)) (rf_ [(10, .int .i64 ((i + 1 : Nat) : Int))] (h4_ t0 t2 t3 t9) ?_))
  rintro a A ⟨t10, -⟩ ⟨t0, t2, t3, t9, -⟩
  exact ⟨⟨i + 1, lti, A, t0, t2, t3, t9, t10, BB, F2, FO2⟩, by show J - (intOf (a.eval (.tmp 10))).toNat < J - (intOf (Act.eval _ (.tmp 10))).toNat; rw [t10, esi]; show J - (i + 1) < J - i; omega⟩
 ·rw [decide_eq_false lti] at t11
  refine wp_cond_false t11 ?_
  refine wp_exit ?_
  first | with_reducible refine exit_in ?_ | with_reducible refine exit_then (exit_in ?_) | with_reducible refine exit_then (exit_then (exit_in ?_)) | refine exit_in ?_ | refine exit_then (exit_in ?_) | refine exit_then (exit_then (exit_in ?_))
  clear t11 esi
  obtain rfl : i = J := by omega
  rw [intsL_congr (g := fun j => (sumN (gN sf) j : Int)) (fun j hj => if_pos hj)] at FO
  clear t9 t10
  refine wp_seq ?_
  refine wi_ A (h3_ t0 t2 t3) (rc_ 1 (pclone sf i _ XL3 (FI.on BB) (by omega)) fun e X7_1 hh => ?_)
  obtain ⟨v22, he, hk, hb⟩ := hh
  refine ⟨_, he, ?_⟩
  have bQ : Below XL3.heap.size XL3 X7_1 := hb
  have FL : (X7_1.ownsRow V.heap.size 3 1 v22 (i) (intsL (i) (sf))) := ownD_base hk (BB).size
  have Fd : (∀ b, v22.ownBlock = some b → b ≠ g3) := fun b e q => by have a1 := (hk.lt b e).1; have a2 := (FO.lt g3 rfl).2; omega
  have Fh : (∃ g_ n_ c_, v22 = .slice g_ n_ c_) := shp3 hk
  replace F2 := (on9 F2 bQ)
  replace FO := (ownD_below FO bQ)
  replace BB := BB.trans (bQ.mono BB.size)
  clear bQ
  refine rv_ 3 (.agg (rsC (v22) (.slice (some ⟨g3, 0, none⟩) i i))) (fun a e => execBdRs rfl (e _) (e _) Fh ⟨_, _, _, rfl⟩) (rs_ 4 (fun a e => ?_))
  refine stepS rfl rfl (execStRs rfl (e _) (e _) F2 Fh ⟨_, _, _, rfl⟩) ⟨_, ⟨_, rfl, rfl⟩, fun X7 hX => ?_⟩
  obtain ⟨BB, FO, FL, F3⟩ : Below V.heap.size V X7 ∧ (X7.ownsRow V.heap.size 3 1 (.slice (some ⟨g3, 0, none⟩) i i) (i) (intsL (i) (fun j => (sumN (gN sf) j : Int)))) ∧ (X7.ownsRow V.heap.size 3 1 v22 (i) (intsL (i) (sf))) ∧ (X7.heap[g2]? = some (.cells (rsC (v22) (.slice (some ⟨g3, 0, none⟩) i i)) 114)) := by subst hX; exact ⟨below4 BB F2g _, own_setT FO F2 (by decide), own_setT FL F2 (by decide), setRow_heap _ _ _ _ _ _ F2⟩
  clear F2 hX e a
  refine rf_ [] (h1_ t2) ?_
  rintro a A - ⟨t2, -⟩
  refine wp_ret ?_
  refine bodyPost_ret (results_cell9 (cs := rsC v22 (.slice (some ⟨g3, 0, none⟩) i i)) rfl _ _ g2 114 (0, 0) _ t2 F3 Try.underlying114 rfl (size_rs _ _)) A.2 ⟨v22, _, rfl, ⟨fun t ht => ?_, fun s t hs ht hst b e => ?_⟩, BB⟩
  ·by_cases q : t = 0
   ·subst q
    show World.ownsRow _ _ _ _ v22 i (intsL i fun j => ((gN sf j : Nat) : Int))
    rw [← intsL_congr (fun j hj => okS_nn hok hj)]
    exact FL
   ·rw [show t = 1 by omega]
    exact FO
  ·by_cases q : s = 0
   ·have q2 : t = 1 := by omega
    subst q q2
    exact fun z => Fd b e (Option.some.inj z).symm
   ·have q1 : s = 1 := by omega
    have q2 : t = 0 := by omega
    subst q1 q2
    exact fun z => Fd b z (Option.some.inj e).symm
end Go.Proofs.Ytmjpneaccjlpkaa.Brd
