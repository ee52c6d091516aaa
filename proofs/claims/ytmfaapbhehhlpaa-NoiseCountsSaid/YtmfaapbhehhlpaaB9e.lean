import Derived.Test.YtmfaapbhehhlpaaB9d
import Derived.Laws.Concat
namespace Go.Proofs.Ytmfaapbhehhlpaa.Noi
open Go.RowKit Gf8 Aes By8 Cel Cf Tap Drw Prm Brd
/- NoiseCounts. Written by tools/mkB9e.py. -/

/-- The cells of an Ask; a tape with room. -/
def anC (pv : Value) (a d m c l : Int) : Array Value := #[pv, .int .i64 a, .int .i64 d, .int .i64 m, .int .i64 c, .int .i64 l]
def pY (p : Nat → Nat) (L j : Nat) : Nat := if j < L then p j else if j = L then 1 else 2
section
variable {p : Nat → Nat} {L : Nat}
theorem pY_lo {j : Nat} (h : j < L) : pY p L (0 + j) = p j := by
  rw [Nat.zero_add]
  exact if_pos h
theorem pY_byte (hp : ∀ j, j < L → p j < 256) (j : Nat) : pY p L j < 256 := by
  unfold pY
  by_cases h : j < L
  · rw [if_pos h]; exact hp j h
  · rw [if_neg h]
    by_cases h2 : j = L
    · rw [if_pos h2]; decide
    · rw [if_neg h2]; decide
theorem pY_L : pY p L L = 1 := by
  unfold pY
  rw [if_neg (by omega), if_pos rfl]
theorem pY_L1 : pY p L (L + 1) = 2 := by
  unfold pY
  rw [if_neg (by omega), if_neg (by omega)]
theorem pY_two (X : World) (p : Nat → Nat) (L : Nat) : SliceN (X.alloc (.cells #[.int .u8 1, .int .u8 2] 5)) (.slice (some ⟨X.heap.size, 0, none⟩) 2 2) 2 (fun j => pY p L (0 + L + j)) := by
  have e0 : pY p L (0 + L + 0) = 1 := by rw [Nat.zero_add, Nat.add_zero]; exact pY_L
  have e1 : pY p L (0 + L + 1) = 2 := by rw [Nat.zero_add]; exact pY_L1
  refine ⟨⟨_, _, rfl, Nat.le_refl _, by omega, fun _ => ⟨X.heap.size, 0, rfl, by simp, fun j hj => ?_⟩⟩, fun j hj => ?_⟩
  · rw [cell_of_row _ _ _ _ _ _ (heapNew X _)]
    match j, hj with
    | 0, _ => rw [e0]; rfl
    | 1, _ => rw [e1]; rfl
    | j + 2, h => omega
  · match j, hj with
    | 0, _ => rw [e0]; decide
    | 1, _ => rw [e1]; decide
    | j + 2, h => omega
theorem strN_two : strN p L ++ ⟨#[1, 2]⟩ = strN (pY p L) (L + 2) := by
  have e : numL (pY p L) (L + 2) = numL p L ++ [1, 2] := by
    unfold numL
    rw [List.range_add, List.map_append, List.map_map]
    congr 1
    · apply List.map_congr_left
      intro i hi
      rw [show pY p L i = p i from if_pos (List.mem_range.1 hi)]
    · show [((pY p L (L + 0) : Nat) : Int), ((pY p L (L + 1) : Nat) : Int)] = [1, 2]
      rw [Nat.add_zero, pY_L, pY_L1]
      rfl
  unfold strN
  rw [e]
  unfold strOfNums
  rw [List.map_append]
  exact ByteArray.mk_append_mk _ [1, 2]
end
theorem own_room {W : World} {B n g c : Nat} {t : TypeId} {xs : List Value} (h : W.ownsRow B t 1 (.slice (some ⟨g, 0, none⟩) n c) n xs) : n ≤ c := by
  rcases h.2 with ⟨e, _⟩ | ⟨g', c', cur, e, _, _, h1, _⟩
  · cases e
  · injection e with _ _ e3
    omega
theorem own_take8 {W : World} {B n i g c : Nat} {f : Nat → Nat} (h : W.ownsRow B 5 1 (.slice (some ⟨g, 0, none⟩) n c) n (bytesL n f)) (hi : i ≤ n) : W.ownsRow B 5 1 (.slice (some ⟨g, 0, none⟩) i c) i (bytesL i f) := by
  rcases h.2 with ⟨e, _⟩ | ⟨g', c', cur, e, hB, hg, h1, h2, h3, h4⟩
  · cases e
  · injection e with e1 _ e3
    injection e1 with e1
    injection e1 with e1 _ _
    subst e1
    subst e3
    refine ⟨by rw [bytesL_len, Nat.mul_one], Or.inr ⟨g, c, cur, rfl, hB, hg, by omega, h2, h3, ?_⟩⟩
    rw [Nat.mul_one] at h4 ⊢
    have h5 : cur.toList.take i = (cur.toList.take n).take i := by rw [List.take_take, Nat.min_eq_left hi]
    rw [h5, h4]
    unfold bytesL
    rw [← List.map_take, List.take_range, Nat.min_eq_left hi]
theorem ip_slice {W : World} {B L g c : Nat} {v : Value} {p : Nat → Nat} (e : v = .slice (some ⟨g, 0, none⟩) (L + 2) c) (h : W.ownsRow B 5 1 v (L + 2) (bytesL (L + 2) (pY p L))) (hp : ∀ j, j < L → p j < 256) : SliceN W (.slice (some ⟨g, 0, none⟩) L c) L p := by
  subst e
  exact sliceN_cg (own_slice (own_take8 h (by omega)) (fun j _ => pY_byte hp j)) (fun j hj => if_pos hj)
section
variable {W : World} {g : Nat} {pv : Value} {a d m c l : Int} {t : TypeId}
theorem an_at0 (h : W.heap[g]? = some (.cells (anC pv a d m c l) t)) : W.cell? ⟨g, 0, none⟩ = some pv := by rw [cell_of_row _ _ _ _ _ _ h]; rfl
theorem an_at1 (h : W.heap[g]? = some (.cells (anC pv a d m c l) t)) : W.cell? ⟨g, 1, none⟩ = some (.int .i64 a) := by rw [cell_of_row _ _ _ _ _ _ h]; rfl
theorem an_at2 (h : W.heap[g]? = some (.cells (anC pv a d m c l) t)) : W.cell? ⟨g, 2, none⟩ = some (.int .i64 d) := by rw [cell_of_row _ _ _ _ _ _ h]; rfl
theorem an_at3 (h : W.heap[g]? = some (.cells (anC pv a d m c l) t)) : W.cell? ⟨g, 3, none⟩ = some (.int .i64 m) := by rw [cell_of_row _ _ _ _ _ _ h]; rfl
end
section
variable {o : Oper} {a : Act} {w : World}
theorem execBoxAn {x : Operand} {pv : Value} {b d m c l : Int} (ho : o.op = .box 33 x) (hx : a.eval x = .agg (anC pv b d m c l)) : (execOp a.eval o).run Try.prog w = .ok (.value (.pointer (some ⟨w.heap.size, 0, none⟩))) (w.alloc (.cells (anC pv b d m c l) 33)) := by
  unfold execOp
  simp only [ho, hx]
  simp [go_sem, anC]
theorem execFldAn {x : Operand} {b k : Nat} (ho : o.op = .fieldAddr 33 x k) (hx : a.eval x = .pointer (some ⟨b, 0, none⟩)) (hk : Nat.blt k 6 = true) : (execOp a.eval o).run Try.prog w = .ok (.value (.pointer (some ⟨b, k, none⟩))) w := by
  match k, hk with
  | 0, _ => unfold execOp; simp only [ho, hx]; simp [go_sem]
  | 1, _ => unfold execOp; simp only [ho, hx]; simp [go_sem]
  | 2, _ => unfold execOp; simp only [ho, hx]; simp [go_sem]
  | 3, _ => unfold execOp; simp only [ho, hx]; simp [go_sem]
  | 4, _ => unfold execOp; simp only [ho, hx]; simp [go_sem]
  | 5, _ => unfold execOp; simp only [ho, hx]; simp [go_sem]
  | k + 6, h => exact absurd h (by simp)
theorem execCat2 {x : Operand} {p : Nat → Nat} {L : Nat} (ho : o.op = .binOp .add 9 x (.const (.string ⟨#[1, 2]⟩)) 9) (hx : a.eval x = .string (strN p L)) (hL : L ≤ 140737488355328) : (execOp a.eval o).run Try.prog w = .ok (.value (.string (strN (pY p L) (L + 2)))) w := by
  have hc : a.eval (.const (.string ⟨#[1, 2]⟩)) = .string ⟨#[1, 2]⟩ := rfl
  have hr := run_string_add_sum (P := Try.prog) w (strN p L) ⟨#[1, 2]⟩ (by rw [strN_size]; show L + 2 ≤ _; omega)
  rw [strN_two] at hr
  unfold execOp
  simp only [ho, hx, hc]
  simp [go_sem, hr]
end
set_option maxRecDepth 100000 in
set_option maxHeartbeats 4000000 in
/-- NoiseCounts. -/
theorem counts15 (I : Impl) (p : Nat → Nat) (L : Nat) (na nd nm nc nl : Int) (pv : Value) (V : World) (FP : SliceN V pv L p) (hl : L ≤ 140737488351232) (hz : ∀ l c, pv = .slice none l c → c = 0) (hna : I64 na) (hnd : I64 nd) (hnm : I64 nm) (_hnc : I64 nc) (_hnl : I64 nl) :
    Calls Try.prog 4 #[.agg (anC pv na nd nm nc nl)] V fun e w' => e = .returned (.bool true) ∧ Below V.heap.size V w' := by
  go_enter Try.func4, Try.ntmps4
  refine wo_ 60 [(0, .agg (anC pv na nd nm nc nl))] ?_
  rintro a A ⟨t0, -⟩
  have BW : Below V.heap.size V V := Below.refl _ _
  refine wp_seq ?_
  obtain ⟨gq, eggq⟩ : ∃ z_ : Nat, V.heap.size = z_ := ⟨_, rfl⟩
  refine wi_ A (h1_ t0) (rs_ 0 (fun a ee => ?_))
  refine stepV rfl rfl (execBoxAn rfl (ee _)) ⟨.pointer (some ⟨gq, 0, none⟩), ⟨_, rfl, by subst eggq; rfl⟩, fun X0 hX => ?_⟩
  have bQ : Below V.heap.size V X0 := by subst hX eggq; exact (belNew V _)
  have FQ : (X0.heap[gq]? = some (.cells (anC pv na nd nm nc nl) 33)) := by subst hX eggq; exact heapNew V _
  have bX := bQ
  clear bQ hX eggq ee a
  refine rg_ [(1, .pointer (some ⟨gq, 0, none⟩))] ?_
  rintro a A ⟨t1, -⟩
  replace FP := (FP.on bX)
  have ZX0 := bX.size
  replace BW := BW.trans (bX.mono BW.size)
  clear bX
  refine wp_seq ?_
  refine wp_seq ?_
  refine wi_ A (h1_ t1) (rc_ 0 (awake15 I X0) (cb_ fun X1 bQ => ?_))
  have bX := bQ
  clear bQ
  refine rv_ 1 (.bool false) (fun a ee => execNot8 (b := true) rfl (ee _)) (rf_ [(9, .bool false)] (h1_ t1) ?_)
  rintro a A ⟨t9, -⟩ ⟨t1, -⟩
  replace FP := (FP.on bX)
  replace FQ := (on9 FQ bX)
  have ZX1 := bX.size
  replace BW := BW.trans (bX.mono BW.size)
  clear bX
  refine wp_cond_false t9 ?_
  refine wp_skip ?_
  clear t9
  have BB : Below X1.heap.size X1 X1 := Below.refl _ _
  refine wp_seq ?_
  obtain ⟨g10, egg10⟩ : ∃ z_ : Nat, X1.heap.size = z_ := ⟨_, rfl⟩
  refine wi_ A (h1_ t1) (rs_ 0 (fun a ee => ?_))
  refine stepV rfl rfl (execBs0 rfl) ⟨.slice (some ⟨g10, 0, none⟩) 0 0, ⟨_, rfl, by subst egg10; rfl⟩, fun X3_1 hX => ?_⟩
  have bQ : Below X1.heap.size X1 X3_1 := by subst hX egg10; exact (belNew X1 _)
  have F10 : (X3_1.ownsRow X1.heap.size 5 1 (.slice (some ⟨g10, 0, none⟩) 0 0) (0) (bytesL (0) (pY p L))) := by subst hX egg10; exact own_base (own_none X1 _) (BB).size
  replace BB := BB.trans (bQ.mono BB.size)
  clear bQ hX egg10 ee a
  refine rv_ 1 (.pointer (some ⟨gq, 0, none⟩)) (fun a ee => execFldAn (k := 0) rfl (ee _) rfl) (rv_ 2 (pv) (fun a ee => execLdL rfl (ee _) (an_at0 (on9 FQ BB))) (rs_ 3 (fun a ee => ?_)))
  refine stepAppN (n := 0) (m := L) (p := pY p L) rfl rfl rfl (ee _) (ee _) F10 (sliceN_cg (FP.on BB) (fun j hj => (pY_lo hj).symm)) hz (by omega) (BB).size fun v13 X3_2 own' gr => ⟨_, ⟨_, rfl, rfl⟩, eqw ?_⟩
  obtain ⟨BB, F13⟩ : Below X1.heap.size X1 X3_2 ∧ (X3_2.ownsRow X1.heap.size 5 1 v13 (0 + L) (bytesL (0 + L) (pY p L))) := ⟨(BB).grown gr (BB).size (fun k hk => (F10.lt k hk).1), own'⟩
  clear F10 ee a
  obtain ⟨g14, egg14⟩ : ∃ z_ : Nat, X3_2.heap.size = z_ := ⟨_, rfl⟩
  refine rs_ 4 (fun a ee => ?_)
  refine stepV rfl rfl (execBsU2 rfl) ⟨.slice (some ⟨g14, 0, none⟩) 2 2, ⟨_, rfl, by subst egg14; rfl⟩, fun X3_3 hX => ?_⟩
  have bQ : Below X3_2.heap.size X3_2 X3_3 := by subst hX egg14; exact (belNew X3_2 _)
  have F14 : (SliceN X3_3 (.slice (some ⟨g14, 0, none⟩) 2 2) 2 (fun j => pY p L (0 + L + j))) := by subst hX egg14; exact pY_two X3_2 p L
  replace F13 := (ownsRow_below F13 bQ)
  replace BB := BB.trans (bQ.mono BB.size)
  clear bQ hX egg14 ee a
  refine rs_ 5 (fun a ee => ?_)
  refine stepAppN (n := 0 + L) (m := 2) (p := pY p L) rfl rfl rfl (ee _) (ee _) F13 F14 (fun _ _ e => by cases e) (by omega) (BB).size fun v15 X3 own' gr => ⟨_, ⟨_, rfl, rfl⟩, eqw ?_⟩
  obtain ⟨BB, F15⟩ : Below X1.heap.size X1 X3 ∧ (X3.ownsRow X1.heap.size 5 1 v15 (0 + L + 2) (bytesL (0 + L + 2) (pY p L))) := ⟨(BB).grown gr (BB).size (fun k hk => (F13.lt k hk).1), own'⟩
  clear F13 F14 ee a
  refine rf_ [(3, v15)] (h1_ t1) ?_
  rintro a A ⟨t3, -⟩ ⟨t1, -⟩
  rw [Nat.zero_add] at F15
  obtain ⟨gp, cp, epp, hgp, -⟩ := ownL_some9 F15 (by omega)
  have hcp : L + 2 ≤ cp := own_room (epp ▸ F15)
  have FR : SliceN X3 v15 (L + 2) (pY p L) := own_slice F15 (fun j _ => pY_byte FP.bytes j)
  have FI : SliceN X3 (.slice (some ⟨gp, 0, none⟩) L cp) L p := ip_slice epp F15 FP.bytes
  clear F15
  replace FP := (FP.on BB)
  replace FQ := (on9 FQ BB)
  replace BW := BW.trans (BB.mono BW.size)
  clear BB
  refine wp_seq ?_
  refine wi_ A (h2_ t1 t3) (rv_ 0 (.pointer (some ⟨gq, 0, none⟩)) (fun a ee => execFldAn (k := 0) rfl (ee _) rfl) (rv_ 1 (pv) (fun a ee => execLdL rfl (ee _) (an_at0 FQ)) (rv_ 2 (.pointer (some ⟨gq, 1, none⟩)) (fun a ee => execFldAn (k := 1) rfl (ee _) rfl) (rv_ 3 (.int .i64 na) (fun a ee => execLd3 rfl (ee _) (an_at1 FQ)) (rv_ 4 (.pointer (some ⟨gq, 2, none⟩)) (fun a ee => execFldAn (k := 2) rfl (ee _) rfl) (rv_ 5 (.int .i64 nd) (fun a ee => execLd3 rfl (ee _) (an_at2 FQ)) (rv_ 6 (.pointer (some ⟨gq, 3, none⟩)) (fun a ee => execFldAn (k := 3) rfl (ee _) rfl) (rv_ 7 (.int .i64 nm) (fun a ee => execLd3 rfl (ee _) (an_at3 FQ)) (rc_ 8 (rcount p L na nd nm _ X3 FP) (cb_ fun X4 bQ => ?_))))))))))
  have bX := bQ
  clear bQ
  refine rf_ [(4, .int .i64 ((zl (ctE L na nd nm) (ctN p na nd nm) : Nat) : Int)), (5, .int .i64 ((ctE L na nd nm : Nat) : Int))] (h2_ t1 t3) ?_
  rintro a A ⟨t4, t5, -⟩ ⟨t1, t3, -⟩
  replace FP := (FP.on bX)
  replace FQ := (on9 FQ bX)
  replace FR := (FR.on bX)
  replace FI := (FI.on bX)
  have ZX4 := bX.size
  replace BW := BW.trans (bX.mono BW.size)
  clear bX
  refine wp_seq ?_
  refine wj_ [0, 1, 2, 3, 4, 5, 6, 7, 8, 9, 10, 11, 12, 13, 14, 15, 16] [11] [2, 3, 6, 8, 10] [] A (h4_ t1 t3 t4 t5) (fun X5_0 bD => ?_)
  refine dw_ 1 (.pointer (some ⟨gq, 0, none⟩)) (fun a X ee => execFldAn (k := 0) rfl (ee _) rfl) (dv_ 2 (pv) (fun a X ee hb => execLdL rfl (ee _) (an_at0 (on9 FQ hb))) (dv_ 3 (.int .i64 ((L : Nat) : Int)) (fun a X ee hb => execLenV (len := L) rfl (ee _) (shp9 (FP.on hb))) (dw_ 4 (.slice (some ⟨gp, 0, none⟩) L cp) (fun a X ee => By8.execSlH rfl ((ee _).trans epp) (ee _) (sl_h8 gp (L + 2) cp L (by omega) X)) (dw_ 5 (.pointer (some ⟨gq, 1, none⟩)) (fun a X ee => execFldAn (k := 1) rfl (ee _) rfl) (dv_ 6 (.int .i64 na) (fun a X ee hb => execLd3 rfl (ee _) (an_at1 (on9 FQ hb))) (dw_ 7 (.pointer (some ⟨gq, 2, none⟩)) (fun a X ee => execFldAn (k := 2) rfl (ee _) rfl) (dv_ 8 (.int .i64 nd) (fun a X ee hb => execLd3 rfl (ee _) (an_at2 (on9 FQ hb))) (dw_ 9 (.pointer (some ⟨gq, 3, none⟩)) (fun a X ee => execFldAn (k := 3) rfl (ee _) rfl) (dv_ 10 (.int .i64 nm) (fun a X ee hb => execLd3 rfl (ee _) (an_at3 (on9 FQ hb))) (dc_ 11 (I.count p L na nd nm _ X5_0 (FI.on bD) (by omega) hna hnd hnm) (cb_ fun X5 bQ => ?_)))))))))))
  replace bD := bD.trans (bQ.mono bD.size)
  clear bQ
  refine ⟨Or.inr bD, ?_⟩
  refine dz_ [(6, .int .i64 ((zl (ctE L na nd nm) (ctN p na nd nm) : Nat) : Int)), (7, .int .i64 ((ctE L na nd nm : Nat) : Int))] (h4_ t1 t3 t4 t5) ?_
  rintro a A ⟨t6, t7, -⟩ ⟨t1, t3, t4, t5, -⟩
  replace FP := (FP.on bD)
  replace FQ := (on9 FQ bD)
  replace FR := (FR.on bD)
  replace FI := (FI.on bD)
  have ZX5 := bD.size
  replace BW := BW.trans (bD.mono BW.size)
  clear bD
  refine wp_seq ?_
  refine wi_ A (h6_ t1 t3 t4 t5 t6 t7) (rv_ 2 (.bool true) (fun a ee => execDec (execEqN (p := ctE L na nd nm) (q := ctE L na nd nm) rfl (ee _) (ee _)) (decide_eq_true (by rfl))) (rv_ 6 (.bool true) (fun a ee => execDec (execEqN (p := zl (ctE L na nd nm) (ctN p na nd nm)) (q := zl (ctE L na nd nm) (ctN p na nd nm)) rfl (ee _) (ee _)) (decide_eq_true (by rfl))) (rv_ 10 (.string (strN (pY p L) (L + 2))) (fun a ee => By8.execStr rfl (ee _) FR) (rv_ 11 (.pointer (some ⟨gq, 0, none⟩)) (fun a ee => execFldAn (k := 0) rfl (ee _) rfl) (rv_ 12 (pv) (fun a ee => execLdL rfl (ee _) (an_at0 FQ)) (rv_ 13 (.string (strN p L)) (fun a ee => By8.execStr rfl (ee _) FP) (rv_ 14 (.string (strN (pY p L) (L + 2))) (fun a ee => execCat2 rfl (ee _) (by omega)) (rv_ 15 (.bool true) (fun a ee => By8.execEqlS rfl (ee _) (ee _)) (rg_ [(2, .bool true)] ?_)))))))))
  rintro a A ⟨t2, -⟩
  refine wp_ret ?_
  refine bodyPost_ret (results_tmp rfl _ _ _) A.2 ⟨?_, BW⟩
  show Ending.returned (a.eval (.tmp 2)) = _
  rw [t2]
end Go.Proofs.Ytmfaapbhehhlpaa.Noi
