import Derived.Test.YtmjpneaccjlpkaaF9b
import Derived.Test.YtmjpneaccjlpkaaF9a
import Derived.Test.YtmjpneaccjlpkaaX9h
import Derived.Test.YtmjpneaccjlpkaaQ9x
namespace Go.Proofs.Ytmjpneaccjlpkaa.Rif
open Go.RowKit Gf8 Aes By8 Cel Cf Tap Drw Prm Brd
/- Stage 13's RiffleEven. Written by tools/mkX9j.py. -/
section
variable {o : Oper} {a : Act} {w : World}
theorem execBoxJb {x : Operand} {p q r s : Value} (ho : o.op = .box 38 x) (hx : a.eval x = .agg (akC p q r s)) : (execOp a.eval o).run Try.prog w = .ok (.value (.pointer (some ⟨w.heap.size, 0, none⟩))) (w.alloc (.cells (akC p q r s) 38)) := by
 unfold execOp
 simp only [ho, hx]
 simp [go_sem, akC]
theorem execFldJb0 {x : Operand} {b : Nat} (ho : o.op = .fieldAddr 38 x 0) (hx : a.eval x = .pointer (some ⟨b, 0, none⟩)) : (execOp a.eval o).run Try.prog w = .ok (.value (.pointer (some ⟨b, 0, none⟩))) w := by
 unfold execOp
 simp only [ho, hx]
 simp [go_sem]
theorem execFldJb1 {x : Operand} {b : Nat} (ho : o.op = .fieldAddr 38 x 1) (hx : a.eval x = .pointer (some ⟨b, 0, none⟩)) : (execOp a.eval o).run Try.prog w = .ok (.value (.pointer (some ⟨b, 1, none⟩))) w := by
 unfold execOp
 simp only [ho, hx]
 simp [go_sem]
theorem execFldJb2 {x : Operand} {b : Nat} (ho : o.op = .fieldAddr 38 x 2) (hx : a.eval x = .pointer (some ⟨b, 0, none⟩)) : (execOp a.eval o).run Try.prog w = .ok (.value (.pointer (some ⟨b, 2, none⟩))) w := by
 unfold execOp
 simp only [ho, hx]
 simp [go_sem]
theorem execFldJb3 {x : Operand} {b : Nat} (ho : o.op = .fieldAddr 38 x 3) (hx : a.eval x = .pointer (some ⟨b, 0, none⟩)) : (execOp a.eval o).run Try.prog w = .ok (.value (.pointer (some ⟨b, 3, none⟩))) w := by
 unfold execOp
 simp only [ho, hx]
 simp [go_sem]
theorem execEqZt {x y : Operand} {p q : Int} (ho : o.op = .binOp .eql 3 x y 3) (hx : a.eval x = .int .i64 p) (hy : a.eval y = .int .i64 q) (h : p = q) : (execOp a.eval o).run Try.prog w = .ok (.value (.bool true)) w := by
 subst h
 unfold execOp
 simp only [ho, hx, hy]
 simp [go_sem]
theorem execEqZf {x y : Operand} {p q : Int} (ho : o.op = .binOp .eql 3 x y 3) (hx : a.eval x = .int .i64 p) (hy : a.eval y = .int .i64 q) (h : ¬ p = q) : (execOp a.eval o).run Try.prog w = .ok (.value (.bool false)) w := by
 unfold execOp
 simp only [ho, hx, hy]
 simp [go_sem, h]
theorem execNeZt {x y : Operand} {p q : Int} (ho : o.op = .binOp .neq 3 x y 3) (hx : a.eval x = .int .i64 p) (hy : a.eval y = .int .i64 q) (h : ¬ p = q) : (execOp a.eval o).run Try.prog w = .ok (.value (.bool true)) w := by
 unfold execOp
 simp only [ho, hx, hy]
 simp [go_sem, h]
theorem execNeZf {x y : Operand} {p q : Int} (ho : o.op = .binOp .neq 3 x y 3) (hx : a.eval x = .int .i64 p) (hy : a.eval y = .int .i64 q) (h : p = q) : (execOp a.eval o).run Try.prog w = .ok (.value (.bool false)) w := by
 subst h
 unfold execOp
 simp only [ho, hx, hy]
 simp [go_sem]
end
set_option maxRecDepth 100000 in
set_option maxHeartbeats 4000000 in
theorem even13 (p : Nat → Nat) (L : Nat) (n ch : Int) (wf tf : Nat → Int) (m k : Nat) (pv wv tv : Value) (V : World) (FP : SliceN V pv L p) (hl : L ≤ 140737488351232) (FW : SliceI V wv m wf) (hm17 : m ≤ 17592186043904) (FT : SliceI V tv k tf) (_hk17 : k ≤ 17592186043904) :
  Calls Try.prog 6 #[.agg (akC pv (.int .i64 n) (.int .i64 ch) wv), tv] V fun e w' => e = .returned (.bool true) ∧ Below V.heap.size V w' := by
 go_enter Try.func6, Try.ntmps6
 refine wp_open (fun a => (a.tmps.size = 171 ∧ a.defers = []) ∧ a.eval (.tmp 0) = .agg (akC pv (.int .i64 n) (.int .i64 ch) wv) ∧ a.eval (.tmp 1) = tv) ⟨⟨rfl, rfl⟩, rfl, rfl⟩ ?_
 rintro a ⟨A, t0, t1⟩
 have BW : Below V.heap.size V V := Below.refl _ _
 refine wp_seq ?_
 obtain ⟨gq, eggq⟩ : ∃ z_ : Nat, V.heap.size = z_ := ⟨_, rfl⟩
 refine wi_ A (h2_ t0 t1) (rs_ 0 (fun a e => ?_))
 refine stepV rfl rfl (execBoxJb rfl (e _)) ⟨.pointer (some ⟨gq, 0, none⟩), ⟨_, rfl, by subst eggq; rfl⟩, fun X0 hX => ?_⟩
 have bQ : Below V.heap.size V X0 := by subst hX eggq; exact (belNew V _)
 have FQ : (X0.heap[gq]? = some (.cells (akC pv (.int .i64 n) (.int .i64 ch) wv) 38)) := by subst hX eggq; exact heapNew V _
 have bX := bQ
 clear bQ hX eggq e a
 refine rf_ [(2, .pointer (some ⟨gq, 0, none⟩))] (h1_ t1) ?_
 rintro a A ⟨t2, -⟩ ⟨t1, -⟩
 replace FP := (FP.on bX)
 replace FW := (FW.on bX)
 replace FT := (FT.on bX)
 have ZX0 := bX.size
 replace BW := BW.trans (bX.mono BW.size)
 clear bX
 refine wp_seq (wp_seq ?_)
 refine wi_ A (h2_ t1 t2) (rc_ 0 (alive13 X0) (cb_ fun X1 bQ => ?_))
 have bX := bQ
 clear bQ
 refine rv_ 1 (.bool false) (fun a e => execNot8 (b := true) rfl (e _)) (rf_ [(19, .bool false)] (h2_ t1 t2) ?_)
 rintro a A ⟨t19, -⟩ ⟨t1, t2, -⟩
 replace FP := (FP.on bX)
 replace FW := (FW.on bX)
 replace FT := (FT.on bX)
 replace FQ := (on9 FQ bX)
 have ZX1 := bX.size
 replace BW := BW.trans (bX.mono BW.size)
 clear bX
 refine wp_cond_false t19 (wp_skip ?_)
 clear t19
 refine wp_seq ?_
 refine wi_ A (h2_ t1 t2) (rv_ 0 (.pointer (some ⟨gq, 0, none⟩)) (fun a e => execFldJb0 rfl (e _)) (rv_ 1 (pv) (fun a e => execLdL rfl (e _) (ak_at0 FQ)) (rv_ 2 (.pointer (some ⟨gq, 1, none⟩)) (fun a e => execFldJb1 rfl (e _)) (rv_ 3 (.int .i64 n) (fun a e => execLd3 rfl (e _) (ak_at1 FQ)) (rv_ 4 (.pointer (some ⟨gq, 2, none⟩)) (fun a e => execFldJb2 rfl (e _)) (rv_ 5 (.int .i64 ch) (fun a e => execLd3 rfl (e _) (ak_at2 FQ)) (rc_ 6 (porder p L n ch _ X1 FP (by omega)) fun e X3 hh => ?_)))))))
 obtain ⟨v27, he, hk, hb⟩ := hh
 refine ⟨_, he, ?_⟩
 have bQ : Below X1.heap.size X1 X3 := hb
 have Fv27 : (SliceI X3 v27 (zl (riE L n ch p) (n).toNat) (orF L n ch p)) := own_ints hk or_fits
 have bX := bQ
 clear bQ
 refine rf_ [(5, v27), (6, .int .i64 ((riE L n ch p : Nat) : Int))] (h2_ t1 t2) ?_
 rintro a A ⟨t5, t6, -⟩ ⟨t1, t2, -⟩
 replace FP := (FP.on bX)
 replace FW := (FW.on bX)
 replace FT := (FT.on bX)
 replace FQ := (on9 FQ bX)
 have ZX3 := bX.size
 replace BW := BW.trans (bX.mono BW.size)
 clear bX
 refine wp_seq ?_
 refine wi_ A (h4_ t1 t2 t5 t6) (rv_ 0 (.pointer (some ⟨gq, 0, none⟩)) (fun a e => execFldJb0 rfl (e _)) (rv_ 1 (pv) (fun a e => execLdL rfl (e _) (ak_at0 FQ)) (rv_ 2 (.pointer (some ⟨gq, 1, none⟩)) (fun a e => execFldJb1 rfl (e _)) (rv_ 3 (.int .i64 n) (fun a e => execLd3 rfl (e _) (ak_at1 FQ)) (rv_ 4 (.pointer (some ⟨gq, 2, none⟩)) (fun a e => execFldJb2 rfl (e _)) (rv_ 5 (.int .i64 ch) (fun a e => execLd3 rfl (e _) (ak_at2 FQ)) (rv_ 6 (.pointer (some ⟨gq, 3, none⟩)) (fun a e => execFldJb3 rfl (e _)) (rv_ 7 (wv) (fun a e => execLdLI (v := wv) rfl (e _) (ak_at3 FQ)) (rc_ 8 (pturn p L n ch wf m _ _ X3 FP (by omega) FW) fun e X4 hh => ?_)))))))))
 obtain ⟨v39, he, hk, hb⟩ := hh
 refine ⟨_, he, ?_⟩
 have bQ : Below X3.heap.size X3 X4 := hb
 have Fv39 : SliceN X4 v39 (zl (tnE L n ch wf m p) L) (tnF L n ch wf p) := own_slice hk (fun _ hj => tn_byte (FP).bytes hj)
 have bX := bQ
 clear bQ
 refine rf_ [(7, v39), (8, .int .i64 ((tnE L n ch wf m p : Nat) : Int))] (h4_ t1 t2 t5 t6) ?_
 rintro a A ⟨t7, t8, -⟩ ⟨t1, t2, t5, t6, -⟩
 replace FP := (FP.on bX)
 replace FW := (FW.on bX)
 replace FT := (FT.on bX)
 replace FQ := (on9 FQ bX)
 replace Fv27 := (Fv27.on bX)
 have ZX4 := bX.size
 replace BW := BW.trans (bX.mono BW.size)
 clear bX
 refine wp_seq (wp_seq ?_)
 by_cases hF : tnE L n ch wf m p = 0
 ·refine wi_ A (h6_ t1 t2 t5 t6 t7 t8) (rv_ 1 (.bool false) (fun a e => execDec (execNeE (p := tnE L n ch wf m p) (q := 0) rfl (e _) rfl) (decide_eq_false (by omega))) (rf_ [(43, .bool false)] (h6_ t1 t2 t5 t6 t7 t8) ?_))
  rintro a A ⟨t43, -⟩ ⟨t1, t2, t5, t6, t7, t8, -⟩
  refine wp_cond_false t43 (wp_skip ?_)
  clear t43
  obtain ⟨hft, hw, hwi⟩ := tn_ok hF
  have hnm : n = (m : Int) := hft.n
  have hm : m ≤ 256 := hft.le
  have hnt : n.toNat = m := by omega
  have hR1 : riE L n ch p = 0 := hft.ri
  rw [hR1] at t6
  have hwE : pE wf m = 0 := pE_zero.2 (okQ_iff.2 ⟨fun i hi => by have h3 := hw.lt i hi; have h4 := hwi i hi; omega, fun i j hi hj hij => hw.inj i j hi hj (by show (wf i).toNat = (wf j).toNat; rw [hij])⟩)
  have hft2 := hft.tu hw
  clear t8
  replace Fv39 : SliceN X4 v39 (L) (tnF L n ch wf p) := (by have h_ := Fv39; rw [hF, zl_ok] at h_; exact h_)
  replace Fv27 : SliceI X4 v27 (m) (orF L n ch p) := (by have h_ := Fv27; rw [hR1, zl_ok, hnt] at h_; exact h_)
  have hR2 : riE L n ch (tnF L n ch wf p) = 0 := hft2.ri
  refine wp_seq ?_
  refine wi_ A (h5_ t1 t2 t5 t6 t7) (rv_ 1 (.pointer (some ⟨gq, 1, none⟩)) (fun a e => execFldJb1 rfl (e _)) (rv_ 2 (.int .i64 n) (fun a e => execLd3 rfl (e _) (ak_at1 FQ)) (rv_ 3 (.pointer (some ⟨gq, 2, none⟩)) (fun a e => execFldJb2 rfl (e _)) (rv_ 4 (.int .i64 ch) (fun a e => execLd3 rfl (e _) (ak_at2 FQ)) (rc_ 5 (porder (tnF L n ch wf p) L n ch _ X4 Fv39 (by omega)) fun e X8 hh => ?_)))))
  obtain ⟨v82, he, hk, hb⟩ := hh
  refine ⟨_, he, ?_⟩
  have bQ : Below X4.heap.size X4 X8 := hb
  have Fv82 : (SliceI X8 v82 (zl (riE L n ch (tnF L n ch wf p)) (n).toNat) (orF L n ch (tnF L n ch wf p))) := own_ints hk or_fits
  have bX := bQ
  clear bQ
  refine rf_ [(10, v82), (11, .int .i64 ((riE L n ch (tnF L n ch wf p) : Nat) : Int))] (h5_ t1 t2 t5 t6 t7) ?_
  rintro a A ⟨t10, t11, -⟩ ⟨t1, t2, t5, t6, t7, -⟩
  replace FP := (FP.on bX)
  replace FW := (FW.on bX)
  replace FT := (FT.on bX)
  replace FQ := (on9 FQ bX)
  replace Fv27 := (Fv27.on bX)
  replace Fv39 := (Fv39.on bX)
  have ZX8 := bX.size
  replace BW := BW.trans (bX.mono BW.size)
  clear bX
  rw [hR2] at t11
  replace Fv82 : SliceI X8 v82 (m) (wf) := (by have h_ := Fv82; rw [hR2, zl_ok, hnt] at h_; exact SliceI.cg h_ (fun i hi => hft.tu_or hw hwi hi))
  have hT9 : tnE L n ch (orF L n ch p) m (tnF L n ch wf p) = 0 := hft2.tn hft.or_pE
  refine wp_seq ?_
  refine wi_ A (h7_ t1 t2 t5 t6 t7 t10 t11) (rv_ 1 (.pointer (some ⟨gq, 1, none⟩)) (fun a e => execFldJb1 rfl (e _)) (rv_ 2 (.int .i64 n) (fun a e => execLd3 rfl (e _) (ak_at1 FQ)) (rv_ 3 (.pointer (some ⟨gq, 2, none⟩)) (fun a e => execFldJb2 rfl (e _)) (rv_ 4 (.int .i64 ch) (fun a e => execLd3 rfl (e _) (ak_at2 FQ)) (rc_ 6 (pturn (tnF L n ch wf p) L n ch (orF L n ch p) m _ _ X8 Fv39 (by omega) Fv27) fun e X9 hh => ?_)))))
  obtain ⟨v92, he, hk, hb⟩ := hh
  refine ⟨_, he, ?_⟩
  have bQ : Below X8.heap.size X8 X9 := hb
  have Fv92 : SliceN X9 v92 (zl (tnE L n ch (orF L n ch p) m (tnF L n ch wf p)) L) (tnF L n ch (orF L n ch p) (tnF L n ch wf p)) := own_slice hk (fun _ hj => tn_byte (Fv39).bytes hj)
  have bX := bQ
  clear bQ
  refine rf_ [(12, v92), (13, .int .i64 ((tnE L n ch (orF L n ch p) m (tnF L n ch wf p) : Nat) : Int))] (h6_ t1 t2 t6 t7 t10 t11) ?_
  rintro a A ⟨t12, t13, -⟩ ⟨t1, t2, t6, t7, t10, t11, -⟩
  replace FP := (FP.on bX)
  replace FW := (FW.on bX)
  replace FT := (FT.on bX)
  replace FQ := (on9 FQ bX)
  replace Fv27 := (Fv27.on bX)
  replace Fv39 := (Fv39.on bX)
  replace Fv82 := (Fv82.on bX)
  have ZX9 := bX.size
  replace BW := BW.trans (bX.mono BW.size)
  clear bX
  rw [hT9] at t13
  replace Fv92 : SliceN X9 v92 (L) (p) := (by have h_ := Fv92; rw [hT9, zl_ok] at h_; exact sliceN_cg h_ (fun x hx => hft.tu_back hw x))
  refine wp_seq (wp_seq ?_)
  refine wi_ A (h8_ t1 t2 t6 t7 t10 t11 t12 t13) (rv_ 1 (.bool false) (fun a e => execDec (execNeE (p := 0) (q := 0) rfl (e _) rfl) (decide_eq_false (by omega))) (rv_ 4 (.bool false) (fun a e => execDec (execNeE (p := 0) (q := 0) rfl (e _) rfl) (decide_eq_false (by omega))) (rv_ 8 (.bool false) (fun a e => execDec (execNeE (p := 0) (q := 0) rfl (e _) rfl) (decide_eq_false (by omega))) (rv_ 12 (.int .i64 ((L : Nat) : Int)) (fun a e => execLenV (len := L) rfl (e _) (shp9 Fv39)) (rv_ 13 (.pointer (some ⟨gq, 0, none⟩)) (fun a e => execFldJb0 rfl (e _)) (rv_ 14 (pv) (fun a e => execLdL rfl (e _) (ak_at0 FQ)) (rv_ 15 (.int .i64 ((L : Nat) : Int)) (fun a e => execLenV (len := L) rfl (e _) (shp9 FP)) (rv_ 16 (.bool false) (fun a e => execDec (execNeN (p := L) (q := L) rfl (e _) (e _)) (decide_eq_false (by omega))) (rv_ 20 (.pointer (some ⟨gq, 3, none⟩)) (fun a e => execFldJb3 rfl (e _)) (rv_ 21 (wv) (fun a e => execLdLI (v := wv) rfl (e _) (ak_at3 FQ)) (rc_ 22 (sm_t _ _ (m) _ _ X9 Fv82 FW (fun _ _ => rfl) (by omega)) (cb_ fun X10 bQ => ?_))))))))))))
  have bX := bQ
  clear bQ
  refine rv_ 23 (.bool false) (fun a e => execNot8 (b := true) rfl (e _)) (rv_ 27 (.string (strN p L)) (fun a e => By8.execStr rfl (e _) (Fv92.on bX)) (rv_ 28 (.pointer (some ⟨gq, 0, none⟩)) (fun a e => execFldJb0 rfl (e _)) (rv_ 29 (pv) (fun a e => execLdL rfl (e _) (ak_at0 (on9 FQ bX))) (rv_ 30 (.string (strN p L)) (fun a e => By8.execStr rfl (e _) (FP.on bX)) (rv_ 31 (.bool false) (fun a e => By8.execNeqS rfl (e _) (e _)) (rf_ [(127, .bool false)] (h3_ t1 t2 t7) ?_))))))
  rintro a A ⟨t127, -⟩ ⟨t1, t2, t7, -⟩
  replace FP := (FP.on bX)
  replace FW := (FW.on bX)
  replace FT := (FT.on bX)
  replace FQ := (on9 FQ bX)
  replace Fv27 := (Fv27.on bX)
  replace Fv39 := (Fv39.on bX)
  replace Fv82 := (Fv82.on bX)
  replace Fv92 := (Fv92.on bX)
  have ZX10 := bX.size
  replace BW := BW.trans (bX.mono BW.size)
  clear bX
  refine wp_cond_false t127 (wp_skip ?_)
  clear t127
  refine wp_seq ?_
  refine wi_ A (h3_ t1 t2 t7) (rv_ 0 (.pointer (some ⟨gq, 0, none⟩)) (fun a e => execFldJb0 rfl (e _)) (rv_ 1 (pv) (fun a e => execLdL rfl (e _) (ak_at0 FQ)) (rv_ 2 (.pointer (some ⟨gq, 1, none⟩)) (fun a e => execFldJb1 rfl (e _)) (rv_ 3 (.int .i64 n) (fun a e => execLd3 rfl (e _) (ak_at1 FQ)) (rv_ 4 (.pointer (some ⟨gq, 2, none⟩)) (fun a e => execFldJb2 rfl (e _)) (rv_ 5 (.int .i64 ch) (fun a e => execLd3 rfl (e _) (ak_at2 FQ)) (rc_ 7 (pturn p L n ch tf k _ _ X10 FP (by omega) FT) fun e X12 hh => ?_)))))))
  obtain ⟨v136, he, hk, hb⟩ := hh
  refine ⟨_, he, ?_⟩
  have bQ : Below X10.heap.size X10 X12 := hb
  have Fv136 : SliceN X12 v136 (zl (tnE L n ch tf k p) L) (tnF L n ch tf p) := own_slice hk (fun _ hj => tn_byte (FP).bytes hj)
  have bX := bQ
  clear bQ
  refine rf_ [(14, v136), (15, .int .i64 ((tnE L n ch tf k p : Nat) : Int))] (h3_ t1 t2 t7) ?_
  rintro a A ⟨t14, t15, -⟩ ⟨t1, t2, t7, -⟩
  replace FP := (FP.on bX)
  replace FW := (FW.on bX)
  replace FT := (FT.on bX)
  replace FQ := (on9 FQ bX)
  replace Fv27 := (Fv27.on bX)
  replace Fv39 := (Fv39.on bX)
  replace Fv82 := (Fv82.on bX)
  replace Fv92 := (Fv92.on bX)
  have ZX12 := bX.size
  replace BW := BW.trans (bX.mono BW.size)
  clear bX
  refine wp_seq (wp_seq ?_)
  by_cases hI : tnE L n ch tf k p = 0
  ·refine wi_ A (h5_ t1 t2 t7 t14 t15) (rv_ 1 (.bool false) (fun a e => execDec (execNeE (p := tnE L n ch tf k p) (q := 0) rfl (e _) rfl) (decide_eq_false (by omega))) (rf_ [(140, .bool false)] (h4_ t2 t7 t14 t15) ?_))
   rintro a A ⟨t140, -⟩ ⟨t2, t7, t14, t15, -⟩
   refine wp_cond_false t140 (wp_skip ?_)
   clear t140
   obtain ⟨hft3, ht3, _⟩ := tn_ok hI
   have hkm : k = m := by have := hft3.n; omega
   have ht : IsP (gN tf) m := hkm ▸ ht3
   have hT15 : tnE L n ch wf m (tnF L n ch tf p) = 0 := (hft.tu ht).tn hwE
   clear t15
   replace Fv136 : SliceN X12 v136 (L) (tnF L n ch tf p) := (by have h_ := Fv136; rw [hI, zl_ok] at h_; exact h_)
   refine wp_seq ?_
   refine wi_ A (h3_ t2 t7 t14) (rv_ 1 (.pointer (some ⟨gq, 1, none⟩)) (fun a e => execFldJb1 rfl (e _)) (rv_ 2 (.int .i64 n) (fun a e => execLd3 rfl (e _) (ak_at1 FQ)) (rv_ 3 (.pointer (some ⟨gq, 2, none⟩)) (fun a e => execFldJb2 rfl (e _)) (rv_ 4 (.int .i64 ch) (fun a e => execLd3 rfl (e _) (ak_at2 FQ)) (rv_ 5 (.pointer (some ⟨gq, 3, none⟩)) (fun a e => execFldJb3 rfl (e _)) (rv_ 6 (wv) (fun a e => execLdLI (v := wv) rfl (e _) (ak_at3 FQ)) (rc_ 7 (pturn (tnF L n ch tf p) L n ch wf m _ _ X12 Fv136 (by omega) FW) fun e X15 hh => ?_)))))))
   obtain ⟨v159, he, hk, hb⟩ := hh
   refine ⟨_, he, ?_⟩
   have bQ : Below X12.heap.size X12 X15 := hb
   have Fv159 : SliceN X15 v159 (zl (tnE L n ch wf m (tnF L n ch tf p)) L) (tnF L n ch wf (tnF L n ch tf p)) := own_slice hk (fun _ hj => tn_byte (Fv136).bytes hj)
   have bX := bQ
   clear bQ
   refine rf_ [(16, v159), (17, .int .i64 ((tnE L n ch wf m (tnF L n ch tf p) : Nat) : Int))] (h1_ t7) ?_
   rintro a A ⟨t16, t17, -⟩ ⟨t7, -⟩
   replace FP := (FP.on bX)
   replace FW := (FW.on bX)
   replace FT := (FT.on bX)
   replace FQ := (on9 FQ bX)
   replace Fv27 := (Fv27.on bX)
   replace Fv39 := (Fv39.on bX)
   replace Fv82 := (Fv82.on bX)
   replace Fv92 := (Fv92.on bX)
   replace Fv136 := (Fv136.on bX)
   have ZX15 := bX.size
   replace BW := BW.trans (bX.mono BW.size)
   clear bX
   rw [hT15] at t17
   replace Fv159 : SliceN X15 v159 (L) (tnF L n ch wf p) := (by have h_ := Fv159; rw [hT15, zl_ok] at h_; exact sliceN_cg h_ (fun x hx => hft.tu_tu ht hw x))
   refine wp_seq ?_
   refine wi_ A (h3_ t7 t16 t17) (rv_ 1 (.bool true) (fun a e => execDec (execEqE (p := 0) (q := 0) rfl (e _) rfl) (decide_eq_true (by omega))) (rv_ 4 (.string (strN (tnF L n ch wf p) L)) (fun a e => By8.execStr rfl (e _) Fv159) (rv_ 6 (.string (strN (tnF L n ch wf p) L)) (fun a e => By8.execStr rfl (e _) Fv39) (rv_ 7 (.bool true) (fun a e => By8.execEqlS rfl (e _) (e _)) (rg_ [(4, .bool true)] ?_)))))
   rintro a A ⟨t4, -⟩
   refine wp_ret ?_
   repeat (first | with_reducible refine ret_in ?_ | with_reducible refine ret_then ?_)
   refine bodyPost_ret (results_tmp rfl _ _ _) A.2 ⟨?_, BW⟩
   show Ending.returned (a.eval (.tmp 4)) = _
   rw [t4]
  ·refine wi_ A (h5_ t1 t2 t7 t14 t15) (rv_ 1 (.bool true) (fun a e => execDec (execNeE (p := tnE L n ch tf k p) (q := 0) rfl (e _) rfl) (decide_eq_true (by omega))) (rf_ [(140, .bool true)] (h2_ t1 t2) ?_))
   rintro a A ⟨t140, -⟩ ⟨t1, t2, -⟩
   refine wp_cond_true t140 ?_
   clear t140
   refine wp_seq ?_
   by_cases hk : (k : Int) = n
   ·have hkm : k = m := by omega
    have htE : pE tf k ≠ 0 := fun q => hI (by subst hkm; exact hft.tn q)
    refine wi_ A (h2_ t1 t2) (rv_ 1 (.int .i64 ((k : Nat) : Int)) (fun a e => execLenI (len := k) rfl (e _) (FT).shp) (rv_ 2 (.pointer (some ⟨gq, 1, none⟩)) (fun a e => execFldJb1 rfl (e _)) (rv_ 3 (.int .i64 n) (fun a e => execLd3 rfl (e _) (ak_at1 FQ)) (rv_ 4 (.bool false) (fun a e => execNeZf rfl (e _) (e _) (hk)) (rc_ 7 (pcheck tf k _ X12 FT (by omega)) (cb_ fun X14 bQ => ?_))))))
    have bX := bQ
    clear bQ
    refine rv_ 8 (.bool true) (fun a e => execDec (execNeE (p := pE tf k) (q := 0) rfl (e _) rfl) (decide_eq_true (by omega))) (rg_ [(4, .bool true)] ?_)
    rintro a A ⟨t4, -⟩
    replace FP := (FP.on bX)
    replace FW := (FW.on bX)
    replace FT := (FT.on bX)
    replace FQ := (on9 FQ bX)
    replace Fv27 := (Fv27.on bX)
    replace Fv39 := (Fv39.on bX)
    replace Fv82 := (Fv82.on bX)
    replace Fv92 := (Fv92.on bX)
    replace Fv136 := (Fv136.on bX)
    have ZX14 := bX.size
    replace BW := BW.trans (bX.mono BW.size)
    clear bX
    refine wp_ret ?_
    repeat (first | with_reducible refine ret_in ?_ | with_reducible refine ret_then ?_)
    refine bodyPost_ret (results_tmp rfl _ _ _) A.2 ⟨?_, BW⟩
    show Ending.returned (a.eval (.tmp 4)) = _
    rw [t4]
   ·refine wi_ A (h2_ t1 t2) (rv_ 1 (.int .i64 ((k : Nat) : Int)) (fun a e => execLenI (len := k) rfl (e _) (FT).shp) (rv_ 2 (.pointer (some ⟨gq, 1, none⟩)) (fun a e => execFldJb1 rfl (e _)) (rv_ 3 (.int .i64 n) (fun a e => execLd3 rfl (e _) (ak_at1 FQ)) (rv_ 4 (.bool true) (fun a e => execNeZt rfl (e _) (e _) (hk)) (rg_ [(4, .bool true)] ?_)))))
    rintro a A ⟨t4, -⟩
    refine wp_ret ?_
    repeat (first | with_reducible refine ret_in ?_ | with_reducible refine ret_then ?_)
    refine bodyPost_ret (results_tmp rfl _ _ _) A.2 ⟨?_, BW⟩
    show Ending.returned (a.eval (.tmp 4)) = _
    rw [t4]
 ·refine wi_ A (h6_ t1 t2 t5 t6 t7 t8) (rv_ 1 (.bool true) (fun a e => execDec (execNeE (p := tnE L n ch wf m p) (q := 0) rfl (e _) rfl) (decide_eq_true (by omega))) (rf_ [(43, .bool true)] (h4_ t2 t6 t7 t8) ?_))
  rintro a A ⟨t43, -⟩ ⟨t2, t6, t7, t8, -⟩
  refine wp_cond_true t43 ?_
  clear t43
  refine wp_seq ?_
  replace Fv39 : SliceN X4 v39 (0) (tnF L n ch wf p) := (by have h_ := Fv39; rw [zl_no hF] at h_; exact h_)
  by_cases hc1 : pE wf m = 0
  ·by_cases hc2 : (m : Int) = n
   ·by_cases heq : tnE L n ch wf m p = riE L n ch p
    ·refine wi_ A (h4_ t2 t6 t7 t8) (rv_ 0 (.pointer (some ⟨gq, 3, none⟩)) (fun a e => execFldJb3 rfl (e _)) (rv_ 1 (wv) (fun a e => execLdLI (v := wv) rfl (e _) (ak_at3 FQ)) (rc_ 2 (pcheck wf m _ X4 FW (by omega)) (cb_ fun X6 bQ => ?_))))
     have bX := bQ
     clear bQ
     refine rv_ 3 (.bool true) (fun a e => execDec (execEqE (p := pE wf m) (q := 0) rfl (e _) rfl) (decide_eq_true (by omega))) (rv_ 5 (.pointer (some ⟨gq, 3, none⟩)) (fun a e => execFldJb3 rfl (e _)) (rv_ 6 (wv) (fun a e => execLdLI (v := wv) rfl (e _) (ak_at3 (on9 FQ bX))) (rv_ 7 (.int .i64 ((m : Nat) : Int)) (fun a e => execLenI (len := m) rfl (e _) ((FW.on bX)).shp) (rv_ 8 (.pointer (some ⟨gq, 1, none⟩)) (fun a e => execFldJb1 rfl (e _)) (rv_ 9 (.int .i64 n) (fun a e => execLd3 rfl (e _) (ak_at1 (on9 FQ bX))) (rv_ 10 (.bool true) (fun a e => execEqZt rfl (e _) (e _) (hc2)) (rf_ [(9, .bool true)] (h3_ t6 t7 t8) ?_)))))))
     rintro a A ⟨t9, -⟩ ⟨t6, t7, t8, -⟩
     replace FP := (FP.on bX)
     replace FW := (FW.on bX)
     replace FT := (FT.on bX)
     replace FQ := (on9 FQ bX)
     replace Fv27 := (Fv27.on bX)
     replace Fv39 := (Fv39.on bX)
     have ZX6 := bX.size
     replace BW := BW.trans (bX.mono BW.size)
     clear bX
     refine wp_seq ?_
     refine wi_ A (h4_ t6 t7 t8 t9) (rv_ 1 (.int .i64 ((0 : Nat) : Int)) (fun a e => execLenV (len := 0) rfl (e _) (shp9 Fv39)) (rv_ 2 (.bool true) (fun a e => execDec (execEqN (p := 0) (q := 0) rfl (e _) rfl) (decide_eq_true (by omega))) (rv_ 6 (.bool true) (fun a e => execDec (execEqE (p := tnE L n ch wf m p) (q := riE L n ch p) rfl (e _) (e _)) (decide_eq_true (by omega))) (rg_ [(4, .bool true)] ?_))))
     rintro a A ⟨t4, -⟩
     refine wp_ret ?_
     repeat (first | with_reducible refine ret_in ?_ | with_reducible refine ret_then ?_)
     refine bodyPost_ret (results_tmp rfl _ _ _) A.2 ⟨?_, BW⟩
     show Ending.returned (a.eval (.tmp 4)) = _
     rw [t4]
    ·rcases tn_no (L := L) (n := n) (ch := ch) (wf := wf) (m := m) (p := p) with h_ | h_
     ·exact absurd h_ heq
     ·exact absurd ⟨hc1, hc2⟩ h_.1
   ·by_cases heq : tnE L n ch wf m p = riE L n ch p
    ·refine wi_ A (h4_ t2 t6 t7 t8) (rv_ 0 (.pointer (some ⟨gq, 3, none⟩)) (fun a e => execFldJb3 rfl (e _)) (rv_ 1 (wv) (fun a e => execLdLI (v := wv) rfl (e _) (ak_at3 FQ)) (rc_ 2 (pcheck wf m _ X4 FW (by omega)) (cb_ fun X6 bQ => ?_))))
     have bX := bQ
     clear bQ
     refine rv_ 3 (.bool true) (fun a e => execDec (execEqE (p := pE wf m) (q := 0) rfl (e _) rfl) (decide_eq_true (by omega))) (rv_ 5 (.pointer (some ⟨gq, 3, none⟩)) (fun a e => execFldJb3 rfl (e _)) (rv_ 6 (wv) (fun a e => execLdLI (v := wv) rfl (e _) (ak_at3 (on9 FQ bX))) (rv_ 7 (.int .i64 ((m : Nat) : Int)) (fun a e => execLenI (len := m) rfl (e _) ((FW.on bX)).shp) (rv_ 8 (.pointer (some ⟨gq, 1, none⟩)) (fun a e => execFldJb1 rfl (e _)) (rv_ 9 (.int .i64 n) (fun a e => execLd3 rfl (e _) (ak_at1 (on9 FQ bX))) (rv_ 10 (.bool false) (fun a e => execEqZf rfl (e _) (e _) (hc2)) (rf_ [(9, .bool false)] (h3_ t6 t7 t8) ?_)))))))
     rintro a A ⟨t9, -⟩ ⟨t6, t7, t8, -⟩
     replace FP := (FP.on bX)
     replace FW := (FW.on bX)
     replace FT := (FT.on bX)
     replace FQ := (on9 FQ bX)
     replace Fv27 := (Fv27.on bX)
     replace Fv39 := (Fv39.on bX)
     have ZX6 := bX.size
     replace BW := BW.trans (bX.mono BW.size)
     clear bX
     refine wp_seq ?_
     refine wi_ A (h4_ t6 t7 t8 t9) (rv_ 1 (.int .i64 ((0 : Nat) : Int)) (fun a e => execLenV (len := 0) rfl (e _) (shp9 Fv39)) (rv_ 2 (.bool true) (fun a e => execDec (execEqN (p := 0) (q := 0) rfl (e _) rfl) (decide_eq_true (by omega))) (rv_ 6 (.bool true) (fun a e => execDec (execEqE (p := tnE L n ch wf m p) (q := riE L n ch p) rfl (e _) (e _)) (decide_eq_true (by omega))) (rg_ [(4, .bool true)] ?_))))
     rintro a A ⟨t4, -⟩
     refine wp_ret ?_
     repeat (first | with_reducible refine ret_in ?_ | with_reducible refine ret_then ?_)
     refine bodyPost_ret (results_tmp rfl _ _ _) A.2 ⟨?_, BW⟩
     show Ending.returned (a.eval (.tmp 4)) = _
     rw [t4]
    ·by_cases h2e : tnE L n ch wf m p = 2
     ·refine wi_ A (h4_ t2 t6 t7 t8) (rv_ 0 (.pointer (some ⟨gq, 3, none⟩)) (fun a e => execFldJb3 rfl (e _)) (rv_ 1 (wv) (fun a e => execLdLI (v := wv) rfl (e _) (ak_at3 FQ)) (rc_ 2 (pcheck wf m _ X4 FW (by omega)) (cb_ fun X6 bQ => ?_))))
      have bX := bQ
      clear bQ
      refine rv_ 3 (.bool true) (fun a e => execDec (execEqE (p := pE wf m) (q := 0) rfl (e _) rfl) (decide_eq_true (by omega))) (rv_ 5 (.pointer (some ⟨gq, 3, none⟩)) (fun a e => execFldJb3 rfl (e _)) (rv_ 6 (wv) (fun a e => execLdLI (v := wv) rfl (e _) (ak_at3 (on9 FQ bX))) (rv_ 7 (.int .i64 ((m : Nat) : Int)) (fun a e => execLenI (len := m) rfl (e _) ((FW.on bX)).shp) (rv_ 8 (.pointer (some ⟨gq, 1, none⟩)) (fun a e => execFldJb1 rfl (e _)) (rv_ 9 (.int .i64 n) (fun a e => execLd3 rfl (e _) (ak_at1 (on9 FQ bX))) (rv_ 10 (.bool false) (fun a e => execEqZf rfl (e _) (e _) (hc2)) (rf_ [(9, .bool false)] (h3_ t6 t7 t8) ?_)))))))
      rintro a A ⟨t9, -⟩ ⟨t6, t7, t8, -⟩
      replace FP := (FP.on bX)
      replace FW := (FW.on bX)
      replace FT := (FT.on bX)
      replace FQ := (on9 FQ bX)
      replace Fv27 := (Fv27.on bX)
      replace Fv39 := (Fv39.on bX)
      have ZX6 := bX.size
      replace BW := BW.trans (bX.mono BW.size)
      clear bX
      refine wp_seq ?_
      refine wi_ A (h4_ t6 t7 t8 t9) (rv_ 1 (.int .i64 ((0 : Nat) : Int)) (fun a e => execLenV (len := 0) rfl (e _) (shp9 Fv39)) (rv_ 2 (.bool true) (fun a e => execDec (execEqN (p := 0) (q := 0) rfl (e _) rfl) (decide_eq_true (by omega))) (rv_ 6 (.bool false) (fun a e => execDec (execEqE (p := tnE L n ch wf m p) (q := riE L n ch p) rfl (e _) (e _)) (decide_eq_false (by omega))) (rv_ 9 (.bool true) (fun a e => execNot8 (b := false) rfl (e _)) (rv_ 12 (.bool true) (fun a e => execDec (execEqE (p := tnE L n ch wf m p) (q := 2) rfl (e _) rfl) (decide_eq_true (by omega))) (rg_ [(4, .bool true)] ?_))))))
      rintro a A ⟨t4, -⟩
      refine wp_ret ?_
      repeat (first | with_reducible refine ret_in ?_ | with_reducible refine ret_then ?_)
      refine bodyPost_ret (results_tmp rfl _ _ _) A.2 ⟨?_, BW⟩
      show Ending.returned (a.eval (.tmp 4)) = _
      rw [t4]
     ·have h110 : tnE L n ch wf m p = 110 := by
       rcases tn_no (L := L) (n := n) (ch := ch) (wf := wf) (m := m) (p := p) with h_ | h_
       ·exact absurd h_ heq
       ·exact h_.2.resolve_left h2e
      refine wi_ A (h4_ t2 t6 t7 t8) (rv_ 0 (.pointer (some ⟨gq, 3, none⟩)) (fun a e => execFldJb3 rfl (e _)) (rv_ 1 (wv) (fun a e => execLdLI (v := wv) rfl (e _) (ak_at3 FQ)) (rc_ 2 (pcheck wf m _ X4 FW (by omega)) (cb_ fun X6 bQ => ?_))))
      have bX := bQ
      clear bQ
      refine rv_ 3 (.bool true) (fun a e => execDec (execEqE (p := pE wf m) (q := 0) rfl (e _) rfl) (decide_eq_true (by omega))) (rv_ 5 (.pointer (some ⟨gq, 3, none⟩)) (fun a e => execFldJb3 rfl (e _)) (rv_ 6 (wv) (fun a e => execLdLI (v := wv) rfl (e _) (ak_at3 (on9 FQ bX))) (rv_ 7 (.int .i64 ((m : Nat) : Int)) (fun a e => execLenI (len := m) rfl (e _) ((FW.on bX)).shp) (rv_ 8 (.pointer (some ⟨gq, 1, none⟩)) (fun a e => execFldJb1 rfl (e _)) (rv_ 9 (.int .i64 n) (fun a e => execLd3 rfl (e _) (ak_at1 (on9 FQ bX))) (rv_ 10 (.bool false) (fun a e => execEqZf rfl (e _) (e _) (hc2)) (rf_ [(9, .bool false)] (h3_ t6 t7 t8) ?_)))))))
      rintro a A ⟨t9, -⟩ ⟨t6, t7, t8, -⟩
      replace FP := (FP.on bX)
      replace FW := (FW.on bX)
      replace FT := (FT.on bX)
      replace FQ := (on9 FQ bX)
      replace Fv27 := (Fv27.on bX)
      replace Fv39 := (Fv39.on bX)
      have ZX6 := bX.size
      replace BW := BW.trans (bX.mono BW.size)
      clear bX
      refine wp_seq ?_
      refine wi_ A (h4_ t6 t7 t8 t9) (rv_ 1 (.int .i64 ((0 : Nat) : Int)) (fun a e => execLenV (len := 0) rfl (e _) (shp9 Fv39)) (rv_ 2 (.bool true) (fun a e => execDec (execEqN (p := 0) (q := 0) rfl (e _) rfl) (decide_eq_true (by omega))) (rv_ 6 (.bool false) (fun a e => execDec (execEqE (p := tnE L n ch wf m p) (q := riE L n ch p) rfl (e _) (e _)) (decide_eq_false (by omega))) (rv_ 9 (.bool true) (fun a e => execNot8 (b := false) rfl (e _)) (rv_ 12 (.bool false) (fun a e => execDec (execEqE (p := tnE L n ch wf m p) (q := 2) rfl (e _) rfl) (decide_eq_false (by omega))) (rv_ 15 (.bool true) (fun a e => execDec (execEqE (p := tnE L n ch wf m p) (q := 110) rfl (e _) rfl) (decide_eq_true (by omega))) (rg_ [(4, .bool true)] ?_)))))))
      rintro a A ⟨t4, -⟩
      refine wp_ret ?_
      repeat (first | with_reducible refine ret_in ?_ | with_reducible refine ret_then ?_)
      refine bodyPost_ret (results_tmp rfl _ _ _) A.2 ⟨?_, BW⟩
      show Ending.returned (a.eval (.tmp 4)) = _
      rw [t4]
  ·have hc2 : True := trivial
   by_cases heq : tnE L n ch wf m p = riE L n ch p
   ·refine wi_ A (h4_ t2 t6 t7 t8) (rv_ 0 (.pointer (some ⟨gq, 3, none⟩)) (fun a e => execFldJb3 rfl (e _)) (rv_ 1 (wv) (fun a e => execLdLI (v := wv) rfl (e _) (ak_at3 FQ)) (rc_ 2 (pcheck wf m _ X4 FW (by omega)) (cb_ fun X6 bQ => ?_))))
    have bX := bQ
    clear bQ
    refine rv_ 3 (.bool false) (fun a e => execDec (execEqE (p := pE wf m) (q := 0) rfl (e _) rfl) (decide_eq_false (by omega))) (rf_ [(9, .bool false)] (h3_ t6 t7 t8) ?_)
    rintro a A ⟨t9, -⟩ ⟨t6, t7, t8, -⟩
    replace FP := (FP.on bX)
    replace FW := (FW.on bX)
    replace FT := (FT.on bX)
    replace FQ := (on9 FQ bX)
    replace Fv27 := (Fv27.on bX)
    replace Fv39 := (Fv39.on bX)
    have ZX6 := bX.size
    replace BW := BW.trans (bX.mono BW.size)
    clear bX
    refine wp_seq ?_
    refine wi_ A (h4_ t6 t7 t8 t9) (rv_ 1 (.int .i64 ((0 : Nat) : Int)) (fun a e => execLenV (len := 0) rfl (e _) (shp9 Fv39)) (rv_ 2 (.bool true) (fun a e => execDec (execEqN (p := 0) (q := 0) rfl (e _) rfl) (decide_eq_true (by omega))) (rv_ 6 (.bool true) (fun a e => execDec (execEqE (p := tnE L n ch wf m p) (q := riE L n ch p) rfl (e _) (e _)) (decide_eq_true (by omega))) (rg_ [(4, .bool true)] ?_))))
    rintro a A ⟨t4, -⟩
    refine wp_ret ?_
    repeat (first | with_reducible refine ret_in ?_ | with_reducible refine ret_then ?_)
    refine bodyPost_ret (results_tmp rfl _ _ _) A.2 ⟨?_, BW⟩
    show Ending.returned (a.eval (.tmp 4)) = _
    rw [t4]
   ·by_cases h2e : tnE L n ch wf m p = 2
    ·refine wi_ A (h4_ t2 t6 t7 t8) (rv_ 0 (.pointer (some ⟨gq, 3, none⟩)) (fun a e => execFldJb3 rfl (e _)) (rv_ 1 (wv) (fun a e => execLdLI (v := wv) rfl (e _) (ak_at3 FQ)) (rc_ 2 (pcheck wf m _ X4 FW (by omega)) (cb_ fun X6 bQ => ?_))))
     have bX := bQ
     clear bQ
     refine rv_ 3 (.bool false) (fun a e => execDec (execEqE (p := pE wf m) (q := 0) rfl (e _) rfl) (decide_eq_false (by omega))) (rf_ [(9, .bool false)] (h3_ t6 t7 t8) ?_)
     rintro a A ⟨t9, -⟩ ⟨t6, t7, t8, -⟩
     replace FP := (FP.on bX)
     replace FW := (FW.on bX)
     replace FT := (FT.on bX)
     replace FQ := (on9 FQ bX)
     replace Fv27 := (Fv27.on bX)
     replace Fv39 := (Fv39.on bX)
     have ZX6 := bX.size
     replace BW := BW.trans (bX.mono BW.size)
     clear bX
     refine wp_seq ?_
     refine wi_ A (h4_ t6 t7 t8 t9) (rv_ 1 (.int .i64 ((0 : Nat) : Int)) (fun a e => execLenV (len := 0) rfl (e _) (shp9 Fv39)) (rv_ 2 (.bool true) (fun a e => execDec (execEqN (p := 0) (q := 0) rfl (e _) rfl) (decide_eq_true (by omega))) (rv_ 6 (.bool false) (fun a e => execDec (execEqE (p := tnE L n ch wf m p) (q := riE L n ch p) rfl (e _) (e _)) (decide_eq_false (by omega))) (rv_ 9 (.bool true) (fun a e => execNot8 (b := false) rfl (e _)) (rv_ 12 (.bool true) (fun a e => execDec (execEqE (p := tnE L n ch wf m p) (q := 2) rfl (e _) rfl) (decide_eq_true (by omega))) (rg_ [(4, .bool true)] ?_))))))
     rintro a A ⟨t4, -⟩
     refine wp_ret ?_
     repeat (first | with_reducible refine ret_in ?_ | with_reducible refine ret_then ?_)
     refine bodyPost_ret (results_tmp rfl _ _ _) A.2 ⟨?_, BW⟩
     show Ending.returned (a.eval (.tmp 4)) = _
     rw [t4]
    ·have h110 : tnE L n ch wf m p = 110 := by
      rcases tn_no (L := L) (n := n) (ch := ch) (wf := wf) (m := m) (p := p) with h_ | h_
      ·exact absurd h_ heq
      ·exact h_.2.resolve_left h2e
     refine wi_ A (h4_ t2 t6 t7 t8) (rv_ 0 (.pointer (some ⟨gq, 3, none⟩)) (fun a e => execFldJb3 rfl (e _)) (rv_ 1 (wv) (fun a e => execLdLI (v := wv) rfl (e _) (ak_at3 FQ)) (rc_ 2 (pcheck wf m _ X4 FW (by omega)) (cb_ fun X6 bQ => ?_))))
     have bX := bQ
     clear bQ
     refine rv_ 3 (.bool false) (fun a e => execDec (execEqE (p := pE wf m) (q := 0) rfl (e _) rfl) (decide_eq_false (by omega))) (rf_ [(9, .bool false)] (h3_ t6 t7 t8) ?_)
     rintro a A ⟨t9, -⟩ ⟨t6, t7, t8, -⟩
     replace FP := (FP.on bX)
     replace FW := (FW.on bX)
     replace FT := (FT.on bX)
     replace FQ := (on9 FQ bX)
     replace Fv27 := (Fv27.on bX)
     replace Fv39 := (Fv39.on bX)
     have ZX6 := bX.size
     replace BW := BW.trans (bX.mono BW.size)
     clear bX
     refine wp_seq ?_
     refine wi_ A (h4_ t6 t7 t8 t9) (rv_ 1 (.int .i64 ((0 : Nat) : Int)) (fun a e => execLenV (len := 0) rfl (e _) (shp9 Fv39)) (rv_ 2 (.bool true) (fun a e => execDec (execEqN (p := 0) (q := 0) rfl (e _) rfl) (decide_eq_true (by omega))) (rv_ 6 (.bool false) (fun a e => execDec (execEqE (p := tnE L n ch wf m p) (q := riE L n ch p) rfl (e _) (e _)) (decide_eq_false (by omega))) (rv_ 9 (.bool true) (fun a e => execNot8 (b := false) rfl (e _)) (rv_ 12 (.bool false) (fun a e => execDec (execEqE (p := tnE L n ch wf m p) (q := 2) rfl (e _) rfl) (decide_eq_false (by omega))) (rv_ 15 (.bool true) (fun a e => execDec (execEqE (p := tnE L n ch wf m p) (q := 110) rfl (e _) rfl) (decide_eq_true (by omega))) (rg_ [(4, .bool true)] ?_)))))))
     rintro a A ⟨t4, -⟩
     refine wp_ret ?_
     repeat (first | with_reducible refine ret_in ?_ | with_reducible refine ret_then ?_)
     refine bodyPost_ret (results_tmp rfl _ _ _) A.2 ⟨?_, BW⟩
     show Ending.returned (a.eval (.tmp 4)) = _
     rw [t4]
end Go.Proofs.Ytmjpneaccjlpkaa.Rif
