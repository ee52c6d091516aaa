import Derived.Test.YtmjpneaccjlpkaaX9j
import Derived.Test.YtmjpneaccjlpkaaX9r
namespace Go.Proofs.Ytmjpneaccjlpkaa.Rif
open Go.RowKit Gf8 Aes By8 Cel Cf Tap Drw Prm Brd
/- Stage 13's RiffleTurns. Written by tools/mkX9s.py. -/
set_option maxRecDepth 100000 in
set_option maxHeartbeats 4000000 in
theorem turns13 (p : Nat → Nat) (L : Nat) (n ch : Int) (wf : Nat → Int) (m : Nat) (pv wv : Value) (V : World) (FP : SliceN V pv L p) (hl : L ≤ 140737488351232) (FW : SliceI V wv m wf) (hm17 : m ≤ 17592186043904) :
  Calls Try.prog 5 #[.agg (akC pv (.int .i64 n) (.int .i64 ch) wv)] V fun e w' => e = .returned (.bool true) ∧ Below V.heap.size V w' := by
 go_enter Try.func5, Try.ntmps5
 refine wp_open (fun a => (a.tmps.size = 43 ∧ a.defers = []) ∧ a.eval (.tmp 0) = .agg (akC pv (.int .i64 n) (.int .i64 ch) wv)) ⟨⟨rfl, rfl⟩, rfl⟩ ?_
 rintro a ⟨A, t0⟩
 have BW : Below V.heap.size V V := Below.refl _ _
 refine wp_seq ?_
 obtain ⟨gq, eggq⟩ : ∃ z_ : Nat, V.heap.size = z_ := ⟨_, rfl⟩
 refine wi_ A (h1_ t0) (rs_ 0 (fun a e => ?_))
 refine stepV rfl rfl (execBoxJb rfl (e _)) ⟨.pointer (some ⟨gq, 0, none⟩), ⟨_, rfl, by subst eggq; rfl⟩, fun X0 hX => ?_⟩
 have bQ : Below V.heap.size V X0 := by subst hX eggq; exact (belNew V _)
 have FQ : (X0.heap[gq]? = some (.cells (akC pv (.int .i64 n) (.int .i64 ch) wv) 38)) := by subst hX eggq; exact heapNew V _
 have bX := bQ
 clear bQ hX eggq e a
 refine rg_ [(1, .pointer (some ⟨gq, 0, none⟩))] ?_
 rintro a A ⟨t1, -⟩
 replace FP := (FP.on bX)
 replace FW := (FW.on bX)
 have ZX0 := bX.size
 replace BW := BW.trans (bX.mono BW.size)
 clear bX
 refine wp_seq (wp_seq ?_)
 refine wi_ A (h1_ t1) (rc_ 0 (alive13 X0) (cb_ fun X1 bQ => ?_))
 have bX := bQ
 clear bQ
 refine rv_ 1 (.bool false) (fun a e => execNot8 (b := true) rfl (e _)) (rf_ [(8, .bool false)] (h1_ t1) ?_)
 rintro a A ⟨t8, -⟩ ⟨t1, -⟩
 replace FP := (FP.on bX)
 replace FW := (FW.on bX)
 replace FQ := (on9 FQ bX)
 have ZX1 := bX.size
 replace BW := BW.trans (bX.mono BW.size)
 clear bX
 refine wp_cond_false t8 (wp_skip ?_)
 clear t8
 refine wp_seq ?_
 refine wi_ A (h1_ t1) (rv_ 0 (.pointer (some ⟨gq, 0, none⟩)) (fun a e => execFldJb0 rfl (e _)) (rv_ 1 (pv) (fun a e => execLdL rfl (e _) (ak_at0 FQ)) (rv_ 2 (.pointer (some ⟨gq, 1, none⟩)) (fun a e => execFldJb1 rfl (e _)) (rv_ 3 (.int .i64 n) (fun a e => execLd3 rfl (e _) (ak_at1 FQ)) (rv_ 4 (.pointer (some ⟨gq, 2, none⟩)) (fun a e => execFldJb2 rfl (e _)) (rv_ 5 (.int .i64 ch) (fun a e => execLd3 rfl (e _) (ak_at2 FQ)) (rv_ 6 (.pointer (some ⟨gq, 3, none⟩)) (fun a e => execFldJb3 rfl (e _)) (rv_ 7 (wv) (fun a e => execLdLI (v := wv) rfl (e _) (ak_at3 FQ)) (rc_ 8 (rturn13 p L n ch wf m _ _ X1 FP (by omega) FW (by omega)) fun e X3 hh => ?_)))))))))
 obtain ⟨v18, he, hk, hb⟩ := hh
 refine ⟨_, he, ?_⟩
 have bQ : Below X1.heap.size X1 X3 := hb
 have Fv18 : SliceN X3 v18 (zl (tnE L n ch wf m p) L) (tnF L n ch wf p) := own_slice hk (fun _ hj => tn_byte (FP).bytes hj)
 have bX := bQ
 clear bQ
 refine rf_ [(3, v18), (4, .int .i64 ((tnE L n ch wf m p : Nat) : Int))] (h1_ t1) ?_
 rintro a A ⟨t3, t4, -⟩ ⟨t1, -⟩
 replace FP := (FP.on bX)
 replace FW := (FW.on bX)
 replace FQ := (on9 FQ bX)
 have ZX3 := bX.size
 replace BW := BW.trans (bX.mono BW.size)
 clear bX
 refine wp_seq ?_
 refine wi_ A (h3_ t1 t3 t4) (rv_ 0 (.pointer (some ⟨gq, 0, none⟩)) (fun a e => execFldJb0 rfl (e _)) (rv_ 1 (pv) (fun a e => execLdL rfl (e _) (ak_at0 FQ)) (rv_ 2 (.pointer (some ⟨gq, 1, none⟩)) (fun a e => execFldJb1 rfl (e _)) (rv_ 3 (.int .i64 n) (fun a e => execLd3 rfl (e _) (ak_at1 FQ)) (rv_ 4 (.pointer (some ⟨gq, 2, none⟩)) (fun a e => execFldJb2 rfl (e _)) (rv_ 5 (.int .i64 ch) (fun a e => execLd3 rfl (e _) (ak_at2 FQ)) (rv_ 6 (.pointer (some ⟨gq, 3, none⟩)) (fun a e => execFldJb3 rfl (e _)) (rv_ 7 (wv) (fun a e => execLdLI (v := wv) rfl (e _) (ak_at3 FQ)) (rc_ 8 (pturn p L n ch wf m _ _ X3 FP (by omega) FW) fun e X4 hh => ?_)))))))))
 obtain ⟨v30, he, hk, hb⟩ := hh
 refine ⟨_, he, ?_⟩
 have bQ : Below X3.heap.size X3 X4 := hb
 have Fv30 : SliceN X4 v30 (zl (tnE L n ch wf m p) L) (tnF L n ch wf p) := own_slice hk (fun _ hj => tn_byte (FP).bytes hj)
 have bX := bQ
 clear bQ
 refine rf_ [(5, v30), (6, .int .i64 ((tnE L n ch wf m p : Nat) : Int))] (h2_ t3 t4) ?_
 rintro a A ⟨t5, t6, -⟩ ⟨t3, t4, -⟩
 replace FP := (FP.on bX)
 replace FW := (FW.on bX)
 replace FQ := (on9 FQ bX)
 replace Fv18 := (Fv18.on bX)
 have ZX4 := bX.size
 replace BW := BW.trans (bX.mono BW.size)
 clear bX
 refine wp_seq ?_
 refine wi_ A (h4_ t3 t4 t5 t6) (rv_ 1 (.string (strN (tnF L n ch wf p) (zl (tnE L n ch wf m p) L))) (fun a e => By8.execStr rfl (e _) Fv30) (rv_ 3 (.string (strN (tnF L n ch wf p) (zl (tnE L n ch wf m p) L))) (fun a e => By8.execStr rfl (e _) Fv18) (rv_ 4 (.bool true) (fun a e => By8.execEqlS rfl (e _) (e _)) (rv_ 8 (.bool true) (fun a e => execDec (execEqN (p := tnE L n ch wf m p) (q := tnE L n ch wf m p) rfl (e _) (e _)) (decide_eq_true (by rfl))) (rg_ [(2, .bool true)] ?_)))))
 rintro a A ⟨t2, -⟩
 refine wp_ret ?_
 repeat (first | with_reducible refine ret_in ?_ | with_reducible refine ret_then ?_)
 refine bodyPost_ret (results_tmp rfl _ _ _) A.2 ⟨?_, BW⟩
 show Ending.returned (a.eval (.tmp 2)) = _
 rw [t2]
end Go.Proofs.Ytmjpneaccjlpkaa.Rif
