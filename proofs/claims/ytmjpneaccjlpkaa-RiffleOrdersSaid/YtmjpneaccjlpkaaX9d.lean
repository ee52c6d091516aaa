import Derived.Test.YtmjpneaccjlpkaaF9c
import Derived.Test.YtmjpneaccjlpkaaF9b
import Derived.Test.YtmjpneaccjlpkaaX9c
namespace Go.Proofs.Ytmjpneaccjlpkaa.Rif
open Go.RowKit Gf8 Aes By8 Cel Cf Tap Drw Prm Brd
/- Package riffle's apart. Written by tools/mkX9d.py. -/
theorem fc_on {C : Nat} {W W' : World} (h : C ≤ W.heap.size) (b : Below W.heap.size W W') : C ≤ W'.heap.size := Nat.le_trans h b.size
theorem sz_set (W : World) (a : Addr) (z : Value) : (W.setCell a z).heap.size = W.heap.size := by simp [World.setCell]
theorem fm_offLo {C k g o : Nat} {x : Nat → Value} {nn : Nat → Nat} {ff : Nat → Nat → Int} {W : World} {z : Value} (h : FmI C k x nn ff W) (hg : g < C) : FmI C k x nn ff (W.setCell ⟨g, o, none⟩ z) :=
 ⟨fun t ht => own_offB (h.rows t ht) (fun e => by have := ((h.rows t ht).lt _ e).1; omega), h.dis⟩
theorem ffL_fits0 {N J : Nat} (h1 : 1 ≤ J) (h2 : J ≤ 64) : ∀ j, j < n2 N J 0 → -9223372036854775808 ≤ ffL N J 0 j ∧ ffL N J 0 j < 9223372036854775808 := fun j hj => by
 have h3 : j < sumN (szF N J) J := by rw [szF_sum N h1]; exact hj
 have h4 := (pj_lt h3).1
 show -9223372036854775808 ≤ ((pj (szF N J) j J : Nat) : Int) ∧ ((pj (szF N J) j J : Nat) : Int) < 9223372036854775808
 omega
theorem ffL_fits1 {N J : Nat} (hN : N ≤ 256) (h1 : 1 ≤ J) : ∀ j, j < n2 N J 1 → -9223372036854775808 ≤ ffL N J 1 j ∧ ffL N J 1 j < 9223372036854775808 := fun j hj => by
 have h3 : j < J := hj
 have h4 := sumN_at (r := szF N J) h3
 rw [szF_sum N h1] at h4
 show -9223372036854775808 ≤ ((sumN (szF N J) j : Nat) : Int) ∧ ((sumN (szF N J) j : Nat) : Int) < 9223372036854775808
 omega
theorem wO_z {N J : Nat} {w : Nat → Nat} {i c wi : Nat} (ec : wC (szF N J) J w i = c) (ew : w i = wi) (hi : i < N) : ((wi - sumN (szF N J) c : Nat) : Int) = wOI J N w c (cntC (wC (szF N J) J w) c i) := by
 show _ = ((w (plC (wC (szF N J) J w) c (cntC (wC (szF N J) J w) c i) N) - sumN (szF N J) c : Nat) : Int)
 have h := plC_is (C := wC (szF N J) J w) hi
 rw [ec] at h
 rw [h, ew]
theorem cnt_upd {C : Nat → Nat} {i c t : Nat} (ec : C i = c) : updD (fun t => cntC C t i) c 1 t = cntC C t (i + 1) := by
 show (if t = c then cntC C c i + 1 else cntC C t i) = cntC C t i + (if C i = t then 1 else 0)
 rw [ec]
 by_cases h : t = c
 ·subst h
  rw [if_pos rfl, if_pos rfl]
 ·rw [if_neg h, if_neg (fun e => h e.symm), Nat.add_zero]
theorem wCI_fits {N J : Nat} {w : Nat → Nat} (h1 : 1 ≤ J) (h2 : J ≤ 64) (hw : IsP w N) : ∀ j, j < N → -9223372036854775808 ≤ wCI J N w j ∧ wCI J N w j < 9223372036854775808 := fun j hj => by
 have h3 := (wC_pat (szF_sum N h1) hw).lt j hj
 show -9223372036854775808 ≤ ((wC (szF N J) J w j : Nat) : Int) ∧ ((wC (szF N J) J w j : Nat) : Int) < 9223372036854775808
 omega
theorem wOI_fits {N J : Nat} {w : Nat → Nat} (hN : N ≤ 256) (h1 : 1 ≤ J) (hw : IsP w N) : ∀ t, t < J → ∀ k, k < szF N J t → -9223372036854775808 ≤ wOI J N w t k ∧ wOI J N w t k < 9223372036854775808 := fun t ht k hk => by
 have h3 := (wO_isP (szF_sum N h1) hw ht).lt k hk
 have h4 := szF_le N ht
 show -9223372036854775808 ≤ ((wO (szF N J) J N w t k : Nat) : Int) ∧ ((wO (szF N J) J N w t k : Nat) : Int) < 9223372036854775808
 omega
set_option maxRecDepth 100000 in
set_option maxHeartbeats 4000000 in
theorem papart (w : Nat → Nat) (N J : Nat) (ov sv : Value) (V : World) (FW : SliceI V ov N (fun i => ((w i : Nat) : Int))) (FXs : SliceI V sv J (sI N J)) (hN : N ≤ 256) (h1 : 1 ≤ J) (h2 : J ≤ 64) (hw : IsP w N) :
  Calls Try.prog 35 #[ov, sv] V fun e w' => ∃ r1 r2 y, e = .returned (.tuple #[r1, r2]) ∧ SliceI w' r1 N (wCI J N w) ∧ LLI w' r2 J y (szF N J) (wOI J N w) ∧ Below V.heap.size V w' := by
 go_enter Try.func35, Try.ntmps35
 refine wp_seq ?_
 refine wo_ 55 [(0, ov), (1, sv)] ?_
 rintro a A ⟨t0, t1, -⟩
 refine wi_ A (h2_ t0 t1) (rf_ [] (h2_ t0 t1) ?_)
 rintro a A - ⟨t0, t1, -⟩
 have BW : Below V.heap.size V V := Below.refl _ _
 refine wp_seq ?_
 refine wi_ A (h2_ t0 t1) (rc_ 1 (plaid N J _ V FXs hN h1 h2) fun e X1 hh => ?_)
 obtain ⟨h_, s_, he, hk, hb⟩ := hh
 refine ⟨_, he, ?_⟩
 have bQ : Below V.heap.size V X1 := hb
 have Fh : (SliceI X1 h_ (N) (ffL N J 0)) := own_ints (hk.rows 0 (by omega)) (ffL_fits0 h1 h2)
 have Fs : (SliceI X1 s_ (J) (ffL N J 1)) := own_ints (hk.rows 1 (by omega)) (ffL_fits1 hN h1)
 have bX := bQ
 clear bQ
 refine rf_ [(6, h_), (7, s_)] (h2_ t0 t1) ?_
 rintro a A ⟨t6, t7, -⟩ ⟨t0, t1, -⟩
 replace FXs := (FXs.on bX)
 replace FW := (FW.on bX)
 have ZX1 := bX.size
 replace BW := BW.trans (bX.mono BW.size)
 clear bX
 have BB : Below X1.heap.size X1 X1 := Below.refl _ _
 refine wp_seq ?_
 obtain ⟨g18, egg18⟩ : ∃ z_ : Nat, X1.heap.size = z_ := ⟨_, rfl⟩
 refine wi_ A (h4_ t0 t1 t6 t7) (rv_ 1 (.int .i64 ((N : Nat) : Int)) (fun a e => execLenI (len := N) rfl (e _) ((FW.on BB)).shp) (rs_ 2 (fun a e => ?_)))
 refine stepV rfl rfl (execMkN rfl (e _) (e _) (by omega)) ⟨.slice (some ⟨g18, 0, none⟩) N N, ⟨_, rfl, by subst egg18; rfl⟩, fun X2 hX => ?_⟩
 have bQ : Below X1.heap.size X1 X2 := by subst hX egg18; exact (belNew X1 _)
 have FP : (X2.ownsRow X1.heap.size 3 1 (.slice (some ⟨g18, 0, none⟩) N N) N (intsL N (fun k => if k < 0 then ((wC (szF N J) J w k : Nat) : Int) else 0))) := by subst hX egg18; exact ownD_base (own_mkZ X1 N _ (by omega) (fun j_ _ => if_neg (Nat.not_lt_zero _))) (BB).size
 have FPg : (X1.heap.size ≤ g18) := by subst hX egg18; exact (BB).size
 replace BB := BB.trans (bQ.mono BB.size)
 clear bQ hX egg18 e a
 refine rf_ [(4, .slice (some ⟨g18, 0, none⟩) N N)] (h4_ t0 t1 t6 t7) ?_
 rintro a A ⟨t4, -⟩ ⟨t0, t1, t6, t7, -⟩
 refine wp_seq ?_
 obtain ⟨g21, egg21⟩ : ∃ z_ : Nat, X2.heap.size = z_ := ⟨_, rfl⟩
 refine wi_ A (h5_ t0 t1 t4 t6 t7) (rv_ 1 (.int .i64 ((J : Nat) : Int)) (fun a e => execLenI (len := J) rfl (e _) ((FXs.on BB)).shp) (rs_ 2 (fun a e => ?_)))
 refine stepV rfl rfl (execMkLI rfl (e _) (e _) (by omega)) ⟨.slice (some ⟨g21, 0, none⟩) J J, ⟨_, rfl, by subst egg21; rfl⟩, fun X3 hX => ?_⟩
 have bQ : Below X2.heap.size X2 X3 := by subst hX egg21; exact (belNew X2 _)
 have FT : (X3.ownsRow X1.heap.size 24 1 (.slice (some ⟨g21, 0, none⟩) J J) J (lL (fun _ => .slice none 0 0) J)) := by subst hX egg21; exact ownD_base (own_mkLI X2 J (by omega)) (BB).size
 have FTg : (X1.heap.size ≤ g21) := by subst hX egg21; exact (BB).size
 replace FP := (ownD_below FP bQ)
 replace BB := BB.trans (bQ.mono BB.size)
 clear bQ hX egg21 e a
 refine rf_ [(5, .slice (some ⟨g21, 0, none⟩) J J)] (h4_ t0 t4 t6 t7) ?_
 rintro a A ⟨t5, -⟩ ⟨t0, t4, t6, t7, -⟩
 refine wp_seq (wp_seq ?_)
 refine wi_ A (h5_ t0 t4 t5 t6 t7) (rv_ 1 (.int .i64 ((N : Nat) : Int)) (fun a e => execLenI (len := N) rfl (e _) ((FW.on BB)).shp) (rf_ [(22, ov), (23, .int .i64 ((N : Nat) : Int)), (24, .int .i64 ((0 : Nat) : Int))] (h4_ t4 t5 t6 t7) ?_))
 rintro a A ⟨t22, t23, t24, -⟩ ⟨t4, t5, t6, t7, -⟩
 have hPl : ∀ b, (.slice (some ⟨g18, 0, none⟩) N N : Value).ownBlock = some b → b < X3.heap.size := fun b e => (FP.lt b e).2
 have hgl : g18 < X3.heap.size := hPl g18 rfl
 have FM : (FmI X3.heap.size J (fun _ => .slice none 0 0) (fun t => cntC (wC (szF N J) J w) t 0) (wOI J N w) X3) := FmI.cgN (FmI.nils _ _ _ _) (fun t ht => rfl)
 have FC : X3.heap.size ≤ X3.heap.size := Nat.le_refl _
 have hBC := BB.size
 have hsm := szF_sum N h1
 have hpt := wC_pat hsm hw
 refine wp_block ?_
 refine wp_loop (fun a W => ∃ (i : Nat) (y : Nat → Value), i ≤ N ∧ (a.tmps.size = 55 ∧ a.defers = []) ∧ a.eval (.tmp 4) = .slice (some ⟨g18, 0, none⟩) N N ∧ a.eval (.tmp 5) = .slice (some ⟨g21, 0, none⟩) J J ∧ a.eval (.tmp 6) = h_ ∧ a.eval (.tmp 7) = s_ ∧ a.eval (.tmp 22) = ov ∧ a.eval (.tmp 23) = .int .i64 ((N : Nat) : Int) ∧ a.eval (.tmp 24) = .int .i64 ((i : Nat) : Int) ∧ Below X1.heap.size X1 W ∧ (W.ownsRow X1.heap.size 3 1 (.slice (some ⟨g18, 0, none⟩) N N) N (intsL N (fun k => if k < i then ((wC (szF N J) J w k : Nat) : Int) else 0))) ∧ (W.ownsRow X1.heap.size 24 1 (.slice (some ⟨g21, 0, none⟩) J J) J (lL (y) J)) ∧ (FmI X3.heap.size J (y) (fun t => cntC (wC (szF N J) J w) t i) (wOI J N w) W) ∧ (X3.heap.size ≤ W.heap.size)) (fun a _ => N - (intOf (a.eval (.tmp 24))).toNat) ⟨0, fun _ => .slice none 0 0, Nat.zero_le _, A, t4, t5, t6, t7, t22, t23, t24, BB, FP, FT, FM, FC⟩ ?_
 rintro a XL5 ⟨i, y, hi, A, t4, t5, t6, t7, t22, t23, t24, BB, FP, FT, FM, FC⟩
 have esi := t24
 refine wp_seq ?_
 refine wi_ A (h7_ t4 t5 t6 t7 t22 t23 t24) (rv_ 0 (.bool (decide (i < N))) (fun a e => execLtW (p := i) (q := N) rfl (e _) (e _)) (rf_ [(25, .bool (decide (i < N)))] (h7_ t4 t5 t6 t7 t22 t23 t24) ?_))
 rintro a A ⟨t25, -⟩ ⟨t4, t5, t6, t7, t22, t23, t24, -⟩
 refine wp_seq ?_
 by_cases lti : i < N
 ·rw [decide_eq_true lti] at t25
  refine wp_cond_true t25 (wp_skip ?_)
  clear t25
  refine wp_seq (wp_block ?_)
  obtain ⟨wwb, wwo, wwc, eww, hwwb, hwwc⟩ := open_sl FW (by omega)
  have cww : ∀ k, k < N → ∀ X, Below X1.heap.size X1 X → X.cell? ⟨wwb, wwo + k, none⟩ = some (.int .i64 ((fun i => ((w i : Nat) : Int)) k)) := fun k hk X hX => by rw [cell_below hX hwwb]; exact hwwc k hk
  obtain ⟨hhb, hho, hhc, ehh, hhhb, hhhc⟩ := open_sl Fh (by omega)
  have chh : ∀ k, k < N → ∀ X, Below X1.heap.size X1 X → X.cell? ⟨hhb, hho + k, none⟩ = some (.int .i64 ((ffL N J 0) k)) := fun k hk X hX => by rw [cell_below hX hhhb]; exact hhhc k hk
  obtain ⟨stb, sto, stc, est, hstb, hstc⟩ := open_sl Fs (by omega)
  have cst : ∀ k, k < J → ∀ X, Below X1.heap.size X1 X → X.cell? ⟨stb, sto + k, none⟩ = some (.int .i64 ((ffL N J 1) k)) := fun k hk X hX => by rw [cell_below hX hstb]; exact hstc k hk
  obtain ⟨c, ec⟩ : ∃ c, wC (szF N J) J w i = c := ⟨_, rfl⟩
  obtain ⟨hcJ, hcl, hch⟩ := wC_in hsm hw lti
  rw [ec] at hcJ hcl hch
  have hwN := hw.lt i lti
  obtain ⟨wi, ew⟩ : ∃ x, w i = x := ⟨_, rfl⟩
  rw [ew] at hcl hch hwN
  have ec2 : pj (szF N J) wi J = c := by rw [← ew]; exact ec
  have hci := Brd.cnt_le (wC (szF N J) J w) c i
  refine wp_seq ?_
  refine wi_ A (h7_ t4 t5 t6 t7 t22 t23 t24) (rv_ 1 (.pointer (some ⟨wwb, wwo + i, none⟩)) (fun a e => execIdxN (k := i) rfl ((e _).trans eww) (e _) lti) (rv_ 2 (.int .i64 ((wi : Nat) : Int)) (fun a e => execLd3 rfl (e _) ((cww i lti XL5 BB).trans (by rw [← ew]))) (rf_ [(8, .int .i64 ((i : Nat) : Int)), (9, .int .i64 ((wi : Nat) : Int))] (h7_ t4 t5 t6 t7 t22 t23 t24) ?_)))
  rintro a A ⟨t8, t9, -⟩ ⟨t4, t5, t6, t7, t22, t23, t24, -⟩
  refine wp_seq ?_
  refine wi_ A (h9_ t4 t5 t6 t7 t22 t23 t24 t8 t9) (rv_ 2 (.pointer (some ⟨hhb, hho + wi, none⟩)) (fun a e => execIdxN (k := wi) rfl ((e _).trans ehh) (e _) hwN) (rv_ 3 (.int .i64 ((c : Nat) : Int)) (fun a e => execLd3 rfl (e _) ((chh wi hwN XL5 BB).trans (by rw [← ec2]; rfl))) (rf_ [(10, .int .i64 ((c : Nat) : Int))] (h9_ t4 t5 t6 t7 t22 t23 t24 t8 t9) ?_)))
  rintro a A ⟨t10, -⟩ ⟨t4, t5, t6, t7, t22, t23, t24, t8, t9, -⟩
  refine wp_seq ?_
  refine wi_ A (h10_ t4 t5 t6 t7 t22 t23 t24 t8 t9 t10) (rv_ 3 (.pointer (some ⟨g18, 0 + i, none⟩)) (fun a e => execIdxN (k := i) rfl (e _) (e _) lti) (rs_ 4 (fun a e => ?_)))
  obtain ⟨hc_, hf_⟩ := own_cellI FP lti
  refine stepS rfl rfl (execStI9 rfl (e _) (e _) hc_ hf_) ⟨_, ⟨_, rfl, rfl⟩, fun X8 hX => ?_⟩
  obtain ⟨BB, FT, FM, FC, FP2⟩ : Below X1.heap.size X1 X8 ∧ (X8.ownsRow X1.heap.size 24 1 (.slice (some ⟨g21, 0, none⟩) J J) J (lL (y) J)) ∧ (FmI X3.heap.size J (y) (fun t => cntC (wC (szF N J) J w) t i) (wOI J N w) X8) ∧ (X3.heap.size ≤ X8.heap.size) ∧ (X8.ownsRow X1.heap.size 3 1 (.slice (some ⟨g18, 0, none⟩) N N) N (intsL N (fun k => if k < (i + 1) then ((wC (szF N J) J w k : Nat) : Int) else 0))) := by subst hX; exact ⟨(BB).setCell FPg _, (own_offT FT (own_cur FP).choose_spec.1 (by decide)), (fm_offLo FM hgl), (by rw [sz_set]; exact FC), own_fill (F := fun k => ((wC (szF N J) J w k : Nat) : Int)) FP (by show _ = ((wC (szF N J) J w i : Nat) : Int); rw [ec])⟩
  clear FP hX e a
  refine rf_ [] (h9_ t4 t5 t6 t7 t22 t23 t24 t9 t10) ?_
  rintro a A - ⟨t4, t5, t6, t7, t22, t23, t24, t9, t10, -⟩
  refine wj_ [0, 1, 2, 3, 4, 5, 6, 7, 8, 9, 10, 11, 12, 13, 14, 15] [12, 13, 15] [5, 10] [13, 15] A (h9_ t4 t5 t6 t7 t22 t23 t24 t9 t10) (fun X9_0 bD => ?_)
  obtain ⟨g49, egg49⟩ : ∃ z_ : Nat, X9_0.heap.size = z_ := ⟨_, rfl⟩
  refine dw_ 4 (.pointer (some ⟨g21, 0 + c, none⟩)) (fun a X e => execIdxLI (k := c) rfl (e _) (e _) hcJ) (dv_ 5 (y c) (fun a X e hb => execLdLI (v := y c) rfl (e _) (ownL_cellI (ownD_below FT hb) hcJ)) (dw_ 9 (.pointer (some ⟨stb, sto + c, none⟩)) (fun a X e => execIdxN (k := c) rfl ((e _).trans est) (e _) hcJ) (dv_ 10 (.int .i64 ((sumN (szF N J) c : Nat) : Int)) (fun a X e hb => execLd3 rfl (e _) (cst c hcJ X (BB.trans (hb.mono BB.size)))) (dw_ 11 (.int .i64 ((wi - (sumN (szF N J) c) : Nat) : Int)) (fun a X e => By8.execSubI (p := wi) (q := sumN (szF N J) c) rfl (e _) (e _) (by omega) (by omega)) (ds_ 12 (fun a e => ?_))))))
  refine stepV rfl rfl (execBsI (z := ((wi - sumN (szF N J) c : Nat) : Int)) rfl (e _)) ⟨.slice (some ⟨g49, 0, none⟩) 1 1, ⟨_, rfl, by subst egg49; rfl⟩, fun X9_1 hX => ?_⟩
  have bQ : Below X9_0.heap.size X9_0 X9_1 := by subst hX egg49; exact (belNew X9_0 _)
  have Fg49 : (SliceI X9_1 (.slice (some ⟨g49, 0, none⟩) 1 1) (1) (fun _ => ((wi - sumN (szF N J) c : Nat) : Int))) := by subst hX egg49; exact oneI X9_0 (by omega)
  replace bD := bD.trans (bQ.mono bD.size)
  clear bQ hX egg49 e a
  refine ⟨Or.inr bD, ?_⟩
  refine ds_ 13 (fun a e => ?_)
  refine stepFmM (x := y) (t := c) (l := 1) (q := fun _ => ((wi - sumN (szF N J) c : Nat) : Int)) rfl rfl rfl (e _) (e _) (FM.on bD) hcJ Fg49 ⟨_, _, rfl⟩ (by show cntC (wC (szF N J) J w) c i + 1 ≤ _; omega) (fc_on FC bD) fun v50 X9_2 fm' gr => ⟨_, ⟨_, rfl, rfl⟩, eqw ?_⟩
  obtain ⟨BB, FT, FC, FP2, FM1⟩ : Below X1.heap.size X1 X9_2 ∧ (X9_2.ownsRow X1.heap.size 24 1 (.slice (some ⟨g21, 0, none⟩) J J) J (lL (y) J)) ∧ (X3.heap.size ≤ X9_2.heap.size) ∧ (X9_2.ownsRow X1.heap.size 3 1 (.slice (some ⟨g18, 0, none⟩) N N) N (intsL N (fun k => if k < (i + 1) then ((wC (szF N J) J w k : Nat) : Int) else 0))) ∧ (FmI X3.heap.size J (updX y c v50) (updD (fun t => cntC (wC (szF N J) J w) t i) c 1) (updG (wOI J N w) c (catI ((fun t => cntC (wC (szF N J) J w) t i) c) (wOI J N w c) (fun _ => ((wi - sumN (szF N J) c : Nat) : Int)))) X9_2) := ⟨((BB.trans (bD.mono BB.size))).grown gr ((BB.trans (bD.mono BB.size))).size (fun k hk => Nat.le_trans hBC (((FM.on bD).rows c hcJ).lt k hk).1), (own_overT (ownD_below FT bD) ((FM.on bD).rows c hcJ) gr (by decide)), (Nat.le_trans (fc_on FC bD) gr.size), (own_overB (ownD_below FP2 bD) hPl ((FM.on bD).rows c hcJ) gr), fm'⟩
  clear bD FM Fg49 e a
  refine ⟨Or.inl rfl, ?_⟩
  refine dw_ 14 (.pointer (some ⟨g21, 0 + c, none⟩)) (fun a X e => execIdxLI (k := c) rfl (e _) (e _) hcJ) (ds_ 15 (fun a e => ?_))
  obtain ⟨hc_, hf_⟩ := ownL_cell2 FT hcJ
  refine stepS rfl rfl (execStLI rfl (e _) (e _) (by have h_ := Brd.shp3 (FM1.rows c hcJ); rw [updX_at] at h_; exact h_) hc_ hf_) ⟨_, ⟨_, rfl, rfl⟩, fun X9 hX => ?_⟩
  obtain ⟨BB, FC, FP2, FM1, FT2⟩ : Below X1.heap.size X1 X9 ∧ (X3.heap.size ≤ X9.heap.size) ∧ (X9.ownsRow X1.heap.size 3 1 (.slice (some ⟨g18, 0, none⟩) N N) N (intsL N (fun k => if k < (i + 1) then ((wC (szF N J) J w k : Nat) : Int) else 0))) ∧ (FmI X3.heap.size J (updX y c v50) (updD (fun t => cntC (wC (szF N J) J w) t i) c 1) (updG (wOI J N w) c (catI ((fun t => cntC (wC (szF N J) J w) t i) c) (wOI J N w c) (fun _ => ((wi - sumN (szF N J) c : Nat) : Int)))) X9) ∧ (X9.ownsRow X1.heap.size 24 1 (.slice (some ⟨g21, 0, none⟩) J J) J (lL (updX y c v50) J)) := by subst hX; exact ⟨(BB).setCell FTg _, (by rw [sz_set]; exact FC), (own_offT FP2 (own_cur FT).choose_spec.1 (by decide)), (Brd.FmI.offT FM1 (own_cur FT).choose_spec.1 (by decide)), ownL_setI FT⟩
  clear FT hX e a
  refine ⟨Or.inl rfl, ?_⟩
  refine dz_ [] (h7_ t4 t5 t6 t7 t22 t23 t24) ?_
  rintro a A - ⟨t4, t5, t6, t7, t22, t23, t24, -⟩
  have FM2 : (FmI X3.heap.size J (updX y c v50) (fun t => cntC (wC (szF N J) J w) t (i + 1)) (wOI J N w) X9) := FmI.cgN (FmI.app1 FM1 (wO_z ec ew lti)) (fun t ht => cnt_upd ec)
  clear FM1
  refine wi_ A (h7_ t4 t5 t6 t7 t22 t23 t24) (rv_ 0 (.int .i64 ((i + 1 : Nat) : Int)) (fun a e => execAd8 (p := i) (q := 1) rfl (e _) rfl (by omega)) (rf_ [(24, .int .i64 ((i + 1 : Nat) : Int))] (h6_ t4 t5 t6 t7 t22 t23) ?_))
  rintro a A ⟨t24, -⟩ ⟨t4, t5, t6, t7, t22, t23, -⟩
  exact ⟨⟨i + 1, updX y c v50, lti, A, t4, t5, t6, t7, t22, t23, t24, BB, FP2, FT2, FM2, FC⟩, by show N - (intOf (a.eval (.tmp 24))).toNat < N - (intOf (Act.eval _ (.tmp 24))).toNat; rw [t24, esi]; show N - (i + 1) < N - i; omega⟩
 ·rw [decide_eq_false lti] at t25
  refine wp_cond_false t25 ?_
  refine wp_exit ?_
  first | with_reducible refine exit_in ?_ | with_reducible refine exit_then (exit_in ?_) | with_reducible refine exit_then (exit_then (exit_in ?_)) | refine exit_in ?_ | refine exit_then (exit_in ?_) | refine exit_then (exit_then (exit_in ?_))
  clear t25 esi
  have hiN : i = N := by omega
  rw [hiN, intsL_congr (g := fun k => ((wC (szF N J) J w k : Nat) : Int)) (fun j hj => if_pos hj)] at FP
  rw [hiN] at FM
  have FA : SliceI XL5 (.slice (some ⟨g18, 0, none⟩) N N) N (wCI J N w) := own_ints FP (wCI_fits h1 h2 hw)
  have FLL : LLI XL5 (.slice (some ⟨g21, 0, none⟩) J J) J y (szF N J) (wOI J N w) := lli_of (FmI.cgN FM (fun t ht => hpt.cnt t ht)) FT (wOI_fits hN h1 hw)
  clear FP FM FT FC t6 t7 t22 t23 t24
  replace FXs := (FXs.on BB)
  replace FW := (FW.on BB)
  replace Fh := (Fh.on BB)
  replace Fs := (Fs.on BB)
  replace BW := BW.trans (BB.mono BW.size)
  clear BB
  refine wp_seq ?_
  refine wi_ A (h2_ t4 t5) (rg_ [(4, .slice (some ⟨g18, 0, none⟩) N N), (5, .slice (some ⟨g21, 0, none⟩) J J)] ?_)
  rintro a A ⟨t4, t5, -⟩
  refine wp_ret ?_
  refine bodyPost_ret (results_tmp2 rfl _ _ _) A.2 ⟨_, _, y, ?_, FA, FLL, BW⟩
  show Ending.returned (.tuple #[a.eval (.tmp 4), a.eval (.tmp 5)]) = _
  rw [t4, t5]
end Go.Proofs.Ytmjpneaccjlpkaa.Rif
