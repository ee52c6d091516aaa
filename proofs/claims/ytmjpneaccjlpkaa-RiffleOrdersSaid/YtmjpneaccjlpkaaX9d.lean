import Derived.Test.YtmjpneaccjlpkaaF9b
import Derived.Test.YtmjpneaccjlpkaaX9c
namespace Go.Proofs.Ytmjpneaccjlpkaa.Rif
open Go.RowKit Gf8 Aes By8 Cel Cf Tap Drw Prm Brd
/- Package riffle's apart. Written by tools/mkX9d.py. -/
theorem fc_on {C : Nat} {W W' : World} (h : C ≤ W.heap.size) (b : Below W.heap.size W W') : C ≤ W'.heap.size := Nat.le_trans h b.size
theorem sz_set (W : World) (a : Addr) (z : Value) : (W.setCell a z).heap.size = W.heap.size := by simp [World.setCell]
theorem fm_offLo {C k g o : Nat} {x : Nat → Value} {nn : Nat → Nat} {ff : Nat → Nat → Int} {W : World} {z : Value} (h : FmI C k x nn ff W) (hg : g < C) : FmI C k x nn ff (W.setCell ⟨g, o, none⟩ z) :=
 ⟨fun t ht => own_offB (h.rows t ht) (fun e => by have := ((h.rows t ht).lt _ e).1; omega), h.dis⟩
theorem ffL_fits0 {N J : Nat} (h1 : 1 ≤ J) (h2 : J ≤ 64) : ∀ j, j < n2 N J 0 → -9223372036854775808 ≤ ffL N J 0 j ∧ ffL N J 0 j < 9223372036854775808 := fun j hj => by
 have h3 : j < sumN (szF N J) J := by rw [szF_sum N h1]; exact hj
 have h4 := (pj_lt h3).1
 show -9223372036854775808 ≤ ((pj (szF N J) j J : Nat) : Int) ∧ ((pj (szF N J) j J : Nat) : Int) < 9223372036854775808
 omega
theorem ffL_fits1 {N J : Nat} (hN : N ≤ 256) (h1 : 1 ≤ J) : ∀ j, j < n2 N J 1 → -9223372036854775808 ≤ ffL N J 1 j ∧ ffL N J 1 j < 9223372036854775808 := fun j hj => by
 have h3 : j < J := hj
 have h4 := sumN_at (r := szF N J) h3
 rw [szF_sum N h1] at h4
 show -9223372036854775808 ≤ ((sumN (szF N J) j : Nat) : Int) ∧ ((sumN (szF N J) j : Nat) : Int) < 9223372036854775808
 omega
theorem wO_z {N J : Nat} {w : Nat → Nat} {i c wi : Nat} (ec : wC (szF N J) J w i = c) (ew : w i = wi) (hi : i < N) : ((wi - sumN (szF N J) c : Nat) : Int) = wOI J N w c (cntC (wC (szF N J) J w) c i) := by
 show _ = ((w (plC (wC (szF N J) J w) c (cntC (wC (szF N J) J w) c i) N) - sumN (szF N J) c : Nat) : Int)
 have h := plC_is (C := wC (szF N J) J w) hi
 rw [ec] at h
 rw [h, ew]
theorem cnt_upd {C : Nat → Nat} {i c t : Nat} (ec : C i = c) : updD (fun t => cntC C t i) c 1 t = cntC C t (i + 1) := by
 show (if t = c then cntC C c i + 1 else cntC C t i) = cntC C t i + (if C i = t then 1 else 0)
 rw [ec]
 by_cases h : t = c
 ·subst h
  rw [if_pos rfl, if_pos rfl]
 ·rw [if_neg h, if_neg (fun e => h e.symm), Nat.add_zero]
theorem wCI_fits {N J : Nat} {w : Nat → Nat} (h1 : 1 ≤ J) (h2 : J ≤ 64) (hw : IsP w N) : ∀ j, j < N → -9223372036854775808 ≤ wCI J N w j ∧ wCI J N w j < 9223372036854775808 := fun j hj => by
 have h3 := (wC_pat (szF_sum N h1) hw).lt j hj
 show -9223372036854775808 ≤ ((wC (szF N J) J w j : Nat) : Int) ∧ ((wC (szF N J) J w j : Nat) : Int) < 9223372036854775808
 omega
theorem wOI_fits {N J : Nat} {w : Nat → Nat} (hN : N ≤ 256) (h1 : 1 ≤ J) (hw : IsP w N) : ∀ t, t < J → ∀ k, k < szF N J t → -9223372036854775808 ≤ wOI J N w t k ∧ wOI J N w t k < 9223372036854775808 := fun t ht k hk => by
 have h3 := (wO_isP (szF_sum N h1) hw ht).lt k hk
 have h4 := szF_le N ht
 show -9223372036854775808 ≤ ((wO (szF N J) J N w t k : Nat) : Int) ∧ ((wO (szF N J) J N w t k : Nat) : Int) < 9223372036854775808
 omega
set_option maxRecDepth 100000 in
set_option maxHeartbeats 4000000 in
theorem papart (w : Nat → Nat) (N J : Nat) (ov sv : Value) (V : World) (FW : SliceI V ov N (fun i => ((w i : Nat) : Int))) (FS : SliceI V sv J (sI N J)) (hN : N ≤ 256) (h1 : 1 ≤ J) (h2 : J ≤ 64) (hw : IsP w N) :
  Calls Try.prog 35 #[ov, sv] V fun e w' => ∃ r1 r2 y, e = .returned (.tuple #[r1, r2]) ∧ SliceI w' r1 N (wCI J N w) ∧ LLI w' r2 J y (szF N J) (wOI J N w) ∧ Below V.heap.size V w' := by
 go_enter Try.func35, Try.ntmps35
 refine wp_seq ?_
 refine wo_ 55 [(0, ov), (1, sv)] ?_
 rintro a A ⟨t0, t1, -⟩
 refine wi_ A (h2_ t0 t1) (rf_ [] (h2_ t0 t1) ?_)
 rintro a A - ⟨t0, t1, -⟩
 have BW : Below V.heap.size V V := Below.refl _ _
 refine wp_seq ?_
 refine wi_ A (h2_ t0 t1) (rc_ 1 (plaid N J _ V FS hN h1 h2) fun e X1 hh => ?_)
 obtain ⟨h_, s_, he, hk, hb⟩ := hh
 refine ⟨_, he, ?_⟩
 have b_ : Below V.heap.size V X1 := hb
 have Fh : (SliceI X1 h_ (N) (ffL N J 0)) := own_ints (hk.rows 0 (by omega)) (ffL_fits0 h1 h2)
 have Fs : (SliceI X1 s_ (J) (ffL N J 1)) := own_ints (hk.rows 1 (by omega)) (ffL_fits1 hN h1)
 have bX := b_
 clear b_
 refine rf_ [(6, h_), (7, s_)] (h2_ t0 t1) ?_
 rintro a A ⟨t6, t7, -⟩ ⟨t0, t1, -⟩
 replace FS := (FS.on bX)
 replace FW := (FW.on bX)
 have ZX1 := bX.size
 replace BW := BW.trans (bX.mono BW.size)
 clear bX
 have BB : Below X1.heap.size X1 X1 := Below.refl _ _
 refine wp_seq ?_
 obtain ⟨g18, egg18⟩ : ∃ z_ : Nat, X1.heap.size = z_ := ⟨_, rfl⟩
 refine wi_ A (h4_ t0 t1 t6 t7) (rv_ 1 (.int .i64 ((N : Nat) : Int)) (fun a e => execLenI (len := N) rfl (e _) ((FW.on BB)).shp) (rs_ 2 (fun a e => ?_)))
 refine stepV rfl rfl (execMkN rfl (e _) (e _) (by omega)) ⟨.slice (some ⟨g18, 0, none⟩) N N, ⟨_, rfl, by subst egg18; rfl⟩, fun X2 hX => ?_⟩
 have b_ : Below X1.heap.size X1 X2 := by subst hX egg18; exact (belNew X1 _)
 have FP : (X2.ownsRow X1.heap.size 3 1 (.slice (some ⟨g18, 0, none⟩) N N) N (intsL N (fun k => if k < 0 then ((wC (szF N J) J w k : Nat) : Int) else 0))) := by subst hX egg18; exact ownD_base (own_mkZ X1 N _ (by omega) (fun j_ _ => if_neg (Nat.not_lt_zero _))) (BB).size
 have FPg : (X1.heap.size ≤ g18) := by subst hX egg18; exact (BB).size
 replace BB := BB.trans (b_.mono BB.size)
 clear b_ hX egg18 e a
 refine rf_ [(4, .slice (some ⟨g18, 0, none⟩) N N)] (h4_ t0 t1 t6 t7) ?_
 rintro a A ⟨t4, -⟩ ⟨t0, t1, t6, t7, -⟩
 refine wp_seq ?_
 obtain ⟨g21, egg21⟩ : ∃ z_ : Nat, X2.heap.size = z_ := ⟨_, rfl⟩
 refine wi_ A (h5_ t0 t1 t4 t6 t7) (rv_ 1 (.int .i64 ((J : Nat) : Int)) (fun a e => execLenI (len := J) rfl (e _) ((FS.on BB)).shp) (rs_ 2 (fun a e => ?_)))
 refine stepV rfl rfl (execMkLI rfl (e _) (e _) (by omega)) ⟨.slice (some ⟨g21, 0, none⟩) J J, ⟨_, rfl, by subst egg21; rfl⟩, fun X3 hX => ?_⟩
 have b_ : Below X2.heap.size X2 X3 := by subst hX egg21; exact (belNew X2 _)
 have FT : (X3.ownsRow X1.heap.size 24 1 (.slice (some ⟨g21, 0, none⟩) J J) J (lL (fun _ => .slice none 0 0) J)) := by subst hX egg21; exact ownD_base (own_mkLI X2 J (by omega)) (BB).size
 have FTg : (X1.heap.size ≤ g21) := by subst hX egg21; exact (BB).size
 replace FP := (ownD_below FP b_)
 replace BB := BB.trans (b_.mono BB.size)
 clear b_ hX egg21 e a
 refine rf_ [(5, .slice (some ⟨g21, 0, none⟩) J J)] (h4_ t0 t4 t6 t7) ?_
 rintro a A ⟨t5, -⟩ ⟨t0, t4, t6, t7, -⟩
 refine wp_seq (wp_seq ?_)
 refine wi_ A (h5_ t0 t4 t5 t6 t7) (rv_ 1 (.int .i64 ((N : Nat) : Int)) (fun a e => execLenI (len := N) rfl (e _) ((FW.on BB)).shp) (rf_ [(22, ov), (23, .int .i64 ((N : Nat) : Int)), (24, .int .i64 ((0 : Nat) : Int))] (h4_ t4 t5 t6 t7) ?_))
 rintro a A ⟨t22, t23, t24, -⟩ ⟨t4, t5, t6, t7, -⟩
 have hPl : ∀ b, (.slice (some ⟨g18, 0, none⟩) N N : Value).ownBlock = some b → b < X3.heap.size := fun b e => (FP.lt b e).2
 have hgl : g18 < X3.heap.size := hPl g18 rfl
 have FM : (FmI X3.heap.size J (fun _ => .slice none 0 0) (fun t => cntC (wC (szF N J) J w) t 0) (wOI J N w) X3) := FmI.cgN (FmI.nils _ _ _ _) (fun t ht => rfl)
 have FC : X3.heap.size ≤ X3.heap.size := Nat.le_refl _
 have hBC := BB.size
 have hsm := szF_sum N h1
 have hpt := wC_pat hsm hw
 refine wp_block ?_
 refine wp_loop (fun a W => ∃ (i : Nat) (y : Nat → Value), i ≤ N ∧ (a.tmps.size = 55 ∧ a.defers = []) ∧ a.eval (.tmp 4) = .slice (some ⟨g18, 0, none⟩) N N ∧ a.eval (.tmp 5) = .slice (some ⟨g21, 0, none⟩) J J ∧ a.eval (.tmp 6) = h_ ∧ a.eval (.tmp 7) = s_ ∧ a.eval (.tmp 22) = ov ∧ a.eval (.tmp 23) = .int .i64 ((N : Nat) : Int) ∧ a.eval (.tmp 24) = .int .i64 ((i : Nat) : Int) ∧ Below X1.heap.size X1 W ∧ (W.ownsRow X1.heap.size 3 1 (.slice (some ⟨g18, 0, none⟩) N N) N (intsL N (fun k => if k < i then ((wC (szF N J) J w k : Nat) : Int) else 0))) ∧ (W.ownsRow X1.heap.size 24 1 (.slice (some ⟨g21, 0, none⟩) J J) J (lL (y) J)) ∧ (FmI X3.heap.size J (y) (fun t => cntC (wC (szF N J) J w) t i) (wOI J N w) W) ∧ (X3.heap.size ≤ W.heap.size)) (fun a _ => N - (intOf (a.eval (.tmp 24))).toNat) ⟨0, fun _ => .slice none 0 0, Nat.zero_le _, A, t4, t5, t6, t7, t22, t23, t24, BB, FP, FT, FM, FC⟩ ?_
 rintro a XL5 ⟨i, y, hi, A, t4, t5, t6, t7, t22, t23, t24, BB, FP, FT, FM, FC⟩
 have esi := t24
 refine wp_seq ?_
 refine wi_ A (h7_ t4 t5 t6 t7 t22 t23 t24) (rv_ 0 (.bool (decide (i < N))) (fun a e => execLtW (p := i) (q := N) rfl (e _) (e _)) (rf_ [(25, .bool (decide (i < N)))] (h7_ t4 t5 t6 t7 t22 t23 t24) ?_))
 rintro a A ⟨t25, -⟩ ⟨t4, t5, t6, t7, t22, t23, t24, -⟩
 refine wp_seq ?_
 by_cases lti : i < N
 ·rw [decide_eq_true lti] at t25
  refine wp_cond_true t25 (wp_skip ?_)
  clear t25
  refine wp_seq (wp_block ?_)
  obtain ⟨wwb, wwo, wwc, eww, hwwb, hwwc⟩ := open_sl FW (by omega)
  have cww : ∀ k, k < N → ∀ X, Below X1.heap.size X1 X → X.cell? ⟨wwb, wwo + k, none⟩ = some (.int .i64 ((fun i => ((w i : Nat) : Int)) k)) := fun k hk X hX => by rw [cell_below hX hwwb]; exact hwwc k hk
  obtain ⟨hhb, hho, hhc, ehh, hhhb, hhhc⟩ := open_sl Fh (by omega)
  have chh : ∀ k, k < N → ∀ X, Below X1.heap.size X1 X → X.cell? ⟨hhb, hho + k, none⟩ = some (.int .i64 ((ffL N J 0) k)) := fun k hk X hX => by rw [cell_below hX hhhb]; exact hhhc k hk
  obtain ⟨stb, sto, stc, est, hstb, hstc⟩ := open_sl Fs (by omega)
  have cst : ∀ k, k < J → ∀ X, Below X1.heap.size X1 X → X.cell? ⟨stb, sto + k, none⟩ = some (.int .i64 ((ffL N J 1) k)) := fun k hk X hX => by rw [cell_below hX hstb]; exact hstc k hk
  obtain ⟨c, ec⟩ : ∃ c, wC (szF N J) J w i = c := ⟨_, rfl⟩
  obtain ⟨hcJ, hcl, hch⟩ := wC_in hsm hw lti
  rw [ec] at hcJ hcl hch
  have hwN := hw.lt i lti
  obtain ⟨wi, ew⟩ : ∃ x, w i = x := ⟨_, rfl⟩
  rw [ew] at hcl hch hwN
  have ec2 : pj (szF N J) wi J = c := by rw [← ew]; exact ec
  have hci := Brd.cnt_le (wC (szF N J) J w) c i
  refine wp_seq ?_
  refine wi_ A (h7_ t4 t5 t6 t7 t22 t23 t24) (rv_ 1 (.pointer (some ⟨wwb, wwo + i, none⟩)) (fun a e => execIdxN (k := i) rfl ((e _).trans eww) (e _) lti) (rv_ 2 (.int .i64 ((wi : Nat) : Int)) (fun a e => execLd3 rfl (e _) ((cww i lti XL5 BB).trans (by rw [← ew]))) (rf_ [(8, .int .i64 ((i : Nat) : Int)), (9, .int .i64 ((wi : Nat) : Int))] (h7_ t4 t5 t6 t7 t22 t23 t24) ?_)))
  rintro a A ⟨t8, t9, -⟩ ⟨t4, t5, t6, t7, t22, t23, t24, -⟩
  refine wp_seq ?_
  refine wi_ A (h9_ t4 t5 t6 t7 t22 t23 t24 t8 t9) (rv_ 2 (.pointer (some ⟨hhb, hho + wi, none⟩)) (fun a e => execIdxN (k := wi) rfl ((e _).trans ehh) (e _) hwN) (rv_ 3 (.int .i64 ((c : Nat) : Int)) (fun a e => execLd3 rfl (e _) ((chh wi hwN XL5 BB).trans (by rw [← ec2]; rfl))) (rf_ [(10, .int .i64 ((c : Nat) : Int))] (h9_ t4 t5 t6 t7 t22 t23 t24 t8 t9) ?_)))
  rintro a A ⟨t10, -⟩ ⟨t4, t5, t6, t7, t22, t23, t24, t8, t9, -⟩
  refine wp_seq ?_
  refine wi_ A (h10_ t4 t5 t6 t7 t22 t23 t24 t8 t9 t10) (rv_ 3 (.pointer (some ⟨g18, 0 + i, none⟩)) (fun a e => execIdxN (k := i) rfl (e _) (e _) lti) (rs_ 4 (fun a e => ?_)))
  obtain ⟨hc_, hf_⟩ := own_cellI FP lti
  refine stepS rfl rfl (execStI9 rfl (e _) (e _) hc_ hf_) ⟨_, ⟨_, rfl, rfl⟩, fun X8 hX => ?_⟩
  obtain ⟨BB, FT, FM, FC, FP2⟩ : Below X1.heap.size X1 X8 ∧ (X8.ownsRow X1.heap.size 24 1 (.slice (some ⟨g21, 0, none⟩) J J) J (lL (y) J)) ∧ (FmI X3.heap.size J (y) (fun t => cntC (wC (szF N J) J w) t i) (wOI J N w) X8) ∧ (X3.heap.size ≤ X8.heap.size) ∧ (X8.ownsRow X1.heap.size 3 1 (.slice (some ⟨g18, 0, none⟩) N N) N (intsL N (fun k => if k < (i + 1) then ((wC (szF N J) J w k : Nat) : Int) else 0))) := by subst hX; exact ⟨(BB).setCell FPg _, (own_offT FT (own_cur FP).choose_spec.1 (by decide)), (fm_offLo FM hgl), (by rw [sz_set]; exact FC), own_fill (F := fun k => ((wC (szF N J) J w k : Nat) : Int)) FP (by show _ = ((wC (szF N J) J w i : Nat) : Int); rw [ec])⟩
  clear FP hX e a
  refine rf_ [] (h9_ t4 t5 t6 t7 t22 t23 t24 t9 t10) ?_
  rintro a A - ⟨t4, t5, t6, t7, t22, t23, t24, t9, t10, -⟩
  refine wp_region_stB (σ := Nat × Value) 55 [(0, 37), (1, 38), (2, 39), (3, 40), (4, 41), (5, 42), (6, 43), (7, 44), (8, 45), (9, 46), (10, 47), (11, 48), (12, 49), (13, 50), (14, 51)] (fun l_ s X => Below X1.heap.size X1 X ∧ (l_ 15 = false → (X.ownsRow X1.heap.size 24 1 (.slice (some ⟨g21, 0, none⟩) J J) J (lL (y) J))) ∧ (l_ 13 = false → (FmI X3.heap.size J (y) (fun t => cntC (wC (szF N J) J w) t i) (wOI J N w) X)) ∧ ((X3.heap.size ≤ X.heap.size)) ∧ ((X.ownsRow X1.heap.size 3 1 (.slice (some ⟨g18, 0, none⟩) N N) N (intsL N (fun k => if k < (i + 1) then ((wC (szF N J) J w k : Nat) : Int) else 0)))) ∧ (l_ 12 = true → l_ 13 = false → (SliceI X (.slice (some ⟨s.1, 0, none⟩) 1 1) (1) (fun _ => ((wi - sumN (szF N J) c : Nat) : Int)))) ∧ (l_ 13 = true → (FmI X3.heap.size J (updX y c s.2) (updD (fun t => cntC (wC (szF N J) J w) t i) c 1) (updG (wOI J N w) c (catI ((fun t => cntC (wC (szF N J) J w) t i) c) (wOI J N w c) (fun _ => ((wi - sumN (szF N J) c : Nat) : Int)))) X)) ∧ (l_ 15 = true → (X.ownsRow X1.heap.size 24 1 (.slice (some ⟨g21, 0, none⟩) J J) J (lL (updX y c s.2) J)))) (fun s => fun i_ => match i_ with | 0 => .slice (some ⟨g21, 0, none⟩) J J | 1 => .int .i64 ((c : Nat) : Int) | 2 => .slice (some ⟨g21, 0, none⟩) J J | 3 => .int .i64 ((c : Nat) : Int) | 4 => .pointer (some ⟨g21, 0 + c, none⟩) | 5 => y c | 6 => .int .i64 ((wi : Nat) : Int) | 7 => s_ | 8 => .int .i64 ((c : Nat) : Int) | 9 => .pointer (some ⟨stb, sto + c, none⟩) | 10 => .int .i64 ((sumN (szF N J) c : Nat) : Int) | 11 => .int .i64 ((wi - (sumN (szF N J) c) : Nat) : Int) | 12 => .slice (some ⟨s.1, 0, none⟩) 1 1 | 13 => s.2 | 14 => .pointer (some ⟨g21, 0 + c, none⟩) | 15 => undef | _ => undef) (0, undef) (by kernel_rfl) (by kernel_rfl) A.1 (by kernel_rfl) (by decide) (by decide) ⟨(BB.drew), (fun _ => (ownD_below FT (Below.refl _ _).drew)), (fun _ => (FM.on (Below.refl _ _).drew)), ((fc_on FC (Below.refl _ _).drew)), ((ownD_below FP2 (Below.refl _ _).drew)), (fun q0_ q1_ => by cases q0_), (fun q0_ => by cases q0_), (fun q0_ => by cases q0_)⟩ ?_ ?_
  ·intro i_ hi_ l_ s a X hl_ hf hdep hl2 hcl hno hT
   have up : ∀ j x, x ≠ j → updB l_ j x = l_ x := fun j x hj => by unfold updB; simp [hj]
   match i_, hi_ with
   | 0, _ => exact stepV rfl rfl (execMvB rfl ((hf 5 (by decide)).trans t5)) ⟨s, ⟨_, rfl, rfl⟩, ⟨hT.1, (fun q0_ => (hT.2.1 (by rw [up 0 15 (by decide)] at q0_; exact q0_))), (fun q0_ => (hT.2.2.1 (by rw [up 0 13 (by decide)] at q0_; exact q0_))), (hT.2.2.2.1), (hT.2.2.2.2.1), (fun q0_ q1_ => (hT.2.2.2.2.2.1 (by rw [up 0 12 (by decide)] at q0_; exact q0_) (by rw [up 0 13 (by decide)] at q1_; exact q1_))), (fun q0_ => (hT.2.2.2.2.2.2.1 (by rw [up 0 13 (by decide)] at q0_; exact q0_))), (fun q0_ => absurd (hl_.symm.trans (hcl 15 _ rfl ((up 0 15 (by decide)).symm.trans q0_) 0 rfl)) (by decide))⟩, fun _ _ _ => rfl⟩
   | 1, _ => exact stepV rfl rfl (execMvB rfl ((hf 10 (by decide)).trans t10)) ⟨s, ⟨_, rfl, rfl⟩, ⟨hT.1, (fun q0_ => (hT.2.1 (by rw [up 1 15 (by decide)] at q0_; exact q0_))), (fun q0_ => (hT.2.2.1 (by rw [up 1 13 (by decide)] at q0_; exact q0_))), (hT.2.2.2.1), (hT.2.2.2.2.1), (fun q0_ q1_ => (hT.2.2.2.2.2.1 (by rw [up 1 12 (by decide)] at q0_; exact q0_) (by rw [up 1 13 (by decide)] at q1_; exact q1_))), (fun q0_ => (hT.2.2.2.2.2.2.1 (by rw [up 1 13 (by decide)] at q0_; exact q0_))), (fun q0_ => absurd (hl_.symm.trans (hcl 15 _ rfl ((up 1 15 (by decide)).symm.trans q0_) 1 rfl)) (by decide))⟩, fun _ _ _ => rfl⟩
   | 2, _ => exact stepV rfl rfl (execMvB rfl ((hf 5 (by decide)).trans t5)) ⟨s, ⟨_, rfl, rfl⟩, ⟨hT.1, (fun q0_ => (hT.2.1 (by rw [up 2 15 (by decide)] at q0_; exact q0_))), (fun q0_ => (hT.2.2.1 (by rw [up 2 13 (by decide)] at q0_; exact q0_))), (hT.2.2.2.1), (hT.2.2.2.2.1), (fun q0_ q1_ => (hT.2.2.2.2.2.1 (by rw [up 2 12 (by decide)] at q0_; exact q0_) (by rw [up 2 13 (by decide)] at q1_; exact q1_))), (fun q0_ => absurd (hl_.symm.trans (hcl 4 _ rfl (hcl 5 _ rfl (hcl 13 _ rfl ((up 2 13 (by decide)).symm.trans q0_) 5 rfl) 4 rfl) 2 rfl)) (by decide)), (fun q0_ => absurd (hl_.symm.trans (hcl 15 _ rfl ((up 2 15 (by decide)).symm.trans q0_) 2 rfl)) (by decide))⟩, fun _ _ _ => rfl⟩
   | 3, _ => exact stepV rfl rfl (execMvB rfl ((hf 10 (by decide)).trans t10)) ⟨s, ⟨_, rfl, rfl⟩, ⟨hT.1, (fun q0_ => (hT.2.1 (by rw [up 3 15 (by decide)] at q0_; exact q0_))), (fun q0_ => (hT.2.2.1 (by rw [up 3 13 (by decide)] at q0_; exact q0_))), (hT.2.2.2.1), (hT.2.2.2.2.1), (fun q0_ q1_ => (hT.2.2.2.2.2.1 (by rw [up 3 12 (by decide)] at q0_; exact q0_) (by rw [up 3 13 (by decide)] at q1_; exact q1_))), (fun q0_ => absurd (hl_.symm.trans (hcl 4 _ rfl (hcl 5 _ rfl (hcl 13 _ rfl ((up 3 13 (by decide)).symm.trans q0_) 5 rfl) 4 rfl) 3 rfl)) (by decide)), (fun q0_ => absurd (hl_.symm.trans (hcl 15 _ rfl ((up 3 15 (by decide)).symm.trans q0_) 3 rfl)) (by decide))⟩, fun _ _ _ => rfl⟩
   | 4, _ => exact stepV rfl rfl (execIdxLI (k := c) rfl (hdep _ rfl 2 rfl _ rfl _ rfl) (hdep _ rfl 3 rfl _ rfl _ rfl) hcJ) ⟨s, ⟨_, rfl, rfl⟩, ⟨hT.1, (fun q0_ => (hT.2.1 (by rw [up 4 15 (by decide)] at q0_; exact q0_))), (fun q0_ => (hT.2.2.1 (by rw [up 4 13 (by decide)] at q0_; exact q0_))), (hT.2.2.2.1), (hT.2.2.2.2.1), (fun q0_ q1_ => (hT.2.2.2.2.2.1 (by rw [up 4 12 (by decide)] at q0_; exact q0_) (by rw [up 4 13 (by decide)] at q1_; exact q1_))), (fun q0_ => absurd (hl_.symm.trans (hcl 5 _ rfl (hcl 13 _ rfl ((up 4 13 (by decide)).symm.trans q0_) 5 rfl) 4 rfl)) (by decide)), (fun q0_ => absurd (hl_.symm.trans (hcl 15 _ rfl ((up 4 15 (by decide)).symm.trans q0_) 4 rfl)) (by decide))⟩, fun _ _ _ => rfl⟩
   | 5, _ => exact stepV rfl rfl (execLdLI (v := y c) rfl (hdep _ rfl 4 rfl _ rfl _ rfl) (ownL_cellI (hT.2.1 (by cases hq_ : l_ 15 with | false => rfl | true => exact absurd (hl_.symm.trans (hcl 15 _ rfl hq_ 5 rfl)) (by decide))) hcJ)) ⟨s, ⟨_, rfl, rfl⟩, ⟨hT.1, (fun q0_ => (hT.2.1 (by rw [up 5 15 (by decide)] at q0_; exact q0_))), (fun q0_ => (hT.2.2.1 (by rw [up 5 13 (by decide)] at q0_; exact q0_))), (hT.2.2.2.1), (hT.2.2.2.2.1), (fun q0_ q1_ => (hT.2.2.2.2.2.1 (by rw [up 5 12 (by decide)] at q0_; exact q0_) (by rw [up 5 13 (by decide)] at q1_; exact q1_))), (fun q0_ => absurd (hl_.symm.trans (hcl 13 _ rfl ((up 5 13 (by decide)).symm.trans q0_) 5 rfl)) (by decide)), (fun q0_ => absurd (hl_.symm.trans (hcl 15 _ rfl ((up 5 15 (by decide)).symm.trans q0_) 5 rfl)) (by decide))⟩, fun _ _ _ => rfl⟩
   | 6, _ => exact stepV rfl rfl (execMvB rfl ((hf 9 (by decide)).trans t9)) ⟨s, ⟨_, rfl, rfl⟩, ⟨hT.1, (fun q0_ => (hT.2.1 (by rw [up 6 15 (by decide)] at q0_; exact q0_))), (fun q0_ => (hT.2.2.1 (by rw [up 6 13 (by decide)] at q0_; exact q0_))), (hT.2.2.2.1), (hT.2.2.2.2.1), (fun q0_ q1_ => absurd (hl_.symm.trans (hcl 11 _ rfl (hcl 12 _ rfl ((up 6 12 (by decide)).symm.trans q0_) 11 rfl) 6 rfl)) (by decide)), (fun q0_ => absurd (hl_.symm.trans (hcl 11 _ rfl (hcl 12 _ rfl (hcl 13 _ rfl ((up 6 13 (by decide)).symm.trans q0_) 12 rfl) 11 rfl) 6 rfl)) (by decide)), (fun q0_ => absurd (hl_.symm.trans (hcl 15 _ rfl ((up 6 15 (by decide)).symm.trans q0_) 6 rfl)) (by decide))⟩, fun _ _ _ => rfl⟩
   | 7, _ => exact stepV rfl rfl (execMvB rfl ((hf 7 (by decide)).trans t7)) ⟨s, ⟨_, rfl, rfl⟩, ⟨hT.1, (fun q0_ => (hT.2.1 (by rw [up 7 15 (by decide)] at q0_; exact q0_))), (fun q0_ => (hT.2.2.1 (by rw [up 7 13 (by decide)] at q0_; exact q0_))), (hT.2.2.2.1), (hT.2.2.2.2.1), (fun q0_ q1_ => absurd (hl_.symm.trans (hcl 9 _ rfl (hcl 10 _ rfl (hcl 11 _ rfl (hcl 12 _ rfl ((up 7 12 (by decide)).symm.trans q0_) 11 rfl) 10 rfl) 9 rfl) 7 rfl)) (by decide)), (fun q0_ => absurd (hl_.symm.trans (hcl 9 _ rfl (hcl 10 _ rfl (hcl 11 _ rfl (hcl 12 _ rfl (hcl 13 _ rfl ((up 7 13 (by decide)).symm.trans q0_) 12 rfl) 11 rfl) 10 rfl) 9 rfl) 7 rfl)) (by decide)), (fun q0_ => absurd (hl_.symm.trans (hcl 15 _ rfl ((up 7 15 (by decide)).symm.trans q0_) 7 rfl)) (by decide))⟩, fun _ _ _ => rfl⟩
   | 8, _ => exact stepV rfl rfl (execMvB rfl ((hf 10 (by decide)).trans t10)) ⟨s, ⟨_, rfl, rfl⟩, ⟨hT.1, (fun q0_ => (hT.2.1 (by rw [up 8 15 (by decide)] at q0_; exact q0_))), (fun q0_ => (hT.2.2.1 (by rw [up 8 13 (by decide)] at q0_; exact q0_))), (hT.2.2.2.1), (hT.2.2.2.2.1), (fun q0_ q1_ => absurd (hl_.symm.trans (hcl 9 _ rfl (hcl 10 _ rfl (hcl 11 _ rfl (hcl 12 _ rfl ((up 8 12 (by decide)).symm.trans q0_) 11 rfl) 10 rfl) 9 rfl) 8 rfl)) (by decide)), (fun q0_ => absurd (hl_.symm.trans (hcl 9 _ rfl (hcl 10 _ rfl (hcl 11 _ rfl (hcl 12 _ rfl (hcl 13 _ rfl ((up 8 13 (by decide)).symm.trans q0_) 12 rfl) 11 rfl) 10 rfl) 9 rfl) 8 rfl)) (by decide)), (fun q0_ => absurd (hl_.symm.trans (hcl 15 _ rfl ((up 8 15 (by decide)).symm.trans q0_) 8 rfl)) (by decide))⟩, fun _ _ _ => rfl⟩
   | 9, _ => exact stepV rfl rfl (execIdxN (k := c) rfl ((hdep _ rfl 7 rfl _ rfl _ rfl).trans est) (hdep _ rfl 8 rfl _ rfl _ rfl) hcJ) ⟨s, ⟨_, rfl, rfl⟩, ⟨hT.1, (fun q0_ => (hT.2.1 (by rw [up 9 15 (by decide)] at q0_; exact q0_))), (fun q0_ => (hT.2.2.1 (by rw [up 9 13 (by decide)] at q0_; exact q0_))), (hT.2.2.2.1), (hT.2.2.2.2.1), (fun q0_ q1_ => absurd (hl_.symm.trans (hcl 10 _ rfl (hcl 11 _ rfl (hcl 12 _ rfl ((up 9 12 (by decide)).symm.trans q0_) 11 rfl) 10 rfl) 9 rfl)) (by decide)), (fun q0_ => absurd (hl_.symm.trans (hcl 10 _ rfl (hcl 11 _ rfl (hcl 12 _ rfl (hcl 13 _ rfl ((up 9 13 (by decide)).symm.trans q0_) 12 rfl) 11 rfl) 10 rfl) 9 rfl)) (by decide)), (fun q0_ => absurd (hl_.symm.trans (hcl 15 _ rfl ((up 9 15 (by decide)).symm.trans q0_) 9 rfl)) (by decide))⟩, fun _ _ _ => rfl⟩
   | 10, _ => exact stepV rfl rfl (execLd3 rfl (hdep _ rfl 9 rfl _ rfl _ rfl) (cst c hcJ X hT.1)) ⟨s, ⟨_, rfl, rfl⟩, ⟨hT.1, (fun q0_ => (hT.2.1 (by rw [up 10 15 (by decide)] at q0_; exact q0_))), (fun q0_ => (hT.2.2.1 (by rw [up 10 13 (by decide)] at q0_; exact q0_))), (hT.2.2.2.1), (hT.2.2.2.2.1), (fun q0_ q1_ => absurd (hl_.symm.trans (hcl 11 _ rfl (hcl 12 _ rfl ((up 10 12 (by decide)).symm.trans q0_) 11 rfl) 10 rfl)) (by decide)), (fun q0_ => absurd (hl_.symm.trans (hcl 11 _ rfl (hcl 12 _ rfl (hcl 13 _ rfl ((up 10 13 (by decide)).symm.trans q0_) 12 rfl) 11 rfl) 10 rfl)) (by decide)), (fun q0_ => absurd (hl_.symm.trans (hcl 15 _ rfl ((up 10 15 (by decide)).symm.trans q0_) 10 rfl)) (by decide))⟩, fun _ _ _ => rfl⟩
   | 11, _ => exact stepV rfl rfl (By8.execSubI (p := wi) (q := sumN (szF N J) c) rfl (hdep _ rfl 6 rfl _ rfl _ rfl) (hdep _ rfl 10 rfl _ rfl _ rfl) (by omega) (by omega)) ⟨s, ⟨_, rfl, rfl⟩, ⟨hT.1, (fun q0_ => (hT.2.1 (by rw [up 11 15 (by decide)] at q0_; exact q0_))), (fun q0_ => (hT.2.2.1 (by rw [up 11 13 (by decide)] at q0_; exact q0_))), (hT.2.2.2.1), (hT.2.2.2.2.1), (fun q0_ q1_ => absurd (hl_.symm.trans (hcl 12 _ rfl ((up 11 12 (by decide)).symm.trans q0_) 11 rfl)) (by decide)), (fun q0_ => absurd (hl_.symm.trans (hcl 12 _ rfl (hcl 13 _ rfl ((up 11 13 (by decide)).symm.trans q0_) 12 rfl) 11 rfl)) (by decide)), (fun q0_ => absurd (hl_.symm.trans (hcl 15 _ rfl ((up 11 15 (by decide)).symm.trans q0_) 11 rfl)) (by decide))⟩, fun _ _ _ => rfl⟩
   | 12, _ =>
    refine stepV rfl rfl (execBsI (z := ((wi - sumN (szF N J) c : Nat) : Int)) rfl (hdep _ rfl 11 rfl _ rfl _ rfl)) ⟨(X.heap.size, s.2), ⟨_, rfl, rfl⟩, ⟨hT.1.trans (((belNew X _)).mono hT.1.size), (fun q0_ => (ownD_below (hT.2.1 (by rw [up 12 15 (by decide)] at q0_; exact q0_)) (belNew X _))), (fun q0_ => ((hT.2.2.1 (by rw [up 12 13 (by decide)] at q0_; exact q0_)).on (belNew X _))), ((fc_on hT.2.2.2.1 (belNew X _))), ((ownD_below hT.2.2.2.2.1 (belNew X _))), (fun _q0_ _q1_ => oneI X (by omega)), (fun q0_ => absurd (hl_.symm.trans (hcl 13 _ rfl ((up 12 13 (by decide)).symm.trans q0_) 12 rfl)) (by decide)), (fun q0_ => absurd (hl_.symm.trans (hcl 15 _ rfl ((up 12 15 (by decide)).symm.trans q0_) 12 rfl)) (by decide))⟩, fun i hi hli => ?_⟩
    match i, hi with
    | 0, _ => rfl
    | 1, _ => rfl
    | 2, _ => rfl
    | 3, _ => rfl
    | 4, _ => rfl
    | 5, _ => rfl
    | 6, _ => rfl
    | 7, _ => rfl
    | 8, _ => rfl
    | 9, _ => rfl
    | 10, _ => rfl
    | 11, _ => rfl
    | 12, _ => exact absurd (hl_.symm.trans hli) (by decide)
    | 13, _ => rfl
    | 14, _ => rfl
    | 15, _ => rfl
    | k_ + 16, h_ => exact absurd h_ (by simp)
   | 13, _ =>
    refine stepFmM (x := y) (t := c) (l := 1) (q := fun _ => ((wi - sumN (szF N J) c : Nat) : Int)) rfl rfl rfl (hdep _ rfl 5 rfl _ rfl _ rfl) (hdep _ rfl 12 rfl _ rfl _ rfl) (hT.2.2.1 hl_) hcJ (hT.2.2.2.2.2.1 (hl2 _ rfl 12 rfl) hl_) ⟨_, _, rfl⟩ (by show cntC (wC (szF N J) J w) c i + 1 ≤ _; omega) hT.2.2.2.1 fun v' W' fm' gr => ⟨(s.1, v'), ⟨_, rfl, rfl⟩, ⟨(hT.1).grown gr (hT.1).size (fun k hk => Nat.le_trans hBC (((hT.2.2.1 hl_).rows c hcJ).lt k hk).1), (fun q0_ => (own_overT (hT.2.1 (by rw [up 13 15 (by decide)] at q0_; exact q0_)) ((hT.2.2.1 hl_).rows c hcJ) gr (by decide))), (fun q0_ => absurd q0_ (by unfold updB; simp)), ((Nat.le_trans hT.2.2.2.1 gr.size)), ((own_overB hT.2.2.2.2.1 hPl ((hT.2.2.1 hl_).rows c hcJ) gr)), (fun q0_ q1_ => absurd q1_ (by unfold updB; simp)), (fun _q0_ => fm'), (fun q0_ => absurd (hl_.symm.trans (hcl 15 _ rfl ((up 13 15 (by decide)).symm.trans q0_) 13 rfl)) (by decide))⟩, fun i hi hli => ?_⟩
    match i, hi with
    | 0, _ => rfl
    | 1, _ => rfl
    | 2, _ => rfl
    | 3, _ => rfl
    | 4, _ => rfl
    | 5, _ => rfl
    | 6, _ => rfl
    | 7, _ => rfl
    | 8, _ => rfl
    | 9, _ => rfl
    | 10, _ => rfl
    | 11, _ => rfl
    | 12, _ => rfl
    | 13, _ => exact absurd (hl_.symm.trans hli) (by decide)
    | 14, _ => rfl
    | 15, _ => rfl
    | k_ + 16, h_ => exact absurd h_ (by simp)
   | 14, _ => exact stepV rfl rfl (execIdxLI (k := c) rfl (hdep _ rfl 0 rfl _ rfl _ rfl) (hdep _ rfl 1 rfl _ rfl _ rfl) hcJ) ⟨s, ⟨_, rfl, rfl⟩, ⟨hT.1, (fun q0_ => (hT.2.1 (by rw [up 14 15 (by decide)] at q0_; exact q0_))), (fun q0_ => absurd (q0_.symm.trans ((up 14 13 (by decide)).trans (hl2 _ rfl 13 rfl))) (by decide)), (hT.2.2.2.1), (hT.2.2.2.2.1), (fun q0_ q1_ => absurd (q1_.symm.trans ((up 14 13 (by decide)).trans (hl2 _ rfl 13 rfl))) (by decide)), (fun q0_ => (hT.2.2.2.2.2.2.1 (by rw [up 14 13 (by decide)] at q0_; exact q0_))), (fun q0_ => absurd (hl_.symm.trans (hcl 15 _ rfl ((up 14 15 (by decide)).symm.trans q0_) 14 rfl)) (by decide))⟩, fun _ _ _ => rfl⟩
   | 15, _ =>
    obtain ⟨hc_, hf_⟩ := ownL_cell2 (hT.2.1 hl_) hcJ
    refine stepS rfl rfl (execStLI rfl (hdep _ rfl 14 rfl _ rfl _ rfl) (hdep _ rfl 13 rfl _ rfl _ rfl) (by have h_ := Brd.shp3 ((hT.2.2.2.2.2.2.1 (hl2 _ rfl 13 rfl)).rows c hcJ); rw [updX_at] at h_; exact h_) hc_ hf_) ⟨s, ⟨_, rfl, rfl⟩, ⟨(hT.1).setCell FTg _, (fun q0_ => absurd q0_ (by unfold updB; simp)), (fun q0_ => absurd (q0_.symm.trans ((up 15 13 (by decide)).trans (hl2 _ rfl 13 rfl))) (by decide)), ((by rw [sz_set]; exact hT.2.2.2.1)), ((own_offT hT.2.2.2.2.1 (own_cur (hT.2.1 hl_)).choose_spec.1 (by decide))), (fun q0_ q1_ => absurd (q1_.symm.trans ((up 15 13 (by decide)).trans (hl2 _ rfl 13 rfl))) (by decide)), (fun q0_ => (Brd.FmI.offT (hT.2.2.2.2.2.2.1 (by rw [up 15 13 (by decide)] at q0_; exact q0_)) (own_cur (hT.2.1 hl_)).choose_spec.1 (by decide))), (fun _q0_ => ownL_setI (hT.2.1 hl_))⟩, fun i hi hli => ?_⟩
    match i, hi with
    | 0, _ => rfl
    | 1, _ => rfl
    | 2, _ => rfl
    | 3, _ => rfl
    | 4, _ => rfl
    | 5, _ => rfl
    | 6, _ => rfl
    | 7, _ => rfl
    | 8, _ => rfl
    | 9, _ => rfl
    | 10, _ => rfl
    | 11, _ => rfl
    | 12, _ => rfl
    | 13, _ => rfl
    | 14, _ => rfl
    | 15, _ => exact absurd (hl_.symm.trans hli) (by decide)
    | k_ + 16, h_ => exact absurd h_ (by simp)
   | k_ + 16, h_ => exact absurd h_ (by simp)
  rintro l_ ⟨g49, v50⟩ a X9 h1 h2 h3 h4 hall hT
  clear BB
  clear FT
  clear FM
  clear FC
  clear FP2
  obtain ⟨BB, FT, FM, FC, FP2, Fg49, FM1, FT2⟩ := hT
  clear FT
  clear FM
  replace FC : (X3.heap.size ≤ X9.heap.size) := FC
  replace FP2 : (X9.ownsRow X1.heap.size 3 1 (.slice (some ⟨g18, 0, none⟩) N N) N (intsL N (fun k => if k < (i + 1) then ((wC (szF N J) J w k : Nat) : Int) else 0))) := FP2
  clear Fg49
  replace FM1 : (FmI X3.heap.size J (updX y c v50) (updD (fun t => cntC (wC (szF N J) J w) t i) c 1) (updG (wOI J N w) c (catI ((fun t => cntC (wC (szF N J) J w) t i) c) (wOI J N w c) (fun _ => ((wi - sumN (szF N J) c : Nat) : Int)))) X9) := FM1 (hall 13 (by decide))
  replace FT2 : (X9.ownsRow X1.heap.size 24 1 (.slice (some ⟨g21, 0, none⟩) J J) J (lL (updX y c v50) J)) := FT2 (hall 15 (by decide))
  clear hall
  replace t4 := (h3 4 (by decide)).trans t4
  replace t5 := (h3 5 (by decide)).trans t5
  replace t6 := (h3 6 (by decide)).trans t6
  replace t7 := (h3 7 (by decide)).trans t7
  replace t22 := (h3 22 (by decide)).trans t22
  replace t23 := (h3 23 (by decide)).trans t23
  replace t24 := (h3 24 (by decide)).trans t24
  replace A := (⟨h1, h2.trans A.2⟩ : a.tmps.size = 55 ∧ a.defers = [])
  clear h1 h2 h3 h4
  clear t9 t10
  have FM2 : (FmI X3.heap.size J (updX y c v50) (fun t => cntC (wC (szF N J) J w) t (i + 1)) (wOI J N w) X9) := FmI.cgN (FmI.app1 FM1 (wO_z ec ew lti)) (fun t ht => cnt_upd ec)
  clear FM1
  refine wi_ A (h7_ t4 t5 t6 t7 t22 t23 t24) (rv_ 0 (.int .i64 ((i + 1 : Nat) : Int)) (fun a e => execAd8 (p := i) (q := 1) rfl (e _) rfl (by omega)) (rf_ [(24, .int .i64 ((i + 1 : Nat) : Int))] (h6_ t4 t5 t6 t7 t22 t23) ?_))
  rintro a A ⟨t24, -⟩ ⟨t4, t5, t6, t7, t22, t23, -⟩
  exact ⟨⟨i + 1, updX y c v50, lti, A, t4, t5, t6, t7, t22, t23, t24, BB, FP2, FT2, FM2, FC⟩, by show N - (intOf (a.eval (.tmp 24))).toNat < N - (intOf (Act.eval _ (.tmp 24))).toNat; rw [t24, esi]; show N - (i + 1) < N - i; omega⟩
 ·rw [decide_eq_false lti] at t25
  refine wp_cond_false t25 ?_
  refine wp_exit ?_
  first | with_reducible refine exit_in ?_ | with_reducible refine exit_then (exit_in ?_) | with_reducible refine exit_then (exit_then (exit_in ?_)) | refine exit_in ?_ | refine exit_then (exit_in ?_) | refine exit_then (exit_then (exit_in ?_))
  clear t25 esi
  have hiN : i = N := by omega
  rw [hiN, intsL_congr (g := fun k => ((wC (szF N J) J w k : Nat) : Int)) (fun j hj => if_pos hj)] at FP
  rw [hiN] at FM
  have FA : SliceI XL5 (.slice (some ⟨g18, 0, none⟩) N N) N (wCI J N w) := own_ints FP (wCI_fits h1 h2 hw)
  have FLL : LLI XL5 (.slice (some ⟨g21, 0, none⟩) J J) J y (szF N J) (wOI J N w) := lli_of (FmI.cgN FM (fun t ht => hpt.cnt t ht)) FT (wOI_fits hN h1 hw)
  clear FP FM FT FC t6 t7 t22 t23 t24
  replace FS := (FS.on BB)
  replace FW := (FW.on BB)
  replace Fh := (Fh.on BB)
  replace Fs := (Fs.on BB)
  replace BW := BW.trans (BB.mono BW.size)
  clear BB
  refine wp_seq ?_
  refine wi_ A (h2_ t4 t5) (rg_ [(4, .slice (some ⟨g18, 0, none⟩) N N), (5, .slice (some ⟨g21, 0, none⟩) J J)] ?_)
  rintro a A ⟨t4, t5, -⟩
  refine wp_ret ?_
  refine bodyPost_ret (results_tmp2 rfl _ _ _) A.2 ⟨_, _, y, ?_, FA, FLL, BW⟩
  show Ending.returned (.tuple #[a.eval (.tmp 4), a.eval (.tmp 5)]) = _
  rw [t4, t5]
end Go.Proofs.Ytmjpneaccjlpkaa.Rif
