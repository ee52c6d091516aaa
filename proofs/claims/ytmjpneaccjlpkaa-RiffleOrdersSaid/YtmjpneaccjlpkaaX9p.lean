import Derived.Test.YtmjpneaccjlpkaaF9c
import Derived.Test.YtmjpneaccjlpkaaX9o
namespace Go.Proofs.Ytmjpneaccjlpkaa.Rif
open Go.RowKit Gf8 Aes By8 Cel Cf Tap Drw Prm Brd
/- The reference's Order. Written by tools/mkX9p.py. -/
theorem bsz {W W' : World} (h : Below W.heap.size W W') : W.heap.size ≤ W'.heap.size := h.size
theorem st_zero {s : Nat → Nat} {j : Nat} : (if j < 1 then ((sumN s j : Nat) : Int) else 0) = 0 := by
 by_cases h : j < 1
 ·rw [if_pos h, show j = 0 by omega]; rfl
 ·rw [if_neg h]
theorem ri_vals (L : Nat) (n ch : Int) (p : Nat → Nat) (h : inL n ch) : riE L n ch p = 0 ∨ riE L n ch p = 3 := by
 unfold riE
 rw [if_pos h]
 by_cases q : 18 ≤ L ∧ okT L ch.toNat n.toNat (szF n.toNat ch.toNat) p = true
 ·rw [if_pos q]; exact Or.inl rfl
 ·rw [if_neg q]; exact Or.inr rfl
theorem rlaid1 (p : Nat → Nat) (L N J : Nat) (pv : Value) (V : World) (FP : SliceN V pv L p) (hl : L ≤ 140737488351232) (hN : N ≤ 256) (h1 : 1 ≤ J) (h2 : J ≤ 64) (hE : riE L ((N : Nat) : Int) ((J : Nat) : Int) p = 0) : Calls Try.prog 26 #[pv, .int .i64 ((N : Nat) : Int), .int .i64 ((J : Nat) : Int)] V fun e w' => ∃ sv uv wv tv y, e = .returned (.tuple #[.agg (akC sv uv wv tv), .bool true]) ∧ (SliceI w' sv J (sI N J) ∧ SliceI w' uv N (pcF (sI N J) J (dQ (brP p) (lb L) N)) ∧ SliceI w' wv N (poF (sI N J) J (dQ (brP p) (lb L) N) N) ∧ LLI w' tv J y (szF N J) (owI L N J p)) ∧ (akC sv uv wv tv).all (·.oneCell') = true ∧ Below V.heap.size V w' :=
 Calls.mono (rlaid p L N J pv V FP hl hN h1 h2) fun e w' ⟨sv, uv, wv, tv, y, g1, g2, g3, g4⟩ => ⟨sv, uv, wv, tv, y, by rw [decide_eq_true hE] at g1; exact g1, g2 hE, g3, g4⟩
theorem rlaid0 (p : Nat → Nat) (L N J : Nat) (pv : Value) (V : World) (FP : SliceN V pv L p) (hl : L ≤ 140737488351232) (hN : N ≤ 256) (h1 : 1 ≤ J) (h2 : J ≤ 64) (hE : riE L ((N : Nat) : Int) ((J : Nat) : Int) p ≠ 0) : Calls Try.prog 26 #[pv, .int .i64 ((N : Nat) : Int), .int .i64 ((J : Nat) : Int)] V fun e w' => ∃ sv uv wv tv, e = .returned (.tuple #[.agg (akC sv uv wv tv), .bool false]) ∧ (akC sv uv wv tv).all (·.oneCell') = true ∧ Below V.heap.size V w' :=
 Calls.mono (rlaid p L N J pv V FP hl hN h1 h2) fun e w' ⟨sv, uv, wv, tv, y, g1, g2, g3, g4⟩ => ⟨sv, uv, wv, tv, by rw [decide_eq_false hE] at g1; exact g1, g3, g4⟩
set_option maxRecDepth 100000 in
set_option maxHeartbeats 4000000 in
theorem rorder (p : Nat → Nat) (L : Nat) (n ch : Int) (pv : Value) (V : World) (FP : SliceN V pv L p) (hl : L ≤ 140737488351232) :
  Calls Try.prog 12 #[pv, .int .i64 n, .int .i64 ch] V fun e w' => ∃ r, e = .returned (.tuple #[r, .int .i64 ((riE L n ch p : Nat) : Int)]) ∧ w'.ownsRow V.heap.size 3 1 r (zl (riE L n ch p) n.toNat) (intsL (zl (riE L n ch p) n.toNat) (orF L n ch p)) ∧ Below V.heap.size V w' := by
 go_enter Try.func12, Try.ntmps12
 refine wp_seq ?_
 refine wo_ 91 [(0, pv), (1, .int .i64 n), (2, .int .i64 ch)] ?_
 rintro a A ⟨t0, t1, t2, -⟩
 refine wi_ A (h3_ t0 t1 t2) (rf_ [] (h3_ t0 t1 t2) ?_)
 rintro a A - ⟨t0, t1, t2, -⟩
 have BW : Below V.heap.size V V := Below.refl _ _
 refine wp_seq (wp_seq ?_)
 by_cases hin : inL n ch
 ·obtain ⟨N, rfl⟩ : ∃ N : Nat, n = N := ⟨n.toNat, by have := hin.1; omega⟩
  obtain ⟨J, rfl⟩ : ∃ J : Nat, ch = J := ⟨ch.toNat, by have := hin.2.2.1; omega⟩
  obtain ⟨h0, hN, h1, h2⟩ := id hin
  replace hN : N ≤ 256 := by omega
  replace h1 : 1 ≤ J := by omega
  replace h2 : J ≤ 64 := by omega
  refine wi_ A (h3_ t0 t1 t2) (rc_ 2 (rfit1 hin V) (cb_ fun X1 bQ => ?_))
  have bX := bQ
  clear bQ
  refine rv_ 3 (.bool false) (fun a e => execNot8 (b := true) rfl (e _)) (rf_ [(19, .bool false)] (h3_ t0 t1 t2) ?_)
  rintro a A ⟨t19, -⟩ ⟨t0, t1, t2, -⟩
  replace FP := (FP.on bX)
  have ZX1 := bX.size
  replace BW := BW.trans (bX.mono BW.size)
  clear bX
  refine wp_cond_false t19 (wp_skip ?_)
  clear t19
  refine wp_seq ?_
  by_cases hE : riE L ((N : Nat) : Int) ((J : Nat) : Int) p = 0
  ·refine wi_ A (h3_ t0 t1 t2) (rc_ 3 (rlaid1 p L N J _ X1 FP hl hN h1 h2 hE) fun e X3_1 hh => ?_)
   obtain ⟨sv, uv, wv, tv, y_, he, hk, hs, hb⟩ := hh
   refine ⟨_, he, ?_⟩
   have bQ : Below X1.heap.size X1 X3_1 := hb
   have FL : (SliceI X3_1 sv J (sI N J) ∧ SliceI X3_1 uv N (pcF (sI N J) J (dQ (brP p) (lb L) N)) ∧ SliceI X3_1 wv N (poF (sI N J) J (dQ (brP p) (lb L) N) N) ∧ LLI X3_1 tv J y_ (szF N J) (owI L N J p)) := hk
   have FB : (Below X3_1.heap.size X3_1 X3_1) := Below.refl _ _
   have Fone : ((akC sv uv wv tv).all (·.oneCell') = true) := hs
   have bX := bQ
   clear bQ
   obtain ⟨g8, egg8⟩ : ∃ z_ : Nat, X3_1.heap.size = z_ := ⟨_, rfl⟩
   refine rs_ 7 (fun a e => ?_)
   refine stepV rfl rfl (execAllLd rfl) ⟨.pointer (some ⟨g8, 0, none⟩), ⟨_, rfl, by subst egg8; rfl⟩, fun X3_2 hX => ?_⟩
   have bQ : Below X3_1.heap.size X3_1 X3_2 := by subst hX egg8; exact (belNew X3_1 _)
   have F8 : X3_2.heap[g8]? = some (.cells (akC (.slice none 0 0) (.slice none 0 0) (.slice none 0 0) (.slice none 0 0)) 66) := by subst hX egg8; exact heapNew X3_1 _
   have Fge8 : (X1.heap.size ≤ g8) := by subst hX egg8; exact (bX).size
   have Fgb : (X3_1.heap.size ≤ g8) := by subst hX egg8; exact (FB).size
   replace FB := (FB.trans ((bQ).mono (FB).size))
   replace bX := bX.trans (bQ.mono bX.size)
   clear bQ hX egg8 e a
   refine rs_ 8 (fun a e => ?_)
   refine stepS rfl rfl (execStLd rfl (e _) (e _) F8 rfl Fone) ⟨_, ⟨_, rfl, rfl⟩, fun X3 hX => ?_⟩
   obtain ⟨bX, FB, F8⟩ : Below X1.heap.size X1 X3 ∧ (Below X3_1.heap.size X3_1 X3) ∧ X3.heap[g8]? = some (.cells (akC sv uv wv tv) 66) := by rw [hX]; exact ⟨below4 bX Fge8 _, (below4 FB Fgb _), setRow_heap _ _ _ _ _ _ F8⟩
   clear hX e a
   refine rf_ [(8, .pointer (some ⟨g8, 0, none⟩)), (9, .bool true)] (h2_ t1 t2) ?_
   rintro a A ⟨t8, t9, -⟩ ⟨t1, t2, -⟩
   replace FP := (FP.on bX)
   have ZX3 := bX.size
   replace BW := BW.trans (bX.mono BW.size)
   clear bX
   refine wp_seq (wp_seq ?_)
   refine wi_ A (h4_ t1 t2 t8 t9) (rv_ 1 (.bool false) (fun a e => execNot8 (b := true) rfl (e _)) (rf_ [(28, .bool false)] (h3_ t1 t2 t8) ?_))
   rintro a A ⟨t28, -⟩ ⟨t1, t2, t8, -⟩
   refine wp_cond_false t28 (wp_skip ?_)
   clear t28
   rw [hE, zl_ok]
   have hFit := ri_ok hE
   replace FL := (⟨FL.1.on FB, FL.2.1.on FB, FL.2.2.1.on FB, FL.2.2.2.on FB⟩ : _ ∧ _ ∧ _ ∧ _)
   obtain ⟨Fz, Fu, Fw, FLL⟩ := FL
   clear FB
   have hok : OkT L J N (szF N J) p := hFit.ok
   have hpt : IsPat (szF N J) J N (ptT L J N (szF N J) p) := ptT_pat (szF_sum N h1) hok
   have BB : Below X3.heap.size X3 X3 := Below.refl _ _
   refine wp_seq ?_
   obtain ⟨g30, egg30⟩ : ∃ z_ : Nat, X3.heap.size = z_ := ⟨_, rfl⟩
   refine wi_ A (h3_ t1 t2 t8) (rs_ 1 (fun a e => ?_))
   refine stepV rfl rfl (execMkN rfl (e _) (e _) (by omega)) ⟨.slice (some ⟨g30, 0, none⟩) J J, ⟨_, rfl, by subst egg30; rfl⟩, fun X6 hX => ?_⟩
   have bQ : Below X3.heap.size X3 X6 := by subst hX egg30; exact (belNew X3 _)
   have FXs : (X6.ownsRow X3.heap.size 3 1 (.slice (some ⟨g30, 0, none⟩) J J) (J) (intsL (J) (fun j => if j < 1 then ((sumN (szF N J) j : Nat) : Int) else 0))) := by subst hX egg30; exact ownD_base (own_mkZ X3 J _ (by omega) (fun j_ _ => st_zero)) (BB).size
   have Fg : (X3.heap.size ≤ g30) := by subst hX egg30; exact (BB).size
   replace BB := BB.trans (bQ.mono BB.size)
   clear bQ hX egg30 e a
   refine rf_ [(10, .slice (some ⟨g30, 0, none⟩) J J)] (h3_ t1 t2 t8) ?_
   rintro a A ⟨t10, -⟩ ⟨t1, t2, t8, -⟩
   refine wp_seq ?_
   obtain ⟨g32, egg32⟩ : ∃ z_ : Nat, X6.heap.size = z_ := ⟨_, rfl⟩
   refine wi_ A (h4_ t1 t2 t8 t10) (rs_ 1 (fun a e => ?_))
   refine stepV rfl rfl (execMkN rfl (e _) (e _) (by omega)) ⟨.slice (some ⟨g32, 0, none⟩) J J, ⟨_, rfl, by subst egg32; rfl⟩, fun X7 hX => ?_⟩
   have bQ : Below X6.heap.size X6 X7 := by subst hX egg32; exact (belNew X6 _)
   have FX : (X7.ownsRow X3.heap.size 3 1 (.slice (some ⟨g32, 0, none⟩) J J) (J) (intsL (J) (fun j => (cntC (gN (pcF (sI N J) J (dQ (brP p) (lb L) N))) j 0 : Int)))) := by subst hX egg32; exact ownD_base (own_mkZ X6 J _ (by omega) (fun _ _ => rfl)) (BB).size
   have Fh : (X3.heap.size ≤ g32) := by subst hX egg32; exact (BB).size
   have Fne : (g30 ≠ g32) := by subst hX egg32; exact fun q => by have := (FXs.lt g30 rfl).2; omega
   replace FXs := (ownD_below FXs bQ)
   replace BB := BB.trans (bQ.mono BB.size)
   clear bQ hX egg32 e a
   refine rf_ [(11, .slice (some ⟨g32, 0, none⟩) J J)] (h4_ t1 t2 t8 t10) ?_
   rintro a A ⟨t11, -⟩ ⟨t1, t2, t8, t10, -⟩
   refine wp_seq (wp_seq ?_)
   refine wi_ A (h5_ t1 t2 t8 t10 t11) (rf_ [(12, .int .i64 ((1 : Nat) : Int))] (h5_ t1 t2 t8 t10 t11) ?_)
   rintro a A ⟨t12, -⟩ ⟨t1, t2, t8, t10, t11, -⟩
   refine wp_block ?_
   refine wp_loop (fun a W => ∃ (i : Nat), i ≤ J ∧ (1 ≤ i) ∧ (a.tmps.size = 91 ∧ a.defers = []) ∧ a.eval (.tmp 1) = .int .i64 ((N : Nat) : Int) ∧ a.eval (.tmp 2) = .int .i64 ((J : Nat) : Int) ∧ a.eval (.tmp 8) = .pointer (some ⟨g8, 0, none⟩) ∧ a.eval (.tmp 10) = .slice (some ⟨g30, 0, none⟩) J J ∧ a.eval (.tmp 11) = .slice (some ⟨g32, 0, none⟩) J J ∧ a.eval (.tmp 12) = .int .i64 ((i : Nat) : Int) ∧ Below X3.heap.size X3 W ∧ (W.ownsRow X3.heap.size 3 1 (.slice (some ⟨g30, 0, none⟩) J J) (J) (intsL (J) (fun j => if j < i then ((sumN (szF N J) j : Nat) : Int) else 0))) ∧ (W.ownsRow X3.heap.size 3 1 (.slice (some ⟨g32, 0, none⟩) J J) (J) (intsL (J) (fun j => (cntC (gN (pcF (sI N J) J (dQ (brP p) (lb L) N))) j 0 : Int))))) (fun a _ => J - (intOf (a.eval (.tmp 12))).toNat) ⟨1, h1, Nat.le_refl _, A, t1, t2, t8, t10, t11, t12, BB, FXs, FX⟩ ?_
   rintro a XL9 ⟨i, hi, hi0, A, t1, t2, t8, t10, t11, t12, BB, FXs, FX⟩
   have esi := t12
   refine wp_seq (wp_seq ?_)
   refine wi_ A (h6_ t1 t2 t8 t10 t11 t12) (rv_ 2 (.bool (decide (i < J))) (fun a e => execLtW (p := i) (q := J) rfl (e _) (e _)) (rf_ [(35, .bool (decide (i < J)))] (h6_ t1 t2 t8 t10 t11 t12) ?_))
   rintro a A ⟨t35, -⟩ ⟨t1, t2, t8, t10, t11, t12, -⟩
   by_cases lti : i < J
   ·rw [decide_eq_true lti] at t35
    refine wp_cond_true t35 (wp_skip ?_)
    clear t35
    refine wp_seq (wp_block ?_)
    obtain ⟨zzb, zzo, zzc, ezz, hzzb, hzzc⟩ := open_sl Fz (by omega)
    have czz : ∀ k, k < J → ∀ X, Below X3.heap.size X3 X → X.cell? ⟨zzb, zzo + k, none⟩ = some (.int .i64 ((sI N J) k)) := fun k hk X hX => by rw [cell_below hX hzzb]; exact hzzc k hk
    have hi1 : i - 1 < J := by omega
    have hsi : sumN (szF N J) (i - 1) + szF N J (i - 1) = sumN (szF N J) i := by obtain ⟨k, rfl⟩ : ∃ k, i = k + 1 := ⟨i - 1, by omega⟩; rfl
    have hsN := sumN_at (r := szF N J) hi1
    rw [szF_sum N h1] at hsN
    refine wj_ [0, 1, 2, 3, 4, 5, 6, 7, 8, 9, 10, 11, 12, 13, 14, 15] [15] [6, 8, 12] [15] A (h6_ t1 t2 t8 t10 t11 t12) (fun X11_0 bD => ?_)
    refine dw_ 4 (.int .i64 ((i - 1 : Nat) : Int)) (fun a X e => By8.execSubI (p := i) (q := 1) rfl (e _) rfl (by omega) (by omega)) (dw_ 5 (.pointer (some ⟨g30, 0 + (i - 1), none⟩)) (fun a X e => execIdxN (k := i - 1) rfl (e _) (e _) hi1) (dv_ 6 (.int .i64 ((sumN (szF N J) (i - 1) : Nat) : Int)) (fun a X e hb => execLd3 rfl (e _) ((own_cellI (ownD_below FXs hb) hi1).1.trans (by rw [if_pos (by omega)]))) (dw_ 7 (.pointer (some ⟨g8, 0, none⟩)) (fun a X e => execFldLd0 rfl (e _)) (dv_ 8 (sv) (fun a X e hb => execLdLI (v := sv) rfl (e _) (ak_at0 (on9 F8 (BB.trans (hb.mono BB.size))))) (dw_ 10 (.int .i64 ((i - 1 : Nat) : Int)) (fun a X e => By8.execSubI (p := i) (q := 1) rfl (e _) rfl (by omega) (by omega)) (dw_ 11 (.pointer (some ⟨zzb, zzo + (i - 1), none⟩)) (fun a X e => execIdxN (k := i - 1) rfl ((e _).trans ezz) (e _) hi1) (dv_ 12 (.int .i64 ((szF N J (i - 1) : Nat) : Int)) (fun a X e hb => execLd3 rfl (e _) (czz (i - 1) hi1 X (BB.trans (hb.mono BB.size)))) (dw_ 13 (.int .i64 ((sumN (szF N J) (i - 1) + szF N J (i - 1) : Nat) : Int)) (fun a X e => execAd8 (p := sumN (szF N J) (i - 1)) (q := szF N J (i - 1)) rfl (e _) (e _) (by omega)) (dw_ 14 (.pointer (some ⟨g30, 0 + i, none⟩)) (fun a X e => execIdxN (k := i) rfl (e _) (e _) lti) (ds_ 15 (fun a e => ?_)))))))))))
    obtain ⟨hc_, hf_⟩ := own_cellI (ownD_below FXs bD) lti
    refine stepS rfl rfl (execStI9 rfl (e _) (e _) hc_ hf_) ⟨_, ⟨_, rfl, rfl⟩, fun X11 hX => ?_⟩
    obtain ⟨BB, FX, FS2⟩ : Below X3.heap.size X3 X11 ∧ (X11.ownsRow X3.heap.size 3 1 (.slice (some ⟨g32, 0, none⟩) J J) (J) (intsL (J) (fun j => (cntC (gN (pcF (sI N J) J (dQ (brP p) (lb L) N))) j 0 : Int)))) ∧ (X11.ownsRow X3.heap.size 3 1 (.slice (some ⟨g30, 0, none⟩) J J) (J) (intsL (J) (fun j => if j < (i + 1) then ((sumN (szF N J) j : Nat) : Int) else 0))) := by subst hX; exact ⟨((BB.trans (bD.mono BB.size))).setCell Fg _, (own_offB (ownD_below FX bD) (fun z => Fne (Option.some.inj z).symm)), own_fill (F := fun j => ((sumN (szF N J) j : Nat) : Int)) (ownD_below FXs bD) (by rw [hsi])⟩
    clear bD FXs hX e a
    refine ⟨Or.inl rfl, ?_⟩
    refine dz_ [] (h6_ t1 t2 t8 t10 t11 t12) ?_
    rintro a A - ⟨t1, t2, t8, t10, t11, t12, -⟩
    refine wi_ A (h6_ t1 t2 t8 t10 t11 t12) (rv_ 1 (.int .i64 ((i + 1 : Nat) : Int)) (fun a e => execAd8 (p := i) (q := 1) rfl (e _) rfl (by omega)) (rf_ [(12, .int .i64 ((i + 1 : Nat) : Int))] (h5_ t1 t2 t8 t10 t11) ?_))
    rintro a A ⟨t12, -⟩ ⟨t1, t2, t8, t10, t11, -⟩
    exact ⟨⟨i + 1, lti, Nat.le_add_left _ _, A, t1, t2, t8, t10, t11, t12, BB, FS2, FX⟩, by show J - (intOf (a.eval (.tmp 12))).toNat < J - (intOf (Act.eval _ (.tmp 12))).toNat; rw [t12, esi]; show J - (i + 1) < J - i; omega⟩
   ·rw [decide_eq_false lti] at t35
    refine wp_cond_false t35 ?_
    refine wp_exit ?_
    first | with_reducible refine exit_in ?_ | with_reducible refine exit_then (exit_in ?_) | with_reducible refine exit_then (exit_then (exit_in ?_)) | refine exit_in ?_ | refine exit_then (exit_in ?_) | refine exit_then (exit_then (exit_in ?_))
    clear t35 esi
    have hiJ : i = J := by omega
    rw [hiJ] at FXs
    clear t12
    have BC0 := BB.size
    have hgC : g30 < XL9.heap.size := (FXs.lt g30 rfl).2
    have hhC : g32 < XL9.heap.size := (FX.lt g32 rfl).2
    refine wp_seq ?_
    obtain ⟨g54, egg54⟩ : ∃ z_ : Nat, XL9.heap.size = z_ := ⟨_, rfl⟩
    refine wi_ A (h5_ t1 t2 t8 t10 t11) (rs_ 1 (fun a e => ?_))
    refine stepV rfl rfl (execMkI rfl (e _) (by omega)) ⟨.slice (some ⟨g54, 0, none⟩) 0 N, ⟨_, rfl, by subst egg54; rfl⟩, fun X12 hX => ?_⟩
    have bQ : Below XL9.heap.size XL9 X12 := by subst hX egg54; exact (belNew XL9 _)
    have FO : (X12.ownsRow XL9.heap.size 3 1 (.slice (some ⟨g54, 0, none⟩) 0 N) (0) (intsL (0) (orF L ((N : Nat) : Int) ((J : Nat) : Int) p))) := by subst hX egg54; exact own_mkI XL9 N _ (by omega)
    have FC : (XL9.heap.size ≤ X12.heap.size) := by subst hX egg54; exact (belNew XL9 _).size
    replace FXs := (ownD_below FXs bQ)
    replace FX := (ownD_below FX bQ)
    replace BB := BB.trans (bQ.mono BB.size)
    clear bQ hX egg54 e a
    refine rf_ [(13, .slice (some ⟨g54, 0, none⟩) 0 N)] (h5_ t1 t2 t8 t10 t11) ?_
    rintro a A ⟨t13, -⟩ ⟨t1, t2, t8, t10, t11, -⟩
    refine wp_seq (wp_seq ?_)
    refine wi_ A (h6_ t1 t2 t8 t10 t11 t13) (rf_ [(14, .int .i64 ((0 : Nat) : Int))] (h5_ t1 t8 t10 t11 t13) ?_)
    rintro a A ⟨t14, -⟩ ⟨t1, t8, t10, t11, t13, -⟩
    have hBC : X3.heap.size ≤ XL9.heap.size := BC0
    refine wp_block ?_
    refine wp_loop (fun a W => ∃ (i : Nat) (ov : Value), i ≤ N ∧ (a.tmps.size = 91 ∧ a.defers = []) ∧ a.eval (.tmp 1) = .int .i64 ((N : Nat) : Int) ∧ a.eval (.tmp 8) = .pointer (some ⟨g8, 0, none⟩) ∧ a.eval (.tmp 10) = .slice (some ⟨g30, 0, none⟩) J J ∧ a.eval (.tmp 11) = .slice (some ⟨g32, 0, none⟩) J J ∧ a.eval (.tmp 13) = ov ∧ a.eval (.tmp 14) = .int .i64 ((i : Nat) : Int) ∧ Below X3.heap.size X3 W ∧ (W.ownsRow X3.heap.size 3 1 (.slice (some ⟨g30, 0, none⟩) J J) (J) (intsL (J) (fun j => if j < J then ((sumN (szF N J) j : Nat) : Int) else 0))) ∧ (W.ownsRow X3.heap.size 3 1 (.slice (some ⟨g32, 0, none⟩) J J) (J) (intsL (J) (fun j => (cntC (gN (pcF (sI N J) J (dQ (brP p) (lb L) N))) j i : Int)))) ∧ (W.ownsRow XL9.heap.size 3 1 ov (i) (intsL (i) (orF L ((N : Nat) : Int) ((J : Nat) : Int) p))) ∧ (XL9.heap.size ≤ W.heap.size)) (fun a _ => N - (intOf (a.eval (.tmp 14))).toNat) ⟨0, .slice (some ⟨g54, 0, none⟩) 0 N, Nat.zero_le _, A, t1, t8, t10, t11, t13, t14, BB, FXs, FX, FO, FC⟩ ?_
    rintro a XL14 ⟨i, ov, hi, A, t1, t8, t10, t11, t13, t14, BB, FXs, FX, FO, FC⟩
    have esi := t14
    refine wp_seq (wp_seq ?_)
    refine wi_ A (h6_ t1 t8 t10 t11 t13 t14) (rv_ 2 (.bool (decide (i < N))) (fun a e => execLtW (p := i) (q := N) rfl (e _) (e _)) (rf_ [(57, .bool (decide (i < N)))] (h6_ t1 t8 t10 t11 t13 t14) ?_))
    rintro a A ⟨t57, -⟩ ⟨t1, t8, t10, t11, t13, t14, -⟩
    by_cases lti : i < N
    ·rw [decide_eq_true lti] at t57
     refine wp_cond_true t57 (wp_skip ?_)
     clear t57
     refine wp_seq (wp_block ?_)
     obtain ⟨uub, uuo, uuc, euu, huub, huuc⟩ := open_sl Fu (by omega)
     have cuu : ∀ k, k < N → ∀ X, Below X3.heap.size X3 X → X.cell? ⟨uub, uuo + k, none⟩ = some (.int .i64 ((pcF (sI N J) J (dQ (brP p) (lb L) N)) k)) := fun k hk X hX => by rw [cell_below hX huub]; exact huuc k hk
     obtain ⟨c, ec0⟩ : ∃ c : Nat, pcF (sI N J) J (dQ (brP p) (lb L) N) i = c := ⟨ptT L J N (szF N J) p i, rfl⟩
     have ec : gN (pcF (sI N J) J (dQ (brP p) (lb L) N)) i = c := by show (pcF (sI N J) J (dQ (brP p) (lb L) N) i).toNat = c; omega
     have hcJ : c < J := by rw [← ec]; exact hpt.lt i lti
     obtain ⟨q_, eq⟩ : ∃ q_, cntC (gN (pcF (sI N J) J (dQ (brP p) (lb L) N))) c i = q_ := ⟨_, rfl⟩
     have hq : q_ < szF N J c := by have h_ := hpt.vis lti; rw [show ptT L J N (szF N J) p i = c from ec, show cntC (ptT L J N (szF N J) p) c i = q_ from eq] at h_; exact h_
     have hqn := Brd.cnt_le (gN (pcF (sI N J) J (dQ (brP p) (lb L) N))) c i
     rw [eq] at hqn
     obtain ⟨w_, ew⟩ : ∃ w_ : Nat, owI L N J p c q_ = w_ := ⟨_, rfl⟩
     have hw_ : w_ ≤ 256 := by have h_ := frA_le (szF_le N hcJ) (okB_iff.2 (hok.ck c hcJ)) hN q_ hq; rw [show frA (szF N J c) (dN_ (ckP L J p c) (lq L J) (szF N J c)) (szF N J c - 1) q_ = w_ from Int.ofNat.inj ew] at h_; exact h_
     have hsN := sumN_at (r := szF N J) hcJ
     rw [szF_sum N h1] at hsN
     have hOF : orF L ((N : Nat) : Int) ((J : Nat) : Int) p i = ((sumN (szF N J) c + w_ : Nat) : Int) := by rw [← or_is]; show ((frA _ _ _ _ + sumN _ _ : Nat) : Int) = _; rw [show gN (pcF (sI N J) J (dQ (brP p) (lb L) N)) i = c from ec, eq, Nat.add_comm]; exact congrArg (fun z : Nat => ((sumN (szF N J) c + z : Nat) : Int)) (Int.ofNat.inj ew)
     obtain ⟨vb, vo, vc, ev, hvb, hvc⟩ := FLL.at (show 0 < J by omega)
     have cV : ∀ X, Below X3.heap.size X3 X → X.cell? ⟨vb, vo + c, none⟩ = some (y_ c) := fun X hX => by rw [cell_below hX hvb]; exact hvc c hcJ
     obtain ⟨xb, xo, xc, ex, hxb, hxc⟩ := open_sl (FLL.lists c hcJ) (show 0 < szF N J c by omega)
     have cX : ∀ X, Below X3.heap.size X3 X → X.cell? ⟨xb, xo + q_, none⟩ = some (.int .i64 ((w_ : Nat) : Int)) := fun X hX => by rw [cell_below hX hxb, hxc q_ hq, ew]
     refine wp_seq ?_
     refine wi_ A (h6_ t1 t8 t10 t11 t13 t14) (rv_ 0 (.pointer (some ⟨g8, 1, none⟩)) (fun a e => execFldLd1 rfl (e _)) (rv_ 1 (uv) (fun a e => execLdLI (v := uv) rfl (e _) (ak_at1 (on9 F8 BB))) (rv_ 3 (.pointer (some ⟨uub, uuo + i, none⟩)) (fun a e => execIdxN (k := i) rfl ((e _).trans euu) (e _) lti) (rv_ 4 (.int .i64 ((c : Nat) : Int)) (fun a e => execLd3 rfl (e _) ((cuu i lti XL14 BB).trans (by rw [ec0]))) (rf_ [(15, .int .i64 ((c : Nat) : Int))] (h6_ t1 t8 t10 t11 t13 t14) ?_)))))
     rintro a A ⟨t15, -⟩ ⟨t1, t8, t10, t11, t13, t14, -⟩
     refine wp_seq ?_
     refine wj_ [0, 1, 2, 3, 4, 5, 6, 7, 8, 9, 10, 11, 12, 13, 14, 15, 16, 17, 18, 19] [17, 18] [4, 6, 9, 13, 15] [18] A (h7_ t1 t8 t10 t11 t13 t14 t15) (fun X17_0 bD => ?_)
     obtain ⟨g82, egg82⟩ : ∃ z_ : Nat, X17_0.heap.size = z_ := ⟨_, rfl⟩
     refine dw_ 3 (.pointer (some ⟨g30, 0 + c, none⟩)) (fun a X e => execIdxN (k := c) rfl (e _) (e _) hcJ) (dv_ 4 (.int .i64 ((sumN (szF N J) c : Nat) : Int)) (fun a X e hb => execLd3 rfl (e _) ((own_cellI (ownD_below FXs hb) hcJ).1.trans (by rw [if_pos hcJ]))) (dw_ 5 (.pointer (some ⟨g8, 3, none⟩)) (fun a X e => execFldLd3 rfl (e _)) (dv_ 6 (tv) (fun a X e hb => execLdLII (v := tv) rfl (e _) (ak_at3 (on9 F8 (BB.trans (hb.mono BB.size))))) (dw_ 8 (.pointer (some ⟨vb, vo + c, none⟩)) (fun a X e => execIdxLI (k := c) rfl ((e _).trans ev) (e _) hcJ) (dv_ 9 (y_ c) (fun a X e hb => execLdLI (v := y_ c) rfl (e _) (cV X (BB.trans (hb.mono BB.size)))) (dw_ 12 (.pointer (some ⟨g32, 0 + c, none⟩)) (fun a X e => execIdxN (k := c) rfl (e _) (e _) hcJ) (dv_ 13 (.int .i64 ((q_ : Nat) : Int)) (fun a X e hb => execLd3 rfl (e _) ((own_cellI (ownD_below FX hb) hcJ).1.trans (by rw [eq]))) (dw_ 14 (.pointer (some ⟨xb, xo + q_, none⟩)) (fun a X e => execIdxN (k := q_) rfl ((e _).trans ex) (e _) hq) (dv_ 15 (.int .i64 ((w_ : Nat) : Int)) (fun a X e hb => execLd3 rfl (e _) (cX X (BB.trans (hb.mono BB.size)))) (dw_ 16 (.int .i64 ((sumN (szF N J) c + w_ : Nat) : Int)) (fun a X e => execAd8 (p := sumN (szF N J) c) (q := w_) rfl (e _) (e _) (by omega)) (ds_ 17 (fun a e => ?_))))))))))))
     refine stepV rfl rfl (execBsI (z := ((sumN (szF N J) c + w_ : Nat) : Int)) rfl (e _)) ⟨.slice (some ⟨g82, 0, none⟩) 1 1, ⟨_, rfl, by subst egg82; rfl⟩, fun X17_1 hX => ?_⟩
     have bQ : Below X17_0.heap.size X17_0 X17_1 := by subst hX egg82; exact (belNew X17_0 _)
     have F82 : (X17_1.heap[g82]? = some (.cells #[.int .i64 (orF L ((N : Nat) : Int) ((J : Nat) : Int) p i)] 3)) := by subst hX egg82; exact (by rw [hOF]; exact heapNew X17_0 _)
     replace bD := bD.trans (bQ.mono bD.size)
     clear bQ hX egg82 e a
     refine ⟨Or.inr bD, ?_⟩
     refine ds_ 18 (fun a e => ?_)
     refine stepAppI (f := orF L ((N : Nat) : Int) ((J : Nat) : Int) p) rfl rfl rfl (e _) (e _) (ownD_below FO bD) F82 (by omega) (Nat.le_trans FC (bsz bD)) fun v83 X17 own' gr => ⟨_, ⟨_, rfl, rfl⟩, eqw ?_⟩
     obtain ⟨BB, FXs, FX, FC, FO2⟩ : Below X3.heap.size X3 X17 ∧ (X17.ownsRow X3.heap.size 3 1 (.slice (some ⟨g30, 0, none⟩) J J) (J) (intsL (J) (fun j => if j < J then ((sumN (szF N J) j : Nat) : Int) else 0))) ∧ (X17.ownsRow X3.heap.size 3 1 (.slice (some ⟨g32, 0, none⟩) J J) (J) (intsL (J) (fun j => (cntC (gN (pcF (sI N J) J (dQ (brP p) (lb L) N))) j i : Int)))) ∧ (XL9.heap.size ≤ X17.heap.size) ∧ (X17.ownsRow XL9.heap.size 3 1 v83 (i + 1) (intsL (i + 1) (orF L ((N : Nat) : Int) ((J : Nat) : Int) p))) := ⟨((BB.trans (bD.mono BB.size))).grown gr ((BB.trans (bD.mono BB.size))).size (fun k hk => Nat.le_trans hBC ((ownD_below FO bD).lt k hk).1), (own_overB (ownD_below FXs bD) (fun k q => by obtain rfl := Option.some.inj q; exact hgC) (ownD_below FO bD) gr), (own_overB (ownD_below FX bD) (fun k q => by obtain rfl := Option.some.inj q; exact hhC) (ownD_below FO bD) gr), (Nat.le_trans (Nat.le_trans FC (bsz bD)) gr.size), own'⟩
     clear bD FO F82 e a
     refine ⟨Or.inl rfl, ?_⟩
     refine dz_ [(13, v83)] (h6_ t1 t8 t10 t11 t14 t15) ?_
     rintro a A ⟨t13, -⟩ ⟨t1, t8, t10, t11, t14, t15, -⟩
     refine wi_ A (h7_ t1 t8 t10 t11 t13 t14 t15) (rv_ 2 (.pointer (some ⟨g32, 0 + c, none⟩)) (fun a e => execIdxN (k := c) rfl (e _) (e _) hcJ) (rv_ 3 (.int .i64 ((q_ : Nat) : Int)) (fun a e => execLd3 rfl (e _) ((own_cellI FX hcJ).1.trans (by rw [eq]))) (rv_ 4 (.int .i64 ((q_ + 1 : Nat) : Int)) (fun a e => execAd8 (p := q_) (q := 1) rfl (e _) rfl (by omega)) (rv_ 5 (.pointer (some ⟨g32, 0 + c, none⟩)) (fun a e => execIdxN (k := c) rfl (e _) (e _) hcJ) (rs_ 6 (fun a e => ?_))))))
     obtain ⟨hc_, hf_⟩ := own_cellI FX hcJ
     refine stepS rfl rfl (execStI9 rfl (e _) (e _) hc_ hf_) ⟨_, ⟨_, rfl, rfl⟩, fun X18 hX => ?_⟩
     obtain ⟨BB, FXs, FC, FO2, FX2⟩ : Below X3.heap.size X3 X18 ∧ (X18.ownsRow X3.heap.size 3 1 (.slice (some ⟨g30, 0, none⟩) J J) (J) (intsL (J) (fun j => if j < J then ((sumN (szF N J) j : Nat) : Int) else 0))) ∧ (XL9.heap.size ≤ X18.heap.size) ∧ (X18.ownsRow XL9.heap.size 3 1 v83 (i + 1) (intsL (i + 1) (orF L ((N : Nat) : Int) ((J : Nat) : Int) p))) ∧ (X18.ownsRow X3.heap.size 3 1 (.slice (some ⟨g32, 0, none⟩) J J) (J) (intsL (J) (fun j => (cntC (gN (pcF (sI N J) J (dQ (brP p) (lb L) N))) j (i + 1) : Int)))) := by subst hX; exact ⟨(BB).setCell Fh _, (own_offB FXs (fun z => Fne (Option.some.inj z))), (by simpa using FC), (own_offB FO2 (fun z => by have := (FO2.lt _ z).1; omega)), nx_set FX ec eq⟩
     clear FX hX e a
     refine rf_ [] (h6_ t1 t8 t10 t11 t13 t14) ?_
     rintro a A - ⟨t1, t8, t10, t11, t13, t14, -⟩
     refine wi_ A (h6_ t1 t8 t10 t11 t13 t14) (rv_ 1 (.int .i64 ((i + 1 : Nat) : Int)) (fun a e => execAd8 (p := i) (q := 1) rfl (e _) rfl (by omega)) (rf_ [(14, .int .i64 ((i + 1 : Nat) : Int))] (h5_ t1 t8 t10 t11 t13) ?_))
     rintro a A ⟨t14, -⟩ ⟨t1, t8, t10, t11, t13, -⟩
     exact ⟨⟨i + 1, v83, lti, A, t1, t8, t10, t11, t13, t14, BB, FXs, FX2, FO2, FC⟩, by show N - (intOf (a.eval (.tmp 14))).toNat < N - (intOf (Act.eval _ (.tmp 14))).toNat; rw [t14, esi]; show N - (i + 1) < N - i; omega⟩
    ·rw [decide_eq_false lti] at t57
     refine wp_cond_false t57 ?_
     refine wp_exit ?_
     first | with_reducible refine exit_in ?_ | with_reducible refine exit_then (exit_in ?_) | with_reducible refine exit_then (exit_then (exit_in ?_)) | refine exit_in ?_ | refine exit_then (exit_in ?_) | refine exit_then (exit_then (exit_in ?_))
     clear t57 esi
     have hiN : i = N := by omega
     rw [hiN] at FO
     clear t1 t8 t10 t11 t14 FXs FX
     have BW2 := BW.trans (BB.mono BW.size)
     refine wp_seq ?_
     refine wi_ A (h1_ t13) (rg_ [(6, ov), (7, .int .i64 ((0 : Nat) : Int))] ?_)
     rintro a A ⟨t6, t7, -⟩
     refine wp_ret ?_
     refine bodyPost_ret (results_tmp2 rfl _ _ _) A.2 ⟨_, ?_, ownD_base FO (Nat.le_trans BW.size hBC), BW2⟩
     show Ending.returned (.tuple #[a.eval (.tmp 6), a.eval (.tmp 7)]) = _
     rw [t6, t7]
  ·refine wi_ A (h3_ t0 t1 t2) (rc_ 3 (rlaid0 p L N J _ X1 FP hl hN h1 h2 hE) fun e X3_1 hh => ?_)
   obtain ⟨sv, uv, wv, tv, he, hs, hb⟩ := hh
   refine ⟨_, he, ?_⟩
   have bQ : Below X1.heap.size X1 X3_1 := hb
   have Fone : ((akC sv uv wv tv).all (·.oneCell') = true) := hs
   have bX := bQ
   clear bQ
   obtain ⟨g8, egg8⟩ : ∃ z_ : Nat, X3_1.heap.size = z_ := ⟨_, rfl⟩
   refine rs_ 7 (fun a e => ?_)
   refine stepV rfl rfl (execAllLd rfl) ⟨.pointer (some ⟨g8, 0, none⟩), ⟨_, rfl, by subst egg8; rfl⟩, fun X3_2 hX => ?_⟩
   have bQ : Below X3_1.heap.size X3_1 X3_2 := by subst hX egg8; exact (belNew X3_1 _)
   have F8 : X3_2.heap[g8]? = some (.cells (akC (.slice none 0 0) (.slice none 0 0) (.slice none 0 0) (.slice none 0 0)) 66) := by subst hX egg8; exact heapNew X3_1 _
   have Fge8 : (X1.heap.size ≤ g8) := by subst hX egg8; exact (bX).size
   replace bX := bX.trans (bQ.mono bX.size)
   clear bQ hX egg8 e a
   refine rs_ 8 (fun a e => ?_)
   refine stepS rfl rfl (execStLd rfl (e _) (e _) F8 rfl Fone) ⟨_, ⟨_, rfl, rfl⟩, fun X3 hX => ?_⟩
   obtain ⟨bX, F8⟩ : Below X1.heap.size X1 X3 ∧ X3.heap[g8]? = some (.cells (akC sv uv wv tv) 66) := by rw [hX]; exact ⟨below4 bX Fge8 _, setRow_heap _ _ _ _ _ _ F8⟩
   clear hX e a
   refine rg_ [(9, .bool false)] ?_
   rintro a A ⟨t9, -⟩
   replace FP := (FP.on bX)
   have ZX3 := bX.size
   replace BW := BW.trans (bX.mono BW.size)
   clear bX
   refine wp_seq (wp_seq ?_)
   refine wi_ A (h1_ t9) (rv_ 1 (.bool true) (fun a e => execNot8 (b := false) rfl (e _)) (rg_ [(28, .bool true)] ?_))
   rintro a A ⟨t28, -⟩
   refine wp_cond_true t28 ?_
   clear t28
   refine wp_seq ?_
   refine wi_ A h0_ (rg_ [(6, .slice none 0 0), (7, .int .i64 ((3 : Nat) : Int))] ?_)
   rintro a A ⟨t6, t7, -⟩
   have h3 : riE L ((N : Nat) : Int) ((J : Nat) : Int) p = 3 := by have h_ := ri_vals L ((N : Nat) : Int) ((J : Nat) : Int) p hin; omega
   rw [h3, zl_no (by decide)]
   refine wp_ret ?_
   repeat (first | with_reducible refine ret_in ?_ | with_reducible refine ret_then ?_)
   refine bodyPost_ret (results_tmp2 rfl _ _ _) A.2 ⟨_, ?_, World.ownsRow_nil _ _ _ _, BW⟩
   show Ending.returned (.tuple #[a.eval (.tmp 6), a.eval (.tmp 7)]) = _
   rw [t6, t7]
 ·refine wi_ A (h3_ t0 t1 t2) (rc_ 2 (rfit0 hin V) (cb_ fun X1 bQ => ?_))
  have bX := bQ
  clear bQ
  refine rv_ 3 (.bool true) (fun a e => execNot8 (b := false) rfl (e _)) (rg_ [(19, .bool true)] ?_)
  rintro a A ⟨t19, -⟩
  replace FP := (FP.on bX)
  have ZX1 := bX.size
  replace BW := BW.trans (bX.mono BW.size)
  clear bX
  refine wp_cond_true t19 ?_
  clear t19
  refine wp_seq ?_
  refine wi_ A h0_ (rg_ [(6, .slice none 0 0), (7, .int .i64 ((2 : Nat) : Int))] ?_)
  rintro a A ⟨t6, t7, -⟩
  have hE : riE L n ch p = 2 := if_neg hin
  rw [hE, zl_no (by decide)]
  refine wp_ret ?_
  repeat (first | with_reducible refine ret_in ?_ | with_reducible refine ret_then ?_)
  refine bodyPost_ret (results_tmp2 rfl _ _ _) A.2 ⟨_, ?_, World.ownsRow_nil _ _ _ _, BW⟩
  show Ending.returned (.tuple #[a.eval (.tmp 6), a.eval (.tmp 7)]) = _
  rw [t6, t7]
end Go.Proofs.Ytmjpneaccjlpkaa.Rif
