import Derived.Test.YtnjmcknanlbpdaaGreatDoorW8b
import Derived.Test.YtnjmcknanlbpdaaGreatDoorC5
import Derived.Test.YtnjmcknanlbpdaaGreatDoorX5k
import Derived.Test.YtnjmcknanlbpdaaGreatDoorX6l
namespace Go.Proofs.YtnjmcknanlbpdaaGreatDoor.Rpl
open Go.RowKit Gf8 Aes By8 Cel Cf Tap Drw Dro Oni Rou
/- Stage 27: the reference's Open. Written by tools/mkW8d.py. -/

section
variable {o : Oper} {a : Act} {w : World}
theorem execAlPe (ho : o.op = .alloc 50) : (execOp a.eval o).run Tryz.prog w = .ok (.value (.pointer (some ⟨w.heap.size, 0, none⟩))) (w.alloc (.cells (pC (.slice none 0 0) fun _ => 0) 50)) := by
  have h := zeroP
  unfold execOp
  simp only [ho]
  simp [go_sem, h]
theorem execStPe {x y : Operand} {g : Nat} {u u2 : Value} {r r2 : Nat → Nat} (ho : o.op = .store 50 x y) (hx : a.eval x = .pointer (some ⟨g, 0, none⟩)) (hy : a.eval y = .agg (pC u2 r2)) (hg : w.heap[g]? = some (.cells (pC u r) 50)) (hu : u2.oneCell' = true) : (execOp a.eval o).run Tryz.prog w = .ok .skip (w.setRow g (pC u2 r2)) := by
  have h := Aes.execStMid (P := Tryz.prog) ho hx hy hg (by rw [pC_size, pC_size]; omega) (sizeP u2 r2) (pC_one r2 hu)
  rw [h, List.take_zero, List.nil_append, List.drop_eq_nil_of_le (by rw [Array.length_toList, pC_size, pC_size]; omega), List.append_nil]
end
theorem key32 {h i : Nat} {kv nv : Value} {xv : Nat → Value} {lk : Nat → Nat} {key q : Nat → Nat → Nat} {V : World} (hK : Ls V kv h xv lk key) (hN : Nons V nv h q) (hk : ∀ i, i < h → lk i = 32) (hi : i < h) (X : World) (hX : Below V.heap.size V X) :
    Calls Tryz.prog 7 #[xv i, .agg (bA 16 (q i))] X fun e w' => ∃ r, e = .returned (.tuple #[r, .int .i64 ((0 : Nat) : Int)]) ∧ SliceN w' r 32 (bks key q i) ∧ Below X.heap.size X w' := by
  refine (rkey27 (key i) (q i) (lk i) (xv i) X (hN.by_ i hi) ((hK.cell i hi).on hX)).mono ?_
  rintro e w' ⟨⟨r, he, hr⟩, hb⟩
  rw [hk i hi] at he hr
  exact ⟨r, he, hr, hb⟩
theorem wkl_le {len : Nat} (h : len ≤ 140737488351232) : ∀ i, wkL len i ≤ 140737488351232
  | 0 => h
  | _ + 1 => by show 320 ≤ _; omega
theorem peelL {h i len : Nat} {key q : Nat → Nat → Nat} {c : Nat → Nat} {kv u : Value} (ee_ : Nat) (he : peE 32 ((h - i : Nat) : Int) (wkL len i) (bks key q i) (wkC h (bks key q) c i) = ee_) (X : World) (hk : SliceN X kv 32 (bks key q i)) (hc : SliceN X u (wkL len i) (wkC h (bks key q) c i)) (hz : ∀ l c, u = .slice none l c → c = 0) (hl : wkL len i ≤ 140737488351232) :
    Calls Tryz.prog 24 #[kv, .int .i64 ((h - i : Nat) : Int), u] X fun e w' => ∃ r, e = .returned (.tuple #[.agg (pC r (peR ee_ (bks key q i) (wkC h (bks key q) c i))), .int .i64 ((ee_ : Nat) : Int)]) ∧ w'.ownsRow X.heap.size 5 1 r (peN ee_) (bytesL (peN ee_) (peC ((h - i : Nat) : Int) (bks key q i) (wkC h (bks key q) c i))) ∧ (∀ j, j < peN ee_ → peC ((h - i : Nat) : Int) (bks key q i) (wkC h (bks key q) c i) j < 256) ∧ Below X.heap.size X w' := by
  refine (rpeel_any (bks key q i) (wkC h (bks key q) c i) 32 (wkL len i) ((h - i : Nat) : Int) kv u X hk ⟨hc, hz⟩ hl).mono ?_
  rintro e w' ⟨r, e1, hr, hb⟩
  rw [he] at e1 hr
  refine ⟨r, e1, hr, fun j hj => ?_, hb⟩
  unfold peN at hj
  split at hj
  · rename_i q0; subst q0; exact peC_lt he hc.bytes j
  · omega
theorem own_one2 {W : World} {B n : Nat} {v : Value} {xs : List Value} (h : W.ownsRow B 5 1 v n xs) : v.oneCell' = true := by
  obtain ⟨a, c, e⟩ := ownQ_shape h
  rw [e]
  rfl
theorem pc_at0 {W : World} {g : Nat} {u : Value} {r : Nat → Nat} (h : W.heap[g]? = some (.cells (pC u r) 50)) : W.cell? ⟨g, 0, none⟩ = some u := by
  rw [cell_of_row _ _ _ _ _ _ h]
  rfl
set_option maxRecDepth 100000 in
set_option maxHeartbeats 4000000 in
/-- The reference's Open. -/
theorem ropen27 (h hn : Nat) (kv nv : Value) (xv : Nat → Value) (lk : Nat → Nat) (key q : Nat → Nat → Nat) (V : World) (hK : Ls V kv h xv lk key) (hN : Nons V nv hn q) (hh : h ≤ 140737488351232) (len : Nat) (c : Nat → Nat) (cv : Value) (hC : SliceN V cv len c) (hCz : ∀ l c, cv = .slice none l c → c = 0) (hCl : len ≤ 140737488351232) :
    Calls Tryz.prog 13 #[kv, nv, cv] V fun e w' => (∃ r, e = .returned (.tuple #[r, .int .i64 ((opE h hn lk key q len c : Nat) : Int)]) ∧ w'.ownsRow V.heap.size 5 1 r (opN h hn lk key q len c) (bytesL (opN h hn lk key q len c) (opF h key q c))) ∧ Below V.heap.size V w' := by
  go_enter Tryz.func13, Tryz.ntmps13
  refine wo_ 65 [(0, kv), (1, nv), (2, cv)] ?_
  rintro a A ⟨t0, t1, t2, -⟩
  have BW : Below V.heap.size V V := Below.refl _ _
  have BB := BW
  refine wp_seq ?_
  refine wi_ A (h3_ t0 t1 t2) (rf_ [] (h3_ t0 t1 t2) ?_)
  rintro a A - ⟨t0, t1, t2, -⟩
  refine wp_seq ?_
  refine wi_ A (h3_ t0 t1 t2) (rc_ 2 (wrong27 h hn kv nv xv lk key q V (hK.on BB) (hN.on BB) hh) (cb_ fun X1 bQ => ?_))
  replace BB := BB.trans (bQ.mono BB.size)
  clear bQ
  refine rf_ [(8, .int .i64 ((wgE h hn lk : Nat) : Int))] (h3_ t0 t1 t2) ?_
  rintro a A ⟨t8, -⟩ ⟨t0, t1, t2, -⟩
  refine wp_seq ?_
  refine wp_seq ?_
  by_cases e1 : wgE h hn lk = 0
  · obtain ⟨w1, w2, w3, w4⟩ := wg_ok e1
    replace w3 := w3.symm
    subst w3
    refine wi_ A (h4_ t0 t1 t2 t8) (rv_ 1 (.bool false) (fun a ee => execDec (execNeN (p := wgE h h lk) (q := 0) rfl (ee _) rfl) (decide_eq_false (by omega))) (rf_ [(22, .bool false)] (h3_ t0 t1 t2) ?_))
    rintro a A ⟨t22, -⟩ ⟨t0, t1, t2, -⟩
    refine wp_cond_false t22 ?_
    refine wp_skip ?_
    clear t22
    refine wp_seq ?_
    refine wi_ A (h3_ t0 t1 t2) (rv_ 1 (.int .i64 ((h : Nat) : Int)) (fun a ee => execLenLL rfl (ee _) (hK.on BB).shp) (rf_ [(9, .int .i64 ((h : Nat) : Int))] (h3_ t0 t1 t2) ?_))
    rintro a A ⟨t9, -⟩ ⟨t0, t1, t2, -⟩
    refine wp_seq ?_
    refine wp_seq ?_
    refine wi_ A (h4_ t0 t1 t2 t9) (rf_ [(10, .int .i64 ((0 : Nat) : Int))] (h4_ t0 t1 t2 t9) ?_)
    rintro a A ⟨t10, -⟩ ⟨t0, t1, t2, t9, -⟩
    have FC : (SliceN X1 cv (wkL len 0) (wkC h (bks key q) c 0)) := hC.on BB
    refine wp_block ?_
    refine wp_loop (fun a W => ∃ (i : Nat) (u : Value), i ≤ h ∧ (∀ l c, u = .slice none l c → c = 0) ∧ (Rou.wkG h (bks key q) (fun _ => 32) len c i = 0) ∧ (a.tmps.size = 65 ∧ a.defers = []) ∧ a.eval (.tmp 0) = kv ∧ a.eval (.tmp 1) = nv ∧ a.eval (.tmp 2) = u ∧ a.eval (.tmp 9) = .int .i64 ((h : Nat) : Int) ∧ a.eval (.tmp 10) = .int .i64 ((i : Nat) : Int) ∧ Below V.heap.size V W ∧ (SliceN W u (wkL len i) (wkC h (bks key q) c i))) (fun a _ => h - (intOf (a.eval (.tmp 10))).toNat) ⟨0, cv, Nat.zero_le _, hCz, rfl, A, t0, t1, t2, t9, t10, BB, FC⟩ ?_
    clear A t0 t1 t2 t9 t10 BB FC a
    rintro a XL6 ⟨i, u, hi, hz, hg, A, t0, t1, t2, t9, t10, BB, FC⟩
    have esi := t10
    refine wp_seq ?_
    refine wp_seq ?_
    refine wi_ A (h5_ t0 t1 t2 t9 t10) (rv_ 2 (.bool (decide (i < h))) (fun a ee => execLtW (p := i) (q := h) rfl (ee _) (ee _)) (rf_ [(28, .bool (decide (i < h)))] (h5_ t0 t1 t2 t9 t10) ?_))
    rintro a A ⟨t28, -⟩ ⟨t0, t1, t2, t9, t10, -⟩
    by_cases lti : i < h
    · rw [decide_eq_true lti] at t28
      refine wp_cond_true t28 ?_
      refine wp_skip ?_
      clear t28
      refine wp_seq ?_
      refine wp_block ?_
      have hwl : wkL len i ≤ 140737488351232 := wkl_le hCl i
      refine wp_seq ?_
      refine wj_ [0, 1, 2, 3, 4, 5, 6, 7, 8, 9, 10, 11, 12, 13] [8] [2, 3, 6, 7] [] A (h5_ t0 t1 t2 t9 t10) (fun X8_0 bD => ?_)
      refine dv_ 2 (.pointer (some ⟨adB kv, adO kv + i, none⟩)) (fun a X ee hb => execIdxLs (k := i) (hK.on (BB.trans (hb.mono BB.size))) rfl (ee _) (ee _) lti) (dv_ 3 (xv i) (fun a X ee hb => execLdLs (k := i) (hK.on (BB.trans (hb.mono BB.size))) rfl (ee _) lti) (dv_ 6 (.pointer (some ⟨adB nv, adO nv + i * 16, none⟩)) (fun a X ee hb => execIdxNs (k := i) (hN.on (BB.trans (hb.mono BB.size))) rfl (ee _) (ee _) lti) (dv_ 7 (.agg (bA 16 (q i))) (fun a X ee hb => execLdNs (k := i) (hN.on (BB.trans (hb.mono BB.size))) rfl (ee _) lti) (dc_ 8 (key32 hK hN w4 lti X8_0 (BB.trans (bD.mono BB.size))) fun e X8 hh => ?_))))
      obtain ⟨v40, he, hk, hb⟩ := hh
      refine ⟨_, he, ?_⟩
      have bQ : Below X8_0.heap.size X8_0 X8 := hb
      have FK : (SliceN X8 v40 (32) (bks key q i)) := hk
      replace bD := bD.trans (bQ.mono bD.size)
      clear bQ
      refine ⟨Or.inr bD, ?_⟩
      refine dz_ [(11, v40)] (h5_ t0 t1 t2 t9 t10) ?_
      rintro a A ⟨t11, -⟩ ⟨t0, t1, t2, t9, t10, -⟩
      replace FC := (FC.on bD)
      replace BB := BB.trans (bD.mono BB.size)
      clear bD
      obtain ⟨ee_, eee⟩ : ∃ ee_, peE 32 ((h - i : Nat) : Int) (wkL len i) (bks key q i) (wkC h (bks key q) c i) = ee_ := ⟨_, rfl⟩
      have hgn : Rou.wkG h (bks key q) (fun _ => 32) len c (i + 1) = ee_ := (wkG_on hg).trans eee
      refine wp_seq ?_
      refine wi_ A (h6_ t0 t1 t2 t9 t10 t11) (rv_ 3 (.int .i64 ((h - i : Nat) : Int)) (fun a ee => execSubJ (p := h) (q := i) (r := h - i) rfl (ee _) (ee _) (by omega) (by omega)) (rc_ 5 (peelL ee_ eee X8 FK FC hz hwl) fun e X9_1 hh => ?_))
      obtain ⟨cu49, he, hk, hz_, hb⟩ := hh
      refine ⟨_, he, ?_⟩
      have bQ : Below X8.heap.size X8 X9_1 := hb
      have FP : (X9_1.ownsRow V.heap.size 5 1 cu49 (peN ee_) (bytesL (peN ee_) (peC ((h - i : Nat) : Int) (bks key q i) (wkC h (bks key q) c i)))) := own_base hk (BB).size
      have FPb : (∀ j, j < peN ee_ → peC ((h - i : Nat) : Int) (bks key q i) (wkC h (bks key q) c i) j < 256) := hz_
      replace BB := BB.trans (bQ.mono BB.size)
      clear FC FK bQ
      obtain ⟨g13, egg13⟩ : ∃ z_ : Nat, X9_1.heap.size = z_ := ⟨_, rfl⟩
      refine rs_ 9 (fun a ee => ?_)
      refine stepV rfl rfl (execAlPe rfl) ⟨.pointer (some ⟨g13, 0, none⟩), ⟨_, rfl, by subst egg13; rfl⟩, fun X9_2 hX => ?_⟩
      have bQ : Below X9_1.heap.size X9_1 X9_2 := by subst hX egg13; exact (belNew X9_1 _)
      have F13 : (X9_2.heap[g13]? = some (.cells (pC (.slice none 0 0) fun _ => 0) 50)) := by subst hX egg13; exact heapNew X9_1 _
      have FG : (V.heap.size ≤ g13) := by subst hX egg13; exact (BB).size
      replace FP := (ownsRow_below FP bQ)
      replace BB := BB.trans (bQ.mono BB.size)
      clear bQ hX egg13 ee a
      refine rs_ 10 (fun a ee => ?_)
      refine stepS rfl rfl (execStPe rfl (ee _) (ee _) F13 (own_one2 FP)) ⟨_, ⟨_, rfl, rfl⟩, fun X9 hX => ?_⟩
      obtain ⟨BB, FP, F13s⟩ : Below V.heap.size V X9 ∧ (X9.ownsRow V.heap.size 5 1 cu49 (peN ee_) (bytesL (peN ee_) (peC ((h - i : Nat) : Int) (bks key q i) (wkC h (bks key q) c i)))) ∧ (X9.heap[g13]? = some (.cells (pC cu49 (peR ee_ (bks key q i) (wkC h (bks key q) c i))) 50)) := by subst hX; exact ⟨below4 BB FG _, (ownsRow_row FP F13 (by decide) _), setRow_heap _ _ _ _ _ _ F13⟩
      clear F13 hX ee a
      refine rf_ [(13, .pointer (some ⟨g13, 0, none⟩)), (14, .int .i64 ((ee_ : Nat) : Int))] (h4_ t0 t1 t9 t10) ?_
      rintro a A ⟨t13, t14, -⟩ ⟨t0, t1, t9, t10, -⟩
      refine wp_seq ?_
      refine wp_seq ?_
      by_cases h0 : ee_ = 0
      · refine wi_ A (h6_ t0 t1 t9 t10 t13 t14) (rv_ 1 (.bool false) (fun a ee => execDec (execNeN (p := ee_) (q := 0) rfl (ee _) rfl) (decide_eq_false (by omega))) (rf_ [(53, .bool false)] (h5_ t0 t1 t9 t10 t13) ?_))
        rintro a A ⟨t53, -⟩ ⟨t0, t1, t9, t10, t13, -⟩
        refine wp_cond_false t53 ?_
        refine wp_skip ?_
        clear t53
        refine wi_ A (h5_ t0 t1 t9 t10 t13) (rv_ 0 (.pointer (some ⟨g13, 0, none⟩)) (fun a ee => execFldQ0 rfl (ee _)) (rv_ 1 (cu49) (fun a ee => Cel.execLdL rfl (ee _) (pc_at0 F13s)) (rf_ [(2, cu49)] (h4_ t0 t1 t9 t10) ?_)))
        rintro a A ⟨t2, -⟩ ⟨t0, t1, t9, t10, -⟩
        have hg2 : Rou.wkG h (bks key q) (fun _ => 32) len c (i + 1) = 0 := hgn.trans h0
        have hz2 : ∀ l c, cu49 = .slice none l c → c = 0 := own_nilI FP
        have FC2 : (SliceN X9 cu49 (wkL len (i + 1)) (wkC h (bks key q) c (i + 1))) := by have h_ := own_slice FP FPb; rw [show peN ee_ = 320 from if_pos h0] at h_; exact h_
        clear F13s FP FG FPb
        refine wi_ A (h5_ t0 t1 t2 t9 t10) (rv_ 1 (.int .i64 ((i + 1 : Nat) : Int)) (fun a ee => execAd8 (p := i) (q := 1) rfl (ee _) rfl (by omega)) (rf_ [(10, .int .i64 ((i + 1 : Nat) : Int))] (h4_ t0 t1 t2 t9) ?_))
        rintro a A ⟨t10, -⟩ ⟨t0, t1, t2, t9, -⟩
        exact ⟨⟨i + 1, cu49, lti, hz2, hg2, A, t0, t1, t2, t9, t10, BB, FC2⟩, by show h - (intOf (a.eval (.tmp 10))).toNat < h - (intOf (Act.eval _ (.tmp 10))).toNat; rw [t10, esi]; show h - (i + 1) < h - i; omega⟩
      · refine wi_ A (h6_ t0 t1 t9 t10 t13 t14) (rv_ 1 (.bool true) (fun a ee => execDec (execNeN (p := ee_) (q := 0) rfl (ee _) rfl) (decide_eq_true (by omega))) (rf_ [(53, .bool true)] (h1_ t14) ?_))
        rintro a A ⟨t53, -⟩ ⟨t14, -⟩
        refine wp_cond_true t53 ?_
        clear t53
        refine wp_seq ?_
        refine wi_ A (h1_ t14) (rg_ [(6, .slice none 0 0), (7, .int .i64 ((ee_ : Nat) : Int))] ?_)
        rintro a A ⟨t6, t7, -⟩
        have hgh : Rou.wkG h (bks key q) (fun _ => 32) len c h = ee_ := (wkG_stop (by rw [hgn]; exact h0) lti).trans hgn
        rw [show opE h h lk key q len c = ee_ by unfold opE; rw [if_neg (by omega), if_pos (by rw [hgh]; exact h0), hgh], show opN h h lk key q len c = 0 by unfold opN; rw [if_neg (by omega), if_pos (by rw [hgh]; exact h0)]]
        refine wp_ret ?_
        repeat (first | with_reducible refine ret_in ?_ | with_reducible refine ret_then ?_)
        refine bodyPost_ret (results_tmp2 rfl _ _ _) A.2 ⟨⟨_, ?_, World.ownsRow_nil _ _ _ _⟩, BB⟩
        show Ending.returned (.tuple #[a.eval (.tmp 6), a.eval (.tmp 7)]) = _
        rw [t6, t7]
    · rw [decide_eq_false lti] at t28
      refine wp_cond_false t28 ?_
      refine wp_exit ?_
      first | with_reducible refine exit_in ?_ | with_reducible refine exit_then (exit_in ?_) | with_reducible refine exit_then (exit_then (exit_in ?_)) | refine exit_in ?_ | refine exit_then (exit_in ?_) | refine exit_then (exit_then (exit_in ?_))
      clear t28 esi
      have ein : i = h := (by omega)
      rw [ein] at FC hg
      refine wp_seq ?_
      refine wi_ A (h5_ t0 t1 t2 t9 t10) (rc_ 1 (ropen_any _ _ _ XL6 ⟨FC, hz⟩ (wkl_le hCl h)) fun e X13 hh => ?_)
      obtain ⟨v59, he, hk, hb⟩ := hh
      refine ⟨_, he, ?_⟩
      have bQ : Below XL6.heap.size XL6 X13 := hb
      have FR : (X13.ownsRow V.heap.size 5 1 v59 (openN (wkC h (bks key q) c h) (wkL len h)) (bytesL (openN (wkC h (bks key q) c h) (wkL len h)) (opF h key q c))) := own_base hk (BB).size
      replace BB := BB.trans (bQ.mono BB.size)
      clear FC bQ
      refine rg_ [(15, v59), (17, .int .i64 ((openE (wkC h (bks key q) c h) (wkL len h) : Nat) : Int))] ?_
      rintro a A ⟨t15, t17, -⟩
      refine wp_seq ?_
      refine wi_ A (h2_ t15 t17) (rg_ [(6, v59), (7, .int .i64 ((openE (wkC h (bks key q) c h) (wkL len h) : Nat) : Int))] ?_)
      rintro a A ⟨t6, t7, -⟩
      rw [show opE h h lk key q len c = openE (wkC h (bks key q) c h) (wkL len h) by unfold opE; rw [if_neg (by omega), if_neg (by omega)], show opN h h lk key q len c = openN (wkC h (bks key q) c h) (wkL len h) by unfold opN; rw [if_neg (by omega), if_neg (by omega)]]
      refine wp_ret ?_
      repeat (first | with_reducible refine ret_in ?_ | with_reducible refine ret_then ?_)
      refine bodyPost_ret (results_tmp2 rfl _ _ _) A.2 ⟨⟨_, ?_, FR⟩, BB⟩
      show Ending.returned (.tuple #[a.eval (.tmp 6), a.eval (.tmp 7)]) = _
      rw [t6, t7]
  · refine wi_ A (h4_ t0 t1 t2 t8) (rv_ 1 (.bool true) (fun a ee => execDec (execNeN (p := wgE h hn lk) (q := 0) rfl (ee _) rfl) (decide_eq_true (by omega))) (rf_ [(22, .bool true)] (h1_ t8) ?_))
    rintro a A ⟨t22, -⟩ ⟨t8, -⟩
    refine wp_cond_true t22 ?_
    clear t22
    refine wp_seq ?_
    refine wi_ A (h1_ t8) (rg_ [(6, .slice none 0 0), (7, .int .i64 ((wgE h hn lk : Nat) : Int))] ?_)
    rintro a A ⟨t6, t7, -⟩
    rw [show opE h hn lk key q len c = wgE h hn lk from if_pos e1, show opN h hn lk key q len c = 0 from if_pos e1]
    refine wp_ret ?_
    repeat (first | with_reducible refine ret_in ?_ | with_reducible refine ret_then ?_)
    refine bodyPost_ret (results_tmp2 rfl _ _ _) A.2 ⟨⟨_, ?_, World.ownsRow_nil _ _ _ _⟩, BB⟩
    show Ending.returned (.tuple #[a.eval (.tmp 6), a.eval (.tmp 7)]) = _
    rw [t6, t7]
end Go.Proofs.YtnjmcknanlbpdaaGreatDoor.Rpl

namespace Go.Proofs.YtnjmcknanlbpdaaGreatDoor.Rpl
open Go.RowKit Gf8 Aes By8 Cel Cf Tap Drw Dro Oni Rou
/- Stage 27: what a package of replies keeps; what was answered is heard; alive. Written by tools/mkW8e.py. -/

/-- What the program's package keeps; G: what it asks of the world. -/
structure Impl (G : World → Prop) : Prop where
  key : ∀ (key nonce : Nat → Nat) (lk : Nat) (v : Value) (V : World), G V → By nonce → SliceN V v lk key → lk ≤ 140737488351232 →
    Calls Tryz.prog 8 #[v, .agg (bA 16 nonce)] V fun e w' => (∃ r, e = .returned (.tuple #[r, .int .i64 ((keE lk : Nat) : Int)]) ∧ w'.ownsRow V.heap.size 5 1 r (keN lk) (bytesL (keN lk) (bk key nonce))) ∧ Below V.heap.size V w'
  wrap : ∀ (key nonce inner : Nat → Nat) (lk n : Nat) (left : Int) (v vi : Value) (V : World), G V → By nonce → SliceN V v lk key → lk ≤ 140737488351232 → SliceN V vi n inner → n ≤ 140737488351232 →
    Calls Tryz.prog 10 #[v, .agg (bA 16 nonce), .int .i64 left, vi] V fun e w' => (∃ r, e = .returned (.tuple #[r, .int .i64 ((wrE lk left n : Nat) : Int)]) ∧ w'.ownsRow V.heap.size 5 1 r (wrN lk left n) (bytesL (wrN lk left n) (wrF (bk key nonce) nonce left.toNat n inner))) ∧ Below V.heap.size V w'
  chain : ∀ (h hn : Nat) (kv nv : Value) (xv : Nat → Value) (lk : Nat → Nat) (key q : Nat → Nat → Nat) (n : Nat) (p : Nat → Nat) (pv : Value) (V : World), G V → Ls V kv h xv lk key → h ≤ 140737488351232 → Nons V nv hn q → hn ≤ 140737488351232 → SliceN V pv n p → (∀ l c, pv = .slice none l c → c = 0) → n ≤ 140737488351232 →
    Calls Tryz.prog 12 #[kv, nv, pv] V fun e w' => (∃ r, e = .returned (.tuple #[r, .int .i64 ((rwE h hn lk n : Nat) : Int)]) ∧ w'.ownsRow V.heap.size 5 1 r (rwN h hn lk n) (bytesL (rwN h hn lk n) (rwF h (bks key q) q n p))) ∧ Below V.heap.size V w'
  open_ : ∀ (h hn : Nat) (kv nv : Value) (xv : Nat → Value) (lk : Nat → Nat) (key q : Nat → Nat → Nat) (len : Nat) (c : Nat → Nat) (cv : Value) (V : World), G V → Ls V kv h xv lk key → h ≤ 140737488351232 → Nons V nv hn q → hn ≤ 140737488351232 → SliceN V cv len c → (∀ l c, cv = .slice none l c → c = 0) → len ≤ 140737488351232 →
    Calls Tryz.prog 14 #[kv, nv, cv] V fun e w' => (∃ r, e = .returned (.tuple #[r, .int .i64 ((opE h hn lk key q len c : Nat) : Int)]) ∧ w'.ownsRow V.heap.size 5 1 r (opN h hn lk key q len c) (bytesL (opN h hn lk key q len c) (opF h key q c))) ∧ Below V.heap.size V w'
theorem open_plain8 {len : Nat} (p : Nat → Nat) (h : len ≤ 48) : openY (cellF 2 (headP len) len p) 320 = true ∧ openE (cellF 2 (headP len) len p) 320 = 0 ∧ openN (cellF 2 (headP len) len p) 320 = len := by
  have a0 : cellF 2 (headP len) len p 0 = 1 := rfl
  have a1 : cellF 2 (headP len) len p 1 = len := rfl
  have hz : zeroFrom (cellF 2 (headP len) len p) (2 + len) = true := (zeroFrom_iff _ _).2 fun j h1 h2 => by
    unfold cellF
    rw [if_neg (by omega), if_neg (by omega)]
  have hy : openY (cellF 2 (headP len) len p) 320 = true := by
    unfold openY
    rw [a0, a1, hz]
    simp [h]
  refine ⟨hy, ?_, by unfold openN; rw [if_pos hy, a1]⟩
  unfold openE
  rw [if_neg (by simp), a0, a1, if_neg (by omega), if_neg (by omega), if_neg (by omega), if_pos hz]
/-- What was answered is heard. -/
theorem open_chain {h hn n : Nat} {lk : Nat → Nat} {key q : Nat → Nat → Nat} {p : Nat → Nat} (e : rwE h hn lk n = 0) : opE h hn lk key q 320 (rwF h (bks key q) q n p) = 0 ∧ opN h hn lk key q 320 (rwF h (bks key q) q n p) = n ∧ ∀ j, j < n → opF h key q (rwF h (bks key q) q n p) j = p j := by
  obtain ⟨h1, h2, h3, h4, h5⟩ := rwE_ok e
  have ew : wgE h hn lk = 0 := by
    unfold wgE
    rw [if_neg (by omega), if_pos ((ksOk_iff h lk).2 h4)]
  obtain ⟨e1, e2⟩ := ce_walk (h := h) (key := bks key q) (nonce := q) (n := n) (p := p) (lk := fun _ => 32) h5 h2 (fun _ _ => rfl) h (Nat.le_refl _)
  rw [← rw_ce h1, Nat.sub_self] at e1
  rw [← rw_ce h1] at e2
  have e3 : ceF h (bks key q) q n p 0 = cellF 2 (headP n) n p := if_pos rfl
  have e4 : wkL 320 h = 320 := by cases h <;> rfl
  obtain ⟨o1, o2, o3⟩ := open_plain8 p h5
  refine ⟨?_, ?_, fun j hj => ?_⟩
  · unfold opE
    rw [if_neg (by omega), if_neg (by omega), e1, e3, e4, o2]
  · unfold opN
    rw [if_neg (by omega), if_neg (by omega), e1, e3, e4]
    exact o3
  · unfold opF
    rw [e1, e3]
    unfold cellF
    rw [if_neg (by omega), if_pos (by omega), Nat.add_sub_cancel_left]
theorem rw_lt {h n : Nat} {key q : Nat → Nat → Nat} {p : Nat → Nat} (hq : ∀ i, i < h → By (q i)) (h8 : h ≤ 8) (hn : n ≤ 48) (hp : ∀ j, j < n → p j < 256) (j : Nat) : rwF h key q n p j < 256 := cellF_lt (fun j hj => by omega) (fun j hj => loF_lt hq hn hp h (Nat.le_refl _) h8 j hj) j
theorem zero32 (X : World) : SliceN (X.alloc (.cells (bA 32 fun _ => 0) 5)) (.slice (some ⟨X.heap.size, 0, none⟩) 32 32) 32 (fun _ => 0) := Cf.lit_slice (heapNew X _) (fun j hj => by rw [← Array.getElem?_toList]; exact bytesL_at 32 (fun _ => 0) hj) (fun _ _ => by decide) (by omega)
theorem one_ls {W : World} {g l : Nat} {v : Value} {p : Nat → Nat} (h : W.heap[g]? = some (.cells #[v] 22)) (hv : SliceN W v l p) (hz : ∀ l c, v = .slice none l c → c = 0 := by intro _ _ h; cases h) (hl : l ≤ 140737488351232 := by omega) : Ls W (.slice (some ⟨g, 0, none⟩) 1 1) 1 (fun _ => v) (fun _ => l) (fun _ => p) := by
  refine ⟨⟨_, 1, rfl, Nat.le_refl _, by omega, fun _ => ⟨g, 0, rfl, (Array.getElem?_eq_some_iff.1 h).1, fun i hi => ?_⟩⟩, fun _ _ => hv, fun _ _ => hz, fun _ _ => hl⟩
  rw [cell_of_row _ _ _ _ _ _ h]
  match i, hi with
  | 0, _ => rfl
section
variable {o : Oper} {a : Act} {w : World}
theorem fill16n (f : Nat → Nat) : Instr.fill (fun i => some (i * 16, 16)) ((Array.range (1 * 16)).map ((bA 16 fun _ => 0)[· % (bA 16 fun _ => 0).size]!)) [(0, .agg (bA 16 f))] = some (bA 16 f) := by
  kernel_rfl
theorem execBsN {x : Operand} {f : Nat → Nat} (ho : o.op = .buildSlice 36 1 #[(0, x)]) (hx : a.eval x = .agg (bA 16 f)) : (execOp a.eval o).run Tryz.prog w = .ok (.value (.slice (some ⟨w.heap.size, 0, none⟩) 1 1)) (w.alloc (.cells (bA 16 f) 23)) := by
  have hz : (zeroValue 23).run Tryz.prog w = .ok (.agg (bA 16 fun _ => 0)) w := zero16 w
  have hs : (sizeOf 23).run Tryz.prog w = .ok 16 w := by simp [go_sem]
  have hf := fill16n f
  have e : (#[((0 : Nat), x)] : Array (Nat × Operand)).map (fun (i, y) => (i, a.eval y)) = #[(0, .agg (bA 16 f))] := by simp [hx]
  have hr : (Instr.buildSlice 36 1 #[(0, .agg (bA 16 f))]).run Tryz.prog w = .ok (.slice (some ⟨w.heap.size, 0, none⟩) 1 1) (w.alloc (.cells (bA 16 f) 23)) := by
    simp only [Instr.buildSlice, Sem.run_bind, run_underlying Tryz.underlying36, Result.andThen_ok, hs]
    rw [if_neg (by decide), if_neg (by decide)]
    simp only [Sem.run_bind, Sem.run_pure, Result.andThen_ok, hz, Value.cells, hf]
    simp [newRow]
  unfold execOp
  simp only [ho, e, Sem.run_bind, hr, Result.andThen_ok, Sem.run_pure]
end
theorem one_ns {W : World} {g : Nat} (h : W.heap[g]? = some (.cells (bA 16 oneF) 23)) : Nons W (.slice (some ⟨g, 0, none⟩) 1 1) 1 (fun _ => oneF) := by
  refine ⟨⟨_, 1, rfl, Nat.le_refl _, by omega, fun _ => ⟨g, 0, rfl, (Array.getElem?_eq_some_iff.1 h).1, fun i hi j hj => ?_⟩⟩, fun _ _ => oneF_by⟩
  obtain rfl : i = 0 := by omega
  rw [cell_of_row _ _ _ _ _ _ h, Nat.zero_mul, Nat.zero_add, ← Array.getElem?_toList]
  exact bytesL_at 16 _ hj
section
variable {W : World} {b k n : Nat} {v : Value}
theorem frz_ls {xv : Nat → Value} {ln : Nat → Nat} {c : Nat → Nat → Nat} (h : Ls W v n xv ln c) : Ls (W.freeze ⟨b, k, none⟩ 1) v n xv ln c := by
  obtain ⟨a, cap, e, h1, h2, h3⟩ := h.shape
  refine ⟨⟨a, cap, e, h1, h2, fun h0 => ?_⟩, fun i hi => frz_sl (h.cell i hi), h.nil, h.lens⟩
  obtain ⟨b', off, e2, hl, hc⟩ := h3 h0
  exact ⟨b', off, e2, by rw [frz_heap.2]; exact hl, fun i hi => by rw [frz_cell]; exact hc i hi⟩
theorem frz_ns {q : Nat → Nat → Nat} (h : Nons W v n q) : Nons (W.freeze ⟨b, k, none⟩ 1) v n q := by
  obtain ⟨a, cap, e, h1, h2, h3⟩ := h.shape
  refine ⟨⟨a, cap, e, h1, h2, fun h0 => ?_⟩, h.by_⟩
  obtain ⟨b', off, e2, hl, hc⟩ := h3 h0
  exact ⟨b', off, e2, by rw [frz_heap.2]; exact hl, fun i hi j hj => by rw [frz_cell]; exact hc i hi j hj⟩
end
theorem hi_b7 (j : Nat) : hi j < 256 := by unfold hi; split <;> omega
theorem hi_str : strN hi 2 = ⟨#[104, 105]⟩ := rfl
theorem rw1 : rwE 1 1 (fun _ => 32) 2 = 0 := rwE_is (Nat.le_refl _) (by omega) rfl (fun _ _ => rfl) (by omega)
section
variable {G : World → Prop} {V : World} {xv : Nat → Value} {kv nv : Value}
theorem chain1 (I : Impl G) (hg : ∀ W, Below V.heap.size V W → G W) (pv : Value) (X : World) (hX : Below V.heap.size V X) (hK : Ls X kv 1 xv (fun _ => 32) (fun _ _ => 0)) (hN : Nons X nv 1 (fun _ => oneF)) (hP : SliceN X pv 2 hi) (hz : ∀ l c, pv = .slice none l c → c = 0 := by intro _ _ h; cases h) :
    Calls Tryz.prog 12 #[kv, nv, pv] X fun e w' => ∃ r, e = .returned (.tuple #[r, .int .i64 ((0 : Nat) : Int)]) ∧ SliceN w' r 320 (rwF 1 (bks (fun _ _ => 0) (fun _ => oneF)) (fun _ => oneF) 2 hi) ∧ (∀ l c, r = .slice none l c → c = 0) ∧ Below X.heap.size X w' := by
  refine (I.chain 1 1 kv nv xv _ _ _ 2 hi pv X (hg X hX) hK (by omega) hN (by omega) hP hz (by omega)).mono ?_
  rintro e w' ⟨⟨r, he, hr⟩, hb⟩
  rw [rw1] at he
  rw [show rwN 1 1 (fun _ => 32) 2 = 320 by unfold rwN; rw [rw1]; rfl] at hr
  exact ⟨r, he, own_slice hr fun j _ => rw_lt (fun _ _ => oneF_by) (by omega) (by omega) hP.bytes j, own_nilI hr, hb⟩
theorem open1 (I : Impl G) (hg : ∀ W, Below V.heap.size V W → G W) (cv : Value) (X : World) (hX : Below V.heap.size V X) (hK : Ls X kv 1 xv (fun _ => 32) (fun _ _ => 0)) (hN : Nons X nv 1 (fun _ => oneF)) (hC : SliceN X cv 320 (rwF 1 (bks (fun _ _ => 0) (fun _ => oneF)) (fun _ => oneF) 2 hi)) (hz : ∀ l c, cv = .slice none l c → c = 0) :
    Calls Tryz.prog 14 #[kv, nv, cv] X fun e w' => ∃ r, e = .returned (.tuple #[r, .int .i64 ((0 : Nat) : Int)]) ∧ SliceN w' r 2 hi ∧ Below X.heap.size X w' := by
  obtain ⟨o1, o2, o3⟩ := open_chain (key := fun _ _ => 0) (q := fun _ => oneF) (p := hi) rw1
  refine (I.open_ 1 1 kv nv xv _ _ _ 320 _ cv X (hg X hX) hK (by omega) hN (by omega) hC hz (by omega)).mono ?_
  rintro e w' ⟨⟨r, he, hr⟩, hb⟩
  rw [o1] at he
  rw [o2] at hr
  exact ⟨r, he, slice_cg (own_slice hr fun j hj => by rw [o3 j hj]; exact hi_b7 j) o3, hb⟩
theorem open0 (I : Impl G) (hg : ∀ W, Below V.heap.size V W → G W) {c : Nat → Nat} (cv : Value) (X : World) (hX : Below V.heap.size V X) (hC : SliceN X cv 320 c) (hz : ∀ l c, cv = .slice none l c → c = 0) :
    Calls Tryz.prog 14 #[.slice none 0 0, .slice none 0 0, cv] X fun e w' => ∃ r, e = .returned (.tuple #[r, .int .i64 ((80 : Nat) : Int)]) ∧ Below X.heap.size X w' := by
  refine (I.open_ 0 0 _ _ (fun _ => undef) (fun _ => 0) (fun _ _ => 0) (fun _ _ => 0) 320 c cv X (hg X hX) ⟨⟨none, 0, rfl, Nat.le_refl _, by omega, fun h => by omega⟩, fun i h => by omega, fun i h => by omega, fun i h => by omega⟩ (by omega) ⟨⟨none, 0, rfl, Nat.le_refl _, by omega, fun h => by omega⟩, fun i h => by omega⟩ (by omega) hC hz (by omega)).mono ?_
  rintro e w' ⟨⟨r, he, _⟩, hb⟩
  exact ⟨r, he, hb⟩
theorem key1 (I : Impl G) (hg : ∀ W, Below V.heap.size V W → G W) {kv : Value} (X : World) (hX : Below V.heap.size V X) (hk : SliceN X kv 32 (fun _ => 0)) :
    Calls Tryz.prog 8 #[kv, .agg (bA 16 oneF)] X fun e w' => ∃ r, e = .returned (.tuple #[r, .int .i64 ((0 : Nat) : Int)]) ∧ SliceN w' r 32 (bk (fun _ => 0) oneF) ∧ Below X.heap.size X w' := by
  refine (I.key (fun _ => 0) oneF 32 kv X (hg X hX) oneF_by hk (by omega)).mono ?_
  rintro e w' ⟨⟨r, he, hr⟩, hb⟩
  exact ⟨r, he, own_slice hr fun j _ => bk_lt _ _ j, hb⟩
end
set_option maxRecDepth 100000 in
set_option maxHeartbeats 4000000 in
/-- The law's alive. -/
theorem alive27 {G : World → Prop} (I : Impl G) (V : World) (hg : ∀ W, Below V.heap.size V W → G W) :
    Calls Tryz.prog 6 #[] V fun e w' => e = .returned (.bool true) ∧ Below V.heap.size V w' := by
  go_enter Tryz.func6, Tryz.ntmps6
  refine wo_ 74 [] ?_
  rintro a A -
  have BW : Below V.heap.size V V := Below.refl _ _
  have BB := BW
  refine wp_seq ?_
  refine wi_ A h0_ (rg_ [] ?_)
  rintro a A -
  refine wp_seq ?_
  obtain ⟨g11, egg11⟩ : ∃ z_ : Nat, V.heap.size = z_ := ⟨_, rfl⟩
  refine wi_ A h0_ (rs_ 0 (fun a ee => ?_))
  refine stepV rfl rfl (execMk (l := 32) (n := 32) rfl rfl rfl (by omega) (by omega)) ⟨.slice (some ⟨g11, 0, none⟩) 32 32, ⟨_, rfl, by subst egg11; rfl⟩, fun X1_1 hX => ?_⟩
  have bQ : Below V.heap.size V X1_1 := by subst hX egg11; exact (belNew V _)
  have F1 : (SliceN X1_1 (.slice (some ⟨g11, 0, none⟩) 32 32) 32 (fun _ => 0)) := by subst hX egg11; exact zero32 V
  replace BB := BB.trans (bQ.mono BB.size)
  clear bQ hX egg11 ee a
  obtain ⟨g12, egg12⟩ : ∃ z_ : Nat, X1_1.heap.size = z_ := ⟨_, rfl⟩
  refine rs_ 1 (fun a ee => ?_)
  refine stepV rfl rfl (execBsL rfl (ee _) ⟨_, _, _, rfl⟩) ⟨.slice (some ⟨g12, 0, none⟩) 1 1, ⟨_, rfl, by subst egg12; rfl⟩, fun X1_2 hX => ?_⟩
  obtain ⟨BB, FK⟩ : Below V.heap.size V X1_2 ∧ (Ls X1_2 (.slice (some ⟨g12, 0, none⟩) 1 1) 1 (fun _ => .slice (some ⟨g11, 0, none⟩) 32 32) (fun _ => 32) (fun _ _ => 0)) := by subst hX egg12; exact ⟨(BB).trans ((belNew X1_1 _).mono (BB).size), one_ls (heapNew X1_1 _) (F1.on (belNew X1_1 _))⟩
  clear F1 hX egg12 ee a
  obtain ⟨g14, egg14⟩ : ∃ z_ : Nat, X1_2.heap.size = z_ := ⟨_, rfl⟩
  refine rv_ 2 (.agg (bA 16 oneF)) (fun a ee => execB16o rfl) (rs_ 3 (fun a ee => ?_))
  refine stepV rfl rfl (execBsN rfl (ee _)) ⟨.slice (some ⟨g14, 0, none⟩) 1 1, ⟨_, rfl, by subst egg14; rfl⟩, fun X1 hX => ?_⟩
  have bQ : Below X1_2.heap.size X1_2 X1 := by subst hX egg14; exact (belNew X1_2 _)
  have FN : (Nons X1 (.slice (some ⟨g14, 0, none⟩) 1 1) 1 (fun _ => oneF)) := by subst hX egg14; exact one_ns (heapNew X1_2 _)
  replace FK := (FK.on bQ)
  replace BB := BB.trans (bQ.mono BB.size)
  clear bQ hX egg14 ee a
  refine rg_ [(1, .slice (some ⟨g12, 0, none⟩) 1 1), (2, .slice (some ⟨g14, 0, none⟩) 1 1)] ?_
  rintro a A ⟨t1, t2, -⟩
  refine wp_seq ?_
  obtain ⟨g18, egg18⟩ : ∃ z_ : Nat, X1.heap.size = z_ := ⟨_, rfl⟩
  refine wi_ A (h2_ t1 t2) (rs_ 2 (fun a ee => ?_))
  refine stepV rfl rfl (execBsU2 rfl) ⟨.slice (some ⟨g18, 0, none⟩) 2 2, ⟨_, rfl, by subst egg18; rfl⟩, fun X2_1 hX => ?_⟩
  have bQ : Below X1.heap.size X1 X2_1 := by subst hX egg18; exact (belNew X1 _)
  have FL : (X2_1.heap[g18]? = some (.cells #[.int .u8 104, .int .u8 105] 5)) := by subst hX egg18; exact heapNew X1 _
  have FG : (V.heap.size ≤ g18) := by subst hX egg18; exact (BB).size
  replace FK := (FK.on bQ)
  replace FN := (FN.on bQ)
  replace BB := BB.trans (bQ.mono BB.size)
  clear bQ hX egg18 ee a
  refine rs_ 3 (fun a ee => ?_)
  refine stepV rfl rfl (execCvB7 rfl (ee _) FL) ⟨_, ⟨_, rfl, rfl⟩, fun X2_2 hX => ?_⟩
  obtain ⟨BB, FK, FN, FH⟩ : Below V.heap.size V X2_2 ∧ (Ls X2_2 (.slice (some ⟨g12, 0, none⟩) 1 1) 1 (fun _ => .slice (some ⟨g11, 0, none⟩) 32 32) (fun _ => 32) (fun _ _ => 0)) ∧ (Nons X2_2 (.slice (some ⟨g14, 0, none⟩) 1 1) 1 (fun _ => oneF)) ∧ (SliceN X2_2 (.slice (some ⟨g18, 0, none⟩) 2 2) 2 hi) := by subst hX; exact ⟨frz_bel BB FG, (frz_ls FK), (frz_ns FN), frz_sl (hi_slice FL).sl⟩
  clear FL FG hX ee a
  refine rc_ 4 (chain1 I hg (.slice (some ⟨g18, 0, none⟩) 2 2) X2_2 BB FK FN FH) fun e X2 hh => ?_
  obtain ⟨v20, he, hk, hz_, hb⟩ := hh
  refine ⟨_, he, ?_⟩
  have bQ : Below X2_2.heap.size X2_2 X2 := hb
  have FC : (SliceN X2 v20 320 (rwF 1 (bks (fun _ _ => 0) (fun _ => oneF)) (fun _ => oneF) 2 hi)) := hk
  have FCz : (∀ l c, v20 = .slice none l c → c = 0) := hz_
  replace FK := (FK.on bQ)
  replace FN := (FN.on bQ)
  replace BB := BB.trans (bQ.mono BB.size)
  clear FH bQ
  refine rf_ [(3, v20), (4, .int .i64 ((0 : Nat) : Int))] (h2_ t1 t2) ?_
  rintro a A ⟨t3, t4, -⟩ ⟨t1, t2, -⟩
  refine wp_seq ?_
  refine wi_ A (h4_ t1 t2 t3 t4) (rc_ 3 (open1 I hg _ X2 BB FK FN FC FCz) fun e X3 hh => ?_)
  obtain ⟨v27, he, hk, hb⟩ := hh
  refine ⟨_, he, ?_⟩
  have bQ : Below X2.heap.size X2 X3 := hb
  have FO : (SliceN X3 v27 2 hi) := hk
  replace FK := (FK.on bQ)
  replace FN := (FN.on bQ)
  replace FC := (FC.on bQ)
  replace BB := BB.trans (bQ.mono BB.size)
  clear bQ
  refine rf_ [(5, v27), (6, .int .i64 ((0 : Nat) : Int))] (h4_ t1 t2 t3 t4) ?_
  rintro a A ⟨t5, t6, -⟩ ⟨t1, t2, t3, t4, -⟩
  refine wp_seq ?_
  refine wi_ A (h6_ t1 t2 t3 t4 t5 t6) (rc_ 1 (open0 I hg _ X3 BB FC FCz) fun e X4 hh => ?_)
  obtain ⟨v32, he, hb⟩ := hh
  refine ⟨_, he, ?_⟩
  have bQ : Below X3.heap.size X3 X4 := hb
  replace FK := (FK.on bQ)
  replace FN := (FN.on bQ)
  replace FC := (FC.on bQ)
  replace FO := (FO.on bQ)
  replace BB := BB.trans (bQ.mono BB.size)
  clear bQ
  refine rf_ [(8, .int .i64 ((80 : Nat) : Int))] (h6_ t1 t2 t3 t4 t5 t6) ?_
  rintro a A ⟨t8, -⟩ ⟨t1, t2, t3, t4, t5, t6, -⟩
  refine wp_seq ?_
  refine wj_ [0, 1, 2, 3, 4, 5, 6, 7, 8, 9, 10, 11] [6] [1, 2, 4, 5] [] A (h7_ t1 t2 t3 t4 t5 t6 t8) (fun X5_0 bD => ?_)
  refine dv_ 1 (.pointer (some ⟨adB (.slice (some ⟨g12, 0, none⟩) 1 1), adO (.slice (some ⟨g12, 0, none⟩) 1 1) + 0, none⟩)) (fun a X ee hb => execIdxLs (k := 0) ((FK.on hb)) rfl (ee _) rfl (by omega)) (dv_ 2 (.slice (some ⟨g11, 0, none⟩) 32 32) (fun a X ee hb => execLdLs (k := 0) (FK.on hb) rfl (ee _) (by omega)) (dv_ 4 (.pointer (some ⟨adB (.slice (some ⟨g14, 0, none⟩) 1 1), adO (.slice (some ⟨g14, 0, none⟩) 1 1) + 0 * 16, none⟩)) (fun a X ee hb => execIdxNs (k := 0) ((FN.on hb)) rfl (ee _) rfl (by omega)) (dv_ 5 (.agg (bA 16 oneF)) (fun a X ee hb => execLdNs (k := 0) (FN.on hb) rfl (ee _) (by omega)) (dc_ 6 (key1 I hg X5_0 (BB.trans (bD.mono BB.size)) ((FK.on bD).cell 0 (by omega))) fun e X5 hh => ?_))))
  obtain ⟨v42, he, hk, hb⟩ := hh
  refine ⟨_, he, ?_⟩
  have bQ : Below X5_0.heap.size X5_0 X5 := hb
  have FY : (SliceN X5 v42 32 (bk (fun _ => 0) oneF)) := hk
  replace bD := bD.trans (bQ.mono bD.size)
  clear bQ
  refine ⟨Or.inr bD, ?_⟩
  refine dz_ [(9, v42), (10, .int .i64 ((0 : Nat) : Int))] (h5_ t3 t4 t5 t6 t8) ?_
  rintro a A ⟨t9, t10, -⟩ ⟨t3, t4, t5, t6, t8, -⟩
  replace FK := (FK.on bD)
  replace FN := (FN.on bD)
  replace FC := (FC.on bD)
  replace FO := (FO.on bD)
  replace BB := BB.trans (bD.mono BB.size)
  clear bD
  refine wp_seq ?_
  refine wi_ A (h7_ t3 t4 t5 t6 t8 t9 t10) (rv_ 1 (.bool true) (fun a ee => execDec (execEqE (p := 0) (q := 0) rfl (ee _) rfl) (decide_eq_true (by rfl))) (rv_ 4 (.bool true) (fun a ee => execDec (execEqE (p := 0) (q := 0) rfl (ee _) rfl) (decide_eq_true (by rfl))) (rv_ 8 (.bool true) (fun a ee => execDec (execEqE (p := 80) (q := 80) rfl (ee _) rfl) (decide_eq_true (by rfl))) (rv_ 12 (.bool true) (fun a ee => execDec (execEqE (p := 0) (q := 0) rfl (ee _) rfl) (decide_eq_true (by rfl))) (rv_ 16 (.int .i64 ((320 : Nat) : Int)) (fun a ee => execLenV (len := 320) rfl (ee _) (shp (FC))) (rv_ 17 (.bool true) (fun a ee => execDec (execEqN (p := 320) (q := 320) rfl (ee _) rfl) (decide_eq_true (by rfl))) (rv_ 21 (.string (strN hi 2)) (fun a ee => execStr rfl (ee _) (FO)) (rv_ 22 (.bool true) (fun a ee => execEqlS rfl ((ee _).trans (congrArg Value.string hi_str)) rfl) (rv_ 26 (.int .i64 ((32 : Nat) : Int)) (fun a ee => execLenV (len := 32) rfl (ee _) (shp (FY))) (rv_ 27 (.bool true) (fun a ee => execDec (execEqN (p := 32) (q := 32) rfl (ee _) rfl) (decide_eq_true (by rfl))) (rg_ [(0, .bool true)] ?_)))))))))))
  rintro a A ⟨t0, -⟩
  refine wp_ret ?_
  repeat (first | with_reducible refine ret_in ?_ | with_reducible refine ret_then ?_)
  refine bodyPost_ret (results_tmp rfl _ _ _) A.2 ⟨?_, BB⟩
  show Ending.returned (a.eval (.tmp 0)) = _
  rw [t0]
end Go.Proofs.YtnjmcknanlbpdaaGreatDoor.Rpl
