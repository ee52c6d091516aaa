import Derived.Test.YteekoabgbjbabaaGreatDoorW8q
import Derived.Test.YteekoabgbjbabaaGreatDoorW8f
namespace Go.Proofs.YteekoabgbjbabaaGreatDoor.Rpl
open Go.RowKit Gf8 Aes By8 Cel Cf Tap Drw Dro Oni Rou
/- Stage 27: the program's peeled, Open; what the landed package keeps. Written by tools/mkW8r.py. -/

theorem pkeyL {h i : Nat} {kv nv : Value} {xv : Nat → Value} {lk : Nat → Nat} {key q : Nat → Nat → Nat} {V : World} (hG : ∀ W, Below V.heap.size V W → Glob W) (hK : Ls V kv h xv lk key) (hN : Nons V nv h q) (hk : ∀ i, i < h → lk i = 32) (hi : i < h) (X : World) (hX : Below V.heap.size V X) :
    Calls Tryz.prog 9 #[xv i, .agg (bA 16 (q i))] X fun e w' => ∃ r, e = .returned (.tuple #[r, .int .i64 ((0 : Nat) : Int)]) ∧ SliceN w' r 32 (bks key q i) ∧ Below X.heap.size X w' := by
  refine (pkey27 (key i) (q i) (lk i) (xv i) X (hG X hX) (hN.by_ i hi) ((hK.cell i hi).on hX)).mono ?_
  rintro e w' ⟨⟨r, he, hr⟩, hb⟩
  rw [hk i hi] at he hr
  exact ⟨r, he, own_slice hr fun j _ => bk_lt _ _ j, hb⟩
theorem ppeelL {h i len : Nat} {key q : Nat → Nat → Nat} {c : Nat → Nat} {kv u : Value} (ee_ : Nat) (he : peE 32 ((h - i : Nat) : Int) (wkL len i) (bks key q i) (wkC h (bks key q) c i) = ee_) (X : World) (hG : Glob X) (hk : SliceN X kv 32 (bks key q i)) (hc : SliceN X u (wkL len i) (wkC h (bks key q) c i)) (hz : ∀ l c, u = .slice none l c → c = 0) (hl : wkL len i ≤ 140737488351232) :
    Calls Tryz.prog 26 #[kv, .int .i64 ((h - i : Nat) : Int), u] X fun e w' => ∃ r, e = .returned (.tuple #[.agg (pC r (peR ee_ (bks key q i) (wkC h (bks key q) c i))), .int .i64 ((ee_ : Nat) : Int)]) ∧ w'.ownsRow X.heap.size 5 1 r (peN ee_) (bytesL (peN ee_) (peC ((h - i : Nat) : Int) (bks key q i) (wkC h (bks key q) c i))) ∧ (∀ j, j < peN ee_ → peC ((h - i : Nat) : Int) (bks key q i) (wkC h (bks key q) c i) j < 256) ∧ Below X.heap.size X w' := by
  refine (peel_any (bks key q i) (wkC h (bks key q) c i) 32 (wkL len i) ((h - i : Nat) : Int) kv u X hG hk ⟨hc, hz⟩ hl).mono ?_
  rintro e w' ⟨r, e1, hr, hb⟩
  rw [he] at e1 hr
  refine ⟨r, e1, hr, fun j hj => ?_, hb⟩
  unfold peN at hj
  split at hj
  · rename_i q0; subst q0; exact peC_lt he hc.bytes j
  · omega
set_option maxRecDepth 100000 in
set_option maxHeartbeats 4000000 in
/-- The program's peeled. -/
theorem ppeeled27 (h : Nat) (kv nv : Value) (xv : Nat → Value) (lk : Nat → Nat) (key q : Nat → Nat → Nat) (len : Nat) (c : Nat → Nat) (cv : Value) (V : World) (hG : Glob V) (hK : Ls V kv h xv lk key) (hN : Nons V nv h q) (hh8 : h ≤ 8) (w4 : ∀ i, i < h → lk i = 32) (hC : SliceN V cv len c) (hCz : ∀ l c, cv = .slice none l c → c = 0) (hCl : len ≤ 140737488351232) :
    Calls Tryz.prog 18 #[kv, nv, cv] V fun e w' => (∃ r, e = .returned (.tuple #[r, .int .i64 ((Rou.wkG h (bks key q) (fun _ => 32) len c h : Nat) : Int)]) ∧ (Rou.wkG h (bks key q) (fun _ => 32) len c h = 0 → SliceN w' r (wkL len h) (wkC h (bks key q) c h) ∧ ∀ l c, r = .slice none l c → c = 0)) ∧ Below V.heap.size V w' := by
  go_enter Tryz.func18, Tryz.ntmps18
  refine wo_ 49 [(0, kv), (1, nv), (2, cv)] ?_
  rintro a A ⟨t0, t1, t2, -⟩
  have BW : Below V.heap.size V V := Below.refl _ _
  have BB := BW
  refine wp_seq ?_
  refine wi_ A (h3_ t0 t1 t2) (rf_ [] (h3_ t0 t1 t2) ?_)
  rintro a A - ⟨t0, t1, t2, -⟩
  refine wp_seq ?_
  refine wp_seq ?_
  refine wi_ A (h3_ t0 t1 t2) (rv_ 1 (.int .i64 ((h : Nat) : Int)) (fun a ee => execLenLL rfl (ee _) (hK.on BB).shp) (rf_ [(13, kv), (14, .int .i64 ((h : Nat) : Int)), (15, .int .i64 ((0 : Nat) : Int))] (h3_ t0 t1 t2) ?_))
  rintro a A ⟨t13, t14, t15, -⟩ ⟨t0, t1, t2, -⟩
  have FC : (SliceN V cv (wkL len 0) (wkC h (bks key q) c 0)) := hC.on BB
  refine wp_block ?_
  refine wp_loop (fun a W => ∃ (i : Nat) (u : Value), i ≤ h ∧ (∀ l c, u = .slice none l c → c = 0) ∧ (Rou.wkG h (bks key q) (fun _ => 32) len c i = 0) ∧ (a.tmps.size = 49 ∧ a.defers = []) ∧ a.eval (.tmp 0) = kv ∧ a.eval (.tmp 1) = nv ∧ a.eval (.tmp 2) = u ∧ a.eval (.tmp 13) = kv ∧ a.eval (.tmp 14) = .int .i64 ((h : Nat) : Int) ∧ a.eval (.tmp 15) = .int .i64 ((i : Nat) : Int) ∧ Below V.heap.size V W ∧ (SliceN W u (wkL len i) (wkC h (bks key q) c i))) (fun a _ => h - (intOf (a.eval (.tmp 15))).toNat) ⟨0, cv, Nat.zero_le _, hCz, rfl, A, t0, t1, t2, t13, t14, t15, BB, FC⟩ ?_
  clear A t0 t1 t2 t13 t14 t15 BB FC a
  rintro a XL2 ⟨i, u, hi, hz, hg, A, t0, t1, t2, t13, t14, t15, BB, FC⟩
  have esi := t15
  refine wp_seq ?_
  refine wi_ A (h6_ t0 t1 t2 t13 t14 t15) (rv_ 0 (.bool (decide (i < h))) (fun a ee => execLtW (p := i) (q := h) rfl (ee _) (ee _)) (rf_ [(16, .bool (decide (i < h)))] (h6_ t0 t1 t2 t13 t14 t15) ?_))
  rintro a A ⟨t16, -⟩ ⟨t0, t1, t2, t13, t14, t15, -⟩
  refine wp_seq ?_
  by_cases lti : i < h
  · rw [decide_eq_true lti] at t16
    refine wp_cond_true t16 ?_
    refine wp_skip ?_
    clear t16
    refine wp_seq ?_
    refine wp_block ?_
    have hwl : wkL len i ≤ 140737488351232 := wkl_le hCl i
    refine wp_seq ?_
    refine wi_ A (h6_ t0 t1 t2 t13 t14 t15) (rv_ 1 (.pointer (some ⟨adB kv, adO kv + i, none⟩)) (fun a ee => execIdxLs (k := i) (hK.on BB) rfl (ee _) (ee _) lti) (rv_ 2 (xv i) (fun a ee => execLdLs (k := i) (hK.on BB) rfl (ee _) lti) (rf_ [(8, .int .i64 ((i : Nat) : Int)), (9, xv i)] (h6_ t0 t1 t2 t13 t14 t15) ?_)))
    rintro a A ⟨t8, t9, -⟩ ⟨t0, t1, t2, t13, t14, t15, -⟩
    refine wp_seq ?_
    refine wi_ A (h8_ t0 t1 t2 t13 t14 t15 t8 t9) (rv_ 3 (.pointer (some ⟨adB nv, adO nv + i * 16, none⟩)) (fun a ee => execIdxNs (k := i) (hN.on BB) rfl (ee _) (ee _) lti) (rv_ 4 (.agg (bA 16 (q i))) (fun a ee => execLdNs (k := i) (hN.on BB) rfl (ee _) lti) (rc_ 5 (pkeyL (fun W_ b_ => hG.below b_ hG.sz) hK hN w4 lti XL2 BB) fun e X4 hh => ?_)))
    obtain ⟨v26, he, hk, hb⟩ := hh
    refine ⟨_, he, ?_⟩
    have bQ : Below XL2.heap.size XL2 X4 := hb
    have FK : (SliceN X4 v26 (32) (bks key q i)) := hk
    replace FC := (FC.on bQ)
    replace BB := BB.trans (bQ.mono BB.size)
    clear bQ
    refine rf_ [(10, v26), (11, .int .i64 ((0 : Nat) : Int))] (h7_ t0 t1 t2 t13 t14 t15 t8) ?_
    rintro a A ⟨t10, t11, -⟩ ⟨t0, t1, t2, t13, t14, t15, t8, -⟩
    refine wp_seq ?_
    refine wp_seq ?_
    refine wi_ A (h9_ t0 t1 t2 t13 t14 t15 t8 t10 t11) (rv_ 1 (.bool false) (fun a ee => execDec (execNeE (p := 0) (q := 0) rfl (ee _) rfl) (decide_eq_false (by decide))) (rf_ [(30, .bool false)] (h8_ t0 t1 t2 t13 t14 t15 t8 t10) ?_))
    rintro a A ⟨t30, -⟩ ⟨t0, t1, t2, t13, t14, t15, t8, t10, -⟩
    refine wp_cond_false t30 ?_
    refine wp_skip ?_
    clear t30
    obtain ⟨ee_, eee⟩ : ∃ ee_, peE 32 ((h - i : Nat) : Int) (wkL len i) (bks key q i) (wkC h (bks key q) c i) = ee_ := ⟨_, rfl⟩
    have hgn : Rou.wkG h (bks key q) (fun _ => 32) len c (i + 1) = ee_ := (wkG_on hg).trans eee
    refine wp_seq ?_
    refine wi_ A (h8_ t0 t1 t2 t13 t14 t15 t8 t10) (rv_ 2 (.int .i64 ((h : Nat) : Int)) (fun a ee => execLenLL rfl (ee _) (hK.on BB).shp) (rv_ 4 (.int .i64 ((h - i : Nat) : Int)) (fun a ee => execSubJ (p := h) (q := i) (r := h - i) rfl (ee _) (ee _) (by omega) (by omega)) (rc_ 6 (ppeelL ee_ eee X4 (hG.below BB hG.sz) FK FC hz hwl) fun e X7_1 hh => ?_)))
    obtain ⟨cu39, he, hk, hz_, hb⟩ := hh
    refine ⟨_, he, ?_⟩
    have bQ : Below X4.heap.size X4 X7_1 := hb
    have FP : (X7_1.ownsRow V.heap.size 5 1 cu39 (peN ee_) (bytesL (peN ee_) (peC ((h - i : Nat) : Int) (bks key q i) (wkC h (bks key q) c i)))) := own_base hk (BB).size
    have FPb : (∀ j, j < peN ee_ → peC ((h - i : Nat) : Int) (bks key q i) (wkC h (bks key q) c i) j < 256) := hz_
    replace BB := BB.trans (bQ.mono BB.size)
    clear FC FK bQ
    obtain ⟨g12, egg12⟩ : ∃ z_ : Nat, X7_1.heap.size = z_ := ⟨_, rfl⟩
    refine rs_ 10 (fun a ee => ?_)
    refine stepV rfl rfl (execAlPe rfl) ⟨.pointer (some ⟨g12, 0, none⟩), ⟨_, rfl, by subst egg12; rfl⟩, fun X7_2 hX => ?_⟩
    have bQ : Below X7_1.heap.size X7_1 X7_2 := by subst hX egg12; exact (belNew X7_1 _)
    have F12 : (X7_2.heap[g12]? = some (.cells (pC (.slice none 0 0) fun _ => 0) 51)) := by subst hX egg12; exact heapNew X7_1 _
    have FG : (V.heap.size ≤ g12) := by subst hX egg12; exact (BB).size
    replace FP := (ownsRow_below FP bQ)
    replace BB := BB.trans (bQ.mono BB.size)
    clear bQ hX egg12 ee a
    refine rs_ 11 (fun a ee => ?_)
    refine stepS rfl rfl (execStPe rfl (ee _) (ee _) F12 (own_one2 FP)) ⟨_, ⟨_, rfl, rfl⟩, fun X7 hX => ?_⟩
    obtain ⟨BB, FP, F12s⟩ : Below V.heap.size V X7 ∧ (X7.ownsRow V.heap.size 5 1 cu39 (peN ee_) (bytesL (peN ee_) (peC ((h - i : Nat) : Int) (bks key q i) (wkC h (bks key q) c i)))) ∧ (X7.heap[g12]? = some (.cells (pC cu39 (peR ee_ (bks key q i) (wkC h (bks key q) c i))) 51)) := by subst hX; exact ⟨below4 BB FG _, (ownsRow_row FP F12 (by decide) _), setRow_heap _ _ _ _ _ _ F12⟩
    clear F12 hX ee a
    refine rf_ [(11, .int .i64 ((ee_ : Nat) : Int)), (12, .pointer (some ⟨g12, 0, none⟩))] (h5_ t0 t1 t13 t14 t15) ?_
    rintro a A ⟨t11, t12, -⟩ ⟨t0, t1, t13, t14, t15, -⟩
    refine wp_seq ?_
    refine wp_seq ?_
    by_cases h0 : ee_ = 0
    · refine wi_ A (h7_ t0 t1 t13 t14 t15 t11 t12) (rv_ 1 (.bool false) (fun a ee => execDec (execNeE (p := ee_) (q := 0) rfl (ee _) rfl) (decide_eq_false (by omega))) (rf_ [(43, .bool false)] (h6_ t0 t1 t13 t14 t15 t12) ?_))
      rintro a A ⟨t43, -⟩ ⟨t0, t1, t13, t14, t15, t12, -⟩
      refine wp_cond_false t43 ?_
      refine wp_skip ?_
      clear t43
      refine wi_ A (h6_ t0 t1 t13 t14 t15 t12) (rv_ 0 (.pointer (some ⟨g12, 0, none⟩)) (fun a ee => execFldQ0 rfl (ee _)) (rv_ 1 (cu39) (fun a ee => Cel.execLdL rfl (ee _) (pc_at0 F12s)) (rf_ [(2, cu39)] (h5_ t0 t1 t13 t14 t15) ?_)))
      rintro a A ⟨t2, -⟩ ⟨t0, t1, t13, t14, t15, -⟩
      have hg2 : Rou.wkG h (bks key q) (fun _ => 32) len c (i + 1) = 0 := hgn.trans h0
      have hz2 : ∀ l c, cu39 = .slice none l c → c = 0 := own_nilI FP
      have FC2 : (SliceN X7 cu39 (wkL len (i + 1)) (wkC h (bks key q) c (i + 1))) := by have h_ := own_slice FP FPb; rw [show peN ee_ = 320 from if_pos h0] at h_; exact h_
      clear F12s FP FG FPb
      refine wi_ A (h6_ t0 t1 t2 t13 t14 t15) (rv_ 0 (.int .i64 ((i + 1 : Nat) : Int)) (fun a ee => execAd8 (p := i) (q := 1) rfl (ee _) rfl (by omega)) (rf_ [(15, .int .i64 ((i + 1 : Nat) : Int))] (h5_ t0 t1 t2 t13 t14) ?_))
      rintro a A ⟨t15, -⟩ ⟨t0, t1, t2, t13, t14, -⟩
      exact ⟨⟨i + 1, cu39, lti, hz2, hg2, A, t0, t1, t2, t13, t14, t15, BB, FC2⟩, by show h - (intOf (a.eval (.tmp 15))).toNat < h - (intOf (Act.eval _ (.tmp 15))).toNat; rw [t15, esi]; show h - (i + 1) < h - i; omega⟩
    · refine wi_ A (h7_ t0 t1 t13 t14 t15 t11 t12) (rv_ 1 (.bool true) (fun a ee => execDec (execNeE (p := ee_) (q := 0) rfl (ee _) rfl) (decide_eq_true (by omega))) (rf_ [(43, .bool true)] (h1_ t11) ?_))
      rintro a A ⟨t43, -⟩ ⟨t11, -⟩
      refine wp_cond_true t43 ?_
      clear t43
      refine wp_seq ?_
      refine wi_ A (h1_ t11) (rg_ [(6, .slice none 0 0), (7, .int .i64 ((ee_ : Nat) : Int))] ?_)
      rintro a A ⟨t6, t7, -⟩
      have hgh : Rou.wkG h (bks key q) (fun _ => 32) len c h = ee_ := (wkG_stop (by rw [hgn]; exact h0) lti).trans hgn
      rw [hgh]
      refine wp_ret ?_
      repeat (first | with_reducible refine ret_in ?_ | with_reducible refine ret_then ?_)
      refine bodyPost_ret (results_tmp2 rfl _ _ _) A.2 ⟨⟨.slice none 0 0, ?_, fun hx => absurd hx h0⟩, BB⟩
      show Ending.returned (.tuple #[a.eval (.tmp 6), a.eval (.tmp 7)]) = _
      rw [t6, t7]
  · rw [decide_eq_false lti] at t16
    refine wp_cond_false t16 ?_
    refine wp_exit ?_
    first | with_reducible refine exit_in ?_ | with_reducible refine exit_then (exit_in ?_) | with_reducible refine exit_then (exit_then (exit_in ?_)) | refine exit_in ?_ | refine exit_then (exit_in ?_) | refine exit_then (exit_then (exit_in ?_))
    clear t16 esi
    have ein : i = h := (by omega)
    rw [ein] at FC hg
    rw [hg]
    refine wp_seq ?_
    refine wi_ A (h6_ t0 t1 t2 t13 t14 t15) (rg_ [(6, u), (7, .int .i64 ((0 : Nat) : Int))] ?_)
    rintro a A ⟨t6, t7, -⟩
    refine wp_ret ?_
    repeat (first | with_reducible refine ret_in ?_ | with_reducible refine ret_then ?_)
    refine bodyPost_ret (results_tmp2 rfl _ _ _) A.2 ⟨⟨_, ?_, fun _ => ⟨FC, hz⟩⟩, BB⟩
    show Ending.returned (.tuple #[a.eval (.tmp 6), a.eval (.tmp 7)]) = _
    rw [t6, t7]
theorem ppeel0 {h : Nat} {kv nv : Value} {xv : Nat → Value} {lk : Nat → Nat} {key q : Nat → Nat → Nat} {len : Nat} {c : Nat → Nat} {cv : Value} (X : World) (hG : Glob X) (hK : Ls X kv h xv lk key) (hN : Nons X nv h q) (h8 : h ≤ 8) (hk : ∀ i, i < h → lk i = 32) (hC : SliceN X cv len c) (hz : ∀ l c, cv = .slice none l c → c = 0) (hl : len ≤ 140737488351232) (hg : Rou.wkG h (bks key q) (fun _ => 32) len c h = 0) :
    Calls Tryz.prog 18 #[kv, nv, cv] X fun e w' => ∃ r, e = .returned (.tuple #[r, .int .i64 ((0 : Nat) : Int)]) ∧ SliceN w' r (wkL len h) (wkC h (bks key q) c h) ∧ (∀ l c, r = .slice none l c → c = 0) ∧ Below X.heap.size X w' := by
  refine (ppeeled27 h kv nv xv lk key q len c cv X hG hK hN h8 hk hC hz hl).mono ?_
  rintro e w' ⟨⟨r, he, hr⟩, hb⟩
  rw [hg] at he
  exact ⟨r, he, (hr hg).1, (hr hg).2, hb⟩
theorem ppeelE {h : Nat} {kv nv : Value} {xv : Nat → Value} {lk : Nat → Nat} {key q : Nat → Nat → Nat} {len : Nat} {c : Nat → Nat} {cv : Value} (X : World) (hG : Glob X) (hK : Ls X kv h xv lk key) (hN : Nons X nv h q) (h8 : h ≤ 8) (hk : ∀ i, i < h → lk i = 32) (hC : SliceN X cv len c) (hz : ∀ l c, cv = .slice none l c → c = 0) (hl : len ≤ 140737488351232) {gg : Nat} (hg : Rou.wkG h (bks key q) (fun _ => 32) len c h = gg) :
    Calls Tryz.prog 18 #[kv, nv, cv] X fun e w' => ∃ r, e = .returned (.tuple #[r, .int .i64 ((gg : Nat) : Int)]) ∧ Below X.heap.size X w' := by
  refine (ppeeled27 h kv nv xv lk key q len c cv X hG hK hN h8 hk hC hz hl).mono ?_
  rintro e w' ⟨⟨r, he, hr⟩, hb⟩
  rw [hg] at he
  exact ⟨r, he, hb⟩
set_option maxRecDepth 100000 in
set_option maxHeartbeats 4000000 in
/-- The program's Open. -/
theorem popen27 (h hn : Nat) (kv nv : Value) (xv : Nat → Value) (lk : Nat → Nat) (key q : Nat → Nat → Nat) (V : World) (hG : Glob V) (hK : Ls V kv h xv lk key) (hN : Nons V nv hn q) (hh : h ≤ 140737488351232) (len : Nat) (c : Nat → Nat) (cv : Value) (hC : SliceN V cv len c) (hCz : ∀ l c, cv = .slice none l c → c = 0) (hCl : len ≤ 140737488351232) :
    Calls Tryz.prog 8 #[kv, nv, cv] V fun e w' => (∃ r, e = .returned (.tuple #[r, .int .i64 ((opE h hn lk key q len c : Nat) : Int)]) ∧ w'.ownsRow V.heap.size 5 1 r (opN h hn lk key q len c) (bytesL (opN h hn lk key q len c) (opF h key q c))) ∧ Below V.heap.size V w' := by
  go_enter Tryz.func8, Tryz.ntmps8
  refine wo_ 37 [(0, kv), (1, nv), (2, cv)] ?_
  rintro a A ⟨t0, t1, t2, -⟩
  have BW : Below V.heap.size V V := Below.refl _ _
  have BB := BW
  refine wp_seq ?_
  refine wi_ A (h3_ t0 t1 t2) (rf_ [] (h3_ t0 t1 t2) ?_)
  rintro a A - ⟨t0, t1, t2, -⟩
  refine wp_seq ?_
  refine wp_seq ?_
  refine wi_ A (h3_ t0 t1 t2) (rc_ 2 (pcheck27 h hn kv nv xv lk key q V (hK.on BB) (hN.on BB) hh) (cb_ fun X1 bQ => ?_))
  replace BB := BB.trans (bQ.mono BB.size)
  clear bQ
  refine rf_ [(8, .int .i64 ((wgE h hn lk : Nat) : Int))] (h3_ t0 t1 t2) ?_
  rintro a A ⟨t8, -⟩ ⟨t0, t1, t2, -⟩
  refine wp_seq ?_
  by_cases e1 : wgE h hn lk = 0
  · obtain ⟨w1, w2, w3, w4⟩ := wg_ok e1
    replace w3 := w3.symm
    subst w3
    refine wi_ A (h4_ t0 t1 t2 t8) (rv_ 1 (.bool false) (fun a ee => execDec (execNeE (p := wgE h h lk) (q := 0) rfl (ee _) rfl) (decide_eq_false (by omega))) (rf_ [(17, .bool false)] (h3_ t0 t1 t2) ?_))
    rintro a A ⟨t17, -⟩ ⟨t0, t1, t2, -⟩
    refine wp_cond_false t17 ?_
    refine wp_skip ?_
    clear t17
    obtain ⟨gg, egg⟩ : ∃ gg, Rou.wkG h (bks key q) (fun _ => 32) len c h = gg := ⟨_, rfl⟩
    refine wp_seq ?_
    by_cases g0 : gg = 0
    · refine wi_ A (h3_ t0 t1 t2) (rc_ 3 (ppeel0 X1 (hG.below BB hG.sz) (hK.on BB) (hN.on BB) w2 w4 (hC.on BB) hCz hCl (egg.trans g0)) fun e X4 hh => ?_)
      obtain ⟨v23, he, hk, hz_, hb⟩ := hh
      refine ⟨_, he, ?_⟩
      have bQ : Below X1.heap.size X1 X4 := hb
      have FC : (SliceN X4 v23 (wkL len h) (wkC h (bks key q) c h)) := hk
      have FZ : (∀ l c, v23 = .slice none l c → c = 0) := hz_
      replace BB := BB.trans (bQ.mono BB.size)
      clear bQ
      refine rg_ [(9, v23), (10, .int .i64 ((0 : Nat) : Int))] ?_
      rintro a A ⟨t9, t10, -⟩
      refine wp_seq ?_
      refine wp_seq ?_
      refine wi_ A (h2_ t9 t10) (rv_ 1 (.bool false) (fun a ee => execDec (execNeE (p := 0) (q := 0) rfl (ee _) rfl) (decide_eq_false (by decide))) (rf_ [(27, .bool false)] (h1_ t9) ?_))
      rintro a A ⟨t27, -⟩ ⟨t9, -⟩
      refine wp_cond_false t27 ?_
      refine wp_skip ?_
      clear t27
      refine wp_seq ?_
      refine wi_ A (h1_ t9) (rc_ 1 (open_any _ _ _ X4 ⟨FC, FZ⟩ (wkl_le hCl h)) fun e X7 hh => ?_)
      obtain ⟨v31, he, hk, hb⟩ := hh
      refine ⟨_, he, ?_⟩
      have bQ : Below X4.heap.size X4 X7 := hb
      have FR : (X7.ownsRow V.heap.size 5 1 v31 (openN (wkC h (bks key q) c h) (wkL len h)) (bytesL (openN (wkC h (bks key q) c h) (wkL len h)) (opF h key q c))) := own_base hk (BB).size
      replace BB := BB.trans (bQ.mono BB.size)
      clear FC FZ bQ
      refine rg_ [(10, .int .i64 ((openE (wkC h (bks key q) c h) (wkL len h) : Nat) : Int)), (11, v31)] ?_
      rintro a A ⟨t10, t11, -⟩
      refine wp_seq ?_
      refine wi_ A (h2_ t10 t11) (rg_ [(6, v31), (7, .int .i64 ((openE (wkC h (bks key q) c h) (wkL len h) : Nat) : Int))] ?_)
      rintro a A ⟨t6, t7, -⟩
      rw [show opE h h lk key q len c = openE (wkC h (bks key q) c h) (wkL len h) by unfold opE; rw [if_neg (by omega), if_neg (by omega)], show opN h h lk key q len c = openN (wkC h (bks key q) c h) (wkL len h) by unfold opN; rw [if_neg (by omega), if_neg (by omega)]]
      refine wp_ret ?_
      repeat (first | with_reducible refine ret_in ?_ | with_reducible refine ret_then ?_)
      refine bodyPost_ret (results_tmp2 rfl _ _ _) A.2 ⟨⟨_, ?_, FR⟩, BB⟩
      show Ending.returned (.tuple #[a.eval (.tmp 6), a.eval (.tmp 7)]) = _
      rw [t6, t7]
    · refine wi_ A (h3_ t0 t1 t2) (rc_ 3 (ppeelE X1 (hG.below BB hG.sz) (hK.on BB) (hN.on BB) w2 w4 (hC.on BB) hCz hCl egg) fun e X4 hh => ?_)
      obtain ⟨v23, he, hb⟩ := hh
      refine ⟨_, he, ?_⟩
      have bQ : Below X1.heap.size X1 X4 := hb
      replace BB := BB.trans (bQ.mono BB.size)
      clear bQ
      refine rg_ [(10, .int .i64 ((gg : Nat) : Int))] ?_
      rintro a A ⟨t10, -⟩
      refine wp_seq ?_
      refine wp_seq ?_
      refine wi_ A (h1_ t10) (rv_ 1 (.bool true) (fun a ee => execDec (execNeE (p := gg) (q := 0) rfl (ee _) rfl) (decide_eq_true (by omega))) (rf_ [(27, .bool true)] (h1_ t10) ?_))
      rintro a A ⟨t27, -⟩ ⟨t10, -⟩
      refine wp_cond_true t27 ?_
      clear t27
      refine wp_seq ?_
      refine wi_ A (h1_ t10) (rg_ [(6, .slice none 0 0), (7, .int .i64 ((gg : Nat) : Int))] ?_)
      rintro a A ⟨t6, t7, -⟩
      rw [show opE h h lk key q len c = gg by unfold opE; rw [if_neg (by omega), if_pos (by rw [egg]; exact g0), egg], show opN h h lk key q len c = 0 by unfold opN; rw [if_neg (by omega), if_pos (by rw [egg]; exact g0)]]
      refine wp_ret ?_
      repeat (first | with_reducible refine ret_in ?_ | with_reducible refine ret_then ?_)
      refine bodyPost_ret (results_tmp2 rfl _ _ _) A.2 ⟨⟨_, ?_, World.ownsRow_nil _ _ _ _⟩, BB⟩
      show Ending.returned (.tuple #[a.eval (.tmp 6), a.eval (.tmp 7)]) = _
      rw [t6, t7]
  · refine wi_ A (h4_ t0 t1 t2 t8) (rv_ 1 (.bool true) (fun a ee => execDec (execNeE (p := wgE h hn lk) (q := 0) rfl (ee _) rfl) (decide_eq_true (by omega))) (rf_ [(17, .bool true)] (h1_ t8) ?_))
    rintro a A ⟨t17, -⟩ ⟨t8, -⟩
    refine wp_cond_true t17 ?_
    clear t17
    refine wp_seq ?_
    refine wi_ A (h1_ t8) (rg_ [(6, .slice none 0 0), (7, .int .i64 ((wgE h hn lk : Nat) : Int))] ?_)
    rintro a A ⟨t6, t7, -⟩
    rw [show opE h hn lk key q len c = wgE h hn lk from if_pos e1, show opN h hn lk key q len c = 0 from if_pos e1]
    refine wp_ret ?_
    repeat (first | with_reducible refine ret_in ?_ | with_reducible refine ret_then ?_)
    refine bodyPost_ret (results_tmp2 rfl _ _ _) A.2 ⟨⟨_, ?_, World.ownsRow_nil _ _ _ _⟩, BB⟩
    show Ending.returned (.tuple #[a.eval (.tmp 6), a.eval (.tmp 7)]) = _
    rw [t6, t7]
/-- What the landed package keeps. -/
theorem impl : Impl Glob :=
  ⟨fun key nonce lk v V hG hn hv _ => pkey27 key nonce lk v V hG hn hv, fun key nonce inner lk n left v vi V hG hn hv _ hi hnl => pwrap27 key nonce inner lk n left v vi V hG hn hv hi hnl, fun h hn kv nv xv lk key q n p pv V hG hK hh hN _ hP hPz _ => pchain27 h hn kv nv xv lk key q V hG hK hN hh n p pv hP hPz, fun h hn kv nv xv lk key q len c cv V hG hK hh hN _ hC hCz hl => popen27 h hn kv nv xv lk key q V hG hK hN hh len c cv hC hCz hl⟩
end Go.Proofs.YteekoabgbjbabaaGreatDoor.Rpl
