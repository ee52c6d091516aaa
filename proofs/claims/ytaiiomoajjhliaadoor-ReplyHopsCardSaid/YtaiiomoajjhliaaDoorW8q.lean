import Derived.Test.YtaiiomoajjhliaaDoorW8p
import Derived.Test.YtaiiomoajjhliaaDoorC6
namespace Go.Proofs.YtaiiomoajjhliaaDoor.Rpl
open Go.RowKit Gf8 Aes By8 Cel Cf Tap Drw Dro Oni Rou
/- Stage 27: the program's layered, Chain. Written by tools/mkW8q.py. -/

theorem pwrapL {h n m : Nat} {kv nv ov : Value} {xv : Nat → Value} {lk : Nat → Nat} {key q : Nat → Nat → Nat} {p : Nat → Nat} {V : World} (hG0 : ∀ W, Below V.heap.size V W → Glob W) (hK : Ls V kv h xv lk key) (hN : Nons V nv h q) (hk : ∀ i, i < h → lk i = 32) (h8 : h ≤ 8) (hm : m < h) (hn : n ≤ 48) (hp : ∀ j, j < n → p j < 256) (X : World) (hX : Below V.heap.size V X) (ho : SliceN X ov (loN n m) (loF h (bks key q) q n p m)) :
    Calls Tryd.prog 16 #[xv (h - (m + 1)), .agg (bA 16 (q (h - (m + 1)))), .int .i64 ((m + 1 : Nat) : Int), ov] X fun e w' => ∃ r, e = .returned (.tuple #[r, .int .i64 ((0 : Nat) : Int)]) ∧ SliceN w' r (loN n (m + 1)) (loF h (bks key q) q n p (m + 1)) ∧ (∀ l c, r = .slice none l c → c = 0) ∧ Below X.heap.size X w' := by
  obtain ⟨e1, e2⟩ := lay_e hn (show m < 8 by omega)
  have hi : h - (m + 1) < h := by omega
  refine (pwrap27 (key (h - (m + 1))) (q (h - (m + 1))) (loF h (bks key q) q n p m) (lk (h - (m + 1))) (loN n m) ((m + 1 : Nat) : Int) (xv (h - (m + 1))) ov X (hG0 X hX) (hN.by_ _ hi) ((hK.cell _ hi).on hX) ho (Nat.le_trans (loN_le hn (by omega)) (by omega))).mono ?_
  rintro e w' ⟨⟨r, he, hr⟩, hb⟩
  rw [hk _ hi, e1] at he
  rw [hk _ hi, e2] at hr
  exact ⟨r, he, own_slice hr fun j hj => loF_lt hN.by_ hn hp (m + 1) (by omega) (by omega) j hj, own_nilI hr, hb⟩
theorem ppadL {h n : Nat} {ov : Value} {key q : Nat → Nat → Nat} {p : Nat → Nat} (h8 : h ≤ 8) (hn : n ≤ 48) (X : World) (ho : SliceN X ov (loN n h) (loF h (bks key q) q n p h)) (hz : ∀ l c, ov = .slice none l c → c = 0) :
    Calls Tryd.prog 17 #[ov] X fun e w' => ∃ r, e = .returned (.tuple #[r, .int .i64 ((0 : Nat) : Int)]) ∧ w'.ownsRow X.heap.size 5 1 r 320 (bytesL 320 (rwF h (bks key q) q n p)) ∧ Below X.heap.size X w' := by
  have hl := loN_le hn h8
  refine (pad_any _ _ ov X ⟨ho, hz⟩ (by omega)).mono ?_
  rintro e w' ⟨r, he, hr, hb⟩
  rw [show okE 320 (loN n h) = 0 from if_pos hl] at he
  rw [show okN 320 (loN n h) = 320 from if_pos hl] at hr
  exact ⟨r, he, hr, hb⟩
set_option maxRecDepth 100000 in
set_option maxHeartbeats 4000000 in
/-- The program's layered. -/
theorem player27 (h : Nat) (kv nv : Value) (xv : Nat → Value) (lk : Nat → Nat) (key q : Nat → Nat → Nat) (n : Nat) (p : Nat → Nat) (pv : Value) (V : World) (hG : Glob V) (hK : Ls V kv h xv lk key) (hN : Nons V nv h q) (w1 : 1 ≤ h) (h8_ : h ≤ 8) (w4 : ∀ i, i < h → lk i = 32) (hn8 : n ≤ 48) (hP : SliceN V pv n p) (hPz : ∀ l c, pv = .slice none l c → c = 0) :
    Calls Tryd.prog 19 #[kv, nv, pv] V fun e w' => (∃ r, e = .returned (.tuple #[r, .int .i64 ((0 : Nat) : Int)]) ∧ SliceN w' r (loN n h) (loF h (bks key q) q n p h) ∧ ∀ l c, r = .slice none l c → c = 0) ∧ Below V.heap.size V w' := by
  go_enter Tryd.func19, Tryd.ntmps19
  refine wo_ 43 [(0, kv), (1, nv), (2, pv)] ?_
  rintro a A ⟨t0, t1, t2, -⟩
  have BW : Below V.heap.size V V := Below.refl _ _
  have BB := BW
  refine wp_seq ?_
  refine wi_ A (h3_ t0 t1 t2) (rf_ [] (h3_ t0 t1 t2) ?_)
  rintro a A - ⟨t0, t1, t2, -⟩
  refine wp_seq ?_
  refine wi_ A (h3_ t0 t1 t2) (rf_ [(8, pv)] (h2_ t0 t1) ?_)
  rintro a A ⟨t8, -⟩ ⟨t0, t1, -⟩
  refine wp_seq ?_
  refine wp_seq ?_
  refine wi_ A (h3_ t0 t1 t8) (rf_ [(9, .int .i64 ((1 : Nat) : Int))] (h3_ t0 t1 t8) ?_)
  rintro a A ⟨t9, -⟩ ⟨t0, t1, t8, -⟩
  have FO : (SliceN V pv (loN n 0) (loF h (bks key q) q n p 0)) := hP.on BB
  refine wp_block ?_
  refine wp_loop (fun a W => ∃ (m : Nat) (ov : Value), m ≤ h ∧ (∀ l c, ov = .slice none l c → c = 0) ∧ (a.tmps.size = 43 ∧ a.defers = []) ∧ a.eval (.tmp 0) = kv ∧ a.eval (.tmp 1) = nv ∧ a.eval (.tmp 8) = ov ∧ a.eval (.tmp 9) = .int .i64 ((m + 1 : Nat) : Int) ∧ Below V.heap.size V W ∧ (SliceN W ov (loN n m) (loF h (bks key q) q n p m))) (fun a _ => h + 1 - (intOf (a.eval (.tmp 9))).toNat) ⟨0, pv, Nat.zero_le _, hPz, A, t0, t1, t8, t9, BB, FO⟩ ?_
  clear A t0 t1 t8 t9 BB FO a
  rintro a XL ⟨m, ov, hm, hz, A, t0, t1, t8, t9, BB, FO⟩
  have es := t9
  refine wp_seq ?_
  refine wp_seq ?_
  by_cases hlt : m < h
  · refine wi_ A (h4_ t0 t1 t8 t9) (rv_ 2 (.int .i64 ((h : Nat) : Int)) (fun a ee => execLenLL rfl (ee _) (hK.on BB).shp) (rv_ 3 (.bool true) (fun a ee => execDec (execLeN (p := m + 1) (q := h) rfl (ee _) (ee _)) (decide_eq_true (by omega))) (rf_ [(17, .bool true)] (h4_ t0 t1 t8 t9) ?_)))
    rintro a A ⟨t17, -⟩ ⟨t0, t1, t8, t9, -⟩
    refine wp_cond_true t17 ?_
    refine wp_skip ?_
    clear t17
    obtain ⟨le1, le2⟩ := lay_e hn8 (show m < 8 by omega)
    have lki := w4 (h - (m + 1)) (by omega)
    have lol := loN_le hn8 (show m ≤ 8 by omega)
    refine wp_seq ?_
    refine wp_block ?_
    refine wp_seq ?_
    refine wi_ A (h4_ t0 t1 t8 t9) (rv_ 1 (.int .i64 ((h : Nat) : Int)) (fun a ee => execLenLL rfl (ee _) (hK.on BB).shp) (rv_ 3 (.int .i64 ((h - (m + 1) : Nat) : Int)) (fun a ee => execSubJ (p := h) (q := m + 1) (r := h - (m + 1)) rfl (ee _) (ee _) (by omega) (by omega)) (rf_ [(10, .int .i64 ((h - (m + 1) : Nat) : Int))] (h4_ t0 t1 t8 t9) ?_)))
    rintro a A ⟨t10, -⟩ ⟨t0, t1, t8, t9, -⟩
    refine wp_seq ?_
    refine wj_ [0, 1, 2, 3, 4, 5, 6, 7, 8, 9, 10, 11, 12, 13, 14, 15] [10] [2, 3, 6, 7] [] A (h5_ t0 t1 t8 t9 t10) (fun X6_0 bD => ?_)
    refine dv_ 2 (.pointer (some ⟨adB kv, adO kv + (h - (m + 1)), none⟩)) (fun a X ee hb => execIdxLs (k := h - (m + 1)) (hK.on (BB.trans (hb.mono BB.size))) rfl (ee _) (ee _) (show h - (m + 1) < h by omega)) (dv_ 3 (xv (h - (m + 1))) (fun a X ee hb => execLdLs (k := h - (m + 1)) (hK.on (BB.trans (hb.mono BB.size))) rfl (ee _) (show h - (m + 1) < h by omega)) (dv_ 6 (.pointer (some ⟨adB nv, adO nv + (h - (m + 1)) * 16, none⟩)) (fun a X ee hb => execIdxNs (k := h - (m + 1)) (hN.on (BB.trans (hb.mono BB.size))) rfl (ee _) (ee _) (show h - (m + 1) < h by omega)) (dv_ 7 (.agg (bA 16 (q (h - (m + 1))))) (fun a X ee hb => execLdNs (k := h - (m + 1)) (hN.on (BB.trans (hb.mono BB.size))) rfl (ee _) (show h - (m + 1) < h by omega)) (dc_ 10 (pwrapL (fun W_ b_ => hG.below b_ hG.sz) hK hN w4 h8_ hlt hn8 hP.bytes X6_0 (BB.trans (bD.mono BB.size)) (FO.on bD)) fun e X6 hh => ?_))))
    obtain ⟨v35, he, hk, hz_, hb⟩ := hh
    refine ⟨_, he, ?_⟩
    have bQ : Below X6_0.heap.size X6_0 X6 := hb
    have FO2 : (SliceN X6 v35 (loN n (m + 1)) (loF h (bks key q) q n p (m + 1))) := hk
    have FZ : (∀ l c, v35 = .slice none l c → c = 0) := hz_
    replace bD := bD.trans (bQ.mono bD.size)
    clear bQ FO
    refine ⟨Or.inr bD, ?_⟩
    refine dz_ [(11, v35), (12, .int .i64 ((0 : Nat) : Int))] (h3_ t0 t1 t9) ?_
    rintro a A ⟨t11, t12, -⟩ ⟨t0, t1, t9, -⟩
    replace BB := BB.trans (bD.mono BB.size)
    clear bD
    refine wp_seq ?_
    refine wp_seq ?_
    refine wi_ A (h5_ t0 t1 t9 t11 t12) (rv_ 1 (.bool false) (fun a ee => execDec (execNeE (p := 0) (q := 0) rfl (ee _) rfl) (decide_eq_false (by decide))) (rf_ [(39, .bool false)] (h4_ t0 t1 t9 t11) ?_))
    rintro a A ⟨t39, -⟩ ⟨t0, t1, t9, t11, -⟩
    refine wp_cond_false t39 ?_
    refine wp_skip ?_
    clear t39
    refine wi_ A (h4_ t0 t1 t9 t11) (rf_ [(8, v35)] (h3_ t0 t1 t9) ?_)
    rintro a A ⟨t8, -⟩ ⟨t0, t1, t9, -⟩
    refine wi_ A (h4_ t0 t1 t8 t9) (rv_ 1 (.int .i64 ((m + 1 + 1 : Nat) : Int)) (fun a ee => execAd8 (p := m + 1) (q := 1) rfl (ee _) rfl (by omega)) (rf_ [(9, .int .i64 ((m + 1 + 1 : Nat) : Int))] (h3_ t0 t1 t8) ?_))
    rintro a A ⟨t9, -⟩ ⟨t0, t1, t8, -⟩
    exact ⟨⟨m + 1, v35, hlt, FZ, A, t0, t1, t8, t9, BB, FO2⟩, by show h + 1 - (intOf (a.eval (.tmp 9))).toNat < h + 1 - (intOf (Act.eval _ (.tmp 9))).toNat; rw [t9, es]; show h + 1 - (m + 1 + 1) < h + 1 - (m + 1); omega⟩
  · refine wi_ A (h4_ t0 t1 t8 t9) (rv_ 2 (.int .i64 ((h : Nat) : Int)) (fun a ee => execLenLL rfl (ee _) (hK.on BB).shp) (rv_ 3 (.bool false) (fun a ee => execDec (execLeN (p := m + 1) (q := h) rfl (ee _) (ee _)) (decide_eq_false (by omega))) (rf_ [(17, .bool false)] (h1_ t8) ?_)))
    rintro a A ⟨t17, -⟩ ⟨t8, -⟩
    refine wp_cond_false t17 ?_
    refine wp_exit ?_
    first | with_reducible refine exit_in ?_ | with_reducible refine exit_then (exit_in ?_) | with_reducible refine exit_then (exit_then (exit_in ?_)) | refine exit_in ?_ | refine exit_then (exit_in ?_) | refine exit_then (exit_then (exit_in ?_))
    clear t17
    have emh : m = h := (by omega)
    rw [emh] at FO
    refine wp_seq ?_
    refine wi_ A (h1_ t8) (rg_ [(6, ov), (7, .int .i64 ((0 : Nat) : Int))] ?_)
    rintro a A ⟨t6, t7, -⟩
    refine wp_ret ?_
    repeat (first | with_reducible refine ret_in ?_ | with_reducible refine ret_then ?_)
    refine bodyPost_ret (results_tmp2 rfl _ _ _) A.2 ⟨⟨_, ?_, FO, hz⟩, BB⟩
    show Ending.returned (.tuple #[a.eval (.tmp 6), a.eval (.tmp 7)]) = _
    rw [t6, t7]
set_option maxRecDepth 100000 in
set_option maxHeartbeats 4000000 in
/-- The program's Chain. -/
theorem pchain27 (h hn : Nat) (kv nv : Value) (xv : Nat → Value) (lk : Nat → Nat) (key q : Nat → Nat → Nat) (V : World) (hG : Glob V) (hK : Ls V kv h xv lk key) (hN : Nons V nv hn q) (hh : h ≤ 140737488351232) (n : Nat) (p : Nat → Nat) (pv : Value) (hP : SliceN V pv n p) (hPz : ∀ l c, pv = .slice none l c → c = 0) :
    Calls Tryd.prog 6 #[kv, nv, pv] V fun e w' => (∃ r, e = .returned (.tuple #[r, .int .i64 ((rwE h hn lk n : Nat) : Int)]) ∧ w'.ownsRow V.heap.size 5 1 r (rwN h hn lk n) (bytesL (rwN h hn lk n) (rwF h (bks key q) q n p))) ∧ Below V.heap.size V w' := by
  go_enter Tryd.func6, Tryd.ntmps6
  refine wo_ 34 [(0, kv), (1, nv), (2, pv)] ?_
  rintro a A ⟨t0, t1, t2, -⟩
  have BW : Below V.heap.size V V := Below.refl _ _
  have BB := BW
  refine wp_seq ?_
  refine wi_ A (h3_ t0 t1 t2) (rf_ [] (h3_ t0 t1 t2) ?_)
  rintro a A - ⟨t0, t1, t2, -⟩
  refine wp_seq ?_
  refine wp_seq ?_
  refine wi_ A (h3_ t0 t1 t2) (rc_ 2 (pcheck27 h hn kv nv xv lk key q V (hK.on BB) (hN.on BB) hh) (cb_ fun X1 bQ => ?_))
  replace BB := BB.trans (bQ.mono BB.size)
  clear bQ
  refine rf_ [(8, .int .i64 ((wgE h hn lk : Nat) : Int))] (h3_ t0 t1 t2) ?_
  rintro a A ⟨t8, -⟩ ⟨t0, t1, t2, -⟩
  refine wp_seq ?_
  by_cases e1 : wgE h hn lk = 0
  · obtain ⟨w1, w2, w3, w4⟩ := wg_ok e1
    replace w3 := w3.symm
    subst w3
    refine wi_ A (h4_ t0 t1 t2 t8) (rv_ 1 (.bool false) (fun a ee => execDec (execNeE (p := wgE h h lk) (q := 0) rfl (ee _) rfl) (decide_eq_false (by omega))) (rf_ [(15, .bool false)] (h3_ t0 t1 t2) ?_))
    rintro a A ⟨t15, -⟩ ⟨t0, t1, t2, -⟩
    refine wp_cond_false t15 ?_
    refine wp_skip ?_
    clear t15
    refine wp_seq ?_
    refine wp_seq ?_
    by_cases e2 : 48 < n
    · refine wi_ A (h3_ t0 t1 t2) (rv_ 1 (.int .i64 ((n : Nat) : Int)) (fun a ee => execLenV (len := n) rfl (ee _) (shp (hP.on BB))) (rv_ 2 (.bool true) (fun a ee => execDec (execGtN (p := n) (q := 48) rfl (ee _) rfl) (decide_eq_true (by omega))) (rg_ [(19, .bool true)] ?_)))
      rintro a A ⟨t19, -⟩
      refine wp_cond_true t19 ?_
      clear t19
      refine wp_seq ?_
      refine wi_ A h0_ (rg_ [(6, .slice none 0 0), (7, .int .i64 ((1 : Nat) : Int))] ?_)
      rintro a A ⟨t6, t7, -⟩
      have er : rwE h h lk n = 1 := by rw [rw_wg, if_neg (by omega), if_pos e2]
      rw [er, show rwN h h lk n = 0 by unfold rwN; rw [er]; rfl]
      refine wp_ret ?_
      repeat (first | with_reducible refine ret_in ?_ | with_reducible refine ret_then ?_)
      refine bodyPost_ret (results_tmp2 rfl _ _ _) A.2 ⟨⟨_, ?_, World.ownsRow_nil _ _ _ _⟩, BB⟩
      show Ending.returned (.tuple #[a.eval (.tmp 6), a.eval (.tmp 7)]) = _
      rw [t6, t7]
    · refine wi_ A (h3_ t0 t1 t2) (rv_ 1 (.int .i64 ((n : Nat) : Int)) (fun a ee => execLenV (len := n) rfl (ee _) (shp (hP.on BB))) (rv_ 2 (.bool false) (fun a ee => execDec (execGtN (p := n) (q := 48) rfl (ee _) rfl) (decide_eq_false (by omega))) (rf_ [(19, .bool false)] (h3_ t0 t1 t2) ?_)))
      rintro a A ⟨t19, -⟩ ⟨t0, t1, t2, -⟩
      refine wp_cond_false t19 ?_
      refine wp_skip ?_
      clear t19
      have hn8 : n ≤ 48 := (by omega)
      refine wp_seq ?_
      refine wi_ A (h3_ t0 t1 t2) (rc_ 3 (player27 h _ _ xv lk key q n p _ X1 (hG.below BB hG.sz) (hK.on BB) (hN.on BB) w1 w2 w4 hn8 (hP.on BB) hPz) fun e X6 hh => ?_)
      obtain ⟨⟨v24, he, hk, hz_⟩, hb⟩ := hh
      refine ⟨_, he, ?_⟩
      have bQ : Below X1.heap.size X1 X6 := hb
      have FO : (SliceN X6 v24 (loN n h) (loF h (bks key q) q n p h)) := hk
      have FZ : (∀ l c, v24 = .slice none l c → c = 0) := hz_
      replace BB := BB.trans (bQ.mono BB.size)
      clear bQ
      refine rg_ [(9, v24), (10, .int .i64 ((0 : Nat) : Int))] ?_
      rintro a A ⟨t9, t10, -⟩
      refine wp_seq ?_
      refine wp_seq ?_
      refine wi_ A (h2_ t9 t10) (rv_ 1 (.bool false) (fun a ee => execDec (execNeE (p := 0) (q := 0) rfl (ee _) rfl) (decide_eq_false (by decide))) (rf_ [(28, .bool false)] (h1_ t9) ?_))
      rintro a A ⟨t28, -⟩ ⟨t9, -⟩
      refine wp_cond_false t28 ?_
      refine wp_skip ?_
      clear t28
      have er : rwE h h lk n = 0 := rwE_is w1 w2 rfl w4 hn8
      rw [er, show rwN h h lk n = 320 by unfold rwN; rw [er]; rfl]
      refine wp_seq ?_
      refine wi_ A (h1_ t9) (rc_ 1 (ppadL w2 hn8 X6 FO FZ) fun e X9 hh => ?_)
      obtain ⟨v31, he, hk, hb⟩ := hh
      refine ⟨_, he, ?_⟩
      have bQ : Below X6.heap.size X6 X9 := hb
      have FR : (X9.ownsRow V.heap.size 5 1 v31 320 (bytesL 320 (rwF h (bks key q) q n p))) := own_base hk (BB).size
      replace BB := BB.trans (bQ.mono BB.size)
      clear FO FZ bQ
      refine rg_ [(6, v31), (7, .int .i64 ((0 : Nat) : Int))] ?_
      rintro a A ⟨t6, t7, -⟩
      refine wp_ret ?_
      repeat (first | with_reducible refine ret_in ?_ | with_reducible refine ret_then ?_)
      refine bodyPost_ret (results_tmp2 rfl _ _ _) A.2 ⟨⟨_, ?_, FR⟩, BB⟩
      show Ending.returned (.tuple #[a.eval (.tmp 6), a.eval (.tmp 7)]) = _
      rw [t6, t7]
  · refine wi_ A (h4_ t0 t1 t2 t8) (rv_ 1 (.bool true) (fun a ee => execDec (execNeE (p := wgE h hn lk) (q := 0) rfl (ee _) rfl) (decide_eq_true (by omega))) (rf_ [(15, .bool true)] (h1_ t8) ?_))
    rintro a A ⟨t15, -⟩ ⟨t8, -⟩
    refine wp_cond_true t15 ?_
    clear t15
    refine wp_seq ?_
    refine wi_ A (h1_ t8) (rg_ [(6, .slice none 0 0), (7, .int .i64 ((wgE h hn lk : Nat) : Int))] ?_)
    rintro a A ⟨t6, t7, -⟩
    have er : rwE h hn lk n = wgE h hn lk := by rw [rw_wg, if_pos e1]
    rw [er, show rwN h hn lk n = 0 by unfold rwN; rw [er]; exact if_neg e1]
    refine wp_ret ?_
    repeat (first | with_reducible refine ret_in ?_ | with_reducible refine ret_then ?_)
    refine bodyPost_ret (results_tmp2 rfl _ _ _) A.2 ⟨⟨_, ?_, World.ownsRow_nil _ _ _ _⟩, BB⟩
    show Ending.returned (.tuple #[a.eval (.tmp 6), a.eval (.tmp 7)]) = _
    rw [t6, t7]
end Go.Proofs.YtaiiomoajjhliaaDoor.Rpl
