import Derived.Test.YtnjmcknanlbpdaaGreatDoorW8b
import Derived.Test.YtnjmcknanlbpdaaGreatDoorC6
import Derived.Test.YtnjmcknanlbpdaaGreatDoorX5k
namespace Go.Proofs.YtnjmcknanlbpdaaGreatDoor.Rpl
open Go.RowKit Gf8 Aes By8 Cel Cf Tap Drw Dro Oni Rou
/- Stage 27: the reference's Chain. Written by tools/mkW8c.py. -/

theorem execSubIg {o : Oper} {a : Act} {w : World} {x y : Operand} {p q z : Int} (ho : o.op = .binOp .sub 3 x y 3) (hx : a.eval x = .int .i64 p) (hy : a.eval y = .int .i64 q) (h : z = p - q) (h1 : -9223372036854775808 ≤ z) (h2 : z < 9223372036854775808) : (execOp a.eval o).run Tryz.prog w = .ok (.value (.int .i64 z)) w := by
  subst h
  unfold execOp
  simp only [ho, hx, hy]
  simp [go_sem, IntKind.wrap, show IntKind.i64.signed = true from rfl]
  omega
theorem wrapL {h n m : Nat} {kv nv ov : Value} {xv : Nat → Value} {lk : Nat → Nat} {key q : Nat → Nat → Nat} {p : Nat → Nat} {V : World} (hK : Ls V kv h xv lk key) (hN : Nons V nv h q) (hk : ∀ i, i < h → lk i = 32) (h8 : h ≤ 8) (hm : m < h) (hn : n ≤ 48) (hp : ∀ j, j < n → p j < 256) (X : World) (hX : Below V.heap.size V X) (ho : SliceN X ov (loN n m) (loF h (bks key q) q n p m)) :
    Calls Tryz.prog 9 #[xv (h - (m + 1)), .agg (bA 16 (q (h - (m + 1)))), .int .i64 ((m + 1 : Nat) : Int), ov] X fun e w' => ∃ r, e = .returned (.tuple #[r, .int .i64 ((0 : Nat) : Int)]) ∧ SliceN w' r (loN n (m + 1)) (loF h (bks key q) q n p (m + 1)) ∧ (∀ l c, r = .slice none l c → c = 0) ∧ Below X.heap.size X w' := by
  obtain ⟨e1, e2⟩ := lay_e hn (show m < 8 by omega)
  have hi : h - (m + 1) < h := by omega
  refine (rwrap27 (key (h - (m + 1))) (q (h - (m + 1))) (loF h (bks key q) q n p m) (lk (h - (m + 1))) (loN n m) ((m + 1 : Nat) : Int) (xv (h - (m + 1))) ov X (hN.by_ _ hi) ((hK.cell _ hi).on hX) ho (Nat.le_trans (loN_le hn (by omega)) (by omega))).mono ?_
  rintro e w' ⟨⟨r, he, hr⟩, hb⟩
  rw [hk _ hi, e1] at he
  rw [hk _ hi, e2] at hr
  exact ⟨r, he, own_slice hr fun j hj => loF_lt hN.by_ hn hp (m + 1) (by omega) (by omega) j hj, own_nilI hr, hb⟩
theorem padL {h n : Nat} {ov : Value} {key q : Nat → Nat → Nat} {p : Nat → Nat} (h8 : h ≤ 8) (hn : n ≤ 48) (X : World) (ho : SliceN X ov (loN n h) (loF h (bks key q) q n p h)) (hz : ∀ l c, ov = .slice none l c → c = 0) :
    Calls Tryz.prog 20 #[ov] X fun e w' => ∃ r, e = .returned (.tuple #[r, .int .i64 ((0 : Nat) : Int)]) ∧ w'.ownsRow X.heap.size 5 1 r 320 (bytesL 320 (rwF h (bks key q) q n p)) ∧ Below X.heap.size X w' := by
  have hl := loN_le hn h8
  refine (rpad_any _ _ ov X ⟨ho, hz⟩ (by omega)).mono ?_
  rintro e w' ⟨r, he, hr, hb⟩
  rw [show okE 320 (loN n h) = 0 from if_pos hl] at he
  rw [show okN 320 (loN n h) = 320 from if_pos hl] at hr
  exact ⟨r, he, hr, hb⟩
set_option maxRecDepth 100000 in
set_option maxHeartbeats 4000000 in
/-- The reference's Chain. -/
theorem rchain27 (h hn : Nat) (kv nv : Value) (xv : Nat → Value) (lk : Nat → Nat) (key q : Nat → Nat → Nat) (V : World) (hK : Ls V kv h xv lk key) (hN : Nons V nv hn q) (hh : h ≤ 140737488351232) (n : Nat) (p : Nat → Nat) (pv : Value) (hP : SliceN V pv n p) (hPz : ∀ l c, pv = .slice none l c → c = 0) :
    Calls Tryz.prog 11 #[kv, nv, pv] V fun e w' => (∃ r, e = .returned (.tuple #[r, .int .i64 ((rwE h hn lk n : Nat) : Int)]) ∧ w'.ownsRow V.heap.size 5 1 r (rwN h hn lk n) (bytesL (rwN h hn lk n) (rwF h (bks key q) q n p))) ∧ Below V.heap.size V w' := by
  go_enter Tryz.func11, Tryz.ntmps11
  refine wo_ 50 [(0, kv), (1, nv), (2, pv)] ?_
  rintro a A ⟨t0, t1, t2, -⟩
  have BW : Below V.heap.size V V := Below.refl _ _
  have BB := BW
  refine wp_seq ?_
  refine wi_ A (h3_ t0 t1 t2) (rf_ [] (h3_ t0 t1 t2) ?_)
  rintro a A - ⟨t0, t1, t2, -⟩
  refine wp_seq ?_
  refine wi_ A (h3_ t0 t1 t2) (rc_ 2 (wrong27 h hn kv nv xv lk key q V (hK.on BB) (hN.on BB) hh) (cb_ fun X1 bQ => ?_))
  replace BB := BB.trans (bQ.mono BB.size)
  clear bQ
  refine rf_ [(8, .int .i64 ((wgE h hn lk : Nat) : Int))] (h3_ t0 t1 t2) ?_
  rintro a A ⟨t8, -⟩ ⟨t0, t1, t2, -⟩
  refine wp_seq ?_
  refine wp_seq ?_
  by_cases e1 : wgE h hn lk = 0
  · obtain ⟨w1, w2, w3, w4⟩ := wg_ok e1
    replace w3 := w3.symm
    subst w3
    refine wi_ A (h4_ t0 t1 t2 t8) (rv_ 1 (.bool false) (fun a ee => execDec (execNeN (p := wgE h h lk) (q := 0) rfl (ee _) rfl) (decide_eq_false (by omega))) (rf_ [(16, .bool false)] (h3_ t0 t1 t2) ?_))
    rintro a A ⟨t16, -⟩ ⟨t0, t1, t2, -⟩
    refine wp_cond_false t16 ?_
    refine wp_skip ?_
    clear t16
    refine wp_seq ?_
    refine wp_seq ?_
    by_cases e2 : 48 < n
    · refine wi_ A (h3_ t0 t1 t2) (rv_ 1 (.int .i64 ((n : Nat) : Int)) (fun a ee => execLenV (len := n) rfl (ee _) (shp (hP.on BB))) (rv_ 2 (.bool true) (fun a ee => execDec (execGtN (p := n) (q := 48) rfl (ee _) rfl) (decide_eq_true (by omega))) (rg_ [(20, .bool true)] ?_)))
      rintro a A ⟨t20, -⟩
      refine wp_cond_true t20 ?_
      clear t20
      refine wp_seq ?_
      refine wi_ A h0_ (rg_ [(6, .slice none 0 0), (7, .int .i64 ((1 : Nat) : Int))] ?_)
      rintro a A ⟨t6, t7, -⟩
      have er : rwE h h lk n = 1 := by rw [rw_wg, if_neg (by omega), if_pos e2]
      rw [er, show rwN h h lk n = 0 by unfold rwN; rw [er]; rfl]
      refine wp_ret ?_
      repeat (first | with_reducible refine ret_in ?_ | with_reducible refine ret_then ?_)
      refine bodyPost_ret (results_tmp2 rfl _ _ _) A.2 ⟨⟨_, ?_, World.ownsRow_nil _ _ _ _⟩, BB⟩
      show Ending.returned (.tuple #[a.eval (.tmp 6), a.eval (.tmp 7)]) = _
      rw [t6, t7]
    · refine wi_ A (h3_ t0 t1 t2) (rv_ 1 (.int .i64 ((n : Nat) : Int)) (fun a ee => execLenV (len := n) rfl (ee _) (shp (hP.on BB))) (rv_ 2 (.bool false) (fun a ee => execDec (execGtN (p := n) (q := 48) rfl (ee _) rfl) (decide_eq_false (by omega))) (rf_ [(20, .bool false)] (h3_ t0 t1 t2) ?_)))
      rintro a A ⟨t20, -⟩ ⟨t0, t1, t2, -⟩
      refine wp_cond_false t20 ?_
      refine wp_skip ?_
      clear t20
      have hn8 : n ≤ 48 := (by omega)
      refine wp_seq ?_
      refine wi_ A (h3_ t0 t1 t2) (rf_ [(9, pv)] (h2_ t0 t1) ?_)
      rintro a A ⟨t9, -⟩ ⟨t0, t1, -⟩
      refine wp_seq ?_
      refine wi_ A (h3_ t0 t1 t9) (rv_ 1 (.int .i64 ((h : Nat) : Int)) (fun a ee => execLenLL rfl (ee _) (hK.on BB).shp) (rf_ [(10, .int .i64 ((h : Nat) : Int))] (h3_ t0 t1 t9) ?_))
      rintro a A ⟨t10, -⟩ ⟨t0, t1, t9, -⟩
      refine wp_seq ?_
      refine wp_seq ?_
      refine wi_ A (h4_ t0 t1 t9 t10) (rv_ 1 (.int .i64 (((h : Nat) : Int) - 1 - ((0 : Nat) : Int))) (fun a ee => execSubIg (p := ((h : Nat) : Int)) (q := 1) rfl (ee _) rfl (by omega) (by omega) (by omega)) (rf_ [(11, .int .i64 (((h : Nat) : Int) - 1 - ((0 : Nat) : Int)))] (h4_ t0 t1 t9 t10) ?_))
      rintro a A ⟨t11, -⟩ ⟨t0, t1, t9, t10, -⟩
      have FO : (SliceN X1 pv (loN n 0) (loF h (bks key q) q n p 0)) := hP.on BB
      refine wp_block ?_
      refine wp_loop (fun a W => ∃ (m : Nat) (ov : Value), m ≤ h ∧ (∀ l c, ov = .slice none l c → c = 0) ∧ (a.tmps.size = 50 ∧ a.defers = []) ∧ a.eval (.tmp 0) = kv ∧ a.eval (.tmp 1) = nv ∧ a.eval (.tmp 9) = ov ∧ a.eval (.tmp 10) = .int .i64 ((h : Nat) : Int) ∧ a.eval (.tmp 11) = .int .i64 (((h : Nat) : Int) - 1 - ((m : Nat) : Int)) ∧ Below V.heap.size V W ∧ (SliceN W ov (loN n m) (loF h (bks key q) q n p m))) (fun a _ => (intOf (a.eval (.tmp 11)) + 1).toNat) ⟨0, pv, Nat.zero_le _, hPz, A, t0, t1, t9, t10, t11, BB, FO⟩ ?_
      clear A t0 t1 t9 t10 t11 BB FO a
      rintro a XL ⟨m, ov, hm, hz, A, t0, t1, t9, t10, t11, BB, FO⟩
      have es := t11
      refine wp_seq ?_
      refine wp_seq ?_
      by_cases hlt : m < h
      · refine wi_ A (h5_ t0 t1 t9 t10 t11) (rv_ 1 (.bool true) (fun a ee => execGeIt (q := 0) rfl (ee _) rfl (by omega)) (rf_ [(27, .bool true)] (h5_ t0 t1 t9 t10 t11) ?_))
        rintro a A ⟨t27, -⟩ ⟨t0, t1, t9, t10, t11, -⟩
        refine wp_cond_true t27 ?_
        refine wp_skip ?_
        clear t27
        have ei : ((h : Nat) : Int) - 1 - ((m : Nat) : Int) = ((h - (m + 1) : Nat) : Int) := by omega
        rw [ei] at t11
        obtain ⟨le1, le2⟩ := lay_e hn8 (show m < 8 by omega)
        have lki := w4 (h - (m + 1)) (by omega)
        have lol := loN_le hn8 (show m ≤ 8 by omega)
        have h8_ : h ≤ 8 := (by omega)
        refine wp_seq ?_
        refine wp_block ?_
        refine wj_ [0, 1, 2, 3, 4, 5, 6, 7, 8, 9, 10, 11, 12, 13, 14, 15, 16] [12] [2, 3, 6, 7] [] A (h5_ t0 t1 t9 t10 t11) (fun X11_0 bD => ?_)
        refine dv_ 2 (.pointer (some ⟨adB kv, adO kv + (h - (m + 1)), none⟩)) (fun a X ee hb => execIdxLs (k := h - (m + 1)) (hK.on (BB.trans (hb.mono BB.size))) rfl (ee _) (ee _) (show h - (m + 1) < h by omega)) (dv_ 3 (xv (h - (m + 1))) (fun a X ee hb => execLdLs (k := h - (m + 1)) (hK.on (BB.trans (hb.mono BB.size))) rfl (ee _) (show h - (m + 1) < h by omega)) (dv_ 6 (.pointer (some ⟨adB nv, adO nv + (h - (m + 1)) * 16, none⟩)) (fun a X ee hb => execIdxNs (k := h - (m + 1)) (hN.on (BB.trans (hb.mono BB.size))) rfl (ee _) (ee _) (show h - (m + 1) < h by omega)) (dv_ 7 (.agg (bA 16 (q (h - (m + 1))))) (fun a X ee hb => execLdNs (k := h - (m + 1)) (hN.on (BB.trans (hb.mono BB.size))) rfl (ee _) (show h - (m + 1) < h by omega)) (dw_ 10 (.int .i64 ((m + 1 : Nat) : Int)) (fun a X ee => execSubJ (p := h) (q := h - (m + 1)) (r := m + 1) rfl (ee _) (ee _) (by omega) (by omega)) (dc_ 12 (wrapL hK hN w4 h8_ hlt hn8 hP.bytes X11_0 (BB.trans (bD.mono BB.size)) (FO.on bD)) fun e X11 hh => ?_)))))
        obtain ⟨v43, he, hk, hz_, hb⟩ := hh
        refine ⟨_, he, ?_⟩
        have bQ : Below X11_0.heap.size X11_0 X11 := hb
        have FO2 : (SliceN X11 v43 (loN n (m + 1)) (loF h (bks key q) q n p (m + 1))) := hk
        have FZ : (∀ l c, v43 = .slice none l c → c = 0) := hz_
        replace bD := bD.trans (bQ.mono bD.size)
        clear bQ FO
        refine ⟨Or.inr bD, ?_⟩
        refine dz_ [(9, v43)] (h4_ t0 t1 t10 t11) ?_
        rintro a A ⟨t9, -⟩ ⟨t0, t1, t10, t11, -⟩
        replace BB := BB.trans (bD.mono BB.size)
        clear bD
        rw [← ei] at t11
        refine wi_ A (h5_ t0 t1 t9 t10 t11) (rv_ 1 (.int .i64 (((h : Nat) : Int) - 1 - ((m + 1 : Nat) : Int))) (fun a ee => execSubIg (p := ((h : Nat) : Int) - 1 - ((m : Nat) : Int)) (q := 1) rfl (ee _) rfl (by omega) (by omega) (by omega)) (rf_ [(11, .int .i64 (((h : Nat) : Int) - 1 - ((m + 1 : Nat) : Int)))] (h4_ t0 t1 t9 t10) ?_))
        rintro a A ⟨t11, -⟩ ⟨t0, t1, t9, t10, -⟩
        exact ⟨⟨m + 1, v43, hlt, FZ, A, t0, t1, t9, t10, t11, BB, FO2⟩, by show (intOf (a.eval (.tmp 11)) + 1).toNat < (intOf (Act.eval _ (.tmp 11)) + 1).toNat; rw [t11, es]; show (((h : Nat) : Int) - 1 - ((m + 1 : Nat) : Int) + 1).toNat < (((h : Nat) : Int) - 1 - ((m : Nat) : Int) + 1).toNat; omega⟩
      · refine wi_ A (h5_ t0 t1 t9 t10 t11) (rv_ 1 (.bool false) (fun a ee => execGeIf (q := 0) rfl (ee _) rfl (by omega)) (rf_ [(27, .bool false)] (h1_ t9) ?_))
        rintro a A ⟨t27, -⟩ ⟨t9, -⟩
        refine wp_cond_false t27 ?_
        refine wp_exit ?_
        first | with_reducible refine exit_in ?_ | with_reducible refine exit_then (exit_in ?_) | with_reducible refine exit_then (exit_then (exit_in ?_)) | refine exit_in ?_ | refine exit_then (exit_in ?_) | refine exit_then (exit_then (exit_in ?_))
        clear t27
        have emh : m = h := (by omega)
        rw [emh] at FO
        have h8_ : h ≤ 8 := (by omega)
        have er : rwE h h lk n = 0 := rwE_is w1 w2 rfl w4 hn8
        rw [er, show rwN h h lk n = 320 by unfold rwN; rw [er]; rfl]
        refine wp_seq ?_
        refine wi_ A (h1_ t9) (rc_ 1 (padL h8_ hn8 XL FO hz) fun e X12 hh => ?_)
        obtain ⟨v47, he, hk, hb⟩ := hh
        refine ⟨_, he, ?_⟩
        have bQ : Below XL.heap.size XL X12 := hb
        have FR : (X12.ownsRow V.heap.size 5 1 v47 320 (bytesL 320 (rwF h (bks key q) q n p))) := own_base hk (BB).size
        replace BB := BB.trans (bQ.mono BB.size)
        clear FO bQ
        refine rg_ [(6, v47), (7, .int .i64 ((0 : Nat) : Int))] ?_
        rintro a A ⟨t6, t7, -⟩
        refine wp_ret ?_
        repeat (first | with_reducible refine ret_in ?_ | with_reducible refine ret_then ?_)
        refine bodyPost_ret (results_tmp2 rfl _ _ _) A.2 ⟨⟨_, ?_, FR⟩, BB⟩
        show Ending.returned (.tuple #[a.eval (.tmp 6), a.eval (.tmp 7)]) = _
        rw [t6, t7]
  · refine wi_ A (h4_ t0 t1 t2 t8) (rv_ 1 (.bool true) (fun a ee => execDec (execNeN (p := wgE h hn lk) (q := 0) rfl (ee _) rfl) (decide_eq_true (by omega))) (rf_ [(16, .bool true)] (h1_ t8) ?_))
    rintro a A ⟨t16, -⟩ ⟨t8, -⟩
    refine wp_cond_true t16 ?_
    clear t16
    refine wp_seq ?_
    refine wi_ A (h1_ t8) (rg_ [(6, .slice none 0 0), (7, .int .i64 ((wgE h hn lk : Nat) : Int))] ?_)
    rintro a A ⟨t6, t7, -⟩
    have er : rwE h hn lk n = wgE h hn lk := by rw [rw_wg, if_pos e1]
    rw [er, show rwN h hn lk n = 0 by unfold rwN; rw [er]; exact if_neg e1]
    refine wp_ret ?_
    repeat (first | with_reducible refine ret_in ?_ | with_reducible refine ret_then ?_)
    refine bodyPost_ret (results_tmp2 rfl _ _ _) A.2 ⟨⟨_, ?_, World.ownsRow_nil _ _ _ _⟩, BB⟩
    show Ending.returned (.tuple #[a.eval (.tmp 6), a.eval (.tmp 7)]) = _
    rw [t6, t7]
end Go.Proofs.YtnjmcknanlbpdaaGreatDoor.Rpl

namespace Go.Proofs.YtnjmcknanlbpdaaGreatDoor.Rpl
open Go.RowKit Gf8 Aes By8 Cel Cf Tap Drw Dro Oni Rou
/- Stage 27: the reference's Open. Written by tools/mkW8d.py. -/

section
variable {o : Oper} {a : Act} {w : World}
theorem execAlPe (ho : o.op = .alloc 50) : (execOp a.eval o).run Tryz.prog w = .ok (.value (.pointer (some ⟨w.heap.size, 0, none⟩))) (w.alloc (.cells (pC (.slice none 0 0) fun _ => 0) 50)) := by
  have h := zeroP
  unfold execOp
  simp only [ho]
  simp [go_sem, h]
theorem execStPe {x y : Operand} {g : Nat} {u u2 : Value} {r r2 : Nat → Nat} (ho : o.op = .store 50 x y) (hx : a.eval x = .pointer (some ⟨g, 0, none⟩)) (hy : a.eval y = .agg (pC u2 r2)) (hg : w.heap[g]? = some (.cells (pC u r) 50)) (hu : u2.oneCell' = true) : (execOp a.eval o).run Tryz.prog w = .ok .skip (w.setRow g (pC u2 r2)) := by
  have h := Aes.execStMid (P := Tryz.prog) ho hx hy hg (by rw [pC_size, pC_size]; omega) (sizeP u2 r2) (pC_one r2 hu)
  rw [h, List.take_zero, List.nil_append, List.drop_eq_nil_of_le (by rw [Array.length_toList, pC_size, pC_size]; omega), List.append_nil]
end
theorem wkl_le {len : Nat} (h : len ≤ 140737488351232) : ∀ i, wkL len i ≤ 140737488351232
  | 0 => h
  | _ + 1 => by show 320 ≤ _; omega
theorem own_one2 {W : World} {B n : Nat} {v : Value} {xs : List Value} (h : W.ownsRow B 5 1 v n xs) : v.oneCell' = true := by
  obtain ⟨a, c, e⟩ := ownQ_shape h
  rw [e]
  rfl
theorem pc_at0 {W : World} {g : Nat} {u : Value} {r : Nat → Nat} (h : W.heap[g]? = some (.cells (pC u r) 50)) : W.cell? ⟨g, 0, none⟩ = some u := by
  rw [cell_of_row _ _ _ _ _ _ h]
  rfl
end Go.Proofs.YtnjmcknanlbpdaaGreatDoor.Rpl
