import Derived.Test.YteekoabgbjbabaaGreatDoorW8b
import Derived.Test.YteekoabgbjbabaaGreatDoorC6
import Derived.Test.YteekoabgbjbabaaGreatDoorX5k
import Derived.Test.YteekoabgbjbabaaGreatDoorX6l
import Derived.Test.YteekoabgbjbabaaGreatDoorB7f
namespace Go.Proofs.YteekoabgbjbabaaGreatDoor.Rpl
open Go.RowKit Gf8 Aes By8 Cel Cf Tap Drw Dro Oni Rou
/- Stage 27: the reference's Chain. Written by tools/mkW8c.py. -/

theorem execSubIg {o : Oper} {a : Act} {w : World} {x y : Operand} {p q z : Int} (ho : o.op = .binOp .sub 3 x y 3) (hx : a.eval x = .int .i64 p) (hy : a.eval y = .int .i64 q) (h : z = p - q) (h1 : -9223372036854775808 ≤ z) (h2 : z < 9223372036854775808) : (execOp a.eval o).run Tryz.prog w = .ok (.value (.int .i64 z)) w := by
  subst h
  unfold execOp
  simp only [ho, hx, hy]
  simp [go_sem, IntKind.wrap, show IntKind.i64.signed = true from rfl]
  omega
theorem wrapL {h n m : Nat} {kv nv ov : Value} {xv : Nat → Value} {lk : Nat → Nat} {key q : Nat → Nat → Nat} {p : Nat → Nat} {V : World} (hK : Ls V kv h xv lk key) (hN : Nons V nv h q) (hk : ∀ i, i < h → lk i = 32) (h8 : h ≤ 8) (hm : m < h) (hn : n ≤ 48) (hp : ∀ j, j < n → p j < 256) (X : World) (hX : Below V.heap.size V X) (ho : SliceN X ov (loN n m) (loF h (bks key q) q n p m)) :
    Calls Tryz.prog 13 #[xv (h - (m + 1)), .agg (bA 16 (q (h - (m + 1)))), .int .i64 ((m + 1 : Nat) : Int), ov] X fun e w' => ∃ r, e = .returned (.tuple #[r, .int .i64 ((0 : Nat) : Int)]) ∧ SliceN w' r (loN n (m + 1)) (loF h (bks key q) q n p (m + 1)) ∧ (∀ l c, r = .slice none l c → c = 0) ∧ Below X.heap.size X w' := by
  obtain ⟨e1, e2⟩ := lay_e hn (show m < 8 by omega)
  have hi : h - (m + 1) < h := by omega
  refine (rwrap27 (key (h - (m + 1))) (q (h - (m + 1))) (loF h (bks key q) q n p m) (lk (h - (m + 1))) (loN n m) ((m + 1 : Nat) : Int) (xv (h - (m + 1))) ov X (hN.by_ _ hi) ((hK.cell _ hi).on hX) ho (Nat.le_trans (loN_le hn (by omega)) (by omega))).mono ?_
  rintro e w' ⟨⟨r, he, hr⟩, hb⟩
  rw [hk _ hi, e1] at he
  rw [hk _ hi, e2] at hr
  exact ⟨r, he, own_slice hr fun j hj => loF_lt hN.by_ hn hp (m + 1) (by omega) (by omega) j hj, own_nilI hr, hb⟩
theorem padL {h n : Nat} {ov : Value} {key q : Nat → Nat → Nat} {p : Nat → Nat} (h8 : h ≤ 8) (hn : n ≤ 48) (X : World) (ho : SliceN X ov (loN n h) (loF h (bks key q) q n p h)) (hz : ∀ l c, ov = .slice none l c → c = 0) :
    Calls Tryz.prog 14 #[ov] X fun e w' => ∃ r, e = .returned (.tuple #[r, .int .i64 ((0 : Nat) : Int)]) ∧ w'.ownsRow X.heap.size 5 1 r 320 (bytesL 320 (rwF h (bks key q) q n p)) ∧ Below X.heap.size X w' := by
  have hl := loN_le hn h8
  refine (rpad_any _ _ ov X ⟨ho, hz⟩ (by omega)).mono ?_
  rintro e w' ⟨r, he, hr, hb⟩
  rw [show okE 320 (loN n h) = 0 from if_pos hl] at he
  rw [show okN 320 (loN n h) = 320 from if_pos hl] at hr
  exact ⟨r, he, hr, hb⟩
set_option maxRecDepth 100000 in
set_option maxHeartbeats 4000000 in
/-- The reference's Chain. -/
theorem rchain27 (h hn : Nat) (kv nv : Value) (xv : Nat → Value) (lk : Nat → Nat) (key q : Nat → Nat → Nat) (V : World) (hK : Ls V kv h xv lk key) (hN : Nons V nv hn q) (hh : h ≤ 140737488351232) (n : Nat) (p : Nat → Nat) (pv : Value) (hP : SliceN V pv n p) (hPz : ∀ l c, pv = .slice none l c → c = 0) :
    Calls Tryz.prog 6 #[kv, nv, pv] V fun e w' => (∃ r, e = .returned (.tuple #[r, .int .i64 ((rwE h hn lk n : Nat) : Int)]) ∧ w'.ownsRow V.heap.size 5 1 r (rwN h hn lk n) (bytesL (rwN h hn lk n) (rwF h (bks key q) q n p))) ∧ Below V.heap.size V w' := by
  go_enter Tryz.func6, Tryz.ntmps6
  refine wo_ 50 [(0, kv), (1, nv), (2, pv)] ?_
  rintro a A ⟨t0, t1, t2, -⟩
  have BW : Below V.heap.size V V := Below.refl _ _
  have BB := BW
  refine wp_seq ?_
  refine wi_ A (h3_ t0 t1 t2) (rf_ [] (h3_ t0 t1 t2) ?_)
  rintro a A - ⟨t0, t1, t2, -⟩
  refine wp_seq ?_
  refine wi_ A (h3_ t0 t1 t2) (rc_ 2 (wrong27 h hn kv nv xv lk key q V (hK.on BB) (hN.on BB) hh) (cb_ fun X1 bQ => ?_))
  replace BB := BB.trans (bQ.mono BB.size)
  clear bQ
  refine rf_ [(8, .int .i64 ((wgE h hn lk : Nat) : Int))] (h3_ t0 t1 t2) ?_
  rintro a A ⟨t8, -⟩ ⟨t0, t1, t2, -⟩
  refine wp_seq ?_
  refine wp_seq ?_
  by_cases e1 : wgE h hn lk = 0
  · obtain ⟨w1, w2, w3, w4⟩ := wg_ok e1
    replace w3 := w3.symm
    subst w3
    refine wi_ A (h4_ t0 t1 t2 t8) (rv_ 1 (.bool false) (fun a ee => execDec (execNeN (p := wgE h h lk) (q := 0) rfl (ee _) rfl) (decide_eq_false (by omega))) (rf_ [(16, .bool false)] (h3_ t0 t1 t2) ?_))
    rintro a A ⟨t16, -⟩ ⟨t0, t1, t2, -⟩
    refine wp_cond_false t16 ?_
    refine wp_skip ?_
    clear t16
    refine wp_seq ?_
    refine wp_seq ?_
    by_cases e2 : 48 < n
    · refine wi_ A (h3_ t0 t1 t2) (rv_ 1 (.int .i64 ((n : Nat) : Int)) (fun a ee => execLenV (len := n) rfl (ee _) (shp (hP.on BB))) (rv_ 2 (.bool true) (fun a ee => execDec (execGtN (p := n) (q := 48) rfl (ee _) rfl) (decide_eq_true (by omega))) (rg_ [(20, .bool true)] ?_)))
      rintro a A ⟨t20, -⟩
      refine wp_cond_true t20 ?_
      clear t20
      refine wp_seq ?_
      refine wi_ A h0_ (rg_ [(6, .slice none 0 0), (7, .int .i64 ((1 : Nat) : Int))] ?_)
      rintro a A ⟨t6, t7, -⟩
      have er : rwE h h lk n = 1 := by rw [rw_wg, if_neg (by omega), if_pos e2]
      rw [er, show rwN h h lk n = 0 by unfold rwN; rw [er]; rfl]
      refine wp_ret ?_
      repeat (first | with_reducible refine ret_in ?_ | with_reducible refine ret_then ?_)
      refine bodyPost_ret (results_tmp2 rfl _ _ _) A.2 ⟨⟨_, ?_, World.ownsRow_nil _ _ _ _⟩, BB⟩
      show Ending.returned (.tuple #[a.eval (.tmp 6), a.eval (.tmp 7)]) = _
      rw [t6, t7]
    · refine wi_ A (h3_ t0 t1 t2) (rv_ 1 (.int .i64 ((n : Nat) : Int)) (fun a ee => execLenV (len := n) rfl (ee _) (shp (hP.on BB))) (rv_ 2 (.bool false) (fun a ee => execDec (execGtN (p := n) (q := 48) rfl (ee _) rfl) (decide_eq_false (by omega))) (rf_ [(20, .bool false)] (h3_ t0 t1 t2) ?_)))
      rintro a A ⟨t20, -⟩ ⟨t0, t1, t2, -⟩
      refine wp_cond_false t20 ?_
      refine wp_skip ?_
      clear t20
      have hn8 : n ≤ 48 := (by omega)
      refine wp_seq ?_
      refine wi_ A (h3_ t0 t1 t2) (rf_ [(9, pv)] (h2_ t0 t1) ?_)
      rintro a A ⟨t9, -⟩ ⟨t0, t1, -⟩
      refine wp_seq ?_
      refine wi_ A (h3_ t0 t1 t9) (rv_ 1 (.int .i64 ((h : Nat) : Int)) (fun a ee => execLenLL rfl (ee _) (hK.on BB).shp) (rf_ [(10, .int .i64 ((h : Nat) : Int))] (h3_ t0 t1 t9) ?_))
      rintro a A ⟨t10, -⟩ ⟨t0, t1, t9, -⟩
      refine wp_seq ?_
      refine wp_seq ?_
      refine wi_ A (h4_ t0 t1 t9 t10) (rv_ 1 (.int .i64 (((h : Nat) : Int) - 1 - ((0 : Nat) : Int))) (fun a ee => execSubIg (p := ((h : Nat) : Int)) (q := 1) rfl (ee _) rfl (by omega) (by omega) (by omega)) (rf_ [(11, .int .i64 (((h : Nat) : Int) - 1 - ((0 : Nat) : Int)))] (h4_ t0 t1 t9 t10) ?_))
      rintro a A ⟨t11, -⟩ ⟨t0, t1, t9, t10, -⟩
      have FO : (SliceN X1 pv (loN n 0) (loF h (bks key q) q n p 0)) := hP.on BB
      refine wp_block ?_
      refine wp_loop (fun a W => ∃ (m : Nat) (ov : Value), m ≤ h ∧ (∀ l c, ov = .slice none l c → c = 0) ∧ (a.tmps.size = 50 ∧ a.defers = []) ∧ a.eval (.tmp 0) = kv ∧ a.eval (.tmp 1) = nv ∧ a.eval (.tmp 9) = ov ∧ a.eval (.tmp 10) = .int .i64 ((h : Nat) : Int) ∧ a.eval (.tmp 11) = .int .i64 (((h : Nat) : Int) - 1 - ((m : Nat) : Int)) ∧ Below V.heap.size V W ∧ (SliceN W ov (loN n m) (loF h (bks key q) q n p m))) (fun a _ => (intOf (a.eval (.tmp 11)) + 1).toNat) ⟨0, pv, Nat.zero_le _, hPz, A, t0, t1, t9, t10, t11, BB, FO⟩ ?_
      clear A t0 t1 t9 t10 t11 BB FO a
      rintro a XL ⟨m, ov, hm, hz, A, t0, t1, t9, t10, t11, BB, FO⟩
      have es := t11
      refine wp_seq ?_
      refine wp_seq ?_
      by_cases hlt : m < h
      · refine wi_ A (h5_ t0 t1 t9 t10 t11) (rv_ 1 (.bool true) (fun a ee => execGeIt (q := 0) rfl (ee _) rfl (by omega)) (rf_ [(27, .bool true)] (h5_ t0 t1 t9 t10 t11) ?_))
        rintro a A ⟨t27, -⟩ ⟨t0, t1, t9, t10, t11, -⟩
        refine wp_cond_true t27 ?_
        refine wp_skip ?_
        clear t27
        have ei : ((h : Nat) : Int) - 1 - ((m : Nat) : Int) = ((h - (m + 1) : Nat) : Int) := by omega
        rw [ei] at t11
        obtain ⟨le1, le2⟩ := lay_e hn8 (show m < 8 by omega)
        have lki := w4 (h - (m + 1)) (by omega)
        have lol := loN_le hn8 (show m ≤ 8 by omega)
        have h8_ : h ≤ 8 := (by omega)
        refine wp_seq ?_
        refine wp_block ?_
        refine wj_ [0, 1, 2, 3, 4, 5, 6, 7, 8, 9, 10, 11, 12, 13, 14, 15, 16] [12] [2, 3, 6, 7] [] A (h5_ t0 t1 t9 t10 t11) (fun X11_0 bD => ?_)
        refine dv_ 2 (.pointer (some ⟨adB kv, adO kv + (h - (m + 1)), none⟩)) (fun a X ee hb => execIdxLs (k := h - (m + 1)) (hK.on (BB.trans (hb.mono BB.size))) rfl (ee _) (ee _) (show h - (m + 1) < h by omega)) (dv_ 3 (xv (h - (m + 1))) (fun a X ee hb => execLdLs (k := h - (m + 1)) (hK.on (BB.trans (hb.mono BB.size))) rfl (ee _) (show h - (m + 1) < h by omega)) (dv_ 6 (.pointer (some ⟨adB nv, adO nv + (h - (m + 1)) * 16, none⟩)) (fun a X ee hb => execIdxNs (k := h - (m + 1)) (hN.on (BB.trans (hb.mono BB.size))) rfl (ee _) (ee _) (show h - (m + 1) < h by omega)) (dv_ 7 (.agg (bA 16 (q (h - (m + 1))))) (fun a X ee hb => execLdNs (k := h - (m + 1)) (hN.on (BB.trans (hb.mono BB.size))) rfl (ee _) (show h - (m + 1) < h by omega)) (dw_ 10 (.int .i64 ((m + 1 : Nat) : Int)) (fun a X ee => execSubJ (p := h) (q := h - (m + 1)) (r := m + 1) rfl (ee _) (ee _) (by omega) (by omega)) (dc_ 12 (wrapL hK hN w4 h8_ hlt hn8 hP.bytes X11_0 (BB.trans (bD.mono BB.size)) (FO.on bD)) fun e X11 hh => ?_)))))
        obtain ⟨v43, he, hk, hz_, hb⟩ := hh
        refine ⟨_, he, ?_⟩
        have bQ : Below X11_0.heap.size X11_0 X11 := hb
        have FO2 : (SliceN X11 v43 (loN n (m + 1)) (loF h (bks key q) q n p (m + 1))) := hk
        have FZ : (∀ l c, v43 = .slice none l c → c = 0) := hz_
        replace bD := bD.trans (bQ.mono bD.size)
        clear bQ FO
        refine ⟨Or.inr bD, ?_⟩
        refine dz_ [(9, v43)] (h4_ t0 t1 t10 t11) ?_
        rintro a A ⟨t9, -⟩ ⟨t0, t1, t10, t11, -⟩
        replace BB := BB.trans (bD.mono BB.size)
        clear bD
        rw [← ei] at t11
        refine wi_ A (h5_ t0 t1 t9 t10 t11) (rv_ 1 (.int .i64 (((h : Nat) : Int) - 1 - ((m + 1 : Nat) : Int))) (fun a ee => execSubIg (p := ((h : Nat) : Int) - 1 - ((m : Nat) : Int)) (q := 1) rfl (ee _) rfl (by omega) (by omega) (by omega)) (rf_ [(11, .int .i64 (((h : Nat) : Int) - 1 - ((m + 1 : Nat) : Int)))] (h4_ t0 t1 t9 t10) ?_))
        rintro a A ⟨t11, -⟩ ⟨t0, t1, t9, t10, -⟩
        exact ⟨⟨m + 1, v43, hlt, FZ, A, t0, t1, t9, t10, t11, BB, FO2⟩, by show (intOf (a.eval (.tmp 11)) + 1).toNat < (intOf (Act.eval _ (.tmp 11)) + 1).toNat; rw [t11, es]; show (((h : Nat) : Int) - 1 - ((m + 1 : Nat) : Int) + 1).toNat < (((h : Nat) : Int) - 1 - ((m : Nat) : Int) + 1).toNat; omega⟩
      · refine wi_ A (h5_ t0 t1 t9 t10 t11) (rv_ 1 (.bool false) (fun a ee => execGeIf (q := 0) rfl (ee _) rfl (by omega)) (rf_ [(27, .bool false)] (h1_ t9) ?_))
        rintro a A ⟨t27, -⟩ ⟨t9, -⟩
        refine wp_cond_false t27 ?_
        refine wp_exit ?_
        first | with_reducible refine exit_in ?_ | with_reducible refine exit_then (exit_in ?_) | with_reducible refine exit_then (exit_then (exit_in ?_)) | refine exit_in ?_ | refine exit_then (exit_in ?_) | refine exit_then (exit_then (exit_in ?_))
        clear t27
        have emh : m = h := (by omega)
        rw [emh] at FO
        have h8_ : h ≤ 8 := (by omega)
        have er : rwE h h lk n = 0 := rwE_is w1 w2 rfl w4 hn8
        rw [er, show rwN h h lk n = 320 by unfold rwN; rw [er]; rfl]
        refine wp_seq ?_
        refine wi_ A (h1_ t9) (rc_ 1 (padL h8_ hn8 XL FO hz) fun e X12 hh => ?_)
        obtain ⟨v47, he, hk, hb⟩ := hh
        refine ⟨_, he, ?_⟩
        have bQ : Below XL.heap.size XL X12 := hb
        have FR : (X12.ownsRow V.heap.size 5 1 v47 320 (bytesL 320 (rwF h (bks key q) q n p))) := own_base hk (BB).size
        replace BB := BB.trans (bQ.mono BB.size)
        clear FO bQ
        refine rg_ [(6, v47), (7, .int .i64 ((0 : Nat) : Int))] ?_
        rintro a A ⟨t6, t7, -⟩
        refine wp_ret ?_
        repeat (first | with_reducible refine ret_in ?_ | with_reducible refine ret_then ?_)
        refine bodyPost_ret (results_tmp2 rfl _ _ _) A.2 ⟨⟨_, ?_, FR⟩, BB⟩
        show Ending.returned (.tuple #[a.eval (.tmp 6), a.eval (.tmp 7)]) = _
        rw [t6, t7]
  · refine wi_ A (h4_ t0 t1 t2 t8) (rv_ 1 (.bool true) (fun a ee => execDec (execNeN (p := wgE h hn lk) (q := 0) rfl (ee _) rfl) (decide_eq_true (by omega))) (rf_ [(16, .bool true)] (h1_ t8) ?_))
    rintro a A ⟨t16, -⟩ ⟨t8, -⟩
    refine wp_cond_true t16 ?_
    clear t16
    refine wp_seq ?_
    refine wi_ A (h1_ t8) (rg_ [(6, .slice none 0 0), (7, .int .i64 ((wgE h hn lk : Nat) : Int))] ?_)
    rintro a A ⟨t6, t7, -⟩
    have er : rwE h hn lk n = wgE h hn lk := by rw [rw_wg, if_pos e1]
    rw [er, show rwN h hn lk n = 0 by unfold rwN; rw [er]; exact if_neg e1]
    refine wp_ret ?_
    repeat (first | with_reducible refine ret_in ?_ | with_reducible refine ret_then ?_)
    refine bodyPost_ret (results_tmp2 rfl _ _ _) A.2 ⟨⟨_, ?_, World.ownsRow_nil _ _ _ _⟩, BB⟩
    show Ending.returned (.tuple #[a.eval (.tmp 6), a.eval (.tmp 7)]) = _
    rw [t6, t7]
end Go.Proofs.YteekoabgbjbabaaGreatDoor.Rpl

namespace Go.Proofs.YteekoabgbjbabaaGreatDoor.Rpl
open Go.RowKit Gf8 Aes By8 Cel Cf Tap Drw Dro Oni Rou
/- Stage 27: the reference's Open. Written by tools/mkW8d.py. -/

section
variable {o : Oper} {a : Act} {w : World}
theorem execAlPe (ho : o.op = .alloc 51) : (execOp a.eval o).run Tryz.prog w = .ok (.value (.pointer (some ⟨w.heap.size, 0, none⟩))) (w.alloc (.cells (pC (.slice none 0 0) fun _ => 0) 51)) := by
  have h := zeroP
  unfold execOp
  simp only [ho]
  simp [go_sem, h]
theorem execStPe {x y : Operand} {g : Nat} {u u2 : Value} {r r2 : Nat → Nat} (ho : o.op = .store 51 x y) (hx : a.eval x = .pointer (some ⟨g, 0, none⟩)) (hy : a.eval y = .agg (pC u2 r2)) (hg : w.heap[g]? = some (.cells (pC u r) 51)) (hu : u2.oneCell' = true) : (execOp a.eval o).run Tryz.prog w = .ok .skip (w.setRow g (pC u2 r2)) := by
  have h := Aes.execStMid (P := Tryz.prog) ho hx hy hg (by rw [pC_size, pC_size]; omega) (sizeP u2 r2) (pC_one r2 hu)
  rw [h, List.take_zero, List.nil_append, List.drop_eq_nil_of_le (by rw [Array.length_toList, pC_size, pC_size]; omega), List.append_nil]
end
theorem wkl_le {len : Nat} (h : len ≤ 140737488351232) : ∀ i, wkL len i ≤ 140737488351232
  | 0 => h
  | _ + 1 => by show 320 ≤ _; omega
theorem own_one2 {W : World} {B n : Nat} {v : Value} {xs : List Value} (h : W.ownsRow B 5 1 v n xs) : v.oneCell' = true := by
  obtain ⟨a, c, e⟩ := ownQ_shape h
  rw [e]
  rfl
theorem pc_at0 {W : World} {g : Nat} {u : Value} {r : Nat → Nat} (h : W.heap[g]? = some (.cells (pC u r) 51)) : W.cell? ⟨g, 0, none⟩ = some u := by
  rw [cell_of_row _ _ _ _ _ _ h]
  rfl
end Go.Proofs.YteekoabgbjbabaaGreatDoor.Rpl

namespace Go.Proofs.YteekoabgbjbabaaGreatDoor.Rpl
open Go.RowKit Gf8 Aes By8 Cel Cf Tap Drw Dro Oni Rou
/- Stage 27: what a package of replies keeps; what was answered is heard; alive. Written by tools/mkW8e.py. -/

/-- What the program's package keeps; G: what it asks of the world. -/
structure Impl (G : World → Prop) : Prop where
  key : ∀ (key nonce : Nat → Nat) (lk : Nat) (v : Value) (V : World), G V → By nonce → SliceN V v lk key → lk ≤ 140737488351232 →
    Calls Tryz.prog 9 #[v, .agg (bA 16 nonce)] V fun e w' => (∃ r, e = .returned (.tuple #[r, .int .i64 ((keE lk : Nat) : Int)]) ∧ w'.ownsRow V.heap.size 5 1 r (keN lk) (bytesL (keN lk) (bk key nonce))) ∧ Below V.heap.size V w'
  wrap : ∀ (key nonce inner : Nat → Nat) (lk n : Nat) (left : Int) (v vi : Value) (V : World), G V → By nonce → SliceN V v lk key → lk ≤ 140737488351232 → SliceN V vi n inner → n ≤ 140737488351232 →
    Calls Tryz.prog 10 #[v, .agg (bA 16 nonce), .int .i64 left, vi] V fun e w' => (∃ r, e = .returned (.tuple #[r, .int .i64 ((wrE lk left n : Nat) : Int)]) ∧ w'.ownsRow V.heap.size 5 1 r (wrN lk left n) (bytesL (wrN lk left n) (wrF (bk key nonce) nonce left.toNat n inner))) ∧ Below V.heap.size V w'
  chain : ∀ (h hn : Nat) (kv nv : Value) (xv : Nat → Value) (lk : Nat → Nat) (key q : Nat → Nat → Nat) (n : Nat) (p : Nat → Nat) (pv : Value) (V : World), G V → Ls V kv h xv lk key → h ≤ 140737488351232 → Nons V nv hn q → hn ≤ 140737488351232 → SliceN V pv n p → (∀ l c, pv = .slice none l c → c = 0) → n ≤ 140737488351232 →
    Calls Tryz.prog 7 #[kv, nv, pv] V fun e w' => (∃ r, e = .returned (.tuple #[r, .int .i64 ((rwE h hn lk n : Nat) : Int)]) ∧ w'.ownsRow V.heap.size 5 1 r (rwN h hn lk n) (bytesL (rwN h hn lk n) (rwF h (bks key q) q n p))) ∧ Below V.heap.size V w'
  open_ : ∀ (h hn : Nat) (kv nv : Value) (xv : Nat → Value) (lk : Nat → Nat) (key q : Nat → Nat → Nat) (len : Nat) (c : Nat → Nat) (cv : Value) (V : World), G V → Ls V kv h xv lk key → h ≤ 140737488351232 → Nons V nv hn q → hn ≤ 140737488351232 → SliceN V cv len c → (∀ l c, cv = .slice none l c → c = 0) → len ≤ 140737488351232 →
    Calls Tryz.prog 8 #[kv, nv, cv] V fun e w' => (∃ r, e = .returned (.tuple #[r, .int .i64 ((opE h hn lk key q len c : Nat) : Int)]) ∧ w'.ownsRow V.heap.size 5 1 r (opN h hn lk key q len c) (bytesL (opN h hn lk key q len c) (opF h key q c))) ∧ Below V.heap.size V w'
theorem open_plain8 {len : Nat} (p : Nat → Nat) (h : len ≤ 48) : openY (cellF 2 (headP len) len p) 320 = true ∧ openE (cellF 2 (headP len) len p) 320 = 0 ∧ openN (cellF 2 (headP len) len p) 320 = len := by
  have a0 : cellF 2 (headP len) len p 0 = 1 := rfl
  have a1 : cellF 2 (headP len) len p 1 = len := rfl
  have hz : zeroFrom (cellF 2 (headP len) len p) (2 + len) = true := (zeroFrom_iff _ _).2 fun j h1 h2 => by
    unfold cellF
    rw [if_neg (by omega), if_neg (by omega)]
  have hy : openY (cellF 2 (headP len) len p) 320 = true := by
    unfold openY
    rw [a0, a1, hz]
    simp [h]
  refine ⟨hy, ?_, by unfold openN; rw [if_pos hy, a1]⟩
  unfold openE
  rw [if_neg (by simp), a0, a1, if_neg (by omega), if_neg (by omega), if_neg (by omega), if_pos hz]
/-- What was answered is heard. -/
theorem open_chain {h hn n : Nat} {lk : Nat → Nat} {key q : Nat → Nat → Nat} {p : Nat → Nat} (e : rwE h hn lk n = 0) : opE h hn lk key q 320 (rwF h (bks key q) q n p) = 0 ∧ opN h hn lk key q 320 (rwF h (bks key q) q n p) = n ∧ ∀ j, j < n → opF h key q (rwF h (bks key q) q n p) j = p j := by
  obtain ⟨h1, h2, h3, h4, h5⟩ := rwE_ok e
  have ew : wgE h hn lk = 0 := by
    unfold wgE
    rw [if_neg (by omega), if_pos ((ksOk_iff h lk).2 h4)]
  obtain ⟨e1, e2⟩ := ce_walk (h := h) (key := bks key q) (nonce := q) (n := n) (p := p) (lk := fun _ => 32) h5 h2 (fun _ _ => rfl) h (Nat.le_refl _)
  rw [← rw_ce h1, Nat.sub_self] at e1
  rw [← rw_ce h1] at e2
  have e3 : ceF h (bks key q) q n p 0 = cellF 2 (headP n) n p := if_pos rfl
  have e4 : wkL 320 h = 320 := by cases h <;> rfl
  obtain ⟨o1, o2, o3⟩ := open_plain8 p h5
  refine ⟨?_, ?_, fun j hj => ?_⟩
  · unfold opE
    rw [if_neg (by omega), if_neg (by omega), e1, e3, e4, o2]
  · unfold opN
    rw [if_neg (by omega), if_neg (by omega), e1, e3, e4]
    exact o3
  · unfold opF
    rw [e1, e3]
    unfold cellF
    rw [if_neg (by omega), if_pos (by omega), Nat.add_sub_cancel_left]
theorem rw_lt {h n : Nat} {key q : Nat → Nat → Nat} {p : Nat → Nat} (hq : ∀ i, i < h → By (q i)) (h8 : h ≤ 8) (hn : n ≤ 48) (hp : ∀ j, j < n → p j < 256) (j : Nat) : rwF h key q n p j < 256 := cellF_lt (fun j hj => by omega) (fun j hj => loF_lt hq hn hp h (Nat.le_refl _) h8 j hj) j
theorem zero32 (X : World) : SliceN (X.alloc (.cells (bA 32 fun _ => 0) 5)) (.slice (some ⟨X.heap.size, 0, none⟩) 32 32) 32 (fun _ => 0) := Cf.lit_slice (heapNew X _) (fun j hj => by rw [← Array.getElem?_toList]; exact bytesL_at 32 (fun _ => 0) hj) (fun _ _ => by decide) (by omega)
theorem one_ls {W : World} {g l : Nat} {v : Value} {p : Nat → Nat} (h : W.heap[g]? = some (.cells #[v] 24)) (hv : SliceN W v l p) (hz : ∀ l c, v = .slice none l c → c = 0 := by intro _ _ h; cases h) (hl : l ≤ 140737488351232 := by omega) : Ls W (.slice (some ⟨g, 0, none⟩) 1 1) 1 (fun _ => v) (fun _ => l) (fun _ => p) := by
  refine ⟨⟨_, 1, rfl, Nat.le_refl _, by omega, fun _ => ⟨g, 0, rfl, (Array.getElem?_eq_some_iff.1 h).1, fun i hi => ?_⟩⟩, fun _ _ => hv, fun _ _ => hz, fun _ _ => hl⟩
  rw [cell_of_row _ _ _ _ _ _ h]
  match i, hi with
  | 0, _ => rfl
section
variable {o : Oper} {a : Act} {w : World}
theorem fill16n (f : Nat → Nat) : Instr.fill (fun i => some (i * 16, 16)) ((Array.range (1 * 16)).map ((bA 16 fun _ => 0)[· % (bA 16 fun _ => 0).size]!)) [(0, .agg (bA 16 f))] = some (bA 16 f) := by
  kernel_rfl
theorem execBsN {x : Operand} {f : Nat → Nat} (ho : o.op = .buildSlice 23 1 #[(0, x)]) (hx : a.eval x = .agg (bA 16 f)) : (execOp a.eval o).run Tryz.prog w = .ok (.value (.slice (some ⟨w.heap.size, 0, none⟩) 1 1)) (w.alloc (.cells (bA 16 f) 35)) := by
  have hz : (zeroValue 35).run Tryz.prog w = .ok (.agg (bA 16 fun _ => 0)) w := zero16 w
  have hs : (sizeOf 35).run Tryz.prog w = .ok 16 w := by simp [go_sem]
  have hf := fill16n f
  have e : (#[((0 : Nat), x)] : Array (Nat × Operand)).map (fun (i, y) => (i, a.eval y)) = #[(0, .agg (bA 16 f))] := by simp [hx]
  have hr : (Instr.buildSlice 23 1 #[(0, .agg (bA 16 f))]).run Tryz.prog w = .ok (.slice (some ⟨w.heap.size, 0, none⟩) 1 1) (w.alloc (.cells (bA 16 f) 35)) := by
    simp only [Instr.buildSlice, Sem.run_bind, run_underlying Tryz.underlying23, Result.andThen_ok, hs]
    rw [if_neg (by decide), if_neg (by decide)]
    simp only [Sem.run_bind, Sem.run_pure, Result.andThen_ok, hz, Value.cells, hf]
    simp [newRow]
  unfold execOp
  simp only [ho, e, Sem.run_bind, hr, Result.andThen_ok, Sem.run_pure]
end
theorem one_ns {W : World} {g : Nat} (h : W.heap[g]? = some (.cells (bA 16 oneF) 35)) : Nons W (.slice (some ⟨g, 0, none⟩) 1 1) 1 (fun _ => oneF) := by
  refine ⟨⟨_, 1, rfl, Nat.le_refl _, by omega, fun _ => ⟨g, 0, rfl, (Array.getElem?_eq_some_iff.1 h).1, fun i hi j hj => ?_⟩⟩, fun _ _ => oneF_by⟩
  obtain rfl : i = 0 := by omega
  rw [cell_of_row _ _ _ _ _ _ h, Nat.zero_mul, Nat.zero_add, ← Array.getElem?_toList]
  exact bytesL_at 16 _ hj
section
variable {W : World} {b k n : Nat} {v : Value}
theorem frz_ls {xv : Nat → Value} {ln : Nat → Nat} {c : Nat → Nat → Nat} (h : Ls W v n xv ln c) : Ls (W.freeze ⟨b, k, none⟩ 1) v n xv ln c := by
  obtain ⟨a, cap, e, h1, h2, h3⟩ := h.shape
  refine ⟨⟨a, cap, e, h1, h2, fun h0 => ?_⟩, fun i hi => frz_sl (h.cell i hi), h.nil, h.lens⟩
  obtain ⟨b', off, e2, hl, hc⟩ := h3 h0
  exact ⟨b', off, e2, by rw [frz_heap.2]; exact hl, fun i hi => by rw [frz_cell]; exact hc i hi⟩
theorem frz_ns {q : Nat → Nat → Nat} (h : Nons W v n q) : Nons (W.freeze ⟨b, k, none⟩ 1) v n q := by
  obtain ⟨a, cap, e, h1, h2, h3⟩ := h.shape
  refine ⟨⟨a, cap, e, h1, h2, fun h0 => ?_⟩, h.by_⟩
  obtain ⟨b', off, e2, hl, hc⟩ := h3 h0
  exact ⟨b', off, e2, by rw [frz_heap.2]; exact hl, fun i hi j hj => by rw [frz_cell]; exact hc i hi j hj⟩
end
theorem hi_b7 (j : Nat) : hi j < 256 := by unfold hi; split <;> omega
theorem hi_str : strN hi 2 = ⟨#[104, 105]⟩ := rfl
theorem rw1 : rwE 1 1 (fun _ => 32) 2 = 0 := rwE_is (Nat.le_refl _) (by omega) rfl (fun _ _ => rfl) (by omega)
section
variable {G : World → Prop} {V : World} {xv : Nat → Value} {kv nv : Value}
theorem chain1 (I : Impl G) (hg : ∀ W, Below V.heap.size V W → G W) (pv : Value) (X : World) (hX : Below V.heap.size V X) (hK : Ls X kv 1 xv (fun _ => 32) (fun _ _ => 0)) (hN : Nons X nv 1 (fun _ => oneF)) (hP : SliceN X pv 2 hi) (hz : ∀ l c, pv = .slice none l c → c = 0 := by intro _ _ h; cases h) :
    Calls Tryz.prog 7 #[kv, nv, pv] X fun e w' => ∃ r, e = .returned (.tuple #[r, .int .i64 ((0 : Nat) : Int)]) ∧ SliceN w' r 320 (rwF 1 (bks (fun _ _ => 0) (fun _ => oneF)) (fun _ => oneF) 2 hi) ∧ (∀ l c, r = .slice none l c → c = 0) ∧ Below X.heap.size X w' := by
  refine (I.chain 1 1 kv nv xv _ _ _ 2 hi pv X (hg X hX) hK (by omega) hN (by omega) hP hz (by omega)).mono ?_
  rintro e w' ⟨⟨r, he, hr⟩, hb⟩
  rw [rw1] at he
  rw [show rwN 1 1 (fun _ => 32) 2 = 320 by unfold rwN; rw [rw1]; rfl] at hr
  exact ⟨r, he, own_slice hr fun j _ => rw_lt (fun _ _ => oneF_by) (by omega) (by omega) hP.bytes j, own_nilI hr, hb⟩
theorem open1 (I : Impl G) (hg : ∀ W, Below V.heap.size V W → G W) (cv : Value) (X : World) (hX : Below V.heap.size V X) (hK : Ls X kv 1 xv (fun _ => 32) (fun _ _ => 0)) (hN : Nons X nv 1 (fun _ => oneF)) (hC : SliceN X cv 320 (rwF 1 (bks (fun _ _ => 0) (fun _ => oneF)) (fun _ => oneF) 2 hi)) (hz : ∀ l c, cv = .slice none l c → c = 0) :
    Calls Tryz.prog 8 #[kv, nv, cv] X fun e w' => ∃ r, e = .returned (.tuple #[r, .int .i64 ((0 : Nat) : Int)]) ∧ SliceN w' r 2 hi ∧ Below X.heap.size X w' := by
  obtain ⟨o1, o2, o3⟩ := open_chain (key := fun _ _ => 0) (q := fun _ => oneF) (p := hi) rw1
  refine (I.open_ 1 1 kv nv xv _ _ _ 320 _ cv X (hg X hX) hK (by omega) hN (by omega) hC hz (by omega)).mono ?_
  rintro e w' ⟨⟨r, he, hr⟩, hb⟩
  rw [o1] at he
  rw [o2] at hr
  exact ⟨r, he, slice_cg (own_slice hr fun j hj => by rw [o3 j hj]; exact hi_b7 j) o3, hb⟩
theorem open0 (I : Impl G) (hg : ∀ W, Below V.heap.size V W → G W) {c : Nat → Nat} (cv : Value) (X : World) (hX : Below V.heap.size V X) (hC : SliceN X cv 320 c) (hz : ∀ l c, cv = .slice none l c → c = 0) :
    Calls Tryz.prog 8 #[.slice none 0 0, .slice none 0 0, cv] X fun e w' => ∃ r, e = .returned (.tuple #[r, .int .i64 ((80 : Nat) : Int)]) ∧ Below X.heap.size X w' := by
  refine (I.open_ 0 0 _ _ (fun _ => undef) (fun _ => 0) (fun _ _ => 0) (fun _ _ => 0) 320 c cv X (hg X hX) ⟨⟨none, 0, rfl, Nat.le_refl _, by omega, fun h => by omega⟩, fun i h => by omega, fun i h => by omega, fun i h => by omega⟩ (by omega) ⟨⟨none, 0, rfl, Nat.le_refl _, by omega, fun h => by omega⟩, fun i h => by omega⟩ (by omega) hC hz (by omega)).mono ?_
  rintro e w' ⟨⟨r, he, _⟩, hb⟩
  exact ⟨r, he, hb⟩
theorem key1 (I : Impl G) (hg : ∀ W, Below V.heap.size V W → G W) {kv : Value} (X : World) (hX : Below V.heap.size V X) (hk : SliceN X kv 32 (fun _ => 0)) :
    Calls Tryz.prog 9 #[kv, .agg (bA 16 oneF)] X fun e w' => ∃ r, e = .returned (.tuple #[r, .int .i64 ((0 : Nat) : Int)]) ∧ SliceN w' r 32 (bk (fun _ => 0) oneF) ∧ Below X.heap.size X w' := by
  refine (I.key (fun _ => 0) oneF 32 kv X (hg X hX) oneF_by hk (by omega)).mono ?_
  rintro e w' ⟨⟨r, he, hr⟩, hb⟩
  exact ⟨r, he, own_slice hr fun j _ => bk_lt _ _ j, hb⟩
end
set_option maxRecDepth 100000 in
set_option maxHeartbeats 4000000 in
/-- The law's alive. -/
theorem alive27 {G : World → Prop} (I : Impl G) (V : World) (hg : ∀ W, Below V.heap.size V W → G W) :
    Calls Tryz.prog 4 #[] V fun e w' => e = .returned (.bool true) ∧ Below V.heap.size V w' := by
  go_enter Tryz.func4, Tryz.ntmps4
  refine wo_ 74 [] ?_
  rintro a A -
  have BW : Below V.heap.size V V := Below.refl _ _
  have BB := BW
  refine wp_seq ?_
  refine wi_ A h0_ (rg_ [] ?_)
  rintro a A -
  refine wp_seq ?_
  obtain ⟨g11, egg11⟩ : ∃ z_ : Nat, V.heap.size = z_ := ⟨_, rfl⟩
  refine wi_ A h0_ (rs_ 0 (fun a ee => ?_))
  refine stepV rfl rfl (execMk (l := 32) (n := 32) rfl rfl rfl (by omega) (by omega)) ⟨.slice (some ⟨g11, 0, none⟩) 32 32, ⟨_, rfl, by subst egg11; rfl⟩, fun X1_1 hX => ?_⟩
  have bQ : Below V.heap.size V X1_1 := by subst hX egg11; exact (belNew V _)
  have F1 : (SliceN X1_1 (.slice (some ⟨g11, 0, none⟩) 32 32) 32 (fun _ => 0)) := by subst hX egg11; exact zero32 V
  replace BB := BB.trans (bQ.mono BB.size)
  clear bQ hX egg11 ee a
  obtain ⟨g12, egg12⟩ : ∃ z_ : Nat, X1_1.heap.size = z_ := ⟨_, rfl⟩
  refine rs_ 1 (fun a ee => ?_)
  refine stepV rfl rfl (execBsL rfl (ee _) ⟨_, _, _, rfl⟩) ⟨.slice (some ⟨g12, 0, none⟩) 1 1, ⟨_, rfl, by subst egg12; rfl⟩, fun X1_2 hX => ?_⟩
  obtain ⟨BB, FK⟩ : Below V.heap.size V X1_2 ∧ (Ls X1_2 (.slice (some ⟨g12, 0, none⟩) 1 1) 1 (fun _ => .slice (some ⟨g11, 0, none⟩) 32 32) (fun _ => 32) (fun _ _ => 0)) := by subst hX egg12; exact ⟨(BB).trans ((belNew X1_1 _).mono (BB).size), one_ls (heapNew X1_1 _) (F1.on (belNew X1_1 _))⟩
  clear F1 hX egg12 ee a
  obtain ⟨g14, egg14⟩ : ∃ z_ : Nat, X1_2.heap.size = z_ := ⟨_, rfl⟩
  refine rv_ 2 (.agg (bA 16 oneF)) (fun a ee => execB16o rfl) (rs_ 3 (fun a ee => ?_))
  refine stepV rfl rfl (execBsN rfl (ee _)) ⟨.slice (some ⟨g14, 0, none⟩) 1 1, ⟨_, rfl, by subst egg14; rfl⟩, fun X1 hX => ?_⟩
  have bQ : Below X1_2.heap.size X1_2 X1 := by subst hX egg14; exact (belNew X1_2 _)
  have FN : (Nons X1 (.slice (some ⟨g14, 0, none⟩) 1 1) 1 (fun _ => oneF)) := by subst hX egg14; exact one_ns (heapNew X1_2 _)
  replace FK := (FK.on bQ)
  replace BB := BB.trans (bQ.mono BB.size)
  clear bQ hX egg14 ee a
  refine rg_ [(1, .slice (some ⟨g12, 0, none⟩) 1 1), (2, .slice (some ⟨g14, 0, none⟩) 1 1)] ?_
  rintro a A ⟨t1, t2, -⟩
  refine wp_seq ?_
  obtain ⟨g18, egg18⟩ : ∃ z_ : Nat, X1.heap.size = z_ := ⟨_, rfl⟩
  refine wi_ A (h2_ t1 t2) (rs_ 2 (fun a ee => ?_))
  refine stepV rfl rfl (execBsU2 rfl) ⟨.slice (some ⟨g18, 0, none⟩) 2 2, ⟨_, rfl, by subst egg18; rfl⟩, fun X2_1 hX => ?_⟩
  have bQ : Below X1.heap.size X1 X2_1 := by subst hX egg18; exact (belNew X1 _)
  have FL : (X2_1.heap[g18]? = some (.cells #[.int .u8 104, .int .u8 105] 5)) := by subst hX egg18; exact heapNew X1 _
  have FG : (V.heap.size ≤ g18) := by subst hX egg18; exact (BB).size
  replace FK := (FK.on bQ)
  replace FN := (FN.on bQ)
  replace BB := BB.trans (bQ.mono BB.size)
  clear bQ hX egg18 ee a
  refine rs_ 3 (fun a ee => ?_)
  refine stepV rfl rfl (execCvB7 rfl (ee _) FL) ⟨_, ⟨_, rfl, rfl⟩, fun X2_2 hX => ?_⟩
  obtain ⟨BB, FK, FN, FH⟩ : Below V.heap.size V X2_2 ∧ (Ls X2_2 (.slice (some ⟨g12, 0, none⟩) 1 1) 1 (fun _ => .slice (some ⟨g11, 0, none⟩) 32 32) (fun _ => 32) (fun _ _ => 0)) ∧ (Nons X2_2 (.slice (some ⟨g14, 0, none⟩) 1 1) 1 (fun _ => oneF)) ∧ (SliceN X2_2 (.slice (some ⟨g18, 0, none⟩) 2 2) 2 hi) := by subst hX; exact ⟨frz_bel BB FG, (frz_ls FK), (frz_ns FN), frz_sl (hi_slice FL).sl⟩
  clear FL FG hX ee a
  refine rc_ 4 (chain1 I hg (.slice (some ⟨g18, 0, none⟩) 2 2) X2_2 BB FK FN FH) fun e X2 hh => ?_
  obtain ⟨v20, he, hk, hz_, hb⟩ := hh
  refine ⟨_, he, ?_⟩
  have bQ : Below X2_2.heap.size X2_2 X2 := hb
  have FC : (SliceN X2 v20 320 (rwF 1 (bks (fun _ _ => 0) (fun _ => oneF)) (fun _ => oneF) 2 hi)) := hk
  have FCz : (∀ l c, v20 = .slice none l c → c = 0) := hz_
  replace FK := (FK.on bQ)
  replace FN := (FN.on bQ)
  replace BB := BB.trans (bQ.mono BB.size)
  clear FH bQ
  refine rf_ [(3, v20), (4, .int .i64 ((0 : Nat) : Int))] (h2_ t1 t2) ?_
  rintro a A ⟨t3, t4, -⟩ ⟨t1, t2, -⟩
  refine wp_seq ?_
  refine wi_ A (h4_ t1 t2 t3 t4) (rc_ 3 (open1 I hg _ X2 BB FK FN FC FCz) fun e X3 hh => ?_)
  obtain ⟨v27, he, hk, hb⟩ := hh
  refine ⟨_, he, ?_⟩
  have bQ : Below X2.heap.size X2 X3 := hb
  have FO : (SliceN X3 v27 2 hi) := hk
  replace FK := (FK.on bQ)
  replace FN := (FN.on bQ)
  replace FC := (FC.on bQ)
  replace BB := BB.trans (bQ.mono BB.size)
  clear bQ
  refine rf_ [(5, v27), (6, .int .i64 ((0 : Nat) : Int))] (h4_ t1 t2 t3 t4) ?_
  rintro a A ⟨t5, t6, -⟩ ⟨t1, t2, t3, t4, -⟩
  refine wp_seq ?_
  refine wi_ A (h6_ t1 t2 t3 t4 t5 t6) (rc_ 1 (open0 I hg _ X3 BB FC FCz) fun e X4 hh => ?_)
  obtain ⟨v32, he, hb⟩ := hh
  refine ⟨_, he, ?_⟩
  have bQ : Below X3.heap.size X3 X4 := hb
  replace FK := (FK.on bQ)
  replace FN := (FN.on bQ)
  replace FC := (FC.on bQ)
  replace FO := (FO.on bQ)
  replace BB := BB.trans (bQ.mono BB.size)
  clear bQ
  refine rf_ [(8, .int .i64 ((80 : Nat) : Int))] (h6_ t1 t2 t3 t4 t5 t6) ?_
  rintro a A ⟨t8, -⟩ ⟨t1, t2, t3, t4, t5, t6, -⟩
  refine wp_seq ?_
  refine wj_ [0, 1, 2, 3, 4, 5, 6, 7, 8, 9, 10, 11] [6] [1, 2, 4, 5] [] A (h7_ t1 t2 t3 t4 t5 t6 t8) (fun X5_0 bD => ?_)
  refine dv_ 1 (.pointer (some ⟨adB (.slice (some ⟨g12, 0, none⟩) 1 1), adO (.slice (some ⟨g12, 0, none⟩) 1 1) + 0, none⟩)) (fun a X ee hb => execIdxLs (k := 0) ((FK.on hb)) rfl (ee _) rfl (by omega)) (dv_ 2 (.slice (some ⟨g11, 0, none⟩) 32 32) (fun a X ee hb => execLdLs (k := 0) (FK.on hb) rfl (ee _) (by omega)) (dv_ 4 (.pointer (some ⟨adB (.slice (some ⟨g14, 0, none⟩) 1 1), adO (.slice (some ⟨g14, 0, none⟩) 1 1) + 0 * 16, none⟩)) (fun a X ee hb => execIdxNs (k := 0) ((FN.on hb)) rfl (ee _) rfl (by omega)) (dv_ 5 (.agg (bA 16 oneF)) (fun a X ee hb => execLdNs (k := 0) (FN.on hb) rfl (ee _) (by omega)) (dc_ 6 (key1 I hg X5_0 (BB.trans (bD.mono BB.size)) ((FK.on bD).cell 0 (by omega))) fun e X5 hh => ?_))))
  obtain ⟨v42, he, hk, hb⟩ := hh
  refine ⟨_, he, ?_⟩
  have bQ : Below X5_0.heap.size X5_0 X5 := hb
  have FY : (SliceN X5 v42 32 (bk (fun _ => 0) oneF)) := hk
  replace bD := bD.trans (bQ.mono bD.size)
  clear bQ
  refine ⟨Or.inr bD, ?_⟩
  refine dz_ [(9, v42), (10, .int .i64 ((0 : Nat) : Int))] (h5_ t3 t4 t5 t6 t8) ?_
  rintro a A ⟨t9, t10, -⟩ ⟨t3, t4, t5, t6, t8, -⟩
  replace FK := (FK.on bD)
  replace FN := (FN.on bD)
  replace FC := (FC.on bD)
  replace FO := (FO.on bD)
  replace BB := BB.trans (bD.mono BB.size)
  clear bD
  refine wp_seq ?_
  refine wi_ A (h7_ t3 t4 t5 t6 t8 t9 t10) (rv_ 1 (.bool true) (fun a ee => execDec (execEqE (p := 0) (q := 0) rfl (ee _) rfl) (decide_eq_true (by rfl))) (rv_ 4 (.bool true) (fun a ee => execDec (execEqE (p := 0) (q := 0) rfl (ee _) rfl) (decide_eq_true (by rfl))) (rv_ 8 (.bool true) (fun a ee => execDec (execEqE (p := 80) (q := 80) rfl (ee _) rfl) (decide_eq_true (by rfl))) (rv_ 12 (.bool true) (fun a ee => execDec (execEqE (p := 0) (q := 0) rfl (ee _) rfl) (decide_eq_true (by rfl))) (rv_ 16 (.int .i64 ((320 : Nat) : Int)) (fun a ee => execLenV (len := 320) rfl (ee _) (shp (FC))) (rv_ 17 (.bool true) (fun a ee => execDec (execEqN (p := 320) (q := 320) rfl (ee _) rfl) (decide_eq_true (by rfl))) (rv_ 21 (.string (strN hi 2)) (fun a ee => execStr rfl (ee _) (FO)) (rv_ 22 (.bool true) (fun a ee => execEqlS rfl ((ee _).trans (congrArg Value.string hi_str)) rfl) (rv_ 26 (.int .i64 ((32 : Nat) : Int)) (fun a ee => execLenV (len := 32) rfl (ee _) (shp (FY))) (rv_ 27 (.bool true) (fun a ee => execDec (execEqN (p := 32) (q := 32) rfl (ee _) rfl) (decide_eq_true (by rfl))) (rg_ [(0, .bool true)] ?_)))))))))))
  rintro a A ⟨t0, -⟩
  refine wp_ret ?_
  repeat (first | with_reducible refine ret_in ?_ | with_reducible refine ret_then ?_)
  refine bodyPost_ret (results_tmp rfl _ _ _) A.2 ⟨?_, BB⟩
  show Ending.returned (a.eval (.tmp 0)) = _
  rw [t0]
end Go.Proofs.YteekoabgbjbabaaGreatDoor.Rpl

namespace Go.Proofs.YteekoabgbjbabaaGreatDoor.Rpl
open Go.RowKit Gf8 Aes By8 Cel Cf Tap Drw Dro Oni Rou
/- Stage 27: ReplyOpens, ReplyChains, ReplyWraps. Written by tools/mkW8f.py. -/

theorem rwN_lt {h hn n j : Nat} {lk : Nat → Nat} {key q : Nat → Nat → Nat} {p : Nat → Nat} (hq : ∀ i, i < hn → By (q i)) (hp : ∀ j, j < n → p j < 256) (hj : j < rwN h hn lk n) : rwF h (bks key q) q n p j < 256 := by
  by_cases e : rwE h hn lk n = 0
  · obtain ⟨h1, h2, h3, h4, h5⟩ := rwE_ok e
    exact rw_lt (fun i hi => hq i (by omega)) h2 h5 hp j
  · unfold rwN at hj
    rw [if_neg e] at hj
    omega
theorem wrN_lt {key nonce inner : Nat → Nat} {lk n j : Nat} {left : Int} (hno : By nonce) (hi : ∀ j, j < n → inner j < 256) (hj : j < wrN lk left n) : wrF (bk key nonce) nonce left.toNat n inner j < 256 := by
  have hs := sz_le left
  by_cases e : wrE lk left n = 0
  · refine wrF_lt hno ?_ hi j
    unfold wrE at e
    by_cases e1 : lk ≠ 32 ∨ sz left = 0
    · rw [if_pos e1] at e; omega
    · rw [if_neg e1] at e
      by_cases e2 : sz left - 34 < n
      · rw [if_pos e2] at e; omega
      · omega
  · unfold wrN at hj
    rw [if_neg e] at hj
    omega
theorem rchS (h hn : Nat) (kv nv : Value) (xv : Nat → Value) (lk : Nat → Nat) (key q : Nat → Nat → Nat) (n : Nat) (p : Nat → Nat) (pv : Value) (V : World) (hK : Ls V kv h xv lk key) (hN : Nons V nv hn q) (hh : h ≤ 140737488351232) (_hhn : hn ≤ 140737488351232) (hP : SliceN V pv n p) (hz : ∀ l c, pv = .slice none l c → c = 0) (_hn_ : n ≤ 140737488351232) :
    Calls Tryz.prog 6 #[kv, nv, pv] V fun e w' => ∃ r, e = .returned (.tuple #[r, .int .i64 ((rwE h hn lk n : Nat) : Int)]) ∧ SliceN w' r (rwN h hn lk n) (rwF h (bks key q) q n p) ∧ Below V.heap.size V w' := by
  refine (rchain27 h hn kv nv xv lk key q V hK hN hh n p pv hP hz).mono ?_
  rintro e w' ⟨⟨r, he, hr⟩, hb⟩
  exact ⟨r, he, own_slice hr fun j hj => rwN_lt hN.by_ hP.bytes hj, hb⟩
theorem pchS {G : World → Prop} (I : Impl G) (h hn : Nat) (kv nv : Value) (xv : Nat → Value) (lk : Nat → Nat) (key q : Nat → Nat → Nat) (n : Nat) (p : Nat → Nat) (pv : Value) (V : World) (hG : G V) (hK : Ls V kv h xv lk key) (hN : Nons V nv hn q) (hh : h ≤ 140737488351232) (hhn : hn ≤ 140737488351232) (hP : SliceN V pv n p) (hz : ∀ l c, pv = .slice none l c → c = 0) (hn_ : n ≤ 140737488351232) :
    Calls Tryz.prog 7 #[kv, nv, pv] V fun e w' => ∃ r, e = .returned (.tuple #[r, .int .i64 ((rwE h hn lk n : Nat) : Int)]) ∧ SliceN w' r (rwN h hn lk n) (rwF h (bks key q) q n p) ∧ Below V.heap.size V w' := by
  refine (I.chain h hn kv nv xv lk key q n p pv V hG hK hh hN hhn hP hz hn_).mono ?_
  rintro e w' ⟨⟨r, he, hr⟩, hb⟩
  exact ⟨r, he, own_slice hr fun j hj => rwN_lt hN.by_ hP.bytes hj, hb⟩
theorem at7 {W : World} {g k t : Nat} {C : Array Value} {v : Value} (h : W.heap[g]? = some (.cells C t)) (hk : C[k]? = some v) : W.cell? ⟨g, k, none⟩ = some v := by
  rw [cell_of_row _ _ _ _ _ _ h]
  exact hk
section
variable {o : Oper} {a : Act} {w : World} {x : Operand} {b f : Nat} {v : Value}
theorem execLdL7 (ho : o.op = .load 24 x) (hx : a.eval x = .pointer (some ⟨b, f, none⟩)) (hc : w.cell? ⟨b, f, none⟩ = some v) : (execOp a.eval o).run Tryz.prog w = .ok (.value v) w := by
  unfold execOp
  simp only [ho, hx]
  simp [go_sem, hc]
theorem execLdLL7 (ho : o.op = .load 22 x) (hx : a.eval x = .pointer (some ⟨b, f, none⟩)) (hc : w.cell? ⟨b, f, none⟩ = some v) : (execOp a.eval o).run Tryz.prog w = .ok (.value v) w := by
  unfold execOp
  simp only [ho, hx]
  simp [go_sem, hc]
theorem execLdLA7 (ho : o.op = .load 23 x) (hx : a.eval x = .pointer (some ⟨b, f, none⟩)) (hc : w.cell? ⟨b, f, none⟩ = some v) : (execOp a.eval o).run Tryz.prog w = .ok (.value v) w := by
  unfold execOp
  simp only [ho, hx]
  simp [go_sem, hc]
theorem execBxJob {u v w' : Value} (ho : o.op = .box 26 x) (hx : a.eval x = .agg #[u, v, w']) : (execOp a.eval o).run Tryz.prog w = .ok (.value (.pointer (some ⟨w.heap.size, 0, none⟩))) (w.alloc (.cells #[u, v, w'] 26)) := by
  unfold execOp
  simp only [ho, hx]
  simp [go_sem]
theorem execFldJb {k : Nat} (ho : o.op = .fieldAddr 26 x k) (hx : a.eval x = .pointer (some ⟨b, 0, none⟩)) (hk : Nat.blt k 3 = true) : (execOp a.eval o).run Tryz.prog w = .ok (.value (.pointer (some ⟨b, k, none⟩))) w := by
  match k, hk with
  | 0, _ => unfold execOp; simp only [ho, hx]; simp [go_sem]
  | 1, _ => unfold execOp; simp only [ho, hx]; simp [go_sem]
  | 2, _ => unfold execOp; simp only [ho, hx]; simp [go_sem]
end
end Go.Proofs.YteekoabgbjbabaaGreatDoor.Rpl
