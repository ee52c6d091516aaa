import Derived.Test.YthmlfglllhmimaaGreatDoorD2k
import Derived.Test.YthmlfglllhmimaaGreatDoorD1a
namespace Go.Proofs.YthmlfglllhmimaaGreatDoor.Frm
open Go.RowKit Gf8 Aes By8 Cel
/- The reference's Pack. -/

set_option maxRecDepth 20000 in
set_option maxHeartbeats 1000000 in
theorem rpack_bad (rd ep lf : Int) (cv : Value) (V : World) (hb : hdOk rd ep lf = false) :
    Calls Tryz.prog 13 #[.agg (bC rd ep lf cv)] V fun e w' => e = .returned (.tuple #[.slice none 0 0, .int .i64 62]) ∧ Below V.heap.size V w' := by
  have z := zeroH
  have ps := ps_new V rd ep lf cv
  obtain ⟨W0, hW0⟩ : ∃ W0, ((V.alloc (.cells (bC rd ep lf cv) 46)).alloc (.cells (hC 0 0 0) 23)).setRow (V.heap.size + 1) (hC rd ep lf) = W0 := ⟨_, rfl⟩
  rw [hW0] at ps
  obtain ⟨k3, k0, k1, k2⟩ := ps.cells
  have PSH : Hid (_) := ps
  have HW : Hid (_) := hW0
  clear ps hW0
  by_cases c1 : lf < 0
  · clear hb
    go_enter Tryz.func13, Tryz.ntmps13
    go_wp2_with (first
      | (refine atLoad 23 (.tmp 8) rfl ?_; go_must (refine wpList_ex rfl (execLoadMid (cs := [.int .i64 rd, .int .i64 ep, .int .i64 lf]) rfl rfl (range_bh (heapNew V _)) Tryz.underlying23 rfl (by kernel_rfl)) ?_))
      | (refine atStore 23 (.tmp 4) (.tmp 9) rfl ?_; go_must (refine wpList_exS rfl (execStHd (rd := rd) (ep := ep) (lf := lf) rfl rfl rfl (heap2c V _ _).2) ?_; rw [HW.out])))
    refine bodyPost_ret (results_tmp2 rfl _ _ _) rfl ⟨rfl, PSH.out.bel⟩
  · by_cases c2 : lf > 8
    · clear hb
      go_enter Tryz.func13, Tryz.ntmps13
      go_wp2_with (first
        | (refine atLoad 23 (.tmp 8) rfl ?_; go_must (refine wpList_ex rfl (execLoadMid (cs := [.int .i64 rd, .int .i64 ep, .int .i64 lf]) rfl rfl (range_bh (heapNew V _)) Tryz.underlying23 rfl (by kernel_rfl)) ?_))
        | (refine atStore 23 (.tmp 4) (.tmp 9) rfl ?_; go_must (refine wpList_exS rfl (execStHd (rd := rd) (ep := ep) (lf := lf) rfl rfl rfl (heap2c V _ _).2) ?_; rw [HW.out])))
      refine bodyPost_ret (results_tmp2 rfl _ _ _) rfl ⟨rfl, PSH.out.bel⟩
    · by_cases c3 : rd < 0
      · clear hb
        go_enter Tryz.func13, Tryz.ntmps13
        go_wp2_with (first
          | (refine atLoad 23 (.tmp 8) rfl ?_; go_must (refine wpList_ex rfl (execLoadMid (cs := [.int .i64 rd, .int .i64 ep, .int .i64 lf]) rfl rfl (range_bh (heapNew V _)) Tryz.underlying23 rfl (by kernel_rfl)) ?_))
          | (refine atStore 23 (.tmp 4) (.tmp 9) rfl ?_; go_must (refine wpList_exS rfl (execStHd (rd := rd) (ep := ep) (lf := lf) rfl rfl rfl (heap2c V _ _).2) ?_; rw [HW.out])))
        refine bodyPost_ret (results_tmp2 rfl _ _ _) rfl ⟨rfl, PSH.out.bel⟩
      · by_cases c4 : rd ≥ 4611686018427387904
        · clear hb
          go_enter Tryz.func13, Tryz.ntmps13
          go_wp2_with (first
            | (refine atLoad 23 (.tmp 8) rfl ?_; go_must (refine wpList_ex rfl (execLoadMid (cs := [.int .i64 rd, .int .i64 ep, .int .i64 lf]) rfl rfl (range_bh (heapNew V _)) Tryz.underlying23 rfl (by kernel_rfl)) ?_))
            | (refine atStore 23 (.tmp 4) (.tmp 9) rfl ?_; go_must (refine wpList_exS rfl (execStHd (rd := rd) (ep := ep) (lf := lf) rfl rfl rfl (heap2c V _ _).2) ?_; rw [HW.out])))
          refine bodyPost_ret (results_tmp2 rfl _ _ _) rfl ⟨rfl, PSH.out.bel⟩
        · by_cases c5 : ep < 0
          · clear hb
            go_enter Tryz.func13, Tryz.ntmps13
            go_wp2_with (first
              | (refine atLoad 23 (.tmp 8) rfl ?_; go_must (refine wpList_ex rfl (execLoadMid (cs := [.int .i64 rd, .int .i64 ep, .int .i64 lf]) rfl rfl (range_bh (heapNew V _)) Tryz.underlying23 rfl (by kernel_rfl)) ?_))
              | (refine atStore 23 (.tmp 4) (.tmp 9) rfl ?_; go_must (refine wpList_exS rfl (execStHd (rd := rd) (ep := ep) (lf := lf) rfl rfl rfl (heap2c V _ _).2) ?_; rw [HW.out])))
            refine bodyPost_ret (results_tmp2 rfl _ _ _) rfl ⟨rfl, PSH.out.bel⟩
          · by_cases c6 : ep > 4611686018427387904
            · clear hb
              go_enter Tryz.func13, Tryz.ntmps13
              go_wp2_with (first
                | (refine atLoad 23 (.tmp 8) rfl ?_; go_must (refine wpList_ex rfl (execLoadMid (cs := [.int .i64 rd, .int .i64 ep, .int .i64 lf]) rfl rfl (range_bh (heapNew V _)) Tryz.underlying23 rfl (by kernel_rfl)) ?_))
                | (refine atStore 23 (.tmp 4) (.tmp 9) rfl ?_; go_must (refine wpList_exS rfl (execStHd (rd := rd) (ep := ep) (lf := lf) rfl rfl rfl (heap2c V _ _).2) ?_; rw [HW.out])))
              refine bodyPost_ret (results_tmp2 rfl _ _ _) rfl ⟨rfl, PSH.out.bel⟩
            · exfalso
              unfold hdOk at hb
              simp at hb
              omega
end Go.Proofs.YthmlfglllhmimaaGreatDoor.Frm

namespace Go.Proofs.YthmlfglllhmimaaGreatDoor.Frm
open Go.RowKit Gf8 Aes By8 Cel
/- The reference's Pack, of a right header. -/

theorem hd_row (V : World) (x : Nat) (q : Nat → Nat) (h0 : q 0 = 67) (h1 : q 1 = 72) (h2 : q 2 = 82) (h3 : q 3 = 78) (h4 : q 4 = 1) (h5 : q 5 = x) : (V.alloc (.cells #[.int .u8 67, .int .u8 72, .int .u8 82, .int .u8 78, .int .u8 1, .int .u8 x] 5)).ownsRow V.heap.size 5 1 (.slice (some ⟨V.heap.size, 0, none⟩) 6 6) 6 (bytesL 6 q) := by
  refine own_full (n := 6) ?_ (Nat.le_refl _) (by omega)
  rw [heapNew]
  show _ = some (Obj.cells #[.int .u8 (q 0 : Nat), .int .u8 (q 1 : Nat), .int .u8 (q 2 : Nat), .int .u8 (q 3 : Nat), .int .u8 (q 4 : Nat), .int .u8 (q 5 : Nat)] 5)
  rw [h0, h1, h2, h3, h4, h5]
  rfl

theorem own_nil {W : World} {B n : Nat} {v : Value} {xs : List Value} (h : W.ownsRow B 5 1 v n xs) : ∀ l c, v = .slice none l c → c = 0 := by
  intro l c e
  rcases h.2 with ⟨rfl, _⟩ | ⟨g, cap, cur, rfl, _⟩
  · injection e with _ _ e3
    exact e3.symm
  · injection e with e1
    cases e1
set_option maxRecDepth 20000 in
set_option maxHeartbeats 2000000 in
theorem rpack_ok (rd ep lf n : Nat) (cv : Value) (xv : Nat → Value) (ln : Nat → Nat) (c : Nat → Nat → Nat) (V : World) (hc : Cells V cv n xv ln c) (hn : n ≤ 140737488351232) (h1 : lf ≤ 8) (h2 : rd < 4611686018427387904) (h3 : ep ≤ 4611686018427387904) :
    Calls Tryz.prog 13 #[.agg (bC rd ep lf cv)] V fun e w' => ∃ r, e = .returned (.tuple #[r, .int .i64 (if n ≤ 256 then (if allC n ln then 0 else 64) else 63 : Nat)]) ∧ w'.ownsRow V.heap.size 5 1 r (if n ≤ 256 ∧ allC n ln = true then cellAt n + 4 else 0) (bytesL (if n ≤ 256 ∧ allC n ln = true then cellAt n + 4 else 0) (packF rd ep lf n c)) ∧ Below V.heap.size V w' := by
  have z := zeroH
  have HC : Hid (Cells V cv n xv ln c) := hc
  have ps := ps_new V rd ep lf cv
  obtain ⟨W0, hW0⟩ : ∃ W0, ((V.alloc (.cells (bC rd ep lf cv) 46)).alloc (.cells (hC 0 0 0) 23)).setRow (V.heap.size + 1) (hC rd ep lf) = W0 := ⟨_, rfl⟩
  rw [hW0] at ps
  obtain ⟨k3, k0, k1, k2⟩ := ps.cells
  have PSH : Hid (PS V.heap.size rd ep lf cv V W0) := ps
  have HW : Hid (_) := hW0
  obtain ⟨ca, ccap, rfl, hs1, hs2, hs3⟩ := hc.shape
  have HS : Hid (0 < n → ∃ b off, ca = some ⟨b, off, none⟩ ∧ b < V.heap.size ∧ ∀ i, i < n → V.cell? ⟨b, off + i, none⟩ = some (xv i)) := hs3
  have j1 : ¬ (lf : Int) < 0 := by omega
  have j2 : ¬ (lf : Int) > 8 := by omega
  have j3 : ¬ (rd : Int) < 0 := by omega
  have j4 : ¬ (rd : Int) ≥ 4611686018427387904 := by omega
  have j5 : ¬ (ep : Int) < 0 := by omega
  have j6 : ¬ (ep : Int) > 4611686018427387904 := by omega
  have j7 : (lf : Int) % 256 = lf := by omega
  have HH : Hid (lf ≤ 8 ∧ rd < 4611686018427387904 ∧ ep ≤ 4611686018427387904) := ⟨h1, h2, h3⟩
  clear ps hW0 hc hs3 h1 h2 h3
  obtain ⟨E, hE⟩ : ∃ E : Nat, (if n ≤ 256 then (if allC n ln then 0 else 64) else 63 : Nat) = E := ⟨_, rfl⟩
  obtain ⟨N, hN⟩ : ∃ N : Nat, (if n ≤ 256 ∧ allC n ln = true then cellAt n + 4 else 0) = N := ⟨_, rfl⟩
  rw [hE, hN]
  have HE : Hid ((if n ≤ 256 then (if allC n ln then 0 else 64) else 63 : Nat) = E ∧ (if n ≤ 256 ∧ allC n ln = true then cellAt n + 4 else 0) = N) := ⟨hE, hN⟩
  clear hE hN
  by_cases hn256 : n ≤ 256
  · skip
    have l1 : ¬ (n : Int) > 256 := by omega
    have l2 : (n : Int) ≤ 256 := by omega
    obtain ⟨q, hq⟩ : ∃ q, packB rd ep lf n c = q := ⟨_, rfl⟩
    have HQ : Hid (packB rd ep lf n c = q) := hq
    have HN : Hid (n ≤ 256) := hn256
    have row := fun W => hd_row W lf q (by rw [← hq]; rfl) (by rw [← hq]; rfl) (by rw [← hq]; rfl) (by rw [← hq]; rfl) (by rw [← hq]; rfl) (by rw [← hq]; rfl)
    have ROW : Hid (_) := row
    clear hq row hn256
    go_enter Tryz.func13, Tryz.ntmps13
    go_wp2_with (first
      | (refine atLoad 23 (.tmp 8) rfl ?_; go_must (refine wpList_ex rfl (execLoadMid (cs := [.int .i64 rd, .int .i64 ep, .int .i64 lf]) rfl rfl (range_bh (heapNew V _)) Tryz.underlying23 rfl (by kernel_rfl)) ?_))
      | (refine atStore 23 (.tmp 4) (.tmp 9) rfl ?_; go_must (refine wpList_exS rfl (execStHd (rd := rd) (ep := ep) (lf := lf) rfl rfl rfl (heap2c V _ _).2) ?_; rw [HW.out]; obtain ⟨m3, m0, m1, m2⟩ := (PSH.out.on (belNew W0 (.cells #[.int .u8 67, .int .u8 72, .int .u8 82, .int .u8 78, .int .u8 1, .int .u8 lf] 5))).cells))
      | (go_at_call_of 24 n; refine (number_any n 2 _ (by have := HN.out; omega) (by omega)).mono ?_; rintro e w1 ⟨r1, rfl, o1, hb1⟩; have PA : Hid (_) := (PSH.out.on (belNew W0 _)).on hb1; have OA : Hid (_) := ownsRow_below (own_base (ROW.out W0) PSH.out.bel.size) hb1; have SA : Hid (_) := own_slice o1 (fun j _ => numF_lt _ _ _); have NA : Hid (_) := own_nil o1; clear o1 hb1)
      | (refine atAppB (.tmp 46) (.tmp 50) rfl ?_; go_must (refine wpList_appS (B := V.heap.size) (n := 6) (m := 2) (p := q) rfl (.tmp 46) (.tmp 50) rfl rfl rfl OA.out (sliceN_cg SA.out fun j hj => by rw [← HQ.out, packB_num6 _ _ _ _ _ hj]) NA.out (by omega) PA.out.bel.size ?_; intro u1 W1 own1 gr1; have PB : Hid (PS V.heap.size rd ep lf (.slice ca n ccap) V W1) := PA.out.grown OA.out (grown_row gr1); have OB : Hid (W1.ownsRow V.heap.size 5 1 u1 8 (bytesL 8 q)) := own1; obtain ⟨n3, n0, n1, n2⟩ := PB.out.cells; clear own1 gr1))
      | (go_at_call_of 24 rd; refine (number_any rd 8 _ (by have := HH.out; omega) (by omega)).mono ?_; rintro e w2 ⟨r2, rfl, o2, hb2⟩; have PC : Hid (_) := PB.out.on hb2; have OC : Hid (_) := ownsRow_below OB.out hb2; have SC : Hid (_) := own_slice o2 (fun j _ => numF_lt _ _ _); have NC : Hid (_) := own_nil o2; clear o2 hb2)
      | (refine atAppB (.tmp 52) (.tmp 55) rfl ?_; go_must (refine wpList_appS (B := V.heap.size) (n := 8) (m := 8) (p := q) rfl (.tmp 52) (.tmp 55) rfl rfl rfl OC.out (sliceN_cg SC.out fun j hj => by rw [← HQ.out, packB_num8 _ _ _ _ _ hj]) NC.out (by omega) PC.out.bel.size ?_; intro u2 W2 own2 gr2; have PD : Hid (PS V.heap.size rd ep lf (.slice ca n ccap) V W2) := PC.out.grown OC.out (grown_row gr2); have OD : Hid (W2.ownsRow V.heap.size 5 1 u2 16 (bytesL 16 q)) := own2; obtain ⟨p3, p0, p1, p2⟩ := PD.out.cells; clear own2 gr2))
      | (go_at_call_of 24 ep; refine (number_any ep 8 _ (by have := HH.out; omega) (by omega)).mono ?_; rintro e w3 ⟨r3, rfl, o3, hb3⟩; have PE : Hid (_) := PD.out.on hb3; have OE : Hid (_) := ownsRow_below OD.out hb3; have SE : Hid (_) := own_slice o3 (fun j _ => numF_lt _ _ _); have NE : Hid (_) := own_nil o3; clear o3 hb3)
      | (refine atAppB (.tmp 57) (.tmp 60) rfl ?_; go_must (refine wpList_appS (B := V.heap.size) (n := 16) (m := 8) (p := q) rfl (.tmp 57) (.tmp 60) rfl rfl rfl OE.out (sliceN_cg SE.out fun j hj => by rw [← HQ.out, packB_num16 _ _ _ _ _ hj]) NE.out (by omega) PE.out.bel.size ?_; intro u3 W3 own3 gr3; have PF : Hid (PS V.heap.size rd ep lf (.slice ca n ccap) V W3) := PE.out.grown OE.out (grown_row gr3); have OF : Hid (W3.ownsRow V.heap.size 5 1 u3 24 (bytesL 24 q)) := own3; clear own3 gr3)))
    have PP : Hid (PS V.heap.size rd ep lf (.slice ca n ccap) V _ ∧ World.ownsRow _ V.heap.size 5 1 u3 (cellAt 0) (bytesL (cellAt 0) q)) := ⟨PF.out, OF.out⟩
    clear PA PB PC PD PE PF OA OB OC OD OE OF SA SC SE NA NC NE ROW PSH
    go_loopw [5, 6] (fun u x W => ∃ i : Nat, i ≤ n ∧ x = .int .i64 (i : Int) ∧ (∀ j, j < i → ln j = 320) ∧ W.ownsRow V.heap.size 5 1 u (cellAt i) (bytesL (cellAt i) q) ∧ PS V.heap.size rd ep lf (.slice ca n ccap) V W) (fun _ x _ => n - (intOf x).toNat)
    case atStart => exact ⟨0, Nat.zero_le _, rfl, fun j h => by omega, PP.out.2, PP.out.1⟩
    case round =>
      obtain ⟨i, hi, rfl, hal, own, ps⟩ := hrel
      obtain ⟨e3, _⟩ := ps.cells
      clear PP
      by_cases hlt : i < n
      · have i1 : (i : Int) < n := by omega
        obtain ⟨b, off, rfl, hb, hcell⟩ := HS.out (by omega)
        have c1 : wr.cell? ⟨b, off + i, none⟩ = some (xv i) := by rw [cell_below ps.bel hb]; exact hcell i hlt
        have sl := HC.out.cell i hlt
        obtain ⟨ua, uc, eu, _⟩ := sl.shape
        rw [eu] at c1
        have ul := HC.out.lens i hlt
        have u1' : (ln i : Int) ≤ 140737488351232 := by omega
        have HK : Hid (i < n ∧ (∀ j, j < i → ln j = 320) ∧ wr.ownsRow V.heap.size 5 1 _ (cellAt i) (bytesL (cellAt i) q) ∧ PS V.heap.size rd ep lf _ V wr ∧ xv i = .slice ua (ln i) uc ∧ b < V.heap.size ∧ V.cell? ⟨b, off + i, none⟩ = some (xv i)) := ⟨hlt, hal, own, ps, eu, hb, hcell i hlt⟩
        by_cases h3 : ln i = 320
        · have i3 : ((ln i : Int) != 320) = false := by simp; omega
          have H3 : Hid (ln i = 320) := h3
          clear hlt hi hal hb hcell sl eu ul h3 own ps
          go_wp2_with (first
            | (go_at_call 24; refine (number_any 320 2 _ (by omega) (by omega)).mono ?_; rintro e w5 ⟨r5, rfl, o5, hb5⟩; have P5 : Hid (PS V.heap.size rd ep lf _ V w5 ∧ w5.ownsRow V.heap.size 5 1 _ (cellAt i) (bytesL (cellAt i) q) ∧ SliceN w5 r5 2 (numF 320 2) ∧ ∀ l c, r5 = .slice none l c → c = 0) := ⟨HK.out.2.2.2.1.on hb5, ownsRow_below HK.out.2.2.1 hb5, own_slice o5 (fun j _ => numF_lt _ _ _), own_nil o5⟩; clear o5 hb5)
            | (refine atAppB (.tmp 76) (.tmp 77) rfl ?_; go_must (refine wpList_appS (B := V.heap.size) (n := cellAt i) (m := 2) (p := q) rfl (.tmp 76) (.tmp 77) rfl rfl rfl P5.out.2.1 (sliceN_cg P5.out.2.2.1 fun j hj => by rw [← HQ.out, packB_len _ _ _ _ _ _ hj]) P5.out.2.2.2 (by have := HN.out; have := HK.out.1; unfold cellAt; omega) P5.out.1.bel.size ?_; intro u6 W6 own6 gr6; have p6 := P5.out.1.grown P5.out.2.1 (grown_row gr6); obtain ⟨g3, _⟩ := p6.cells; have g4 := (cell_below p6.bel HK.out.2.2.2.2.2.1).trans HK.out.2.2.2.2.2.2; rw [HK.out.2.2.2.2.1] at g4; have P6 : Hid (PS V.heap.size rd ep lf _ V W6 ∧ W6.ownsRow V.heap.size 5 1 u6 (cellAt i + 2) (bytesL (cellAt i + 2) q)) := ⟨p6, own6⟩; clear p6 own6 gr6))
            | (refine atAppB (.tmp 79) (.tmp 84) rfl ?_; go_must (
                have sl6 := (HC.out.cell i HK.out.1).on P6.out.1.bel
                rw [HK.out.2.2.2.2.1, H3.out] at sl6
                have nl6 := HC.out.nil i HK.out.1
                rw [HK.out.2.2.2.2.1, H3.out] at nl6
                rw [H3.out]
                refine wpList_appS (B := V.heap.size) (n := cellAt i + 2) (m := 320) (p := q) rfl (.tmp 79) (.tmp 84) rfl rfl rfl P6.out.2 (sliceN_cg sl6 fun j hj => by rw [← HQ.out, packB_cell _ _ _ _ _ _ hj]) nl6 (by have := HN.out; have := HK.out.1; unfold cellAt; omega) P6.out.1.bel.size ?_
                intro u7 W7 own7 gr7
                have P7 : Hid (PS V.heap.size rd ep lf _ V W7 ∧ W7.ownsRow V.heap.size 5 1 u7 (cellAt i + 2 + 320) (bytesL (cellAt i + 2 + 320) q)) := ⟨P6.out.1.grown P6.out.2 (grown_row gr7), own7⟩
                clear own7 gr7 sl6 nl6)))
          go_roundw
          case rel => exact ⟨i + 1, HK.out.1, by have := HN.out; have := HK.out.1; go_num, fun j hj => by
            by_cases e : j = i
            · rw [e]; exact H3.out
            · exact HK.out.2.1 j (by omega), by rw [cellAt_succ]; exact P7.out.2, P7.out.1⟩
          case measure => have := HK.out.1; simp [intOf]; omega
        · have H3 : Hid (ln i ≠ 320) := h3
          obtain ⟨L, hL⟩ : ∃ L, ln i = L := ⟨_, rfl⟩
          rw [hL] at c1 u1' h3
          have i3 : ((L : Int) != 320) = true := by simp; omega
          clear hlt hi hal hb hcell sl eu ul h3 own ps hL
          go_wp2
          refine bodyPost_ret (results_tmp2 rfl _ _ _) rfl ?_
          have na : ¬ allC n ln = true := fun q => H3.out ((allC_iff n ln).1 q i HK.out.1)
          obtain ⟨q1, q2⟩ := HE.out
          rw [if_pos HN.out, if_neg na] at q1
          rw [if_neg (fun q => na q.2)] at q2
          rw [← q1, ← q2]
          exact ⟨_, rfl, World.ownsRow_nil _ _ _ _, HK.out.2.2.2.1.bel⟩
      · have ei : i = n := by omega
        subst ei
        have i1 : ¬ (i : Int) < i := by omega
        have al : allC i ln = true := (allC_iff i ln).2 hal
        have AL : Hid (0 = E ∧ cellAt i + 4 = N) := by
          obtain ⟨q1, q2⟩ := HE.out
          rw [if_pos HN.out, if_pos al] at q1
          rw [if_pos ⟨HN.out, al⟩] at q2
          exact ⟨q1, q2⟩
        have HK : Hid (wr.ownsRow V.heap.size 5 1 _ (cellAt i) (bytesL (cellAt i) q) ∧ PS V.heap.size rd ep lf _ V wr ∧ (∀ j, j < cellAt i → q j < 256)) := ⟨own, ps, fun j hj => by
          rw [← HQ.out]
          refine packB_lt _ _ _ _ _ (by have := HH.out.1; omega) (fun a b ha hb => ?_) hj
          have := HC.out.cell a ha
          rw [hal a ha] at this
          exact this.bytes b hb⟩
        clear hi hlt hal own ps al
        go_wp2_with (first
          | (go_at_call 25; refine (foot_any q (cellAt i) _ wr (own_slice HK.out.1 HK.out.2.2) (by have := HN.out; unfold cellAt; omega)).mono ?_; rintro e w5 ⟨r5, rfl, o5, hb5⟩; have P5 : Hid (PS V.heap.size rd ep lf _ V w5 ∧ w5.ownsRow V.heap.size 5 1 _ (cellAt i) (bytesL (cellAt i) (packF rd ep lf i c)) ∧ SliceN w5 r5 4 (footF q (cellAt i)) ∧ ∀ l c, r5 = .slice none l c → c = 0) := ⟨HK.out.2.1.on hb5, (by have := ownsRow_below HK.out.1 hb5; rw [bytesL_congr (g := packF rd ep lf i c) fun j hj => by rw [packF_in _ _ _ _ _ hj, HQ.out]] at this; exact this), own_slice o5 (fun j _ => numF_lt _ _ _), own_nil o5⟩; clear o5 hb5)
          | (refine atAppB (.tmp 88) (.tmp 89) rfl ?_; go_must (refine wpList_appS (B := V.heap.size) (n := cellAt i) (m := 4) (p := packF rd ep lf i c) rfl (.tmp 88) (.tmp 89) rfl rfl rfl P5.out.2.1 (sliceN_cg P5.out.2.2.1 fun j _ => by rw [packF_foot, HQ.out]) P5.out.2.2.2 (by have := HN.out; unfold cellAt; omega) P5.out.1.bel.size ?_; intro u6 W6 own6 gr6; have P6 : Hid (PS V.heap.size rd ep lf _ V W6 ∧ W6.ownsRow V.heap.size 5 1 u6 (cellAt i + 4) (bytesL (cellAt i + 4) (packF rd ep lf i c))) := ⟨P5.out.1.grown P5.out.2.1 (grown_row gr6), own6⟩; clear own6 gr6)))
        refine bodyPost_ret (results_tmp2 rfl _ _ _) rfl ?_
        rw [← AL.out.1, ← AL.out.2]
        exact ⟨_, rfl, P6.out.2, P6.out.1.bel⟩
  · have HQ : Hid (63 = E ∧ 0 = N) := by
      obtain ⟨q1, q2⟩ := HE.out
      rw [if_neg hn256] at q1
      rw [if_neg (fun g => hn256 g.1)] at q2
      exact ⟨q1, q2⟩
    have l1 : (n : Int) > 256 := by omega
    have l2 : (n : Int) ≤ 140737488351232 := by omega
    go_enter Tryz.func13, Tryz.ntmps13
    go_wp2_with (first
      | (refine atLoad 23 (.tmp 8) rfl ?_; go_must (refine wpList_ex rfl (execLoadMid (cs := [.int .i64 rd, .int .i64 ep, .int .i64 lf]) rfl rfl (range_bh (heapNew V _)) Tryz.underlying23 rfl (by kernel_rfl)) ?_))
      | (refine atStore 23 (.tmp 4) (.tmp 9) rfl ?_; go_must (refine wpList_exS rfl (execStHd (rd := rd) (ep := ep) (lf := lf) rfl rfl rfl (heap2c V _ _).2) ?_; rw [HW.out])))
    refine bodyPost_ret (results_tmp2 rfl _ _ _) rfl ?_
    rw [← HQ.out.1, ← HQ.out.2]
    exact ⟨_, rfl, World.ownsRow_nil _ _ _ _, PSH.out.bel⟩
end Go.Proofs.YthmlfglllhmimaaGreatDoor.Frm
