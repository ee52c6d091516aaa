import Derived.Test.YtcffmmeafnapiaaDoorB7q
namespace Go.Proofs.YtcffmmeafnapiaaDoor.Rou
open Go.RowKit Gf8 Aes By8 Cel Oni
/- RouteThrough. Written by tools/mkB7s.py. -/

theorem execLenP {o : Oper} {a : Act} {w : World} {x : Operand} {ao : Option Addr} {c len : Nat} (ho : o.op = .call { callee := .builtin .len, args := #[x], argTypes := #[37] }) (hx : a.eval x = .slice ao len c) : (execOp a.eval o).run Tryd.prog w = .ok (.value (.int .i64 (len : Int))) w := by
  unfold execOp
  simp only [ho, resolve, invoke, builtin, Sem.run_bind, Sem.run_pure, Result.andThen_ok, List.map_toArray, List.map_cons, List.map_nil, hx]
  simp [go_sem]
theorem open_plain8 {len : Nat} (p : Nat → Nat) (h : len ≤ 48) : openY (cellF 2 (headP len) len p) 320 = true ∧ openE (cellF 2 (headP len) len p) 320 = 0 ∧ openN (cellF 2 (headP len) len p) 320 = len := by
  have a0 : cellF 2 (headP len) len p 0 = 1 := rfl
  have a1 : cellF 2 (headP len) len p 1 = len := rfl
  have hz : zeroFrom (cellF 2 (headP len) len p) (2 + len) = true := (zeroFrom_iff _ _).2 fun j h1 h2 => by
    unfold cellF
    rw [if_neg (by omega), if_neg (by omega)]
  have hy : openY (cellF 2 (headP len) len p) 320 = true := by
    unfold openY
    rw [a0, a1, hz]
    simp [h]
  refine ⟨hy, ?_, by unfold openN; rw [if_pos hy, a1]⟩
  unfold openE
  rw [if_neg (by simp), a0, a1, if_neg (by omega), if_neg (by omega), if_neg (by omega), if_pos hz]
set_option maxRecDepth 20000 in
set_option maxHeartbeats 4000000 in
theorem through8_any (kv nv pv : Value) (h hn n : Nat) (xv : Nat → Value) (lk : Nat → Nat) (key q : Nat → Nat → Nat) (p : Nat → Nat) (V : World) (hG : Glob V) (hc : Cells V kv h xv lk key) (hq : Nons V nv hn q) (hp : SliceZ V pv n p) (hb1 : h ≤ 140737488351232) (hb2 : hn ≤ 140737488351232) (hb3 : n ≤ 140737488351232) :
    Calls Tryd.prog 5 #[.agg (hC kv nv pv)] V fun e w' => e = .returned (.bool true) ∧ Below V.heap.size V w' := by
  obtain ⟨V1, hV1⟩ : ∃ V1, V.alloc (.cells (hC kv nv pv) 33) = V1 := ⟨_, rfl⟩
  have r1 := heapNew V (.cells (hC kv nv pv) 33)
  have b1 := belNew V (.cells (hC kv nv pv) 33)
  have s1 : V1.heap.size = V.heap.size + 1 := by rw [← hV1]; simp
  rw [hV1] at r1 b1
  have H : Hid (V1.heap[V.heap.size]? = some (.cells (hC kv nv pv) 33) ∧ Below V.heap.size V V1 ∧ V1.heap.size = V.heap.size + 1) := ⟨r1, b1, s1⟩
  have A := awake8_any V1 (hG.below b1 hG.sz)
  have RI : Hid (∀ W, Below V.heap.size V W → Calls Tryd.prog 13 #[.agg (hC kv nv pv)] W fun e w' => e = .returned (.bool (decide (rwE h hn lk n = 0))) ∧ Below W.heap.size W w') := fun W hW => right_any kv nv pv h hn n xv lk key q p W (hc.on hW) (hq.on hW) (hp.on hW) hb1 hb2 hb3
  by_cases hE : rwE h hn lk n = 0
  · rw [decide_eq_true hE] at RI
    obtain ⟨h1, h8, e3, hk, h5⟩ := rwE_ok hE
    obtain rfl : h = hn := e3.symm
    clear e3
    obtain ⟨ka, kc, rfl, kc1, _, hs⟩ := id hc.shape
    obtain ⟨na, nc, rfl, nc1, _, ht⟩ := id hq.shape
    obtain ⟨kb, ko, rfl, hs1, hs2⟩ := hs (by omega)
    obtain ⟨nb, no, rfl, ht1, ht2⟩ := ht (by omega)
    obtain ⟨pa, pc, rfl⟩ := id hp.shape
    obtain ⟨cw, hcw⟩ : ∃ cw, rwF h key q n p = cw := ⟨_, rfl⟩
    obtain ⟨m, rfl⟩ : ∃ m, h = m + 1 := ⟨h - 1, by omega⟩
    have hN : rwN (m + 1) (m + 1) lk n = 320 := if_pos hE
    have CL : Hid (∀ j, j < 320 → cw j < 256) := by
      have := rwF_lt (h := m + 1) (hn := m + 1) (lk := lk) (key := key) (q := q) (n := n) (p := p) hq.by_ hp.sl.bytes
      rw [hN, hcw] at this
      exact this
    have PW : Hid (∀ W, Below V.heap.size V W → Calls Tryd.prog 12 #[.slice (some ⟨kb, ko, none⟩) (m + 1) kc, .slice (some ⟨nb, no, none⟩) (m + 1) nc, .slice pa n pc] W fun e w' => ∃ r, e = .returned (.tuple #[r, .int .i64 0]) ∧ w'.ownsRow W.heap.size 5 1 r 320 (bytesL 320 cw) ∧ Below W.heap.size W w') := fun W hW => by
      have h := rwrap8_any _ _ _ (m + 1) (m + 1) n xv lk key q p W (hG.below hW hG.sz) (hc.on hW) (hq.on hW) (hp.on hW) hb1 hb2 hb3
      rw [hcw, hE, hN] at h
      exact h
    obtain ⟨pl, hpl⟩ : ∃ pl, cellF 2 (headP n) n p = pl := ⟨_, rfl⟩
    have PLL : Hid (∀ j, j < 320 → pl j < 256) := fun j _ => by
      rw [← hpl]
      exact cellF_lt (fun j h => by unfold headP; split <;> omega) hp.sl.bytes j
    have hwk := ce_walk (h := m + 1) (key := key) (nonce := q) (n := n) (p := p) (lk := lk) h5 h8 hk (m + 1) (Nat.le_refl _)
    rw [← rw_ce (by omega), hcw, show m + 1 - (m + 1) = 0 by omega, show ceF (m + 1) key q n p 0 = cellF 2 (headP n) n p from if_pos rfl, hpl] at hwk
    have WK : Hid (∀ W (v : Value), Below V.heap.size V W → SliceZ W v 320 cw → Calls Tryd.prog 14 #[.slice (some ⟨kb, ko, none⟩) (m + 1) kc, v] W fun e w' => ∃ lv cv r, ∃ c : Nat → Nat → Nat, e = .returned (.tuple #[lv, .int .i64 0]) ∧ Way w' W.heap.size lv (m + 1) cv r c ∧ c m = pl ∧ Below W.heap.size W w') := fun W v hW hv => by
      have h := pwalk_any (.slice (some ⟨kb, ko, none⟩) (m + 1) kc) v (m + 1) 320 xv lk key cw W (hG.below hW hG.sz) (hc.on hW) hv hb1 (by omega)
      have e0 : wkE (m + 1) key lk 320 cw = 0 := by unfold wkE; rw [if_neg (by omega)]; exact hwk.2
      rw [e0, show wkN (m + 1) 0 = m + 1 from rfl] at h
      refine h.mono ?_
      rintro e w' ⟨lv, cv, rfl, hw, hb⟩
      exact ⟨lv, cv, _, _, rfl, hw, hwk.1, hb⟩
    have ho := open_plain8 (len := n) p h5
    rw [hpl] at ho
    have OP : Hid (∀ W (v : Value), SliceZ W v 320 pl → Calls Tryd.prog 15 #[v] W fun e w' => ∃ r, e = .returned (.tuple #[r, .bool true, .int .i64 0]) ∧ SliceN w' r n p ∧ Below W.heap.size W w') := fun W v hv => by
      have h := open_any pl 320 v W hv (by omega)
      rw [ho.1, ho.2.1, ho.2.2] at h
      refine h.mono ?_
      rintro e w' ⟨r, rfl, own, hb⟩
      refine ⟨r, rfl, sliceN_cg (own_slice own (fun j hj => PLL.out (2 + j) (by omega))) (fun j hj => ?_), hb⟩
      rw [← hpl]
      unfold cellF
      rw [if_neg (by omega), if_pos (by omega)]
      congr 1
      omega
    have PL : Hid (∀ W, Below V.heap.size V W → Calls Tryd.prog 16 #[.slice pa n pc] W fun e w' => ∃ r, e = .returned (.tuple #[r, .int .i64 0]) ∧ w'.ownsRow W.heap.size 5 1 r 320 (bytesL 320 pl) ∧ Below W.heap.size W w') := fun W hW => by
      have h := plain_any p n _ W (hp.on hW) (by omega)
      rw [show okE 48 n = 0 from if_pos h5, show okN 48 n = 320 from if_pos h5, hpl] at h
      exact h
    have HP : Hid (SliceZ V (.slice pa n pc) n p) := hp
    have HM : Hid (m ≤ 7) := by show m ≤ 7; omega
    have im : ((m + 1 : Nat) : Int) ≤ 8 := by omega
    have zp := zeroP
    clear hG hc hq hp hb1 hb2 hb3 hE h1 h8 hk h5 hs hs1 hs2 ht ht1 ht2 hcw hN r1 b1 s1 hwk ho hpl kc1 nc1
    go_enter Tryd.func5, Tryd.ntmps5
    go_wp2_with (first
      | (go_at_call 8; refine A.mono ?_; rintro e w1 ⟨rfl, hb1⟩; have B1 : Hid (w1.heap[V.heap.size]? = some (.cells (hC (.slice (some ⟨kb, ko, none⟩) (m + 1) kc) (.slice (some ⟨nb, no, none⟩) (m + 1) nc) (.slice pa n pc)) 33) ∧ Below V.heap.size V w1) := ⟨(by rw [hb1.block _ (by have := H.out.2.2; omega)]; exact H.out.1), H.out.2.1.trans (hb1.mono H.out.2.1.size)⟩; obtain ⟨c0, c1, c2⟩ := hC_at B1.out.1; clear hb1)
      | (go_at_call 12; refine (PW.out w1 B1.out.2).mono ?_; rintro e w2 ⟨r2, rfl, own2, hb2⟩; obtain ⟨a2, q2, rfl⟩ := own_shapeJ own2; have B2 : Hid (w2.heap[V.heap.size]? = some (.cells (hC (.slice (some ⟨kb, ko, none⟩) (m + 1) kc) (.slice (some ⟨nb, no, none⟩) (m + 1) nc) (.slice pa n pc)) 33) ∧ Below V.heap.size V w2 ∧ SliceZ w2 (.slice a2 320 q2) 320 cw) := ⟨(by rw [hb2.block _ (Array.getElem?_eq_some_iff.1 B1.out.1).1]; exact B1.out.1), B1.out.2.trans (hb2.mono B1.out.2.size), own_sliceZ own2 CL.out⟩; clear own2 hb2 c0 c1 c2)
      | (refine atLoad 33 (.tmp 1) rfl ?_; go_must (refine wpList_ex rfl (execLdAll rfl rfl B2.out.1 Tryd.underlying33 rfl (size3 _ _ _)) ?_))
      | (go_at_call 13; refine (RI.out w2 B2.out.2.1).mono ?_; rintro e w3 ⟨rfl, hb3⟩; have B3 : Hid (w3.heap[V.heap.size]? = some (.cells (hC (.slice (some ⟨kb, ko, none⟩) (m + 1) kc) (.slice (some ⟨nb, no, none⟩) (m + 1) nc) (.slice pa n pc)) 33) ∧ Below V.heap.size V w3 ∧ SliceZ w3 (.slice a2 320 q2) 320 cw) := ⟨(by rw [hb3.block _ (Array.getElem?_eq_some_iff.1 B2.out.1).1]; exact B2.out.1), B2.out.2.1.trans (hb3.mono B2.out.2.1.size), B2.out.2.2.on hb3⟩; obtain ⟨d0, d1, d2⟩ := hC_at B3.out.1; clear hb3)
      | (go_at_call 14; refine (WK.out w3 _ B3.out.2.1 B3.out.2.2).mono ?_; rintro e w4 ⟨lv, cv, rr, cc, rfl, hw, hcm, hb4⟩; obtain ⟨la, lc, rfl, hrow⟩ := id hw.row; obtain ⟨lg, rfl, _, hlg, hrange⟩ := hrow (by omega); have B4 : Hid (w4.heap[V.heap.size]? = some (.cells (hC (.slice (some ⟨kb, ko, none⟩) (m + 1) kc) (.slice (some ⟨nb, no, none⟩) (m + 1) nc) (.slice pa n pc)) 33) ∧ Below V.heap.size V w4 ∧ Way w4 w3.heap.size (.slice (some ⟨lg, 0, none⟩) (m + 1) lc) (m + 1) cv rr cc ∧ cc m = pl ∧ lg < w4.heap.size ∧ ∀ k, k < m + 1 → w4.cell? ⟨lg, k * 17, none⟩ = some (cv k)) := ⟨(by rw [hb4.block _ (Array.getElem?_eq_some_iff.1 B3.out.1).1]; exact B3.out.1), B3.out.2.1.trans (hb4.mono B3.out.2.1.size), hw, hcm, hlg, fun k hk => hrange k hk 0 _ rfl⟩; obtain ⟨e0, e1, e2⟩ := hC_at B4.out.1; clear hw hcm hlg hrange hrow hb4 d0 d1 d2))
    go_loopw [7] (fun z W => ∃ i : Nat, i ≤ m + 1 ∧ z = .int .i64 (i : Int) ∧ W = w4) (fun z _ => m + 1 - (intOf z).toNat)
    case atStart => exact ⟨0, Nat.zero_le _, rfl, rfl⟩
    case round =>
      obtain ⟨i, hi, rfl, hw⟩ := hrel
      rw [hw]
      clear hw
      by_cases hlt : i < m + 1
      · have j1 : (i : Int) < ((m + 1 : Nat) : Int) := by omega
        obtain ⟨ai, ci, ei⟩ := own_shapeJ (B4.out.2.2.1.own i hlt)
        have f1 := B4.out.2.2.2.2.2 i hlt
        rw [ei] at f1
        have HI : Hid (i < m + 1) := hlt
        clear hlt hi ei
        go_wp2_with (first
          | (refine wpList_ex rfl (execIdxP (x := .tmp 67) (k := i) rfl rfl rfl HI.out) ?_)
          | (refine wpList_ex rfl (execFP0 (x := .tmp 69) rfl rfl) ?_)
          | (refine wpList_ex rfl (execLdL (x := .tmp 70) rfl rfl f1) ?_))
        go_roundw
        case rel => exact ⟨i + 1, HI.out, by go_num, by first | trivial | rfl⟩
        case measure => have := HI.out; simp [intOf]; omega
      · have j1 : ¬ (i : Int) < ((m + 1 : Nat) : Int) := by omega
        obtain ⟨am, cm, em⟩ := own_shapeJ (B4.out.2.2.1.own m (by omega))
        have f1 := B4.out.2.2.2.2.2 m (by omega)
        have om := B4.out.2.2.1.own m (by omega)
        rw [em] at f1 om
        rw [B4.out.2.2.2.1] at om
        have FM : Hid (w4.cell? ⟨lg, m * 17, none⟩ = some (.slice am 320 cm) ∧ SliceZ w4 (.slice am 320 cm) 320 pl) := ⟨f1, own_sliceZ om PLL.out⟩
        clear hlt hi em om
        go_wp2_with (first
          | (refine wpList_ex rfl (execSubJ (x := .tmp 77) (p := m + 1) (q := 1) (r := m) rfl rfl rfl (by omega) (by have := HM.out; omega)) ?_)
          | (refine wpList_ex rfl (execIdxP (x := .tmp 75) (k := m) rfl rfl rfl (by omega)) ?_)
          | (refine wpList_ex rfl (execFP0 (x := .tmp 79) rfl rfl) ?_)
          | (refine wpList_ex rfl (execLdL (x := .tmp 80) rfl rfl f1) ?_)
          | (go_at_call 15; refine (OP.out w4 _ FM.out.2).mono ?_; rintro e w5 ⟨r5, rfl, s5, hb5⟩; obtain ⟨a5, c5, rfl, _⟩ := id s5.shape; have B5 : Hid (w5.heap[V.heap.size]? = some (.cells (hC (.slice (some ⟨kb, ko, none⟩) (m + 1) kc) (.slice (some ⟨nb, no, none⟩) (m + 1) nc) (.slice pa n pc)) 33) ∧ Below V.heap.size V w5 ∧ SliceN w5 (.slice a5 n c5) n p ∧ Below w4.heap.size w4 w5) := ⟨(by rw [hb5.block _ (Array.getElem?_eq_some_iff.1 B4.out.1).1]; exact B4.out.1), B4.out.2.1.trans (hb5.mono B4.out.2.1.size), s5, hb5⟩; obtain ⟨g0, g1, g2⟩ := hC_at B5.out.1; clear s5 hb5)
          | (go_at_call 16; refine (PL.out w5 B5.out.2.1).mono ?_; rintro e w6 ⟨r6, rfl, own6, hb6⟩; obtain ⟨a6, c6, rfl⟩ := own_shapeJ own6; have B6 : Hid (Below V.heap.size V w6 ∧ w6.heap[V.heap.size]? = some (.cells (hC (.slice (some ⟨kb, ko, none⟩) (m + 1) kc) (.slice (some ⟨nb, no, none⟩) (m + 1) nc) (.slice pa n pc)) 33) ∧ SliceN w6 (.slice a5 n c5) n p ∧ SliceN w6 (.slice pa n pc) n p ∧ SliceN w6 (.slice a6 320 c6) 320 pl ∧ Below w4.heap.size w4 w6) := ⟨B5.out.2.1.trans (hb6.mono B5.out.2.1.size), (by rw [hb6.block _ (Array.getElem?_eq_some_iff.1 B5.out.1).1]; exact B5.out.1), B5.out.2.2.1.on hb6, HP.out.sl.on (B5.out.2.1.trans (hb6.mono B5.out.2.1.size)), own_slice own6 PLL.out, B5.out.2.2.2.trans (hb6.mono B5.out.2.2.2.size)⟩; clear own6 hb6))
        have FX : Hid (∀ X, Below w6.heap.size w6 X → SliceN X (.slice a5 n c5) n p ∧ X.cell? ⟨V.heap.size, 2, none⟩ = some (.slice pa n pc) ∧ SliceN X (.slice pa n pc) n p ∧ X.cell? ⟨lg, m * 17, none⟩ = some (.slice am 320 cm) ∧ SliceN X (.slice am 320 cm) 320 pl ∧ SliceN X (.slice a6 320 c6) 320 pl) := fun X hX => by
          have b4X := B6.out.2.2.2.2.2.trans (hX.mono B6.out.2.2.2.2.2.size)
          exact ⟨B6.out.2.2.1.on hX, (hC_at (by rw [hX.block _ (Array.getElem?_eq_some_iff.1 B6.out.2.1).1]; exact B6.out.2.1)).2.2, B6.out.2.2.2.1.on hX, by rw [cell_below b4X B4.out.2.2.2.2.1]; exact FM.out.1, FM.out.2.sl.on b4X, B6.out.2.2.2.2.1.on hX⟩
        refine wp_region_det 118 [(0, 92), (1, 93), (2, 94), (3, 95), (4, 96), (5, 97), (6, 98), (7, 99), (8, 100), (9, 101), (10, 102), (11, 103), (12, 104), (13, 105), (14, 106), (15, 107), (16, 108), (17, 109), (18, 110), (19, 111), (20, 112), (21, 113), (22, 114), (23, 115), (24, 116), (25, 117), (26, 2)] (fun i_ => match i_ with | 0 => .int .i64 0 | 1 => .bool true | 2 => .bool true | 3 => .bool true | 4 => .bool true | 5 => .bool true | 6 => .slice a5 n c5 | 7 => .string (strN p n) | 8 => .pointer (some ⟨V.heap.size, 2, none⟩) | 9 => .slice pa n pc | 10 => .string (strN p n) | 11 => .bool true | 12 => .bool true | 13 => .bool true | 14 => .slice (some ⟨lg, 0, none⟩) (m + 1) lc | 15 => .slice (some ⟨lg, 0, none⟩) (m + 1) lc | 16 => .int .i64 ((m + 1 : Nat) : Int) | 17 => .int .i64 ((m : Nat) : Int) | 18 => .pointer (some ⟨lg, m * 17, none⟩) | 19 => .pointer (some ⟨lg, m * 17, none⟩) | 20 => .slice am 320 cm | 21 => .string (strN pl 320) | 22 => .slice a6 320 c6 | 23 => .string (strN pl 320) | 24 => .bool true | 25 => .bool true | 26 => .bool true | _ => undef) (fun _ X => Below w6.heap.size w6 X) (by kernel_rfl) (by kernel_rfl) rfl (by kernel_rfl) (by decide) (by decide) ?_ ?_ ?_
        · exact (Below.refl _ _).drew
        · intro j hj l a X hl hf hdep hl2 hcl _ hT
          match j, hj with
          | 0, _ => exact stepV rfl rfl (execMvB rfl (hf 10 (by decide))) ⟨⟨_, rfl, rfl⟩, hT⟩
          | 1, _ => exact stepV rfl rfl (execEq0E rfl (hdep _ rfl 0 rfl _ rfl _ rfl)) ⟨⟨_, rfl, rfl⟩, hT⟩
          | 2, _ => exact stepV rfl rfl (execMvB rfl (hdep _ rfl 1 rfl _ rfl _ rfl)) ⟨⟨_, rfl, rfl⟩, hT⟩
          | 3, _ => exact stepV rfl (wantedOf rfl (yieldedAt rfl rfl (show a.eval (.tmp 94) = .bool true from (hdep _ rfl 2 rfl _ rfl _ rfl)))) (execMvB rfl (hf 9 (by decide))) ⟨⟨_, rfl, rfl⟩, hT⟩
          | 4, _ => exact stepV rfl rfl (execPick (b := true) rfl (hdep _ rfl 2 rfl _ rfl _ rfl) (hdep _ rfl 3 rfl _ rfl _ rfl)) ⟨⟨_, rfl, rfl⟩, hT⟩
          | 5, _ => exact stepV rfl rfl (execMvB rfl (hdep _ rfl 4 rfl _ rfl _ rfl)) ⟨⟨_, rfl, rfl⟩, hT⟩
          | 6, _ => exact stepV rfl (wantedOf rfl (yieldedAt rfl rfl (show a.eval (.tmp 97) = .bool true from (hdep _ rfl 5 rfl _ rfl _ rfl)))) (execMvB rfl (hf 8 (by decide))) ⟨⟨_, rfl, rfl⟩, hT⟩
          | 7, _ => exact stepV rfl (wantedOf rfl (yieldedAt rfl rfl (show a.eval (.tmp 97) = .bool true from (hdep _ rfl 5 rfl _ rfl _ rfl)))) (By8.execStr rfl (hdep _ rfl 6 rfl _ rfl _ rfl) (FX.out X hT).1) ⟨⟨_, rfl, rfl⟩, hT⟩
          | 8, _ => exact stepV rfl (wantedOf rfl (yieldedAt rfl rfl (show a.eval (.tmp 97) = .bool true from (hdep _ rfl 5 rfl _ rfl _ rfl)))) (execC2 rfl (hf 1 (by decide))) ⟨⟨_, rfl, rfl⟩, hT⟩
          | 9, _ => exact stepV rfl (wantedOf rfl (yieldedAt rfl rfl (show a.eval (.tmp 97) = .bool true from (hdep _ rfl 5 rfl _ rfl _ rfl)))) (execLdL rfl (hdep _ rfl 8 rfl _ rfl _ rfl) (FX.out X hT).2.1) ⟨⟨_, rfl, rfl⟩, hT⟩
          | 10, _ => exact stepV rfl (wantedOf rfl (yieldedAt rfl rfl (show a.eval (.tmp 97) = .bool true from (hdep _ rfl 5 rfl _ rfl _ rfl)))) (By8.execStr rfl (hdep _ rfl 9 rfl _ rfl _ rfl) (FX.out X hT).2.2.1) ⟨⟨_, rfl, rfl⟩, hT⟩
          | 11, _ => exact stepV rfl (wantedOf rfl (yieldedAt rfl rfl (show a.eval (.tmp 97) = .bool true from (hdep _ rfl 5 rfl _ rfl _ rfl)))) (By8.execEqlS rfl (hdep _ rfl 7 rfl _ rfl _ rfl) (hdep _ rfl 10 rfl _ rfl _ rfl)) ⟨⟨_, rfl, rfl⟩, hT⟩
          | 12, _ => exact stepV rfl rfl (execPick (b := true) rfl (hdep _ rfl 5 rfl _ rfl _ rfl) (hdep _ rfl 11 rfl _ rfl _ rfl)) ⟨⟨_, rfl, rfl⟩, hT⟩
          | 13, _ => exact stepV rfl rfl (execMvB rfl (hdep _ rfl 12 rfl _ rfl _ rfl)) ⟨⟨_, rfl, rfl⟩, hT⟩
          | 14, _ => exact stepV rfl (wantedOf rfl (yieldedAt rfl rfl (show a.eval (.tmp 105) = .bool true from (hdep _ rfl 13 rfl _ rfl _ rfl)))) (execMvB rfl (hf 5 (by decide))) ⟨⟨_, rfl, rfl⟩, hT⟩
          | 15, _ => exact stepV rfl (wantedOf rfl (yieldedAt rfl rfl (show a.eval (.tmp 105) = .bool true from (hdep _ rfl 13 rfl _ rfl _ rfl)))) (execMvB rfl (hf 5 (by decide))) ⟨⟨_, rfl, rfl⟩, hT⟩
          | 16, _ => exact stepV rfl (wantedOf rfl (yieldedAt rfl rfl (show a.eval (.tmp 105) = .bool true from (hdep _ rfl 13 rfl _ rfl _ rfl)))) (execLenP (len := m + 1) rfl (hdep _ rfl 15 rfl _ rfl _ rfl)) ⟨⟨_, rfl, rfl⟩, hT⟩
          | 17, _ => exact stepV rfl (wantedOf rfl (yieldedAt rfl rfl (show a.eval (.tmp 105) = .bool true from (hdep _ rfl 13 rfl _ rfl _ rfl)))) (execSubJ (p := m + 1) (q := 1) (r := m) rfl (hdep _ rfl 16 rfl _ rfl _ rfl) rfl (by omega) (by have := HM.out; omega)) ⟨⟨_, rfl, rfl⟩, hT⟩
          | 18, _ => exact stepV rfl (wantedOf rfl (yieldedAt rfl rfl (show a.eval (.tmp 105) = .bool true from (hdep _ rfl 13 rfl _ rfl _ rfl)))) (execIdxP rfl (hdep _ rfl 14 rfl _ rfl _ rfl) (hdep _ rfl 17 rfl _ rfl _ rfl) (by omega)) ⟨⟨_, rfl, rfl⟩, hT⟩
          | 19, _ => exact stepV rfl (wantedOf rfl (yieldedAt rfl rfl (show a.eval (.tmp 105) = .bool true from (hdep _ rfl 13 rfl _ rfl _ rfl)))) (execFP0 rfl (hdep _ rfl 18 rfl _ rfl _ rfl)) ⟨⟨_, rfl, rfl⟩, hT⟩
          | 20, _ => exact stepV rfl (wantedOf rfl (yieldedAt rfl rfl (show a.eval (.tmp 105) = .bool true from (hdep _ rfl 13 rfl _ rfl _ rfl)))) (execLdL rfl (hdep _ rfl 19 rfl _ rfl _ rfl) (FX.out X hT).2.2.2.1) ⟨⟨_, rfl, rfl⟩, hT⟩
          | 21, _ => exact stepV rfl (wantedOf rfl (yieldedAt rfl rfl (show a.eval (.tmp 105) = .bool true from (hdep _ rfl 13 rfl _ rfl _ rfl)))) (By8.execStr rfl (hdep _ rfl 20 rfl _ rfl _ rfl) (FX.out X hT).2.2.2.2.1) ⟨⟨_, rfl, rfl⟩, hT⟩
          | 22, _ => exact stepV rfl (wantedOf rfl (yieldedAt rfl rfl (show a.eval (.tmp 105) = .bool true from (hdep _ rfl 13 rfl _ rfl _ rfl)))) (execMvB rfl (hf 11 (by decide))) ⟨⟨_, rfl, rfl⟩, hT⟩
          | 23, _ => exact stepV rfl (wantedOf rfl (yieldedAt rfl rfl (show a.eval (.tmp 105) = .bool true from (hdep _ rfl 13 rfl _ rfl _ rfl)))) (By8.execStr rfl (hdep _ rfl 22 rfl _ rfl _ rfl) (FX.out X hT).2.2.2.2.2) ⟨⟨_, rfl, rfl⟩, hT⟩
          | 24, _ => exact stepV rfl (wantedOf rfl (yieldedAt rfl rfl (show a.eval (.tmp 105) = .bool true from (hdep _ rfl 13 rfl _ rfl _ rfl)))) (By8.execEqlS rfl (hdep _ rfl 21 rfl _ rfl _ rfl) (hdep _ rfl 23 rfl _ rfl _ rfl)) ⟨⟨_, rfl, rfl⟩, hT⟩
          | 25, _ => exact stepV rfl rfl (execPick (b := true) rfl (hdep _ rfl 13 rfl _ rfl _ rfl) (hdep _ rfl 24 rfl _ rfl _ rfl)) ⟨⟨_, rfl, rfl⟩, hT⟩
          | 26, _ => exact stepV rfl rfl (execAsgB rfl (hdep _ rfl 25 rfl _ rfl _ rfl)) ⟨⟨_, rfl, rfl⟩, hT⟩
          | k + 27, h => exact absurd h (by simp)
        · intro l X hall hT
          have S7 : Hid (Below V.heap.size V X) := B6.out.1.trans (hT.mono B6.out.1.size)
          clear hall hT
          simp only [putP, Act.put, List.setIfInBounds_toArray, List.set_cons_succ, List.set_cons_zero]
          go_wp2_with fail
          go_ret
          exact ⟨rfl, S7.out⟩
  · rw [decide_eq_false hE] at RI
    obtain ⟨ka, kc, rfl, _⟩ := id hc.shape
    obtain ⟨na, nc, rfl, _⟩ := id hq.shape
    obtain ⟨pa, pc, rfl⟩ := id hp.shape
    obtain ⟨E, hE'⟩ : ∃ E, rwE h hn lk n = E := ⟨_, rfl⟩
    have PW : Hid (∀ W, Below V.heap.size V W → Calls Tryd.prog 12 #[.slice ka h kc, .slice na hn nc, .slice pa n pc] W fun e w' => ∃ r, e = .returned (.tuple #[r, .int .i64 (E : Int)]) ∧ w'.ownsRow W.heap.size 5 1 r 0 (bytesL 0 (rwF h key q n p)) ∧ Below W.heap.size W w') := fun W hW => by
      have h := rwrap8_any _ _ _ h hn n xv lk key q p W (hG.below hW hG.sz) (hc.on hW) (hq.on hW) (hp.on hW) hb1 hb2 hb3
      rw [show rwN _ hn lk n = 0 from if_neg hE, hE'] at h
      exact h
    rw [hE'] at hE
    have iE : ((E : Int) != 0) = true := by simp; omega
    clear hG hc hq hp hb1 hb2 hb3 r1 b1 s1 hE hE'
    go_enter Tryd.func5, Tryd.ntmps5
    go_wp2_with (first
      | (go_at_call 8; refine A.mono ?_; rintro e w1 ⟨rfl, hb1⟩; have B1 : Hid (w1.heap[V.heap.size]? = some (.cells (hC (.slice ka h kc) (.slice na hn nc) (.slice pa n pc)) 33) ∧ Below V.heap.size V w1) := ⟨(by rw [hb1.block _ (by have := H.out.2.2; omega)]; exact H.out.1), H.out.2.1.trans (hb1.mono H.out.2.1.size)⟩; obtain ⟨c0, c1, c2⟩ := hC_at B1.out.1; clear hb1)
      | (go_at_call 12; refine (PW.out w1 B1.out.2).mono ?_; rintro e w2 ⟨r2, rfl, own2, hb2⟩; obtain ⟨a2, q2, rfl⟩ := own_shapeJ own2; have B2 : Hid (w2.heap[V.heap.size]? = some (.cells (hC (.slice ka h kc) (.slice na hn nc) (.slice pa n pc)) 33) ∧ Below V.heap.size V w2) := ⟨(by rw [hb2.block _ (Array.getElem?_eq_some_iff.1 B1.out.1).1]; exact B1.out.1), B1.out.2.trans (hb2.mono B1.out.2.size)⟩; clear own2 hb2)
      | (refine atLoad 33 (.tmp 1) rfl ?_; go_must (refine wpList_ex rfl (execLdAll rfl rfl B2.out.1 Tryd.underlying33 rfl (size3 _ _ _)) ?_))
      | (go_at_call 13; refine (RI.out w2 B2.out.2).mono ?_; rintro e w3 ⟨rfl, hb3⟩; have B3 : Hid (Below V.heap.size V w3) := B2.out.2.trans (hb3.mono B2.out.2.size); clear hb3))
    go_ret
    exact ⟨rfl, B3.out⟩
end Go.Proofs.YtcffmmeafnapiaaDoor.Rou
