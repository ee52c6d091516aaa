import Derived.Test.YtdkkbgokemimfaaDoorD3a
namespace Go.Proofs.YtdkkbgokemimfaaDoor.Frm
open Go.RowKit Gf8 Aes By8 Cel
/- place, FrameTurned. -/

theorem eqlH (a b c a' b' c' : Int) : ∀ w, (binOp .eql 23 (.agg (hC a b c)) (.agg (hC a' b' c'))).run Tryd.prog w = .ok (.bool (a == a' && b == b' && c == c')) w := by
  intro w
  simp [go_sem, hC]
  by_cases h1 : a = a' <;> by_cases h2 : b = b' <;> by_cases h3 : c = c' <;> simp [h1, h2, h3]
set_option maxRecDepth 20000 in
theorem place_any (i : Int) (n : Nat) (V : World) (h1 : -9223372036854775808 ≤ i) (h2 : i < 9223372036854775808) (hn : 0 < n) (hm : n < 9223372036854775808) :
    Calls Tryd.prog 26 #[.int .i64 i, .int .i64 (n : Int)] V fun e w' => (∃ k : Nat, k < n ∧ e = .returned (.int .i64 (k : Int))) ∧ w' = V := by
  have n1 : (n : Int) < 9223372036854775808 := by omega
  have n0 : (n : Int) ≠ 0 := by omega
  have HN : Hid (0 < n) := hn
  clear hn hm
  by_cases h0 : i < 0
  · obtain ⟨k, hk⟩ : ∃ k : Nat, -(i + 1) = k := ⟨(-(i + 1)).toNat, by omega⟩
    have k1 : (k : Int) < 9223372036854775808 := by omega
    have HK : Hid (_) := hk
    go_enter Tryd.func26, Tryd.ntmps26
    go_wp2
    go_ret
    exact ⟨⟨k % n, Nat.mod_lt _ HN.out, rfl⟩, rfl⟩
  · obtain ⟨k, rfl⟩ : ∃ k : Nat, i = k := ⟨i.toNat, by omega⟩
    go_enter Tryd.func26, Tryd.ntmps26
    go_wp2
    go_ret
    exact ⟨⟨k % n, Nat.mod_lt _ HN.out, rfl⟩, rfl⟩
/-- What lies behind an own list of bytes. -/
theorem own_byte {W : World} {B n : Nat} {v : Value} {p : Nat → Nat} (h : W.ownsRow B 5 1 v n (bytesL n p)) (hn : 0 < n) : ∃ g cap, v = .slice (some ⟨g, 0, none⟩) n cap ∧ B ≤ g ∧ g < W.heap.size ∧ (∃ cur, W.heap[g]? = some (.cells cur 5)) ∧ ∀ j, j < n → W.cell? ⟨g, j, none⟩ = some (.int .u8 (p j)) := by
  rcases h.2 with ⟨_, e⟩ | ⟨g, cap, cur, rfl, hB, hg, h1, h2, h3, ht⟩
  · omega
  · refine ⟨g, cap, rfl, hB, (Array.getElem?_eq_some_iff.1 hg).1, ⟨cur, hg⟩, fun j hj => ?_⟩
    rw [cell_of_row _ _ _ _ _ _ hg]
    have : (List.take (n * 1) cur.toList)[j]? = some (.int .u8 (p j)) := by rw [ht]; exact bytesL_at n p hj
    rw [List.getElem?_take, if_pos (by omega), Array.getElem?_toList] at this
    exact this
theorem packE_le (rd ep lf : Int) (n : Nat) (ln : Nat → Nat) : packE rd ep lf n ln ≤ 64 := by
  unfold packE
  split
  · split
    · split <;> omega
    · omega
  · omega
/-- What is packed without an error. -/
theorem packE_ok {rd ep lf : Int} {n : Nat} {ln : Nat → Nat} (h : packE rd ep lf n ln = 0) : ∃ r e l : Nat, rd = r ∧ ep = e ∧ lf = l ∧ Good r e l n ∧ (∀ i, i < n → ln i = 320) ∧ packN rd ep lf n ln = cellAt n + 4 := by
  have h' := h
  unfold packE at h
  by_cases h1 : hdOk rd ep lf = true
  · rw [if_pos h1] at h
    by_cases h2 : n ≤ 256
    · rw [if_pos h2] at h
      by_cases h3 : allC n ln = true
      · obtain ⟨r, e, l, a, b, c, d⟩ := good_of h1 h2
        exact ⟨r, e, l, a, b, c, d, (allC_iff n ln).1 h3, by unfold packN; rw [if_pos h']⟩
      · rw [if_neg h3] at h; cases h
    · rw [if_neg h2] at h; cases h
  · rw [if_neg h1] at h; cases h
theorem xor_ne {a b : Nat} (h : b ≠ 0) : a ^^^ b ≠ a := by
  intro e
  apply h
  have : a ^^^ (a ^^^ b) = a ^^^ a := by rw [e]
  rw [← Nat.xor_assoc, Nat.xor_self, Nat.zero_xor] at this
  exact this
/-- Read of what is no batch. -/
theorem bad_read {p : Nat → Nat} {len : Nat} (h : (jE p len).2 ≠ 0) : okR p len = false ∧ rRound p len = 0 ∧ rEpoch p len = 0 ∧ rLeft p len = 0 ∧ rK p len = 0 := by
  have o1 : okR p len = false := by unfold okR; simpa using h
  refine ⟨o1, ?_, ?_, ?_, ?_⟩
  · unfold rRound; rw [o1]; rfl
  · unfold rEpoch; rw [o1]; rfl
  · unfold rLeft; rw [o1]; rfl
  · unfold rK; rw [o1]; rfl
theorem range_b3 {W : World} {A : Nat} {rd ep lf : Int} {cv : Value} {t : TypeId} (h : W.heap[A]? = some (.cells (bC rd ep lf cv) t)) : W.rangeAt A 0 (hC rd ep lf).toList := range_bh h
set_option maxRecDepth 20000 in
set_option maxHeartbeats 2000000 in
theorem turned_any (rd ep lf : Int) (n : Nat) (cv : Value) (xv : Nat → Value) (ln : Nat → Nat) (c : Nat → Nat → Nat) (at' : Int) (by' : Nat) (V : World) (g : Rules V) (hc : Cells V cv n xv ln c) (hn : n ≤ 140737488351232) (h1 : -9223372036854775808 ≤ at') (h2 : at' < 9223372036854775808) (h3 : by' < 256) :
    Calls Tryd.prog 8 #[.agg (bC rd ep lf cv), .int .i64 at', .int .u8 by'] V fun e w' => e = .returned (.bool true) ∧ Below V.heap.size V w' := by
  obtain ⟨ca, ccap, rfl, _⟩ := id hc.shape
  have hb := heapNew V (.cells (bC rd ep lf (.slice ca n ccap)) 26)
  have bel := belNew V (.cells (bC rd ep lf (.slice ca n ccap)) 26)
  obtain ⟨V1, hV1⟩ : ∃ V1, V.alloc (.cells (bC rd ep lf (.slice ca n ccap)) 26) = V1 := ⟨_, rfl⟩
  have s1 : V1.heap.size = V.heap.size + 1 := by rw [← hV1]; simp
  rw [hV1] at hb bel
  have HB : Hid (Rules V ∧ Cells V (.slice ca n ccap) n xv ln c ∧ n ≤ 140737488351232 ∧ -9223372036854775808 ≤ at' ∧ at' < 9223372036854775808 ∧ by' < 256) := ⟨g, hc, hn, h1, h2, h3⟩
  have H1 : Hid (V1.heap[V.heap.size]? = some (.cells (bC rd ep lf (.slice ca n ccap)) 26) ∧ Below V.heap.size V V1 ∧ V1.heap.size = V.heap.size + 1 ∧ Rules V1) := ⟨hb, bel, s1, g.on bel g.sz⟩
  have z := zeroB
  have AW := fun W (h : Rules W) => awake_any W h
  obtain ⟨G, hG⟩ : ∃ G : Bool, decide (2097152 < greatN n ln) = G := ⟨_, rfl⟩
  obtain ⟨E, hE⟩ : ∃ E, packE rd ep lf n ln = E := ⟨_, rfl⟩
  have E1 : E ≤ 64 := by rw [← hE]; exact packE_le _ _ _ _ _
  clear g hc hn h1 h2 h3 hb bel s1
  cases G with
  | true =>
    go_enter Tryd.func8, Tryd.ntmps8
    go_wp2_with (first
      | (go_at_call 9; refine (awake_any V1 H1.out.2.2.2).mono ?_; rintro e w1 ⟨rfl, b1⟩; have hb : w1.heap[V.heap.size]? = some (.cells (bC rd ep lf (.slice ca n ccap)) 26) := (by rw [b1.block _ (by have := H1.out.2.2.1; omega)]; exact H1.out.1); obtain ⟨_, _, _, k3⟩ := bC_at _ _ _ _ hb; have W1 : Hid (w1.heap[V.heap.size]? = some (.cells (bC rd ep lf (.slice ca n ccap)) 26) ∧ Below V.heap.size V w1) := ⟨hb, H1.out.2.1.trans (b1.mono (by have := H1.out.2.2.1; omega))⟩; clear hb b1)
      | (go_at_call 10; refine (great_any _ n xv ln c w1 (HB.out.2.1.on W1.out.2) HB.out.2.2.1).mono ?_; rw [hG]; rintro e w2 ⟨rfl, rfl⟩))
    go_ret
    exact ⟨rfl, W1.out.2⟩
  | false =>
    by_cases e0 : E = 0
    · obtain ⟨rn, en, lnn, er, ee, el, gd, hal, hN⟩ := packE_ok (by rw [hE]; exact e0)
      have Lg := cellAt_ge n
      have L2 : cellAt n ≤ 100000 := by have := gd.n; unfold cellAt; omega
      obtain ⟨L, hL⟩ : ∃ L, cellAt n + 4 = L := ⟨_, rfl⟩
      obtain ⟨p, hp⟩ : ∃ p, packF rn en lnn n c = p := ⟨_, rfl⟩
      have PK : Hid (Good rn en lnn n ∧ packF rn en lnn n c = p ∧ cellAt n + 4 = L ∧ packN rd ep lf n ln = L ∧ packI rd ep lf n c = p) := ⟨gd, hp, hL, by rw [hN, hL], by rw [er, ee, el, ← hp]; rfl⟩
      have CB : Hid (∀ i j, i < n → j < 320 → c i j < 256) := fun i j hi hj => by
        have := HB.out.2.1.cell i hi
        rw [hal i hi] at this
        exact this.bytes j hj
      have PB : Hid (∀ j, j < L → p j < 256) := fun j hj => by
        rw [← hp]
        by_cases h : j < cellAt n
        · rw [packF_in _ _ _ _ _ h]
          exact packB_lt _ _ _ _ _ (by have := gd.lf; omega) CB.out h
        · obtain ⟨i, rfl⟩ : ∃ i, j = cellAt n + i := ⟨j - cellAt n, by omega⟩
          rw [packF_foot]
          exact footF_lt _ _ _
      have l28 : decide ((L : Int) < 28) = false := decide_eq_false (by omega)
      have l27 : ¬ (L < 28) := by omega
      have l29 : (L : Int) ≥ 28 := by omega
      have l30 : (L : Int) ≤ 140737488351232 := by omega
      have i1 : ((0 : Int) != 0) = false := rfl
      by_cases hby : by' = 0
      · have ib : (by' : Int) = 0 := by omega
        have HY : Hid (0 < L) := by show 0 < L; omega
        clear hby gd hal hN er ee el hL hp Lg L2
        go_enter Tryd.func8, Tryd.ntmps8
        go_wp2_with (first
          | (go_at_call 9; refine (awake_any V1 H1.out.2.2.2).mono ?_; rintro e w1 ⟨rfl, b1⟩; have hb : w1.heap[V.heap.size]? = some (.cells (bC rd ep lf (.slice ca n ccap)) 26) := (by rw [b1.block _ (by have := H1.out.2.2.1; omega)]; exact H1.out.1); obtain ⟨_, _, _, k3⟩ := bC_at _ _ _ _ hb; have W1 : Hid (w1.heap[V.heap.size]? = some (.cells (bC rd ep lf (.slice ca n ccap)) 26) ∧ Below V.heap.size V w1) := ⟨hb, H1.out.2.1.trans (b1.mono (by have := H1.out.2.2.1; omega))⟩; clear hb b1)
          | (go_at_call 10; refine (great_any _ n xv ln c w1 (HB.out.2.1.on W1.out.2) HB.out.2.2.1).mono ?_; rw [hG]; rintro e w2 ⟨rfl, rfl⟩)
          | (refine atLoad 26 (.tmp 3) rfl ?_; go_must (refine wpList_load_row rfl 26 (.tmp 3) rfl V.heap.size rfl 26 _ (0, 0) _ W1.out.1 Tryd.underlying26 rfl (sizeB _ _ _ _) ?_; simp only [Act.put, List.setIfInBounds_toArray, List.set_cons_succ, List.set_cons_zero]))
          | (go_at_call 13; refine (ppack_any rd ep lf n _ xv ln c _ (HB.out.1.on W1.out.2 HB.out.1.sz) (HB.out.2.1.on W1.out.2) HB.out.2.2.1).mono ?_; rw [hE, PK.out.2.2.2.1, PK.out.2.2.2.2, e0]; rintro e w3 ⟨r, rfl, own, b3⟩; obtain ⟨gb, cap, rfl, hgB, hgl, ⟨cur, hcur⟩, hcell⟩ := own_byte own (by first | exact HY.out | exact HY.out.2.1); have O3 : Hid (w3.ownsRow _ 5 1 (.slice (some ⟨gb, 0, none⟩) L cap) L (bytesL L p) ∧ Below _ _ w3 ∧ w2.heap.size ≤ gb ∧ gb < w3.heap.size ∧ w3.heap[gb]? = some (.cells cur 5) ∧ ∀ j, j < L → w3.cell? ⟨gb, j, none⟩ = some (.int .u8 (p j))) := ⟨own, b3, hgB, hgl, hcur, hcell⟩; clear own b3 hgB hgl hcur hcell))
        go_ret
        exact ⟨rfl, W1.out.2.trans (O3.out.2.1.mono W1.out.2.size)⟩
      · have ib : ¬ (by' : Int) = 0 := by omega
        have HY : Hid (by' ≠ 0 ∧ 0 < L ∧ L ≤ 140737488351232) := ⟨hby, by omega, by omega⟩
        have eqh := eqlH
        clear hby gd hal hN er ee el hL hp Lg L2
        go_enter Tryd.func8, Tryd.ntmps8
        go_wp2_with (first
          | (go_at_call 9; refine (awake_any V1 H1.out.2.2.2).mono ?_; rintro e w1 ⟨rfl, b1⟩; have hb : w1.heap[V.heap.size]? = some (.cells (bC rd ep lf (.slice ca n ccap)) 26) := (by rw [b1.block _ (by have := H1.out.2.2.1; omega)]; exact H1.out.1); obtain ⟨_, _, _, k3⟩ := bC_at _ _ _ _ hb; have W1 : Hid (w1.heap[V.heap.size]? = some (.cells (bC rd ep lf (.slice ca n ccap)) 26) ∧ Below V.heap.size V w1) := ⟨hb, H1.out.2.1.trans (b1.mono (by have := H1.out.2.2.1; omega))⟩; clear hb b1)
          | (go_at_call 10; refine (great_any _ n xv ln c w1 (HB.out.2.1.on W1.out.2) HB.out.2.2.1).mono ?_; rw [hG]; rintro e w2 ⟨rfl, rfl⟩)
          | (refine atLoad 26 (.tmp 3) rfl ?_; go_must (refine wpList_load_row rfl 26 (.tmp 3) rfl V.heap.size rfl 26 _ (0, 0) _ W1.out.1 Tryd.underlying26 rfl (sizeB _ _ _ _) ?_; simp only [Act.put, List.setIfInBounds_toArray, List.set_cons_succ, List.set_cons_zero]))
          | (go_at_call 13; refine (ppack_any rd ep lf n _ xv ln c _ (HB.out.1.on W1.out.2 HB.out.1.sz) (HB.out.2.1.on W1.out.2) HB.out.2.2.1).mono ?_; rw [hE, PK.out.2.2.2.1, PK.out.2.2.2.2, e0]; rintro e w3 ⟨r, rfl, own, b3⟩; obtain ⟨gb, cap, rfl, hgB, hgl, ⟨cur, hcur⟩, hcell⟩ := own_byte own (by first | exact HY.out | exact HY.out.2.1); have O3 : Hid (w3.ownsRow _ 5 1 (.slice (some ⟨gb, 0, none⟩) L cap) L (bytesL L p) ∧ Below _ _ w3 ∧ w2.heap.size ≤ gb ∧ gb < w3.heap.size ∧ w3.heap[gb]? = some (.cells cur 5) ∧ ∀ j, j < L → w3.cell? ⟨gb, j, none⟩ = some (.int .u8 (p j))) := ⟨own, b3, hgB, hgl, hcur, hcell⟩; clear own b3 hgB hgl hcur hcell)
          | (go_at_call 26; refine (place_any at' L w3 HB.out.2.2.2.1 HB.out.2.2.2.2.1 HY.out.2.1 (by have := HY.out.2.2; omega)).mono ?_; rintro e w4 ⟨⟨k, hk, rfl⟩, rfl⟩; have k1 : (k : Int) < L := (by omega); have ck := O3.out.2.2.2.2.2 k hk; have X := xor_u8 (PB.out k hk) HB.out.2.2.2.2.2; have HK : Hid (k < L) := hk; clear hk)
          | (refine atStore 5 (.tmp 46) (.tmp 45) rfl ?_; go_must (
              refine wpList_exS rfl (execStB rfl rfl rfl (O3.out.2.2.2.2.2 k HK.out) (frozen4 O3.out.2.2.2.2.1)) ?_
              have ow5 := own_set (m := k) (p k ^^^ by') O3.out.1
              have bl5 : Below V.heap.size V (w4.setCell ⟨gb, k, none⟩ (.int .u8 ((p k ^^^ by' : Nat) : Int))) := (W1.out.2.trans (O3.out.2.1.mono W1.out.2.size)).setCell (Nat.le_trans W1.out.2.size O3.out.2.2.1) _
              obtain ⟨q, hq⟩ : ∃ q : Nat → Nat, (fun j => if j = k then p k ^^^ by' else p j) = q := ⟨_, rfl⟩
              rw [hq] at ow5
              have qb : ∀ j, j < L → q j < 256 := (by intro j hj; rw [← hq]; show (if j = k then p k ^^^ by' else p j) < 256; split; exact xor_lt (PB.out k HK.out) HB.out.2.2.2.2.2; exact PB.out j hj)
              have bad' : (jE q L).2 ≠ 0 := (by
                rw [← PK.out.2.2.1]
                refine turned_no c PK.out.1 CB.out q k (by rw [PK.out.2.2.1]; exact HK.out) (fun j hj => by rw [← hq, PK.out.2.1]; show (if j = k then p k ^^^ by' else p j) = p j; rw [if_neg hj]) ?_ (qb k HK.out)
                rw [PK.out.2.1, ← hq]
                show (if k = k then p k ^^^ by' else p k) ≠ p k
                rw [if_pos rfl]
                exact xor_ne HY.out.1)
              have O5 : Hid (_ ∧ Below V.heap.size V (w4.setCell ⟨gb, k, none⟩ (.int .u8 ((p k ^^^ by' : Nat) : Int))) ∧ (∀ j, j < L → q j < 256)) := ⟨ow5, bl5, qb⟩
              obtain ⟨q1, q2, q3, q4, q5⟩ := bad_read bad'
              have RD : Hid (rRound q L = 0 ∧ rEpoch q L = 0 ∧ rLeft q L = 0 ∧ rK q L = 0) := ⟨q2, q3, q4, q5⟩
              obtain ⟨JE, hJE⟩ : ∃ JE, jE q L = JE := ⟨_, rfl⟩
              rw [hJE] at bad'
              have i9 : ((JE.2 : Int) != 0) = true := (by simp; omega)
              clear ow5 bl5 qb bad' q1 q2 q3 q4 q5 hq))
          | (go_at_call 17; refine (pread_any q L _ _ (HB.out.1.on O5.out.2.1 HB.out.1.sz) (own_slice O5.out.1 O5.out.2.2) HY.out.2.2).mono ?_; rw [hJE, RD.out.1, RD.out.2.1, RD.out.2.2.1, RD.out.2.2.2]; rintro e w6 ⟨cv6, x6, rfl, cl6, b6⟩; obtain ⟨ac, cc, rfl⟩ := ownL_shape cl6.own; have B6 : Hid (_) := b6; clear cl6 b6)
          | (refine atStore 26 (.tmp 9) (.tmp 50) rfl ?_; go_must (refine wpList_exS rfl (execStBt (rd := 0) (ep := 0) (lf := 0) (cv := .slice ac 0 cc) rfl rfl rfl (heapNew w6 _) rfl) ?_; have hr : ((w6.alloc (.cells (bC 0 0 0 (.slice none 0 0)) 26)).setRow w6.heap.size (bC 0 0 0 (.slice ac 0 cc))).heap[w6.heap.size]? = some (.cells (bC 0 0 0 (.slice ac 0 cc)) 26) := setRow_heap _ _ _ _ _ _ (heapNew w6 _); obtain ⟨_, _, _, k6⟩ := bC_at _ _ _ _ hr; have HR : Hid (_) := hr; clear hr))
          | (refine atLoad 23 (.tmp 62) rfl ?_; go_must (refine wpList_ex rfl (execLoadMid (cs := (hC 0 0 0).toList) rfl rfl (range_b3 HR.out) Tryd.underlying23 rfl (by kernel_rfl)) ?_))
          | (refine wpList_ex rfl (execH0 rfl) ?_))
        go_ret
        have bb := O5.out.2.1.trans (B6.out.mono O5.out.2.1.size)
        exact ⟨rfl, below4 (bb.trans ((belNew w6 _).mono bb.size)) bb.size _⟩
    · have i1 : ((E : Int) != 0) = true := by simp; omega
      have eN : packN rd ep lf n ln = 0 := by unfold packN; rw [hE, if_neg e0]
      go_enter Tryd.func8, Tryd.ntmps8
      go_wp2_with (first
        | (go_at_call 9; refine (awake_any V1 H1.out.2.2.2).mono ?_; rintro e w1 ⟨rfl, b1⟩; have hb : w1.heap[V.heap.size]? = some (.cells (bC rd ep lf (.slice ca n ccap)) 26) := (by rw [b1.block _ (by have := H1.out.2.2.1; omega)]; exact H1.out.1); obtain ⟨_, _, _, k3⟩ := bC_at _ _ _ _ hb; have W1 : Hid (w1.heap[V.heap.size]? = some (.cells (bC rd ep lf (.slice ca n ccap)) 26) ∧ Below V.heap.size V w1) := ⟨hb, H1.out.2.1.trans (b1.mono (by have := H1.out.2.2.1; omega))⟩; clear hb b1)
        | (go_at_call 10; refine (great_any _ n xv ln c w1 (HB.out.2.1.on W1.out.2) HB.out.2.2.1).mono ?_; rw [hG]; rintro e w2 ⟨rfl, rfl⟩)
        | (refine atLoad 26 (.tmp 3) rfl ?_; go_must (refine wpList_load_row rfl 26 (.tmp 3) rfl V.heap.size rfl 26 _ (0, 0) _ W1.out.1 Tryd.underlying26 rfl (sizeB _ _ _ _) ?_; simp only [Act.put, List.setIfInBounds_toArray, List.set_cons_succ, List.set_cons_zero]))
        | (go_at_call 13; refine (ppack_any rd ep lf n _ xv ln c _ (HB.out.1.on W1.out.2 HB.out.1.sz) (HB.out.2.1.on W1.out.2) HB.out.2.2.1).mono ?_; rw [hE, eN]; rintro e w3 ⟨r, rfl, own, b3⟩; obtain ⟨ao, cap, rfl⟩ := own_shapeJ own; have B3 : Hid (_) := b3; clear own b3))
      go_ret
      exact ⟨rfl, W1.out.2.trans (B3.out.mono W1.out.2.size)⟩
end Go.Proofs.YtdkkbgokemimfaaDoor.Frm
