import Derived.Test.YtaoncjgllcndmaaDoorD3f
import Derived.Test.YtaoncjgllcndmaaDoorD3k
import Derived.Deep.RegionWith
namespace Go.Proofs.YtaoncjgllcndmaaDoor.Frm
open Go.RowKit Gf8 Aes By8 Cel
/- FrameBack. -/

theorem tailE_place {p : Nat → Nat} {len n k : Nat} : (tailE p len n k).1 ≤ len := by
  unfold tailE
  split
  · split
    · rename_i h; show cellAt k ≤ len; omega
    · exact Nat.le_refl _
  · split
    · exact Nat.le_refl _
    · rename_i h
      split
      · split
        · show cellAt n + 4 ≤ len; omega
        · exact Nat.zero_le _
      · show cellAt n ≤ len; omega
theorem headR_place {p : Nat → Nat} {len : Nat} : ∀ k, k ≤ 6 → (headR p len k).1 ≤ len
  | 0, _ => by rw [headR]; exact Nat.zero_le _
  | k + 1, h => by
    rw [headR]
    split
    · exact Nat.le_refl _
    · rename_i q
      split
      · show startN (5 - k) ≤ len
        have := startN_mono (f := 5 - k) (g := 5 - k + 1) (by omega) (by omega)
        omega
      · exact headR_place k (by omega)
theorem jE_place (p : Nat → Nat) (len : Nat) : (jE p len).1 ≤ len := by
  unfold jE
  split
  · exact tailE_place
  · exact headR_place 6 (by omega)
/-- Read of what was packed. -/
theorem read_packed {rd ep lf n : Nat} (c : Nat → Nat → Nat) (g : Good rd ep lf n) : jE (packF rd ep lf n c) (cellAt n + 4) = (0, 0) ∧ rRound (packF rd ep lf n c) (cellAt n + 4) = rd ∧ rEpoch (packF rd ep lf n c) (cellAt n + 4) = ep ∧ rLeft (packF rd ep lf n c) (cellAt n + 4) = lf ∧ rK (packF rd ep lf n c) (cellAt n + 4) = n := by
  obtain ⟨p1, p2, p3, p4, p5, p6, p7⟩ := pack_ok c g
  have ok : okR (packF rd ep lf n c) (cellAt n + 4) = true := by unfold okR; rw [p4]; rfl
  refine ⟨p4, ?_, ?_, ?_, ?_⟩
  · unfold rRound jRound; rw [if_pos ok, if_pos p1]; exact p5
  · unfold rEpoch jEpoch; rw [if_pos ok, if_pos p1]; exact p6
  · unfold rLeft jLeft; rw [if_pos ok, if_pos p1, p7]
  · unfold rK jK; rw [if_pos ok, if_pos p1, p2]; exact p3
/-- Pack of what was read. -/
theorem pack_read {p : Nat → Nat} {len : Nat} (hb : ∀ j, j < len → p j < 256) (h : (jE p len).2 = 0) : rK p len ≤ 256 ∧ packE (rRound p len) (rEpoch p len) (rLeft p len) (rK p len) (fun _ => 320) = 0 ∧ packN (rRound p len) (rEpoch p len) (rLeft p len) (rK p len) (fun _ => 320) = len ∧ (∀ j, j < len → packI (rRound p len) (rEpoch p len) (rLeft p len) (rK p len) (cellB p) j = p j) ∧ cellAt (rK p len) + 4 = len := by
  obtain ⟨q1, q2, q3, q4, q5, q6, q7⟩ := ok_parts hb h
  obtain ⟨g, g1, g2⟩ := ok_good q1 q2
  have ok : okR p len = true := by unfold okR; rw [h]; rfl
  have r1 : rRound p len = rdN p 8 8 := by unfold rRound jRound; rw [if_pos ok, if_pos q1]
  have r2 : rEpoch p len = rdN p 16 8 := by unfold rEpoch jEpoch; rw [if_pos ok, if_pos q1]
  have r3 : rLeft p len = (p 5 : Int) := by unfold rLeft jLeft; rw [if_pos ok, if_pos q1]
  have r4 : rK p len = nCells p := by unfold rK jK; rw [if_pos ok, if_pos q1]; exact q4
  rw [r1, r2, r3, r4]
  have hd : hdOk (rdN p 8 8) (rdN p 16 8) (p 5) = true := by
    unfold hdOk
    have a := g.rd
    have b := g.ep
    have c := g.lf
    simp
    omega
  have e : packE (rdN p 8 8) (rdN p 16 8) (p 5) (nCells p) (fun _ => 320) = 0 := by
    unfold packE
    rw [if_pos hd, if_pos q2, if_pos ((allC_iff _ _).2 fun _ _ => rfl)]
  refine ⟨q2, e, by unfold packN; rw [if_pos e]; exact q3.symm, fun j hj => ?_, q3.symm⟩
  unfold packI
  exact (back_pack hb h j hj).symm
theorem cellB_lt {p : Nat → Nat} {len k : Nat} (hb : ∀ j, j < len → p j < 256) (hk : cellAt k ≤ len) : ∀ i j, i < k → j < 320 → cellB p i j < 256 := by
  intro i j hi hj
  have := cellAt_mono hi
  exact hb _ (by omega)
set_option maxRecDepth 20000 in
set_option maxHeartbeats 4000000 in
theorem back_any (rd ep lf : Int) (n : Nat) (cv : Value) (xv : Nat → Value) (ln : Nat → Nat) (c : Nat → Nat → Nat) (raw : Value) (len : Nat) (p : Nat → Nat) (V : World) (g : Rules V) (hc : Cells V cv n xv ln c) (hn : n ≤ 140737488351232) (hv : SliceN V raw len p) (hl : len ≤ 140737488351232) :
    Calls Tryd.prog 6 #[.agg (bC rd ep lf cv), raw] V fun e w' => e = .returned (.bool true) ∧ Below V.heap.size V w' := by
  obtain ⟨ca, ccap, rfl, _⟩ := id hc.shape
  obtain ⟨ra, rcap, rfl, _⟩ := id hv.shape
  have hb := heapNew V (.cells (bC rd ep lf (.slice ca n ccap)) 26)
  have bel := belNew V (.cells (bC rd ep lf (.slice ca n ccap)) 26)
  obtain ⟨V1, hV1⟩ : ∃ V1, V.alloc (.cells (bC rd ep lf (.slice ca n ccap)) 26) = V1 := ⟨_, rfl⟩
  have s1 : V1.heap.size = V.heap.size + 1 := by rw [← hV1]; simp
  rw [hV1] at hb bel
  have HB : Hid (Rules V1 ∧ Cells V1 (.slice ca n ccap) n xv ln c ∧ n ≤ 140737488351232 ∧ SliceN V1 (.slice ra len rcap) len p ∧ True ∧ len ≤ 140737488351232) := ⟨g.on bel g.sz, hc.on bel, hn, hv.on bel, trivial, hl⟩
  have H1 : Hid (V1.heap[V.heap.size]? = some (.cells (bC rd ep lf (.slice ca n ccap)) 26) ∧ Below V.heap.size V V1 ∧ V1.heap.size = V.heap.size + 1) := ⟨hb, bel, s1⟩
  have RW : Hid (∀ W, Below V1.heap.size V1 W → W.heap[V.heap.size]? = some (.cells (bC rd ep lf (.slice ca n ccap)) 26)) := fun W hW => by rw [hW.block _ (by have := H1.out.2.2; omega)]; exact H1.out.1
  have FIN : Hid (∀ W, Below V1.heap.size V1 W → Below V.heap.size V W) := fun W hW => H1.out.2.1.trans (hW.mono H1.out.2.1.size)
  have z := zeroB
  have eqh := eqlH
  have nn : (n : Int) ≤ 140737488351232 := by omega
  have ll : (len : Int) ≤ 140737488351232 := by omega
  obtain ⟨G, hG⟩ : ∃ G : Bool, decide (2097152 < greatN n ln) = G := ⟨_, rfl⟩
  obtain ⟨E, hE⟩ : ∃ E, packE rd ep lf n ln = E := ⟨_, rfl⟩
  have E1 : E ≤ 64 := by rw [← hE]; exact packE_le _ _ _ _ _
  obtain ⟨J, hJ⟩ : ∃ J, jE p len = J := ⟨_, rfl⟩
  have JP : J.1 ≤ len := by rw [← hJ]; exact jE_place _ _
  have JE2 : J.2 ≤ 67 := by rw [← hJ]; exact jE_le _ _
  have jp : (J.1 : Int) ≤ len := by omega
  clear g hc hn hv hl hb bel s1
  cases G with
  | true =>
    go_enter Tryd.func6, Tryd.ntmps6
    go_wp2_with (first
      | (go_at_call 9; refine (awake_any V1 HB.out.1).mono ?_; rintro e w1 ⟨rfl, b1⟩; obtain ⟨_, _, _, k3⟩ := bC_at _ _ _ _ (RW.out _ b1); have B1 : Hid (Below V1.heap.size V1 w1) := b1; clear b1)
      | (go_at_call 10; refine (great_any _ n xv ln c w1 (HB.out.2.1.on B1.out) HB.out.2.2.1).mono ?_; rw [hG]; rintro e w2 ⟨rfl, hw2⟩; subst hw2))
    go_ret
    exact ⟨rfl, FIN.out _ B1.out⟩
  | false =>
    by_cases e0 : E = 0
    · obtain ⟨rn, en, lnn, er, ee, el, gd, hal, hN⟩ := packE_ok (by rw [hE]; exact e0)
      obtain ⟨q, hq⟩ : ∃ q, packF rn en lnn n c = q := ⟨_, rfl⟩
      obtain ⟨rp1, rp2, rp3, rp4, rp5⟩ := read_packed c gd
      obtain ⟨L, hL⟩ : ∃ L, cellAt n + 4 = L := ⟨_, rfl⟩
      have hL' : L = 28 + 322 * n := by rw [← hL]; unfold cellAt; omega
      rw [hq, hL] at rp1 rp2 rp3 rp4 rp5
      have CB : ∀ i j, i < n → j < 320 → c i j < 256 := fun i j hi hj => by
        have := HB.out.2.1.cell i hi
        rw [hal i hi] at this
        exact this.bytes j hj
      have QB : ∀ j, j < L → q j < 256 := fun j hj => by
        rw [← hq]
        by_cases h : j < cellAt n
        · rw [packF_in _ _ _ _ _ h]
          exact packB_lt _ _ _ _ _ (by have := gd.lf; omega) CB h
        · obtain ⟨i, rfl⟩ : ∃ i, j = cellAt n + i := ⟨j - cellAt n, by omega⟩
          rw [packF_foot]
          exact footF_lt _ _ _
      have cq : ∀ i j, i < n → j < 320 → c i j = cellB q i j := fun i j hi hj => by
        rw [← hq]
        exact (pk_cell _ _ _ _ _ hi hj).symm
      rw [← er] at rp2
      rw [← ee] at rp3
      rw [← el] at rp4
      have PK : Hid (packN rd ep lf n ln = L ∧ packI rd ep lf n c = q ∧ (∀ j, j < L → q j < 256) ∧ L ≤ 140737488351232 ∧ SameC n ln (fun _ => 320) c (cellB q) ∧ n ≤ 256 ∧ 0 < L ∧ ∀ i j, i < n → j < 320 → cellB q i j < 256) := ⟨by rw [hN, hL], by rw [er, ee, el, ← hq]; rfl, QB, by have := gd.n; omega, ⟨hal, fun i j hi hj => cq i j hi (by rw [hal i hi] at hj; exact hj)⟩, gd.n, by omega, fun i j hi hj => by rw [← cq i j hi hj]; exact CB i j hi hj⟩
      have RP : Hid (jE q L = (0, 0) ∧ rRound q L = rd ∧ rEpoch q L = ep ∧ rLeft q L = lf ∧ rK q L = n) := ⟨rp1, rp2, rp3, rp4, rp5⟩
      have lq : ((L : Int) != 28 + 322 * (n : Int)) = false := by simp; omega
      have l2 : (L : Int) ≤ 140737488351232 := by have := PK.out.2.2.2.1; omega
      have i0 : (E : Int) = 0 := by omega
      clear er ee el gd hal hN hq rp1 rp2 rp3 rp4 rp5 hL hL' CB QB cq e0
      by_cases f0 : J.2 = 0
      · have f1 : ((J.2 : Int) != 0) = false := by simp; omega
        obtain ⟨pr1, pr2, pr3, pr4, pr5⟩ := pack_read HB.out.2.2.2.1.bytes (by rw [hJ]; exact f0)
        have PR : Hid (_ ∧ _ ∧ _ ∧ _ ∧ _) := ⟨pr1, pr2, pr3, pr4, pr5⟩
        clear pr1 pr2 pr3 pr4 pr5 f0
        go_enter Tryd.func6, Tryd.ntmps6
        go_wp2_with (first
          | (go_at_call 9; refine (awake_any V1 HB.out.1).mono ?_; rintro e w1 ⟨rfl, b1⟩; obtain ⟨_, _, _, k3⟩ := bC_at _ _ _ _ (RW.out _ b1); have B1 : Hid (Below V1.heap.size V1 w1) := b1; clear b1)
          | (go_at_call 10; refine (great_any _ n xv ln c w1 (HB.out.2.1.on B1.out) HB.out.2.2.1).mono ?_; rw [hG]; rintro e w2 ⟨rfl, hw2⟩; subst hw2)
          | (refine atLoad 26 (.tmp 2) rfl ?_; refine wpList_load_row rfl 26 (.tmp 2) rfl V.heap.size rfl 26 _ (0, 0) _ (RW.out _ (by first | exact B6.out | exact B1.out)) Tryd.underlying26 rfl (sizeB _ _ _ _) ?_; simp only [Act.put, List.setIfInBounds_toArray, List.set_cons_succ, List.set_cons_zero])
          | (go_at_call_of 13 rd; refine (ppack_any rd ep lf n _ xv ln c _ (HB.out.1.on B1.out HB.out.1.sz) (HB.out.2.1.on B1.out) HB.out.2.2.1).mono ?_; rw [hE, PK.out.1, PK.out.2.1]; rintro e w3 ⟨r, rfl, own, b3⟩; obtain ⟨ao, cap, rfl⟩ := own_shapeJ own; have O3 : Hid (w3.ownsRow _ 5 1 (.slice ao L cap) L (bytesL L q)) := own; have B3 : Hid (Below V1.heap.size V1 w3) := B1.out.trans (b3.mono B1.out.size); clear own b3)
          | (go_at_call_of 17 L; refine (pread_any q L _ w3 (HB.out.1.on B3.out HB.out.1.sz) (own_slice O3.out PK.out.2.2.1) PK.out.2.2.2.1).mono ?_; rw [RP.out.1, RP.out.2.1, RP.out.2.2.1, RP.out.2.2.2.1, RP.out.2.2.2.2]; rintro e w4 ⟨cv4, x4, rfl, cl4, b4⟩; obtain ⟨ac, cc, rfl⟩ := ownL_shape cl4.own; have C4 : Hid (CL w3.heap.size n x4 q (.slice ac n cc) w4) := cl4; have B4 : Hid (Below V1.heap.size V1 w4) := B3.out.trans (b4.mono B3.out.size); clear cl4 b4)
          | (refine atStore 26 (.tmp 7) (.tmp 30) rfl ?_; go_must (refine wpList_exS rfl (execStBt (rd := rd) (ep := ep) (lf := lf) (cv := .slice ac n cc) rfl rfl rfl (heapNew w4 _) rfl) ?_; obtain ⟨W5, hW5⟩ : ∃ W5, (w4.alloc (.cells (bC 0 0 0 (.slice none 0 0)) 26)).setRow w4.heap.size (bC rd ep lf (.slice ac n cc)) = W5 := ⟨_, rfl⟩; have r5 : W5.heap[w4.heap.size]? = some (.cells (bC rd ep lf (.slice ac n cc)) 26) := (by rw [← hW5]; exact setRow_heap _ _ _ _ _ _ (heapNew w4 _)); have b5 : Below w4.heap.size w4 W5 := (by rw [← hW5]; exact below4 (belNew w4 _) (Nat.le_refl _) _); rw [hW5]; have R5 : Hid (_) := r5; have B5 : Hid (Below V1.heap.size V1 W5) := B4.out.trans (b5.mono B4.out.size); have C5 : Hid (_) := C4.out.on b5; clear r5 b5 hW5))
          | (refine atLoad 26 (.tmp 2) rfl ?_; refine wpList_ex rfl (execLdBt rfl rfl (RW.out _ B5.out)) ?_)
          | (refine atLoad 26 (.tmp 7) rfl ?_; refine wpList_ex rfl (execLdBt rfl rfl R5.out) ?_)
          | (go_at_call 15; refine (alike_true rd ep lf n _ _ xv x4 ln (fun _ => 320) c (cellB q) W5 (HB.out.2.1.on B5.out) (C5.out.cells PK.out.2.2.2.2.2.2.2 (by have := PK.out.2.2.2.2.2.1; omega)) PK.out.2.2.2.2.1 HB.out.2.2.1).mono ?_; rintro e w6 ⟨rfl, b6⟩; have b6' := B5.out.trans (b6.mono B5.out.size); obtain ⟨_, _, _, k6⟩ := bC_at _ _ _ _ (RW.out _ b6'); have B6 : Hid (Below V1.heap.size V1 w6) := b6'; clear b6 b6')
          | (go_at_call_of 17 len; refine (pread_any p len _ _ (HB.out.1.on B6.out HB.out.1.sz) (HB.out.2.2.2.1.on B6.out) HB.out.2.2.2.2.2).mono ?_; rw [hJ]; rintro e w7 ⟨cv7, x7, rfl, cl7, b7⟩; obtain ⟨ad7, cc7, rfl⟩ := ownL_shape cl7.own; have C7 : Hid (_) := cl7; have B6' : Hid (Below V1.heap.size V1 w7) := B6.out.trans (b7.mono B6.out.size); clear cl7 b7)
          | (refine atStore 26 (.tmp 10) (.tmp 58) rfl ?_; go_must (refine wpList_exS rfl (execStBt (rd := (rRound p len)) (ep := (rEpoch p len)) (lf := (rLeft p len)) (cv := .slice ad7 (rK p len) cc7) rfl rfl rfl (heapNew w7 _) rfl) ?_; obtain ⟨W8, hW8⟩ : ∃ W8, (w7.alloc (.cells (bC 0 0 0 (.slice none 0 0)) 26)).setRow w7.heap.size (bC (rRound p len) (rEpoch p len) (rLeft p len) (.slice ad7 (rK p len) cc7)) = W8 := ⟨_, rfl⟩; have r8 : W8.heap[w7.heap.size]? = some (.cells (bC (rRound p len) (rEpoch p len) (rLeft p len) (.slice ad7 (rK p len) cc7)) 26) := (by rw [← hW8]; exact setRow_heap _ _ _ _ _ _ (heapNew w7 _)); have b8 : Below w7.heap.size w7 W8 := (by rw [← hW8]; exact below4 (belNew w7 _) (Nat.le_refl _) _); rw [hW8]; obtain ⟨_, _, _, k8⟩ := bC_at _ _ _ _ r8; have R8 : Hid (_) := r8; have B7 : Hid (Below V1.heap.size V1 W8) := B6'.out.trans (b8.mono B6'.out.size); have C8 : Hid (_) := C7.out.on b8; clear r8 b8 hW8))
          | (refine atLoad 26 (.tmp 10) rfl ?_; refine wpList_load_row rfl 26 (.tmp 10) rfl w7.heap.size rfl 26 _ (0, 0) _ R8.out Tryd.underlying26 rfl (sizeB _ _ _ _) ?_; simp only [Act.put, List.setIfInBounds_toArray, List.set_cons_succ, List.set_cons_zero])
          | (go_at_call_of 13 (rRound p len); refine (ppack_any (rRound p len) (rEpoch p len) (rLeft p len) (rK p len) _ x7 (fun _ => 320) (cellB p) W8 (HB.out.1.on B7.out HB.out.1.sz) (C8.out.cells (cellB_lt HB.out.2.2.2.1.bytes (by have := PR.out.2.2.2.2; omega)) (by have := PR.out.1; omega)) (by have := PR.out.1; omega)).mono ?_; rw [PR.out.2.1, PR.out.2.2.1]; rintro e w9 ⟨r9, rfl, own9, b9⟩; have O9 : Hid (_) := own9; have B9 : Hid (Below V1.heap.size V1 w9) := B7.out.trans (b9.mono B7.out.size); clear own9 b9)
          | (go_at_call 14; refine (same_true (packI (rRound p len) (rEpoch p len) (rLeft p len) (rK p len) (cellB p)) p len _ _ w9 (own_slice O9.out (fun j hj => by rw [PR.out.2.2.2.1 j hj]; exact HB.out.2.2.2.1.bytes j hj)) (HB.out.2.2.2.1.on B9.out) PR.out.2.2.2.1).mono ?_; rintro e w10 ⟨rfl, rfl⟩))
        go_ret
        exact ⟨rfl, FIN.out _ B9.out⟩
      · have f1 : ((J.2 : Int) != 0) = true := by simp; omega
        obtain ⟨br1, br2, br3, br4, br5⟩ := bad_read (p := p) (len := len) (by rw [hJ]; exact f0)
        have BR : Hid (_ ∧ _ ∧ _ ∧ _) := ⟨br2, br3, br4, br5⟩
        clear br1 br2 br3 br4 br5 f0
        go_enter Tryd.func6, Tryd.ntmps6
        go_wp2_with (first
          | (go_at_call 9; refine (awake_any V1 HB.out.1).mono ?_; rintro e w1 ⟨rfl, b1⟩; obtain ⟨_, _, _, k3⟩ := bC_at _ _ _ _ (RW.out _ b1); have B1 : Hid (Below V1.heap.size V1 w1) := b1; clear b1)
          | (go_at_call 10; refine (great_any _ n xv ln c w1 (HB.out.2.1.on B1.out) HB.out.2.2.1).mono ?_; rw [hG]; rintro e w2 ⟨rfl, hw2⟩; subst hw2)
          | (refine atLoad 26 (.tmp 2) rfl ?_; refine wpList_load_row rfl 26 (.tmp 2) rfl V.heap.size rfl 26 _ (0, 0) _ (RW.out _ (by first | exact B6.out | exact B1.out)) Tryd.underlying26 rfl (sizeB _ _ _ _) ?_; simp only [Act.put, List.setIfInBounds_toArray, List.set_cons_succ, List.set_cons_zero])
          | (go_at_call_of 13 rd; refine (ppack_any rd ep lf n _ xv ln c _ (HB.out.1.on B1.out HB.out.1.sz) (HB.out.2.1.on B1.out) HB.out.2.2.1).mono ?_; rw [hE, PK.out.1, PK.out.2.1]; rintro e w3 ⟨r, rfl, own, b3⟩; obtain ⟨ao, cap, rfl⟩ := own_shapeJ own; have O3 : Hid (w3.ownsRow _ 5 1 (.slice ao L cap) L (bytesL L q)) := own; have B3 : Hid (Below V1.heap.size V1 w3) := B1.out.trans (b3.mono B1.out.size); clear own b3)
          | (go_at_call_of 17 L; refine (pread_any q L _ w3 (HB.out.1.on B3.out HB.out.1.sz) (own_slice O3.out PK.out.2.2.1) PK.out.2.2.2.1).mono ?_; rw [RP.out.1, RP.out.2.1, RP.out.2.2.1, RP.out.2.2.2.1, RP.out.2.2.2.2]; rintro e w4 ⟨cv4, x4, rfl, cl4, b4⟩; obtain ⟨ac, cc, rfl⟩ := ownL_shape cl4.own; have C4 : Hid (CL w3.heap.size n x4 q (.slice ac n cc) w4) := cl4; have B4 : Hid (Below V1.heap.size V1 w4) := B3.out.trans (b4.mono B3.out.size); clear cl4 b4)
          | (refine atStore 26 (.tmp 7) (.tmp 30) rfl ?_; go_must (refine wpList_exS rfl (execStBt (rd := rd) (ep := ep) (lf := lf) (cv := .slice ac n cc) rfl rfl rfl (heapNew w4 _) rfl) ?_; obtain ⟨W5, hW5⟩ : ∃ W5, (w4.alloc (.cells (bC 0 0 0 (.slice none 0 0)) 26)).setRow w4.heap.size (bC rd ep lf (.slice ac n cc)) = W5 := ⟨_, rfl⟩; have r5 : W5.heap[w4.heap.size]? = some (.cells (bC rd ep lf (.slice ac n cc)) 26) := (by rw [← hW5]; exact setRow_heap _ _ _ _ _ _ (heapNew w4 _)); have b5 : Below w4.heap.size w4 W5 := (by rw [← hW5]; exact below4 (belNew w4 _) (Nat.le_refl _) _); rw [hW5]; have R5 : Hid (_) := r5; have B5 : Hid (Below V1.heap.size V1 W5) := B4.out.trans (b5.mono B4.out.size); have C5 : Hid (_) := C4.out.on b5; clear r5 b5 hW5))
          | (refine atLoad 26 (.tmp 2) rfl ?_; refine wpList_ex rfl (execLdBt rfl rfl (RW.out _ B5.out)) ?_)
          | (refine atLoad 26 (.tmp 7) rfl ?_; refine wpList_ex rfl (execLdBt rfl rfl R5.out) ?_)
          | (go_at_call 15; refine (alike_true rd ep lf n _ _ xv x4 ln (fun _ => 320) c (cellB q) W5 (HB.out.2.1.on B5.out) (C5.out.cells PK.out.2.2.2.2.2.2.2 (by have := PK.out.2.2.2.2.2.1; omega)) PK.out.2.2.2.2.1 HB.out.2.2.1).mono ?_; rintro e w6 ⟨rfl, b6⟩; have b6' := B5.out.trans (b6.mono B5.out.size); obtain ⟨_, _, _, k6⟩ := bC_at _ _ _ _ (RW.out _ b6'); have B6 : Hid (Below V1.heap.size V1 w6) := b6'; clear b6 b6')
          | (go_at_call_of 17 len; refine (pread_any p len _ _ (HB.out.1.on B6.out HB.out.1.sz) (HB.out.2.2.2.1.on B6.out) HB.out.2.2.2.2.2).mono ?_; rw [hJ, BR.out.1, BR.out.2.1, BR.out.2.2.1, BR.out.2.2.2]; rintro e w7 ⟨cv7, x7, rfl, cl7, b7⟩; obtain ⟨ad7, cc7, rfl⟩ := ownL_shape cl7.own; have C7 : Hid (_) := cl7; have B6' : Hid (Below V1.heap.size V1 w7) := B6.out.trans (b7.mono B6.out.size); clear cl7 b7)
          | (refine atStore 26 (.tmp 10) (.tmp 58) rfl ?_; go_must (refine wpList_exS rfl (execStBt (rd := 0) (ep := 0) (lf := 0) (cv := .slice ad7 0 cc7) rfl rfl rfl (heapNew w7 _) rfl) ?_; obtain ⟨W8, hW8⟩ : ∃ W8, (w7.alloc (.cells (bC 0 0 0 (.slice none 0 0)) 26)).setRow w7.heap.size (bC 0 0 0 (.slice ad7 0 cc7)) = W8 := ⟨_, rfl⟩; have r8 : W8.heap[w7.heap.size]? = some (.cells (bC 0 0 0 (.slice ad7 0 cc7)) 26) := (by rw [← hW8]; exact setRow_heap _ _ _ _ _ _ (heapNew w7 _)); have b8 : Below w7.heap.size w7 W8 := (by rw [← hW8]; exact below4 (belNew w7 _) (Nat.le_refl _) _); rw [hW8]; obtain ⟨_, _, _, k8⟩ := bC_at _ _ _ _ r8; have R8 : Hid (_) := r8; have B7 : Hid (Below V1.heap.size V1 W8) := B6'.out.trans (b8.mono B6'.out.size); have C8 : Hid (_) := C7.out.on b8; clear r8 b8 hW8))
          | (refine atLoad 23 (.tmp 68) rfl ?_; go_must (refine wpList_ex rfl (execLoadMid (cs := (hC 0 0 0).toList) rfl rfl (range_b3 R8.out) Tryd.underlying23 rfl (by kernel_rfl)) ?_))
          | (refine wpList_ex rfl (execH0 rfl) ?_))
        go_ret
        exact ⟨rfl, FIN.out _ B7.out⟩
    · have i0 : ¬ (E : Int) = 0 := by omega
      clear e0
      by_cases f0 : J.2 = 0
      · have f1 : ((J.2 : Int) != 0) = false := by simp; omega
        obtain ⟨pr1, pr2, pr3, pr4, pr5⟩ := pack_read HB.out.2.2.2.1.bytes (by rw [hJ]; exact f0)
        have PR : Hid (_ ∧ _ ∧ _ ∧ _ ∧ _) := ⟨pr1, pr2, pr3, pr4, pr5⟩
        clear pr1 pr2 pr3 pr4 pr5 f0
        go_enter Tryd.func6, Tryd.ntmps6
        go_wp2_with (first
          | (go_at_call 9; refine (awake_any V1 HB.out.1).mono ?_; rintro e w1 ⟨rfl, b1⟩; obtain ⟨_, _, _, k3⟩ := bC_at _ _ _ _ (RW.out _ b1); have B1 : Hid (Below V1.heap.size V1 w1) := b1; clear b1)
          | (go_at_call 10; refine (great_any _ n xv ln c w1 (HB.out.2.1.on B1.out) HB.out.2.2.1).mono ?_; rw [hG]; rintro e w2 ⟨rfl, hw2⟩; subst hw2)
          | (refine atLoad 26 (.tmp 2) rfl ?_; refine wpList_load_row rfl 26 (.tmp 2) rfl V.heap.size rfl 26 _ (0, 0) _ (RW.out _ (by first | exact B6.out | exact B1.out)) Tryd.underlying26 rfl (sizeB _ _ _ _) ?_; simp only [Act.put, List.setIfInBounds_toArray, List.set_cons_succ, List.set_cons_zero])
          | (go_at_call_of 13 rd; refine (ppack_any rd ep lf n _ xv ln c _ (HB.out.1.on B1.out HB.out.1.sz) (HB.out.2.1.on B1.out) HB.out.2.2.1).mono ?_; rw [hE]; rintro e w3 ⟨r, rfl, own, b3⟩; have B6 : Hid (Below V1.heap.size V1 w3) := B1.out.trans (b3.mono B1.out.size); clear own b3)
          | (go_at_call_of 17 len; refine (pread_any p len _ _ (HB.out.1.on B6.out HB.out.1.sz) (HB.out.2.2.2.1.on B6.out) HB.out.2.2.2.2.2).mono ?_; rw [hJ]; rintro e w7 ⟨cv7, x7, rfl, cl7, b7⟩; obtain ⟨ad7, cc7, rfl⟩ := ownL_shape cl7.own; have C7 : Hid (_) := cl7; have B6' : Hid (Below V1.heap.size V1 w7) := B6.out.trans (b7.mono B6.out.size); clear cl7 b7)
          | (refine atStore 26 (.tmp 10) (.tmp 58) rfl ?_; go_must (refine wpList_exS rfl (execStBt (rd := (rRound p len)) (ep := (rEpoch p len)) (lf := (rLeft p len)) (cv := .slice ad7 (rK p len) cc7) rfl rfl rfl (heapNew w7 _) rfl) ?_; obtain ⟨W8, hW8⟩ : ∃ W8, (w7.alloc (.cells (bC 0 0 0 (.slice none 0 0)) 26)).setRow w7.heap.size (bC (rRound p len) (rEpoch p len) (rLeft p len) (.slice ad7 (rK p len) cc7)) = W8 := ⟨_, rfl⟩; have r8 : W8.heap[w7.heap.size]? = some (.cells (bC (rRound p len) (rEpoch p len) (rLeft p len) (.slice ad7 (rK p len) cc7)) 26) := (by rw [← hW8]; exact setRow_heap _ _ _ _ _ _ (heapNew w7 _)); have b8 : Below w7.heap.size w7 W8 := (by rw [← hW8]; exact below4 (belNew w7 _) (Nat.le_refl _) _); rw [hW8]; obtain ⟨_, _, _, k8⟩ := bC_at _ _ _ _ r8; have R8 : Hid (_) := r8; have B7 : Hid (Below V1.heap.size V1 W8) := B6'.out.trans (b8.mono B6'.out.size); have C8 : Hid (_) := C7.out.on b8; clear r8 b8 hW8))
          | (refine atLoad 26 (.tmp 10) rfl ?_; refine wpList_load_row rfl 26 (.tmp 10) rfl w7.heap.size rfl 26 _ (0, 0) _ R8.out Tryd.underlying26 rfl (sizeB _ _ _ _) ?_; simp only [Act.put, List.setIfInBounds_toArray, List.set_cons_succ, List.set_cons_zero])
          | (go_at_call_of 13 (rRound p len); refine (ppack_any (rRound p len) (rEpoch p len) (rLeft p len) (rK p len) _ x7 (fun _ => 320) (cellB p) W8 (HB.out.1.on B7.out HB.out.1.sz) (C8.out.cells (cellB_lt HB.out.2.2.2.1.bytes (by have := PR.out.2.2.2.2; omega)) (by have := PR.out.1; omega)) (by have := PR.out.1; omega)).mono ?_; rw [PR.out.2.1, PR.out.2.2.1]; rintro e w9 ⟨r9, rfl, own9, b9⟩; have O9 : Hid (_) := own9; have B9 : Hid (Below V1.heap.size V1 w9) := B7.out.trans (b9.mono B7.out.size); clear own9 b9)
          | (go_at_call 14; refine (same_true (packI (rRound p len) (rEpoch p len) (rLeft p len) (rK p len) (cellB p)) p len _ _ w9 (own_slice O9.out (fun j hj => by rw [PR.out.2.2.2.1 j hj]; exact HB.out.2.2.2.1.bytes j hj)) (HB.out.2.2.2.1.on B9.out) PR.out.2.2.2.1).mono ?_; rintro e w10 ⟨rfl, rfl⟩))
        go_ret
        exact ⟨rfl, FIN.out _ B9.out⟩
      · have f1 : ((J.2 : Int) != 0) = true := by simp; omega
        obtain ⟨br1, br2, br3, br4, br5⟩ := bad_read (p := p) (len := len) (by rw [hJ]; exact f0)
        have BR : Hid (_ ∧ _ ∧ _ ∧ _) := ⟨br2, br3, br4, br5⟩
        clear br1 br2 br3 br4 br5 f0
        go_enter Tryd.func6, Tryd.ntmps6
        go_wp2_with (first
          | (go_at_call 9; refine (awake_any V1 HB.out.1).mono ?_; rintro e w1 ⟨rfl, b1⟩; obtain ⟨_, _, _, k3⟩ := bC_at _ _ _ _ (RW.out _ b1); have B1 : Hid (Below V1.heap.size V1 w1) := b1; clear b1)
          | (go_at_call 10; refine (great_any _ n xv ln c w1 (HB.out.2.1.on B1.out) HB.out.2.2.1).mono ?_; rw [hG]; rintro e w2 ⟨rfl, hw2⟩; subst hw2)
          | (refine atLoad 26 (.tmp 2) rfl ?_; refine wpList_load_row rfl 26 (.tmp 2) rfl V.heap.size rfl 26 _ (0, 0) _ (RW.out _ (by first | exact B6.out | exact B1.out)) Tryd.underlying26 rfl (sizeB _ _ _ _) ?_; simp only [Act.put, List.setIfInBounds_toArray, List.set_cons_succ, List.set_cons_zero])
          | (go_at_call_of 13 rd; refine (ppack_any rd ep lf n _ xv ln c _ (HB.out.1.on B1.out HB.out.1.sz) (HB.out.2.1.on B1.out) HB.out.2.2.1).mono ?_; rw [hE]; rintro e w3 ⟨r, rfl, own, b3⟩; have B6 : Hid (Below V1.heap.size V1 w3) := B1.out.trans (b3.mono B1.out.size); clear own b3)
          | (go_at_call_of 17 len; refine (pread_any p len _ _ (HB.out.1.on B6.out HB.out.1.sz) (HB.out.2.2.2.1.on B6.out) HB.out.2.2.2.2.2).mono ?_; rw [hJ, BR.out.1, BR.out.2.1, BR.out.2.2.1, BR.out.2.2.2]; rintro e w7 ⟨cv7, x7, rfl, cl7, b7⟩; obtain ⟨ad7, cc7, rfl⟩ := ownL_shape cl7.own; have C7 : Hid (_) := cl7; have B6' : Hid (Below V1.heap.size V1 w7) := B6.out.trans (b7.mono B6.out.size); clear cl7 b7)
          | (refine atStore 26 (.tmp 10) (.tmp 58) rfl ?_; go_must (refine wpList_exS rfl (execStBt (rd := 0) (ep := 0) (lf := 0) (cv := .slice ad7 0 cc7) rfl rfl rfl (heapNew w7 _) rfl) ?_; obtain ⟨W8, hW8⟩ : ∃ W8, (w7.alloc (.cells (bC 0 0 0 (.slice none 0 0)) 26)).setRow w7.heap.size (bC 0 0 0 (.slice ad7 0 cc7)) = W8 := ⟨_, rfl⟩; have r8 : W8.heap[w7.heap.size]? = some (.cells (bC 0 0 0 (.slice ad7 0 cc7)) 26) := (by rw [← hW8]; exact setRow_heap _ _ _ _ _ _ (heapNew w7 _)); have b8 : Below w7.heap.size w7 W8 := (by rw [← hW8]; exact below4 (belNew w7 _) (Nat.le_refl _) _); rw [hW8]; obtain ⟨_, _, _, k8⟩ := bC_at _ _ _ _ r8; have R8 : Hid (_) := r8; have B7 : Hid (Below V1.heap.size V1 W8) := B6'.out.trans (b8.mono B6'.out.size); have C8 : Hid (_) := C7.out.on b8; clear r8 b8 hW8))
          | (refine atLoad 23 (.tmp 68) rfl ?_; go_must (refine wpList_ex rfl (execLoadMid (cs := (hC 0 0 0).toList) rfl rfl (range_b3 R8.out) Tryd.underlying23 rfl (by kernel_rfl)) ?_))
          | (refine wpList_ex rfl (execH0 rfl) ?_))
        go_ret
        exact ⟨rfl, FIN.out _ B7.out⟩
end Go.Proofs.YtaoncjgllcndmaaDoor.Frm
