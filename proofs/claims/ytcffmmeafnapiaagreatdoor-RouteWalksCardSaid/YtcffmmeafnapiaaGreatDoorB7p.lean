import Derived.Test.YtcffmmeafnapiaaGreatDoorB7v
namespace Go.Proofs.YtcffmmeafnapiaaGreatDoor.Rou
open Go.RowKit Gf8 Aes By8 Cel Oni
/- Walk. Written by tools/mkB7p.py. -/

theorem wkC_lt {h : Nat} {key : Nat → Nat → Nat} {lk : Nat → Nat} {len : Nat} {c : Nat → Nat} (hc : ∀ j, j < len → c j < 256) : ∀ i, wkG h key lk len c i = 0 → ∀ j, j < wkL len i → wkC h key c i j < 256
  | 0, _, j, hj => hc j hj
  | i + 1, hg, j, _ => by
    have h0 : wkG h key lk len c i = 0 := by
      by_cases e : wkG h key lk len c i = 0
      · exact e
      · have : wkG h key lk len c (i + 1) = wkG h key lk len c i := wkG_stop e (by omega)
        omega
    rw [wkG_on h0] at hg
    exact peC_lt hg (wkC_lt hc i h0) j
theorem wkG_0 {h : Nat} {key : Nat → Nat → Nat} {lk : Nat → Nat} {len : Nat} {c : Nat → Nat} {n : Nat} (hn : wkG h key lk len c n = 0) {i : Nat} (hi : i ≤ n) : wkG h key lk len c i = 0 := by
  by_cases e : wkG h key lk len c i = 0
  · exact e
  · have := wkG_stop e hi
    omega
theorem wkL_le {len : Nat} (h : len ≤ 140737488351232) (i : Nat) : wkL len i ≤ 140737488351232 := by
  cases i with
  | zero => exact h
  | succ i => show 320 ≤ _; omega
/-- What lies there behind i hops. -/
structure WkS (V W : World) (u : Value) (h len i : Nat) (key : Nat → Nat → Nat) (lk : Nat → Nat) (c : Nat → Nat) (cv : Nat → Value) (r : Nat → Nat → Nat) : Prop where
  sl : SliceZ W u (wkL len i) (wkC h key c i)
  go : wkG h key lk len c i = 0
  row : W.heap[V.heap.size]? = some (.cells (wyR cv r h i) 39)
  own : ∀ k, k < i → W.ownsRow V.heap.size 5 1 (cv k) 320 (bytesL 320 (wkC h key c (k + 1)))
  rep : ∀ k, k < i → r k = wkR h key c k
  two : ∀ j k, j < k → k < i → (cv j).ownBlock ≠ (cv k).ownBlock
  bel : Below V.heap.size V W
theorem own_lt' {W : World} {B n : Nat} {v : Value} {xs : List Value} (h : W.ownsRow B 5 1 v n xs) : ∀ k, v.ownBlock = some k → k < W.heap.size := fun k hk => (h.lt k hk).2
set_option maxRecDepth 20000 in
set_option maxHeartbeats 4000000 in
theorem pwalk_any (kv cv0 : Value) (h len : Nat) (xv : Nat → Value) (lk : Nat → Nat) (key : Nat → Nat → Nat) (c : Nat → Nat) (V : World) (hG : Glob V) (hc : Cells V kv h xv lk key) (hz : SliceZ V cv0 len c) (hb1 : h ≤ 140737488351232) (hb2 : len ≤ 140737488351232) :
    Calls Tryz.prog 6 #[kv, cv0] V fun e w' => ∃ v cv, e = .returned (.tuple #[v, .int .i64 (wkE h key lk len c : Nat)]) ∧ Way w' V.heap.size v (wkN h (wkE h key lk len c)) cv (wkR h key c) (fun k => wkC h key c (k + 1)) ∧ Below V.heap.size V w' := by
  obtain ⟨ca, kc, rfl, _, _, hs⟩ := id hc.shape
  obtain ⟨pa, pc, rfl⟩ := id hz.shape
  have IC := ischain_any (.slice ca h kc) h V ⟨_, _, rfl⟩ hb1
  have nilw : ∀ (W : World) cv r cc, Way W V.heap.size (.slice none 0 0) 0 cv r cc := fun W cv r cc => ⟨⟨none, 0, rfl, fun h => by omega⟩, fun k hk => by omega, fun i k _ hk => by omega⟩
  by_cases hch : 1 ≤ h ∧ h ≤ 8
  · rw [decide_eq_true hch] at IC
    obtain ⟨kb, ko, rfl, hs1, hs2⟩ := hs (by omega)
    have KK : Hid (kb < V.heap.size ∧ ∀ i, i < h → V.cell? ⟨kb, ko + i, none⟩ = some (xv i)) := ⟨hs1, hs2⟩
    have HV : Hid (Glob V ∧ Cells V (.slice (some ⟨kb, ko, none⟩) h kc) h xv lk key ∧ SliceZ V (.slice pa len pc) len c ∧ len ≤ 140737488351232 ∧ 1 ≤ h ∧ h ≤ 8) := ⟨hG, hc, hz, hb2, hch.1, hch.2⟩
    have EW : Hid (wkE h key lk len c = wkG h key lk len c h) := if_neg (by omega)
    have NW : Hid (∀ (W : World) cv r cc, Way W V.heap.size (.slice none 0 0) 0 cv r cc) := nilw
    have i8 : (h : Int) ≤ 8 := by omega
    have zp := zeroP
    clear hG hc hz hb1 hb2 hs hs1 hs2 hch nilw
    go_enter Tryz.func6, Tryz.ntmps6
    go_wp2_with (first
      | (go_at_call 11; refine IC.mono ?_; rintro e w1 ⟨rfl, hw1⟩; rw [hw1]; clear hw1)
      | (refine wpList_ex rfl (execMkP (x := .tmp 15) (h := h) rfl rfl HV.out.2.2.2.2.2 (fun _ => undef) fun _ _ => 0) ?_))
    go_loopw [1, 19] (fun u x W => ∃ (i : Nat) (cv : Nat → Value) (r : Nat → Nat → Nat), i ≤ h ∧ x = .int .i64 (i : Int) ∧ WkS V W u h len i key lk c cv r) (fun _ x _ => h - (intOf x).toNat)
    case atStart =>
      have b0 := belNew V (.cells (wyR (fun _ => undef) (fun _ _ => 0) h 0) 39)
      exact ⟨0, fun _ => undef, fun _ _ => 0, Nat.zero_le _, rfl, HV.out.2.2.1.on b0, rfl, heapNew V _, fun k hk => by omega, fun k hk => by omega, fun j k _ hk => by omega, b0⟩
    case round =>
      obtain ⟨i, cv, r, hi, rfl, st⟩ := hrel
      obtain ⟨oa, oc, rfl⟩ := id st.sl.shape
      have ST : Hid (WkS V wr (.slice oa (wkL len i) oc) h len i key lk c cv r) := st
      by_cases hlt : i < h
      · have i1 : (i : Int) < h := by omega
        obtain ⟨L, hL⟩ : ∃ L, h - i = L := ⟨_, rfl⟩
        have HI : Hid (i < h ∧ h = i + L ∧ h - i = L) := ⟨hlt, by omega, hL⟩
        have c1 : wr.cell? ⟨kb, ko + i, none⟩ = some (xv i) := by rw [cell_below st.bel KK.out.1]; exact KK.out.2 i hlt
        obtain ⟨E, hE⟩ : ∃ E, peE (lk i) (L : Int) (wkL len i) (key i) (wkC h key c i) = E := ⟨_, rfl⟩
        obtain ⟨rp, hrp⟩ : ∃ rp, peR E (key i) (wkC h key c i) = rp := ⟨_, rfl⟩
        have EG : Hid (wkG h key lk len c (i + 1) = E ∧ (E = 0 → rp = wkR h key c i)) := by
          refine ⟨?_, fun e => ?_⟩
          · rw [wkG_on st.go, hL]
            exact hE
          · rw [← hrp, e]
            rfl
        have PL := peel_any (key i) (wkC h key c i) (lk i) (wkL len i) (L : Int) (xv i) (.slice oa (wkL len i) oc) wr (HV.out.1.below st.bel HV.out.1.sz) ((HV.out.2.1.cell i hlt).on st.bel) st.sl (wkL_le HV.out.2.2.2.1 i)
        rw [hE, hrp] at PL
        have ec : wkC h key c (i + 1) = peC (L : Int) (key i) (wkC h key c i) := by rw [← hL]; rfl
        rw [← ec] at PL
        by_cases h0 : E = 0
        · have i2 : ((E : Int) != 0) = false := by simp; omega
          have E0 : Hid (E = 0) := h0
          obtain ⟨ya, yc, ey, _⟩ := (HV.out.2.1.cell i hlt).shape
          rw [ey] at c1 PL
          rw [h0] at PL
          have pn : peN 0 = 320 := rfl
          rw [pn] at PL
          clear st hi hlt hL hE hrp ec h0 ey pn i2
          go_wp2_with (first
            | (refine wpList_ex rfl (execIdxL (x := .tmp 17) (k := i) rfl rfl rfl HI.out.1) ?_)
            | (refine wpList_ex rfl (execLdL (x := .tmp 22) rfl rfl c1) ?_)
            | (refine wpList_ex rfl (execSubJ (x := .tmp 27) (p := h) (q := i) (r := L) rfl rfl rfl HI.out.2.1 (by have := HV.out; omega)) ?_)
            | (go_at_call 12; refine PL.mono ?_; rintro e w2 ⟨r2, rfl, own2, hb2⟩; obtain ⟨a2, c2, rfl⟩ := own_shapeJ own2; have S2 : Hid (w2.ownsRow wr.heap.size 5 1 (.slice a2 320 c2) 320 (bytesL 320 (wkC h key c (i + 1))) ∧ Below wr.heap.size wr w2) := ⟨own2, hb2⟩; clear own2 hb2)
            | (refine atStore 39 (.tmp 9) (.tmp 32) rfl ?_; go_must (refine wpList_exS rfl (execStAll (cells := pC (.slice a2 320 c2) rp) rfl rfl rfl (heapNew w2 _) (by rw [pC_size, pC_size]) (sizeP _ _) (pC_one _ rfl)) ?_; obtain ⟨W3, hW3⟩ : ∃ W3, (w2.alloc (.cells (pC (.slice none 0 0) fun _ => 0) 39)).setRow w2.heap.size (pC (.slice a2 320 c2) rp) = W3 := ⟨_, rfl⟩; have r3 : W3.heap[w2.heap.size]? = some (.cells (pC (.slice a2 320 c2) rp) 39) := (by rw [← hW3]; exact setRow_heap _ _ _ _ _ _ (heapNew w2 _)); have b3 : Below w2.heap.size w2 W3 := (by rw [← hW3]; exact below4 (belNew w2 _) (Nat.le_refl _) _); have b13 := S2.out.2.trans (b3.mono S2.out.2.size); have S3 : Hid (W3.heap[w2.heap.size]? = some (.cells (pC (.slice a2 320 c2) rp) 39) ∧ W3.heap[V.heap.size]? = some (.cells (wyR cv r h i) 39) ∧ W3.ownsRow wr.heap.size 5 1 (.slice a2 320 c2) 320 (bytesL 320 (wkC h key c (i + 1))) ∧ Below wr.heap.size wr W3 ∧ V.heap.size < w2.heap.size) := ⟨r3, (by rw [b13.block _ (Array.getElem?_eq_some_iff.1 ST.out.row).1]; exact ST.out.row), ownsRow_below S2.out.1 b3, b13, (by have := (Array.getElem?_eq_some_iff.1 ST.out.row).1; have := S2.out.2.size; omega)⟩; rw [hW3]; clear r3 b3 b13 hW3)))
          have hR : ∀ (l : Nat → Bool) (X : World), (X = if l 6 = true then W3.drew.setRow V.heap.size (wyR (fun k => if k = i then .slice a2 320 c2 else cv k) (fun k => if k = i then rp else r k) h (i + 1)) else W3.drew) → X.heap[w2.heap.size]? = some (.cells (pC (.slice a2 320 c2) rp) 39) := fun l X hX => by
            rw [hX]
            split
            · rw [setRow_other _ _ _ _ (by have := S3.out.2.2.2.2; omega)]; exact S3.out.1
            · exact S3.out.1
          refine wp_region_det 45 [(0, 37), (1, 38), (2, 39), (3, 40), (4, 41), (5, 42), (7, 1)] (fun i_ => match i_ with | 0 => .slice (some ⟨V.heap.size, 0, none⟩) h h | 1 => .int .i64 (i : Int) | 2 => .agg (pC (.slice a2 320 c2) rp) | 3 => .pointer (some ⟨w2.heap.size, 0, none⟩) | 4 => .slice a2 320 c2 | 5 => .pointer (some ⟨V.heap.size, i * 17, none⟩) | 6 => undef | 7 => .slice a2 320 c2 | _ => undef) (fun l X => X = if l 6 = true then W3.drew.setRow V.heap.size (wyR (fun k => if k = i then .slice a2 320 c2 else cv k) (fun k => if k = i then rp else r k) h (i + 1)) else W3.drew) (by kernel_rfl) (by kernel_rfl) rfl (by kernel_rfl) (by decide) (by decide) ?_ ?_ ?_
          · rfl
          · intro j hj l a X hl hf hdep hl2 hcl _ hT
            match j, hj with
            | 0, _ => exact stepV rfl rfl (execMvB rfl (hf 6 (by decide))) ⟨⟨_, rfl, rfl⟩, hT⟩
            | 1, _ => exact stepV rfl rfl (execMvB rfl (hf 7 (by decide))) ⟨⟨_, rfl, rfl⟩, hT⟩
            | 2, _ => exact stepV rfl rfl (execLdAll rfl (hf 9 (by decide)) (hR l X hT) Tryz.underlying39 rfl (sizeP _ _)) ⟨⟨_, rfl, rfl⟩, hT⟩
            | 3, _ => exact stepV rfl rfl (execFP0 rfl (hf 9 (by decide))) ⟨⟨_, rfl, rfl⟩, hT⟩
            | 4, _ => exact stepV rfl rfl (execLdL rfl (hdep _ rfl 3 rfl _ rfl _ rfl) (pC_at (hR l X hT))) ⟨⟨_, rfl, rfl⟩, hT⟩
            | 5, _ => exact stepV rfl rfl (execIdxP rfl (hdep _ rfl 0 rfl _ rfl _ rfl) (hdep _ rfl 1 rfl _ rfl _ rfl) HI.out.1) ⟨⟨_, rfl, rfl⟩, hT⟩
            | 6, _ =>
              have hT2 : X = W3.drew := by rw [hT, if_neg (by rw [hl]; simp)]
              refine stepS rfl rfl (execStMid (cells := pC (.slice a2 320 c2) rp) rfl (hdep _ rfl 5 rfl _ rfl _ rfl) (hdep _ rfl 2 rfl _ rfl _ rfl) (by rw [hT2]; exact S3.out.2.1) (by rw [wyR_size, pC_size]; have := HI.out.1; omega) (sizeP _ _) (pC_one _ rfl)) ⟨⟨_, rfl, rfl⟩, ?_⟩
              rw [wyR_step cv r HI.out.1, hT2]
              rfl
            | 7, _ => exact stepV rfl rfl (execAsgB rfl (hdep _ rfl 4 rfl _ rfl _ rfl)) ⟨⟨_, rfl, rfl⟩, hT⟩
            | k + 8, h => exact absurd h (by simp)
          · intro l X hall hT
            rw [if_pos (hall 6 (by simp))] at hT
            have N4 : Hid (WkS V X (.slice a2 320 c2) h len (i + 1) key lk c (fun k => if k = i then .slice a2 320 c2 else cv k) (fun k => if k = i then rp else r k)) := by
              have bX : Below V.heap.size V X := by rw [hT]; exact below4 (ST.out.bel.trans (S3.out.2.2.2.1.mono ST.out.bel.size)).drew (Nat.le_refl _) _
              have rowX : X.heap[V.heap.size]? = some (.cells (wyR (fun k => if k = i then .slice a2 320 c2 else cv k) (fun k => if k = i then rp else r k) h (i + 1)) 39) := by rw [hT]; exact setRow_heap _ _ _ _ _ _ (show W3.drew.heap[V.heap.size]? = _ from S3.out.2.1)
              have mv : ∀ (B : Nat) (v : Value) (f : Nat → Nat), W3.ownsRow B 5 1 v 320 (bytesL 320 f) → X.ownsRow B 5 1 v 320 (bytesL 320 f) := fun B v f ho => by
                rw [hT]
                exact ownsRow_row (show W3.drew.ownsRow B 5 1 v 320 (bytesL 320 f) from ho) (show W3.drew.heap[V.heap.size]? = _ from S3.out.2.1) (by decide) _
              have o2 := mv _ _ _ S3.out.2.2.1
              refine ⟨own_sliceZ o2 (fun j hj => wkC_lt HV.out.2.2.1.sl.bytes (i + 1) (EG.out.1.trans E0.out) j hj), EG.out.1.trans E0.out, rowX, fun k hk => ?_, fun k hk => ?_, fun j k hj hk => ?_, bX⟩
              · by_cases e : k = i
                · subst e
                  simp only [if_true]
                  exact own_base o2 ST.out.bel.size
                · simp only [if_neg e]
                  exact mv _ _ _ (ownsRow_below (ST.out.own k (by omega)) S3.out.2.2.2.1)
              · by_cases e : k = i
                · subst e
                  simp only [if_true]
                  exact EG.out.2 E0.out
                · simp only [if_neg e]
                  exact ST.out.rep k (by omega)
              · have ej : j ≠ i := by omega
                simp only [if_neg ej]
                by_cases e : k = i
                · subst e
                  simp only [if_true]
                  intro q
                  obtain ⟨g, cap, e1, hB, _⟩ := own_cells S3.out.2.2.1 (by omega)
                  have hlt := own_lt' (ST.out.own j hj) g (by rw [q, e1]; rfl)
                  omega
                · simp only [if_neg e]
                  exact ST.out.two j k hj (by omega)
            clear hall hT hR
            simp only [putP, Act.put, List.setIfInBounds_toArray, List.set_cons_succ, List.set_cons_zero]
            go_wp2_with fail
            go_roundw
            case rel => exact ⟨i + 1, _, _, HI.out.1, by go_num, N4.out⟩
            case measure => have := HI.out.1; simp [intOf]; omega
        · have i2 : ((E : Int) != 0) = true := by simp; omega
          obtain ⟨ya, yc, ey, _⟩ := (HV.out.2.1.cell i hlt).shape
          rw [ey] at c1 PL
          have EE : Hid (wkE h key lk len c = E ∧ wkN h E = 0) := by
            refine ⟨?_, if_neg h0⟩
            rw [EW.out, wkG_stop (i := i + 1) (by rw [EG.out.1]; exact h0) (by omega)]
            exact EG.out.1
          clear st hi hlt hL hE hrp ec h0 ey
          go_wp2_with (first
            | (refine wpList_ex rfl (execIdxL (x := .tmp 17) (k := i) rfl rfl rfl HI.out.1) ?_)
            | (refine wpList_ex rfl (execLdL (x := .tmp 22) rfl rfl c1) ?_)
            | (refine wpList_ex rfl (execSubJ (x := .tmp 27) (p := h) (q := i) (r := L) rfl rfl rfl HI.out.2.1 (by have := HV.out; omega)) ?_)
            | (go_at_call 12; refine PL.mono ?_; rintro e w2 ⟨r2, rfl, own2, hb2⟩; obtain ⟨a2, c2, rfl⟩ := own_shapeJ own2; have S2 : Hid (Below wr.heap.size wr w2) := hb2; clear own2 hb2)
            | (refine atStore 39 (.tmp 9) (.tmp 32) rfl ?_; go_must (refine wpList_exS rfl (execStAll (cells := pC (.slice a2 (peN E) c2) rp) rfl rfl rfl (heapNew w2 _) (by rw [pC_size, pC_size]) (sizeP _ _) (pC_one _ rfl)) ?_)))
          have bb := ST.out.bel.trans ((S2.out.trans ((below4 (belNew w2 (.cells (pC (.slice none 0 0) fun _ => 0) 39)) (Nat.le_refl _) (pC (.slice a2 (peN E) c2) rp)).mono S2.out.size)).mono ST.out.bel.size)
          refine bodyPost_ret (results_tmp2 rfl _ _ _) rfl ⟨_, fun _ => undef, by rw [EE.out.1]; rfl, by rw [EE.out.1, EE.out.2]; exact NW.out _ _ _ _, bb⟩
      · have i1 : ¬ (i : Int) < h := by omega
        obtain rfl : i = h := by omega
        have EE : Hid (wkE i key lk len c = 0 ∧ wkN i 0 = i) := ⟨EW.out.trans st.go, rfl⟩
        have WW : Hid (Way wr V.heap.size (.slice (some ⟨V.heap.size, 0, none⟩) i i) i cv (wkR i key c) (fun k => wkC i key c (k + 1))) := by
          refine ⟨⟨_, _, rfl, fun _ => ⟨V.heap.size, rfl, Nat.le_refl _, (Array.getElem?_eq_some_iff.1 st.row).1, fun k hk => ?_⟩⟩, st.own, st.two⟩
          rw [← st.rep k hk]
          exact range_wy st.row hk
        clear st hi hlt
        go_wp2_with fail
        refine bodyPost_ret (results_tmp2 rfl _ _ _) rfl ⟨_, by rw [EE.out.1]; rfl, ⟨cv, by rw [EE.out.1, EE.out.2]; exact WW.out⟩, ST.out.bel⟩
  · rw [decide_eq_false hch] at IC
    have E : wkE h key lk len c = 80 := if_pos (by omega)
    rw [E, show wkN h 80 = 0 from if_neg (by omega)]
    have NW : Hid (∀ (W : World) cv r cc, Way W V.heap.size (.slice none 0 0) 0 cv r cc) := nilw
    clear E hG hc hz hb1 hb2 hch hs nilw
    go_enter Tryz.func6, Tryz.ntmps6
    go_wp2_with (go_at_call 11; refine IC.mono ?_; rintro e w1 ⟨rfl, hw1⟩; rw [hw1]; clear hw1)
    refine bodyPost_ret (results_tmp2 rfl _ _ _) rfl ⟨_, fun _ => undef, rfl, NW.out _ _ _ _, Below.refl _ _⟩
end Go.Proofs.YtcffmmeafnapiaaGreatDoor.Rou
