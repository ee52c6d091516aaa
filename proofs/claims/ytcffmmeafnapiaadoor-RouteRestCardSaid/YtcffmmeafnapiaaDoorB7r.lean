import Derived.Test.YtcffmmeafnapiaaDoorB7q
namespace Go.Proofs.YtcffmmeafnapiaaDoor.Rou
open Go.RowKit Gf8 Aes By8 Cel Oni
/- RouteRest. Written by tools/mkB7r.py. -/

set_option maxRecDepth 20000 in
set_option maxHeartbeats 4000000 in
theorem rest8_any (kv nv pv : Value) (h hn n : Nat) (xv : Nat → Value) (lk : Nat → Nat) (key q : Nat → Nat → Nat) (p : Nat → Nat) (V : World) (hG : Glob V) (hc : Cells V kv h xv lk key) (hq : Nons V nv hn q) (hp : SliceZ V pv n p) (hb1 : h ≤ 140737488351232) (hb2 : hn ≤ 140737488351232) (hb3 : n ≤ 140737488351232) :
    Calls Tryd.prog 6 #[.agg (hC kv nv pv)] V fun e w' => e = .returned (.bool true) ∧ Below V.heap.size V w' := by
  obtain ⟨V1, hV1⟩ : ∃ V1, V.alloc (.cells (hC kv nv pv) 33) = V1 := ⟨_, rfl⟩
  have r1 := heapNew V (.cells (hC kv nv pv) 33)
  have b1 := belNew V (.cells (hC kv nv pv) 33)
  have s1 : V1.heap.size = V.heap.size + 1 := by rw [← hV1]; simp
  rw [hV1] at r1 b1
  have H : Hid (V1.heap[V.heap.size]? = some (.cells (hC kv nv pv) 33) ∧ Below V.heap.size V V1 ∧ V1.heap.size = V.heap.size + 1) := ⟨r1, b1, s1⟩
  have A := awake8_any V1 (hG.below b1 hG.sz)
  have RI : Hid (∀ W, Below V.heap.size V W → Calls Tryd.prog 13 #[.agg (hC kv nv pv)] W fun e w' => e = .returned (.bool (decide (rwE h hn lk n = 0))) ∧ Below W.heap.size W w') := fun W hW => right_any kv nv pv h hn n xv lk key q p W (hc.on hW) (hq.on hW) (hp.on hW) hb1 hb2 hb3
  by_cases hE : rwE h hn lk n = 0
  · rw [decide_eq_true hE] at RI
    obtain ⟨h1, h8, e3, hk, h5⟩ := rwE_ok hE
    obtain rfl : h = hn := e3.symm
    clear e3
    obtain ⟨ka, kc, rfl, kc1, _, hs⟩ := id hc.shape
    obtain ⟨na, nc, rfl, nc1, _, ht⟩ := id hq.shape
    obtain ⟨kb, ko, rfl, hs1, hs2⟩ := hs (by omega)
    obtain ⟨nb, no, rfl, ht1, ht2⟩ := ht (by omega)
    obtain ⟨pa, pc, rfl⟩ := id hp.shape
    obtain ⟨cw, hcw⟩ : ∃ cw, rwF h key q n p = cw := ⟨_, rfl⟩
    obtain ⟨m, rfl⟩ : ∃ m, h = m + 1 := ⟨h - 1, by omega⟩
    have hN : rwN (m + 1) (m + 1) lk n = 320 := if_pos hE
    have CL : Hid (∀ j, j < 320 → cw j < 256) := by
      have := rwF_lt (h := m + 1) (hn := m + 1) (lk := lk) (key := key) (q := q) (n := n) (p := p) hq.by_ hp.sl.bytes
      rw [hN, hcw] at this
      exact this
    have PW : Hid (∀ W, Below V.heap.size V W → Calls Tryd.prog 12 #[.slice (some ⟨kb, ko, none⟩) (m + 1) kc, .slice (some ⟨nb, no, none⟩) (m + 1) nc, .slice pa n pc] W fun e w' => ∃ r, e = .returned (.tuple #[r, .int .i64 0]) ∧ w'.ownsRow W.heap.size 5 1 r 320 (bytesL 320 cw) ∧ Below W.heap.size W w') := fun W hW => by
      have h := rwrap8_any _ _ _ (m + 1) (m + 1) n xv lk key q p W (hG.below hW hG.sz) (hc.on hW) (hq.on hW) (hp.on hW) hb1 hb2 hb3
      rw [hcw, hE, hN] at h
      exact h
    have hp0 := ce_peel (h := m + 1) (key := key) (nonce := q) (n := n) (p := p) (m := m) h5 (by omega)
    rw [← rw_ce (by omega), hcw, show m + 1 - (m + 1) = 0 by omega] at hp0
    obtain ⟨rs, hrs⟩ : ∃ rs, ceF (m + 1) key q n p m = rs := ⟨_, rfl⟩
    rw [hrs] at hp0
    have RL : Hid (∀ j, j < 320 → rs j < 256) := fun j hj => by
      rw [← hp0.2]
      exact peC_lt hp0.1 CL.out j
    have PP : Hid (∀ W (v : Value), Below V.heap.size V W → SliceZ W v 320 cw → Calls Tryd.prog 17 #[xv 0, .int .i64 ((m + 1 : Nat) : Int), v] W fun e w' => ∃ cv r, e = .returned (.tuple #[.agg (pC cv r), .int .i64 0]) ∧ w'.ownsRow W.heap.size 5 1 cv 320 (bytesL 320 rs) ∧ Below W.heap.size W w') := fun W v hW hv => by
      have h := peel_any (key 0) cw (lk 0) 320 ((m + 1 : Nat) : Int) (xv 0) v W (hG.below hW hG.sz) ((hc.cell 0 (by omega)).on hW) hv (by omega)
      rw [hk 0 (by omega), hp0.1, hp0.2, show peN 0 = 320 from rfl] at h
      refine h.mono ?_
      rintro e w' ⟨cv, rfl, own, hb⟩
      exact ⟨cv, _, rfl, own, hb⟩
    have c00 : V.cell? ⟨kb, ko, none⟩ = some (xv 0) := hs2 0 (by omega)
    have KB : Hid (kb < V.heap.size ∧ V.cell? ⟨kb, ko, none⟩ = some (xv 0)) := ⟨hs1, c00⟩
    obtain ⟨ya, yc, ey, _⟩ := (hc.cell 0 (by omega)).shape
    rw [ey] at PP KB
    obtain ⟨K0, hK0⟩ : ∃ K0, lk 0 = K0 := ⟨_, rfl⟩
    rw [hK0] at PP KB
    have im : ((m + 1 : Nat) : Int) ≤ 8 := by omega
    have zp := zeroP
    by_cases hm : m = 0
    · have PL : Hid (∀ W, Below V.heap.size V W → Calls Tryd.prog 16 #[.slice pa n pc] W fun e w' => ∃ r, e = .returned (.tuple #[r, .int .i64 0]) ∧ w'.ownsRow W.heap.size 5 1 r 320 (bytesL 320 rs) ∧ Below W.heap.size W w') := fun W hW => by
        have h := plain_any p n _ W (hp.on hW) (by omega)
        rw [show okE 48 n = 0 from if_pos h5, show okN 48 n = 320 from if_pos h5] at h
        rw [← hrs, hm]
        exact h
      obtain rfl := hm
      clear hG hc hq hp hb1 hb2 hb3 hE h1 h8 hk h5 hs hs1 hs2 ht ht1 ht2 hcw hN hp0 hrs c00 ey hK0 r1 b1 s1
      go_enter Tryd.func6, Tryd.ntmps6
      go_wp2_with (first
        | (go_at_call 8; refine A.mono ?_; rintro e w1 ⟨rfl, hb1⟩; have B1 : Hid (w1.heap[V.heap.size]? = some (.cells (hC (.slice (some ⟨kb, ko, none⟩) (0 + 1) kc) (.slice (some ⟨nb, no, none⟩) (0 + 1) nc) (.slice pa n pc)) 33) ∧ Below V.heap.size V w1) := ⟨(by rw [hb1.block _ (by have := H.out.2.2; omega)]; exact H.out.1), H.out.2.1.trans (hb1.mono H.out.2.1.size)⟩; clear hb1)
        | (refine atLoad 33 (.tmp 1) rfl ?_; go_must (refine wpList_ex rfl (execLdAll rfl rfl B1.out.1 Tryd.underlying33 rfl (size3 _ _ _)) ?_))
        | (go_at_call 13; refine (RI.out w1 B1.out.2).mono ?_; rintro e w2 ⟨rfl, hb2⟩; have B2 : Hid (w2.heap[V.heap.size]? = some (.cells (hC (.slice (some ⟨kb, ko, none⟩) (0 + 1) kc) (.slice (some ⟨nb, no, none⟩) (0 + 1) nc) (.slice pa n pc)) 33) ∧ Below V.heap.size V w2) := ⟨(by rw [hb2.block _ (Array.getElem?_eq_some_iff.1 B1.out.1).1]; exact B1.out.1), B1.out.2.trans (hb2.mono B1.out.2.size)⟩; obtain ⟨c0, c1, c2⟩ := hC_at B2.out.1; clear hb2)
        | (go_at_call 12; refine (PW.out w2 B2.out.2).mono ?_; rintro e w3 ⟨r3, rfl, own3, hb3⟩; obtain ⟨a3, q3, rfl⟩ := own_shapeJ own3; have B3 : Hid (w3.heap[V.heap.size]? = some (.cells (hC (.slice (some ⟨kb, ko, none⟩) (0 + 1) kc) (.slice (some ⟨nb, no, none⟩) (0 + 1) nc) (.slice pa n pc)) 33) ∧ Below V.heap.size V w3 ∧ SliceZ w3 (.slice a3 320 q3) 320 cw) := ⟨(by rw [hb3.block _ (Array.getElem?_eq_some_iff.1 B2.out.1).1]; exact B2.out.1), B2.out.2.trans (hb3.mono B2.out.2.size), own_sliceZ own3 CL.out⟩; obtain ⟨d0, d1, d2⟩ := hC_at B3.out.1; have d3 : w3.cell? ⟨kb, ko, none⟩ = some (.slice ya K0 yc) := (by rw [cell_below B3.out.2.1 KB.out.1]; exact KB.out.2); clear own3 hb3 c0 c1 c2)
        | (refine wpList_ex rfl (execIdxL (x := .tmp 32) (k := 0) rfl rfl rfl (by omega)) ?_)
        | (go_at_call 17; refine (PP.out w3 _ B3.out.2.1 B3.out.2.2).mono ?_; rintro e w4 ⟨r4, rp, rfl, own4, hb4⟩; obtain ⟨a4, q4, rfl⟩ := own_shapeJ own4; have B4 : Hid (w4.heap[V.heap.size]? = some (.cells (hC (.slice (some ⟨kb, ko, none⟩) (0 + 1) kc) (.slice (some ⟨nb, no, none⟩) (0 + 1) nc) (.slice pa n pc)) 33) ∧ Below V.heap.size V w4 ∧ SliceN w4 (.slice a4 320 q4) 320 rs) := ⟨(by rw [hb4.block _ (Array.getElem?_eq_some_iff.1 B3.out.1).1]; exact B3.out.1), B3.out.2.1.trans (hb4.mono B3.out.2.1.size), own_slice own4 RL.out⟩; clear own4 hb4 d0 d1 d2 d3)
        | (refine atStore 42 (.tmp 6) (.tmp 38) rfl ?_; go_must (refine wpList_exS rfl (execStAll (cells := pC (.slice a4 320 q4) rp) rfl rfl rfl (heapNew w4 _) (by rw [pC_size, pC_size]) (sizeP _ _) (pC_one _ rfl)) ?_; obtain ⟨W5, hW5⟩ : ∃ W5, (w4.alloc (.cells (pC (.slice none 0 0) fun _ => 0) 42)).setRow w4.heap.size (pC (.slice a4 320 q4) rp) = W5 := ⟨_, rfl⟩; have r5 : W5.heap[w4.heap.size]? = some (.cells (pC (.slice a4 320 q4) rp) 42) := (by rw [← hW5]; exact setRow_heap _ _ _ _ _ _ (heapNew w4 _)); have b5 : Below w4.heap.size w4 W5 := (by rw [← hW5]; exact below4 (belNew w4 _) (Nat.le_refl _) _); have S5 : Hid (W5.heap[V.heap.size]? = some (.cells (hC (.slice (some ⟨kb, ko, none⟩) (0 + 1) kc) (.slice (some ⟨nb, no, none⟩) (0 + 1) nc) (.slice pa n pc)) 33) ∧ Below V.heap.size V W5 ∧ W5.heap[w4.heap.size]? = some (.cells (pC (.slice a4 320 q4) rp) 42) ∧ SliceN W5 (.slice a4 320 q4) 320 rs) := ⟨(by rw [b5.block _ (Array.getElem?_eq_some_iff.1 B4.out.1).1]; exact B4.out.1), B4.out.2.1.trans (b5.mono B4.out.2.1.size), r5, B4.out.2.2.on b5⟩; obtain ⟨f0, f1, f2⟩ := hC_at S5.out.1; rw [hW5]; clear r5 b5 hW5))
        | (go_at_call 16; refine (PL.out _ S5.out.2.1).mono ?_; rintro e w6 ⟨r6, rfl, own6, hb6⟩; obtain ⟨a6, q6, rfl⟩ := own_shapeJ own6; have ce := pC_at (W := w6) (g := w4.heap.size) (cv := .slice a4 320 q4) (r := rp) (t := 42) (by rw [hb6.block _ (Array.getElem?_eq_some_iff.1 S5.out.2.2.1).1]; exact S5.out.2.2.1); have k1 := By8.conv_str (S5.out.2.2.2.on hb6); have k2 := By8.conv_str (own_slice own6 RL.out); have S6 : Hid (Below V.heap.size V w6) := S5.out.2.1.trans (hb6.mono S5.out.2.1.size); clear own6 hb6))
      go_ret
      exact ⟨rfl, S6.out⟩
    · have RR : Hid (∀ W, Below V.heap.size V W → Calls Tryd.prog 12 #[.slice (some ⟨kb, ko + 1, none⟩) m (kc - 1), .slice (some ⟨nb, no + 16, none⟩) m (nc - 1), .slice pa n pc] W fun e w' => ∃ r, e = .returned (.tuple #[r, .int .i64 0]) ∧ w'.ownsRow W.heap.size 5 1 r 320 (bytesL 320 rs) ∧ Below W.heap.size W w') := fun W hW => by
        have h := rwrap8_any _ _ _ m m n (fun i => xv (i + 1)) (fun i => lk (i + 1)) (fun i => key (i + 1)) (fun i => q (i + 1)) p W (hG.below hW hG.sz) ((cells_rest hc (by omega)).on hW) ((nons_rest hq (by omega)).on hW) (hp.on hW) (by omega) (by omega) hb3
        have e2 : rwE m m (fun i => lk (i + 1)) n = 0 := rwE_is (by omega) (by omega) rfl (fun i hi => hk (i + 1) (by omega)) h5
        rw [rw_rest (by omega), hrs, e2, show rwN m m (fun i => lk (i + 1)) n = 320 from if_pos e2] at h
        exact h
      have HM : Hid (1 ≤ m ∧ m ≤ 7 ∧ 1 < kc ∧ 1 < nc) := ⟨by omega, by omega, by omega, by omega⟩
      have im1 : (((m + 1 : Nat) : Int) == 1) = false := by simp; omega
      have im2 : ¬ ((m + 1 : Nat) : Int) = 1 := by omega
      clear hG hc hq hp hb1 hb2 hb3 hE h1 h8 hk h5 hs hs1 hs2 ht ht1 ht2 hcw hN hp0 hrs c00 ey hK0 r1 b1 s1 hm
      go_enter Tryd.func6, Tryd.ntmps6
      go_wp2_with (first
        | (go_at_call 8; refine A.mono ?_; rintro e w1 ⟨rfl, hb1⟩; have B1 : Hid (w1.heap[V.heap.size]? = some (.cells (hC (.slice (some ⟨kb, ko, none⟩) (m + 1) kc) (.slice (some ⟨nb, no, none⟩) (m + 1) nc) (.slice pa n pc)) 33) ∧ Below V.heap.size V w1) := ⟨(by rw [hb1.block _ (by have := H.out.2.2; omega)]; exact H.out.1), H.out.2.1.trans (hb1.mono H.out.2.1.size)⟩; clear hb1)
        | (refine atLoad 33 (.tmp 1) rfl ?_; go_must (refine wpList_ex rfl (execLdAll rfl rfl B1.out.1 Tryd.underlying33 rfl (size3 _ _ _)) ?_))
        | (go_at_call 13; refine (RI.out w1 B1.out.2).mono ?_; rintro e w2 ⟨rfl, hb2⟩; have B2 : Hid (w2.heap[V.heap.size]? = some (.cells (hC (.slice (some ⟨kb, ko, none⟩) (m + 1) kc) (.slice (some ⟨nb, no, none⟩) (m + 1) nc) (.slice pa n pc)) 33) ∧ Below V.heap.size V w2) := ⟨(by rw [hb2.block _ (Array.getElem?_eq_some_iff.1 B1.out.1).1]; exact B1.out.1), B1.out.2.trans (hb2.mono B1.out.2.size)⟩; obtain ⟨c0, c1, c2⟩ := hC_at B2.out.1; clear hb2)
        | (go_at_call 12; refine (PW.out w2 B2.out.2).mono ?_; rintro e w3 ⟨r3, rfl, own3, hb3⟩; obtain ⟨a3, q3, rfl⟩ := own_shapeJ own3; have B3 : Hid (w3.heap[V.heap.size]? = some (.cells (hC (.slice (some ⟨kb, ko, none⟩) (m + 1) kc) (.slice (some ⟨nb, no, none⟩) (m + 1) nc) (.slice pa n pc)) 33) ∧ Below V.heap.size V w3 ∧ SliceZ w3 (.slice a3 320 q3) 320 cw) := ⟨(by rw [hb3.block _ (Array.getElem?_eq_some_iff.1 B2.out.1).1]; exact B2.out.1), B2.out.2.trans (hb3.mono B2.out.2.size), own_sliceZ own3 CL.out⟩; obtain ⟨d0, d1, d2⟩ := hC_at B3.out.1; have d3 : w3.cell? ⟨kb, ko, none⟩ = some (.slice ya K0 yc) := (by rw [cell_below B3.out.2.1 KB.out.1]; exact KB.out.2); clear own3 hb3 c0 c1 c2)
        | (refine wpList_ex rfl (execIdxL (x := .tmp 32) (k := 0) rfl rfl rfl (by omega)) ?_)
        | (go_at_call 17; refine (PP.out w3 _ B3.out.2.1 B3.out.2.2).mono ?_; rintro e w4 ⟨r4, rp, rfl, own4, hb4⟩; obtain ⟨a4, q4, rfl⟩ := own_shapeJ own4; have B4 : Hid (w4.heap[V.heap.size]? = some (.cells (hC (.slice (some ⟨kb, ko, none⟩) (m + 1) kc) (.slice (some ⟨nb, no, none⟩) (m + 1) nc) (.slice pa n pc)) 33) ∧ Below V.heap.size V w4 ∧ SliceN w4 (.slice a4 320 q4) 320 rs) := ⟨(by rw [hb4.block _ (Array.getElem?_eq_some_iff.1 B3.out.1).1]; exact B3.out.1), B3.out.2.1.trans (hb4.mono B3.out.2.1.size), own_slice own4 RL.out⟩; clear own4 hb4 d0 d1 d2 d3)
        | (refine atStore 42 (.tmp 6) (.tmp 38) rfl ?_; go_must (refine wpList_exS rfl (execStAll (cells := pC (.slice a4 320 q4) rp) rfl rfl rfl (heapNew w4 _) (by rw [pC_size, pC_size]) (sizeP _ _) (pC_one _ rfl)) ?_; obtain ⟨W5, hW5⟩ : ∃ W5, (w4.alloc (.cells (pC (.slice none 0 0) fun _ => 0) 42)).setRow w4.heap.size (pC (.slice a4 320 q4) rp) = W5 := ⟨_, rfl⟩; have r5 : W5.heap[w4.heap.size]? = some (.cells (pC (.slice a4 320 q4) rp) 42) := (by rw [← hW5]; exact setRow_heap _ _ _ _ _ _ (heapNew w4 _)); have b5 : Below w4.heap.size w4 W5 := (by rw [← hW5]; exact below4 (belNew w4 _) (Nat.le_refl _) _); have S5 : Hid (W5.heap[V.heap.size]? = some (.cells (hC (.slice (some ⟨kb, ko, none⟩) (m + 1) kc) (.slice (some ⟨nb, no, none⟩) (m + 1) nc) (.slice pa n pc)) 33) ∧ Below V.heap.size V W5 ∧ W5.heap[w4.heap.size]? = some (.cells (pC (.slice a4 320 q4) rp) 42) ∧ SliceN W5 (.slice a4 320 q4) 320 rs) := ⟨(by rw [b5.block _ (Array.getElem?_eq_some_iff.1 B4.out.1).1]; exact B4.out.1), B4.out.2.1.trans (b5.mono B4.out.2.1.size), r5, B4.out.2.2.on b5⟩; obtain ⟨f0, f1, f2⟩ := hC_at S5.out.1; rw [hW5]; clear r5 b5 hW5)))
      refine wp_region_st 82 [(0, 61), (1, 62), (2, 63), (3, 64), (4, 65), (5, 66), (6, 67), (7, 68), (8, 69), (9, 60), (10, 70), (11, 71), (12, 10), (13, 11)] (fun l r X => Below W5.heap.size W5 X ∧ (l 8 = true → X.ownsRow V.heap.size 5 1 r 320 (bytesL 320 rs))) (fun r => fun i_ => match i_ with | 0 => .pointer (some ⟨V.heap.size, 0, none⟩) | 1 => .slice (some ⟨kb, ko, none⟩) (m + 1) kc | 2 => .slice (some ⟨kb, ko + 1, none⟩) m (kc - 1) | 3 => .pointer (some ⟨V.heap.size, 1, none⟩) | 4 => .slice (some ⟨nb, no, none⟩) (m + 1) nc | 5 => .slice (some ⟨nb, no + 16, none⟩) m (nc - 1) | 6 => .pointer (some ⟨V.heap.size, 2, none⟩) | 7 => .slice pa n pc | 8 => .tuple #[r, .int .i64 0] | 9 => .tuple #[r, .int .i64 0] | 10 => r | 11 => .int .i64 0 | 12 => r | 13 => .int .i64 0 | _ => undef) undef (by kernel_rfl) (by kernel_rfl) rfl (by kernel_rfl) (by decide) (by decide) ?_ ?_ ?_
      · exact ⟨(Below.refl _ _).drew, fun q => by cases q⟩
      · intro j hj l r a X hl hf hdep hl2 hcl hS
        match j, hj with
        | 0, _ => exact stepV rfl rfl (execC0 rfl (hf 1 (by decide))) ⟨r, ⟨_, rfl, rfl⟩, ⟨hS.1, fun q => hS.2 q⟩, fun _ _ _ => rfl⟩
        | 1, _ => exact stepV rfl rfl (execLdLL rfl (hdep _ rfl 0 rfl _ rfl _ rfl) (hC_at (by rw [hS.1.block _ (Array.getElem?_eq_some_iff.1 S5.out.1).1]; exact S5.out.1)).1) ⟨r, ⟨_, rfl, rfl⟩, ⟨hS.1, fun q => hS.2 q⟩, fun _ _ _ => rfl⟩
        | 2, _ => exact stepV rfl rfl (execCutL rfl (hdep _ rfl 1 rfl _ rfl _ rfl) rfl (sl1L kb ko (m + 1) kc (by omega) HM.out.2.2.1 X)) ⟨r, ⟨_, rfl, rfl⟩, ⟨hS.1, fun q => hS.2 q⟩, fun _ _ _ => rfl⟩
        | 3, _ => exact stepV rfl rfl (execC1 rfl (hf 1 (by decide))) ⟨r, ⟨_, rfl, rfl⟩, ⟨hS.1, fun q => hS.2 q⟩, fun _ _ _ => rfl⟩
        | 4, _ => exact stepV rfl rfl (execLdLA rfl (hdep _ rfl 3 rfl _ rfl _ rfl) (hC_at (by rw [hS.1.block _ (Array.getElem?_eq_some_iff.1 S5.out.1).1]; exact S5.out.1)).2.1) ⟨r, ⟨_, rfl, rfl⟩, ⟨hS.1, fun q => hS.2 q⟩, fun _ _ _ => rfl⟩
        | 5, _ => exact stepV rfl rfl (execCutL rfl (hdep _ rfl 4 rfl _ rfl _ rfl) rfl (sl1A nb no (m + 1) nc (by omega) HM.out.2.2.2 X)) ⟨r, ⟨_, rfl, rfl⟩, ⟨hS.1, fun q => hS.2 q⟩, fun _ _ _ => rfl⟩
        | 6, _ => exact stepV rfl rfl (execC2 rfl (hf 1 (by decide))) ⟨r, ⟨_, rfl, rfl⟩, ⟨hS.1, fun q => hS.2 q⟩, fun _ _ _ => rfl⟩
        | 7, _ => exact stepV rfl rfl (execLdL rfl (hdep _ rfl 6 rfl _ rfl _ rfl) (hC_at (by rw [hS.1.block _ (Array.getElem?_eq_some_iff.1 S5.out.1).1]; exact S5.out.1)).2.2) ⟨r, ⟨_, rfl, rfl⟩, ⟨hS.1, fun q => hS.2 q⟩, fun _ _ _ => rfl⟩
        | 8, _ =>
          refine stepC rfl rfl (execCall3 Tryd.func12 (by kernel_rfl) (by kernel_rfl) rfl (hdep _ rfl 2 rfl _ rfl _ rfl) (hdep _ rfl 5 rfl _ rfl _ rfl) (hdep _ rfl 7 rfl _ rfl _ rfl)) (RR.out X (S5.out.2.1.trans (hS.1.mono S5.out.2.1.size))) fun e w' hh => ?_
          obtain ⟨r', e1, own', bw⟩ := hh
          refine ⟨_, e1, r', ⟨_, rfl, rfl⟩, ⟨hS.1.trans (bw.mono hS.1.size), fun _ => own_base own' (Nat.le_trans S5.out.2.1.size hS.1.size)⟩, fun i hi hli => ?_⟩
          match i, hi with
          | 0, _ | 1, _ | 2, _ | 3, _ | 4, _ | 5, _ | 6, _ | 7, _ | 11, _ | 13, _ => rfl
          | 8, _ => exact absurd (hl.symm.trans hli) (by decide)
          | 9, _ => exact absurd (hl.symm.trans (hcl 9 _ rfl hli 8 rfl)) (by decide)
          | 10, _ => exact absurd (hl.symm.trans (hcl 9 _ rfl (hcl 10 _ rfl hli 9 rfl) 8 rfl)) (by decide)
          | 12, _ => exact absurd (hl.symm.trans (hcl 9 _ rfl (hcl 10 _ rfl (hcl 12 _ rfl hli 10 rfl) 9 rfl) 8 rfl)) (by decide)
          | k + 14, h => exact absurd h (by simp)
        | 9, _ => exact stepV rfl rfl (execMvB rfl (hdep _ rfl 8 rfl _ rfl _ rfl)) ⟨r, ⟨_, rfl, rfl⟩, ⟨hS.1, fun q => hS.2 q⟩, fun _ _ _ => rfl⟩
        | 10, _ => exact stepV rfl rfl (execExtT rfl (hdep _ rfl 9 rfl _ rfl _ rfl) rfl) ⟨r, ⟨_, rfl, rfl⟩, ⟨hS.1, fun q => hS.2 q⟩, fun _ _ _ => rfl⟩
        | 11, _ => exact stepV rfl rfl (execExtT rfl (hdep _ rfl 9 rfl _ rfl _ rfl) rfl) ⟨r, ⟨_, rfl, rfl⟩, ⟨hS.1, fun q => hS.2 q⟩, fun _ _ _ => rfl⟩
        | 12, _ => exact stepV rfl rfl (execAsgB rfl (hdep _ rfl 10 rfl _ rfl _ rfl)) ⟨r, ⟨_, rfl, rfl⟩, ⟨hS.1, fun q => hS.2 q⟩, fun _ _ _ => rfl⟩
        | 13, _ => exact stepV rfl rfl (execAsgB rfl (hdep _ rfl 11 rfl _ rfl _ rfl)) ⟨r, ⟨_, rfl, rfl⟩, ⟨hS.1, fun q => hS.2 q⟩, fun _ _ _ => rfl⟩
        | k + 14, h => exact absurd h (by simp)
      · intro l r X hall hS
        obtain ⟨hb6, ho6⟩ := hS
        have own6 := ho6 (hall 8 (by simp))
        obtain ⟨a6, q6, rfl⟩ := own_shapeJ own6
        have ce := pC_at (W := X) (g := w4.heap.size) (cv := .slice a4 320 q4) (r := rp) (t := 42) (by rw [hb6.block _ (Array.getElem?_eq_some_iff.1 S5.out.2.2.1).1]; exact S5.out.2.2.1)
        have k1 := By8.conv_str (S5.out.2.2.2.on hb6)
        have k2 := By8.conv_str (own_slice own6 RL.out)
        have S6 : Hid (Below V.heap.size V X) := S5.out.2.1.trans (hb6.mono S5.out.2.1.size)
        clear hall hb6 ho6 own6
        simp only [putP, Act.put, List.setIfInBounds_toArray, List.set_cons_succ, List.set_cons_zero]
        go_wp2_with fail
        go_ret
        exact ⟨rfl, S6.out⟩
  · rw [decide_eq_false hE] at RI
    clear hG hc hq hp hb1 hb2 hb3 r1 b1 s1 hE
    go_enter Tryd.func6, Tryd.ntmps6
    go_wp2_with (first
      | (go_at_call 8; refine A.mono ?_; rintro e w1 ⟨rfl, hb1⟩; have B1 : Hid (w1.heap[V.heap.size]? = some (.cells (hC kv nv pv) 33) ∧ Below V.heap.size V w1) := ⟨(by rw [hb1.block _ (by have := H.out.2.2; omega)]; exact H.out.1), H.out.2.1.trans (hb1.mono H.out.2.1.size)⟩; clear hb1)
      | (refine atLoad 33 (.tmp 1) rfl ?_; go_must (refine wpList_ex rfl (execLdAll rfl rfl B1.out.1 Tryd.underlying33 rfl (size3 _ _ _)) ?_))
      | (go_at_call 13; refine (RI.out w1 B1.out.2).mono ?_; rintro e w2 ⟨rfl, hb2⟩; have B2 : Hid (Below V.heap.size V w2) := B1.out.2.trans (hb2.mono B1.out.2.size); clear hb2))
    go_ret
    exact ⟨rfl, B2.out⟩
end Go.Proofs.YtcffmmeafnapiaaDoor.Rou
