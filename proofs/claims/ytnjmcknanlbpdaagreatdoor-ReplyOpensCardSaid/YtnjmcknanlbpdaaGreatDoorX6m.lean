import Derived.Test.YtnjmcknanlbpdaaGreatDoorX6l
namespace Go.Proofs.YtnjmcknanlbpdaaGreatDoor.Oni
open Go.RowKit Gf8 Aes By8 Cel
/- The reference's Peel. -/

set_option maxRecDepth 20000 in
set_option maxHeartbeats 4000000 in
theorem rpeel_any (key c : Nat → Nat) (lk len : Nat) (left : Int) (vk vc : Value) (V : World) (hk : SliceN V vk lk key) (hc : SliceZ V vc len c) (hb : len ≤ 140737488351232) :
    Calls Tryz.prog 24 #[vk, .int .i64 left, vc] V fun e w' => ∃ cv, e = .returned (.tuple #[.agg (pC cv (peR (peE lk left len key c) key c)), .int .i64 (peE lk left len key c : Nat)]) ∧ w'.ownsRow V.heap.size 5 1 cv (peN (peE lk left len key c)) (bytesL (peN (peE lk left len key c)) (peC left key c)) ∧ Below V.heap.size V w' := by
  obtain ⟨V1, hV1⟩ : ∃ V1, V.alloc (.cells (pC (.slice none 0 0) fun _ => 0) 50) = V1 := ⟨_, rfl⟩
  have r1 := heapNew V (.cells (pC (.slice none 0 0) fun _ => 0) 50)
  have b1 := belNew V (.cells (pC (.slice none 0 0) fun _ => 0) 50)
  have s1 : V1.heap.size = V.heap.size + 1 := by rw [← hV1]; simp
  rw [hV1] at r1 b1
  obtain ⟨ka, kcap, rfl, _⟩ := id hk.shape
  obtain ⟨S, hS⟩ : ∃ S, sz left = S := ⟨_, rfl⟩
  have PS := rsize_any left
  rw [hS] at PS
  have zp := zeroP
  have H : Hid (V1.heap[V.heap.size]? = some (.cells (pC (.slice none 0 0) fun _ => 0) 50) ∧ Below V.heap.size V V1 ∧ V1.heap.size = V.heap.size + 1) := ⟨r1, b1, s1⟩
  obtain ⟨E, hE⟩ : ∃ E, peE lk left len key c = E := ⟨_, rfl⟩
  rw [hE]
  by_cases hbad : lk ≠ 32 ∨ S = 0
  · have E2 : E = 2 := by rw [← hE]; unfold peE; rw [hS, if_pos hbad]
    subst E2
    have e1 : peR 2 key c = fun _ => 0 := rfl
    have e2 : peN 2 = 0 := rfl
    rw [e1, e2]
    clear e1 e2 hk hc hb r1 b1 s1 hS hE
    by_cases hl : lk = 32
    · subst hl
      obtain rfl : S = 0 := by rcases hbad with h | h; exact absurd rfl h; exact h
      clear hbad
      go_enter Tryz.func24, Tryz.ntmps24
      go_wp2_with (first
        | (go_at_call 32; refine (PS _).mono ?_; rintro e w2 ⟨rfl, hw2⟩; rw [hw2]; clear hw2)
        | (refine wpList_ex rfl (execBP0 rfl) ?_)
        | (refine atStore 50 (.tmp 6) (.tmp 28) rfl ?_; go_must (refine wpList_exS rfl (execStAll (cells := pC (.slice none 0 0) fun _ => 0) rfl rfl rfl H.out.1 rfl (sizeP _ _) (pC_one _ rfl)) ?_)))
      refine bodyPost_ret (results_cell_tmp1 Tryz.results24 _ _ V.heap.size 50 _ (0, 0) _ rfl (setRow_heap _ _ _ _ _ _ H.out.1) Tryz.underlying50 rfl (sizeP _ _)) rfl ⟨.slice none 0 0, rfl, World.ownsRow_nil _ _ _ _, below4 H.out.2.1 (Nat.le_refl _) _⟩
    · have i1 : ((lk : Int) != 32) = true := by simp; omega
      clear hbad hl
      go_enter Tryz.func24, Tryz.ntmps24
      go_wp2_with (first
        | (refine wpList_ex rfl (execBP0 rfl) ?_)
        | (refine atStore 50 (.tmp 6) (.tmp 28) rfl ?_; go_must (refine wpList_exS rfl (execStAll (cells := pC (.slice none 0 0) fun _ => 0) rfl rfl rfl H.out.1 rfl (sizeP _ _) (pC_one _ rfl)) ?_)))
      refine bodyPost_ret (results_cell_tmp1 Tryz.results24 _ _ V.heap.size 50 _ (0, 0) _ rfl (setRow_heap _ _ _ _ _ _ H.out.1) Tryz.underlying50 rfl (sizeP _ _)) rfl ⟨.slice none 0 0, rfl, World.ownsRow_nil _ _ _ _, below4 H.out.2.1 (Nat.le_refl _) _⟩
  · obtain rfl : lk = 32 := by
      by_cases h : lk = 32
      · exact h
      · exact absurd (Or.inl h) hbad
    have h0 : S ≠ 0 := fun h => hbad (Or.inr h)
    obtain ⟨g1, g2, g3, g4⟩ := sz_pos (left := left) (by rw [hS]; exact h0)
    obtain ⟨L, rfl⟩ : ∃ L : Nat, left = L := ⟨left.toNat, by omega⟩
    rw [hS, show (L : Int).toNat = L from by simp] at g3
    rw [hS] at g4
    have i9 : ((S : Int) == 0) = false := by simp; omega
    have C := rcut_any c len (S : Int) vc V1 (hc.on b1) hb (by omega) (by omega)
    obtain ⟨CE, hCE⟩ : ∃ CE, cutE c len (S : Int) = CE := ⟨_, rfl⟩
    obtain ⟨N, hN⟩ : ∃ N, N = S - 32 := ⟨_, rfl⟩
    have E0 : E = if CE ≠ 0 then CE else if peT key L c = false then 70 else if inOk N (peP key c) = false then 71 else 0 := by
      rw [← hE]
      unfold peE
      rw [if_neg (by rw [hS]; simp; omega), hS, hCE, ← hN]
    have HV : Hid (SliceN V (.slice ka 32 kcap) 32 key ∧ S = 32 + N ∧ 1 ≤ L ∧ L ≤ 8 ∧ N = 16 + 34 * L) := ⟨hk, by omega, by omega, by omega, by omega⟩
    have hcb := hc.sl.bytes
    clear hk hb r1 b1 s1 hE hc h0 hbad
    by_cases hc0 : CE = 0
    · rw [if_neg (by simp [hc0])] at E0
      have hcut : cutN c len (S : Int) = S := by unfold cutN; rw [hCE, if_pos hc0]; simp
      have hl320 : len = 320 := by
        unfold cutE at hCE
        by_cases h : len = 320
        · exact h
        · rw [if_pos h] at hCE; omega
      have CB : Hid (∀ j, j < S → c j < 256) := fun j hj => hcb j (by omega)
      rw [hCE, hc0, hcut] at C
      have PR : Hid (peR E key c = if E = 0 then hfF (rpK (dk key c)) c 32 else fun _ => 0) := rfl
      obtain ⟨D, hD⟩ : ∃ D, dk key c = D := ⟨_, rfl⟩
      have DL : Hid (∀ j, D j < 256) := by rw [← hD]; exact dk_lt key c
      obtain ⟨bx, hbx⟩ : ∃ bx : Nat → Nat, (fun j => c (32 + j)) = bx := ⟨_, rfl⟩
      obtain ⟨hd, hhd⟩ : ∃ hd : Nat → Nat, (fun j => c (16 + j)) = hd := ⟨_, rfl⟩
      obtain ⟨tg, htg⟩ : ∃ tg, tgF D L c bx N = tg := ⟨_, rfl⟩
      obtain ⟨pl, hpl⟩ : ∃ pl, bxF D bx = pl := ⟨_, rfl⟩
      have ePT : peT key L c = eqB 16 hd tg := by
        unfold peT
        rw [hD, hS, ← hN, hbx, hhd, show (L : Int).toNat = L from by simp, htg]
      have ePP : peP key c = pl := by unfold peP; rw [hD, hbx, hpl]
      have bxl : ∀ j, j < N → bx j < 256 := fun j hj => by rw [← hbx]; exact CB.out _ (by have := HV.out; omega)
      have pll : ∀ j, j < N → pl j < 256 := fun j hj => by
        rw [← hpl]
        unfold bxF maskF
        exact xor_lt (bxl j hj) (enc_by (fun j _ => kw_lt (fun i _ => DL.out i) j) (be_by _) _ (Nat.mod_lt _ (by omega)))
      obtain ⟨TB, hTB⟩ : ∃ TB, eqB 16 hd tg = TB := ⟨_, rfl⟩
      obtain ⟨n, hn⟩ : ∃ n, inN pl = n := ⟨_, rfl⟩
      rw [ePT, hTB, ePP] at E0
      obtain ⟨inn, hinn⟩ : ∃ inn : Nat → Nat, (fun j => pl (2 + j)) = inn := ⟨_, rfl⟩
      obtain ⟨nx, hnx⟩ : ∃ nx, nxF (L : Int) n inn = nx := ⟨_, rfl⟩
      have ePC : peC L key c = nx := by unfold peC; rw [ePP, hn, hinn, hnx]
      rw [ePC]
      have By' : By c := fun j hj => CB.out j (by omega)
      have HD : Hid (tgF D L c bx N = tg ∧ bxF D bx = pl ∧ (∀ j, c (32 + j) = bx j) ∧ (∀ j, c (16 + j) = hd j) ∧ (∀ j, j < N → bx j < 256) ∧ (∀ j, j < N → pl j < 256) ∧ eqB 16 hd tg = TB ∧ inN pl = n ∧ (∀ j, pl (2 + j) = inn j) ∧ nxF (L : Int) n inn = nx ∧ By c) := ⟨htg, hpl, fun j => by rw [← hbx], fun j => by rw [← hhd], bxl, pll, hTB, hn, fun j => by rw [← hinn], hnx, By'⟩
      have zk := zeroK
      have z16 := zero16
      rw [hD] at PR
      have HE : Hid (E = if TB = false then 70 else if inOk N pl = false then 71 else 0) := E0
      have PD : Hid (∀ W, Below V.heap.size V W → Calls Tryz.prog 43 #[.slice ka 32 kcap, .agg (bA 16 c)] W fun e w' => e = .returned (.tuple #[.agg (bA 80 D), .int .i64 0]) ∧ Below W.heap.size W w') := fun W hW => by
        have h := rder_ok key c (.slice ka 32 kcap) W By' (HV.out.1.on hW)
        rw [hD] at h
        exact h
      clear hcut hCE hc0 hcb hl320 hD hbx hhd htg hpl ePT ePP bxl pll hTB hn hinn hnx ePC E0 By' hN hS g1 g2 g3 g4
      go_enter Tryz.func24, Tryz.ntmps24
      go_wp2_with (first
        | (go_at_call 32; refine (PS _).mono ?_; rintro e w2 ⟨rfl, hw2⟩; rw [hw2]; clear hw2)
        | (go_at_call 42; refine C.mono ?_; rintro e w1 ⟨r, rfl, own, hb1⟩; obtain ⟨g, cap, rfl, hB, hcap, cells⟩ := own_cells own (by have := HV.out; omega); have O1 : Hid (SliceN w1 (.slice (some ⟨g, 0, none⟩) S cap) S c ∧ Below V1.heap.size V1 w1 ∧ S ≤ cap ∧ g < w1.heap.size ∧ ∀ j, j < S → w1.cell? ⟨g, j, none⟩ = some (.int .u8 (c j))) := ⟨own_slice own CB.out, hb1, hcap, (own.lt g rfl).2, cells⟩; clear own hb1 hcap hB cells))
      have X1 : Hid (w1.heap[V.heap.size]? = some (.cells (pC (.slice none 0 0) fun _ => 0) 50) ∧ Below V.heap.size V w1 ∧ V.heap.size < w1.heap.size) := ⟨by rw [O1.out.2.1.block _ (by have := H.out.2.2; omega)]; exact H.out.1, H.out.2.1.trans (O1.out.2.1.mono H.out.2.1.size), by have := O1.out.2.1.size; have := H.out.2.2; omega⟩
      have sb := partN O1.out.1 (k := 32) (by have := HV.out; omega)
      rw [show S - 32 = N by have := HV.out; omega, Nat.zero_add] at sb
      have SB : Hid (SliceN w1 (.slice (some ⟨g, 32, none⟩) N (cap - 32)) N bx ∧ SliceN w1 (.slice (some ⟨g, 0, none⟩) 32 cap) 32 c) := ⟨sliceN_cg sb (fun j _ => HD.out.2.2.1 j), takeN O1.out.1 (by have := HV.out; omega)⟩
      have hh := heap2c w1 (.cells (bA 16 fun _ => 0) 23) (.cells (bA 16 fun _ => 0) 23)
      have bl := below2c w1 (.cells (bA 16 fun _ => 0) 23) (.cells (bA 16 fun _ => 0) 23)
      have up0 : ∀ q : Nat → Nat, bA 16 (uptoC q 0) = bA 16 fun _ => 0 := fun q => bA_congr fun j _ => by unfold uptoC; rw [if_neg (by omega)]
      have A0 : Hid (((w1.alloc (.cells (bA 16 fun _ => 0) 23)).alloc (.cells (bA 16 fun _ => 0) 23)).heap[w1.heap.size]? = some (.cells (bA 16 (uptoC c 0)) 23) ∧ ((w1.alloc (.cells (bA 16 fun _ => 0) 23)).alloc (.cells (bA 16 fun _ => 0) 23)).heap[w1.heap.size + 1]? = some (.cells (bA 16 (uptoC hd 0)) 23) ∧ Below w1.heap.size w1 ((w1.alloc (.cells (bA 16 fun _ => 0) 23)).alloc (.cells (bA 16 fun _ => 0) 23))) := ⟨by rw [up0]; exact hh.1, by rw [up0]; exact hh.2, bl⟩
      clear hh bl up0 sb
      go_loopw [12] (fun z W => ∃ i : Nat, i ≤ 16 ∧ z = .int .i64 (i : Int) ∧ W.heap[w1.heap.size]? = some (.cells (bA 16 (uptoC c i)) 23) ∧ W.heap[w1.heap.size + 1]? = some (.cells (bA 16 (uptoC hd i)) 23) ∧ Below w1.heap.size w1 W) (fun z _ => 16 - (intOf z).toNat)
      case atStart => exact ⟨0, by omega, rfl, A0.out⟩
      case round =>
        obtain ⟨i, hi, rfl, q1, q2, q3⟩ := hrel
        by_cases hlt : i < 16
        · have i1 : (i : Int) < 16 := by omega
          have cT : wr.cell? ⟨g, 0 + i, none⟩ = some (.int .u8 (c i)) := by rw [cell_below q3 O1.out.2.2.2.1, Nat.zero_add]; exact O1.out.2.2.2.2 i (by have := HV.out; omega)
          have QQ : Hid (wr.heap[w1.heap.size]? = some (.cells (bA 16 (uptoC c i)) 23) ∧ wr.heap[w1.heap.size + 1]? = some (.cells (bA 16 (uptoC hd i)) 23) ∧ Below w1.heap.size w1 wr ∧ i < 16) := ⟨q1, q2, q3, hlt⟩
          obtain ⟨Y, hY⟩ : ∃ Y, wr.setRow w1.heap.size (bA 16 (updN (uptoC c i) i (c i))) = Y := ⟨_, rfl⟩
          have y1 : Y.heap[w1.heap.size]? = some (.cells (bA 16 (uptoC c (i + 1))) 23) := by rw [← hY, updN_upto]; exact setRow_heap _ _ _ _ _ _ q1
          have y2 : Y.heap[w1.heap.size + 1]? = some (.cells (bA 16 (uptoC hd i)) 23) := by rw [← hY, setRow_other _ _ _ _ (by omega)]; exact q2
          have y3 : Below w1.heap.size w1 Y := by rw [← hY]; exact below4 q3 (Nat.le_refl _) _
          have cU : Y.cell? ⟨g, 0 + (16 + i), none⟩ = some (.int .u8 (hd i)) := by rw [cell_below y3 O1.out.2.2.2.1, Nat.zero_add, ← HD.out.2.2.2.1 i]; exact O1.out.2.2.2.2 (16 + i) (by have := HV.out; omega)
          have YY : Hid (Y.heap[w1.heap.size]? = some (.cells (bA 16 (uptoC c (i + 1))) 23) ∧ Y.heap[w1.heap.size + 1]? = some (.cells (bA 16 (uptoC hd i)) 23) ∧ Below w1.heap.size w1 Y) := ⟨y1, y2, y3⟩
          have A2 : Hid ((16 : Int) + (i : Int) = ((16 + i : Nat) : Int)) := by show (16 : Int) + (i : Int) = ((16 + i : Nat) : Int); omega
          clear q1 q2 q3 hlt hi y1 y2 y3
          go_wp2_with (first
            | (refine wpList_ex rfl (execIdxS (x := .tmp 45) (k := i) rfl rfl rfl (by have := QQ.out.2.2.2; have := HV.out; omega)) ?_)
            | (refine atLoad 5 (.tmp 47) rfl ?_; go_must (refine wpList_ex rfl (execLdB rfl rfl cT) ?_))
            | (refine wpList_ex rfl (execIdxA16 (x := .tmp 10) (f := 0) (k := i) rfl rfl rfl QQ.out.2.2.2) ?_)
            | (refine atStore 5 (.tmp 49) (.tmp 48) rfl ?_; go_must (refine wpList_exS rfl (execStRow (z := c i) (k := i) rfl (by show Value.pointer _ = _; rw [Nat.zero_add]) rfl QQ.out.1 (by have := QQ.out.2.2.2; omega)) ?_; rw [hY]))
            | (refine wpList_ex rfl (execIdxS (x := .tmp 51) (k := 16 + i) rfl rfl (by show Value.int .i64 _ = _; rw [A2.out]) (by have := QQ.out.2.2.2; have := HV.out; omega)) ?_)
            | (refine atLoad 5 (.tmp 54) rfl ?_; go_must (refine wpList_ex rfl (execLdB rfl rfl cU) ?_))
            | (refine wpList_ex rfl (execIdxA16 (x := .tmp 11) (f := 0) (k := i) rfl rfl rfl QQ.out.2.2.2) ?_)
            | (refine atStore 5 (.tmp 56) (.tmp 55) rfl ?_; go_must (refine wpList_exS rfl (execStRow (z := hd i) (k := i) rfl (by show Value.pointer _ = _; rw [Nat.zero_add]) rfl YY.out.2.1 (by have := QQ.out.2.2.2; omega)) ?_)))
          go_roundw
          case rel => exact ⟨i + 1, QQ.out.2.2.2, by go_num, by rw [setRow_other _ _ _ _ (by omega)]; exact YY.out.1, by rw [updN_upto]; exact setRow_heap _ _ _ _ _ _ YY.out.2.1, below4 YY.out.2.2 (by omega) _⟩
          case measure => have := QQ.out.2.2.2; simp [intOf]; omega
        · have i1 : ¬ (i : Int) < 16 := by omega
          have e : ∀ q : Nat → Nat, bA 16 (uptoC q i) = bA 16 q := fun q => bA_congr fun j hj => by unfold uptoC; rw [if_pos (by omega)]
          rw [e] at q1 q2
          have QQ : Hid (wr.heap[w1.heap.size]? = some (.cells (bA 16 c) 23) ∧ wr.heap[w1.heap.size + 1]? = some (.cells (bA 16 hd) 23) ∧ Below w1.heap.size w1 wr ∧ Below V.heap.size V wr) := ⟨q1, q2, q3, X1.out.2.1.trans (q3.mono X1.out.2.1.size)⟩
          clear q1 q2 q3 hlt hi e
          go_wp2_with (first
            | (refine atLoad 23 (.tmp 10) rfl ?_; go_must (refine wpList_ex rfl (execLdAll rfl rfl QQ.out.1 Tryz.underlying23 rfl (size16 _)) ?_))
            | (go_at_call 43; refine (PD.out wr QQ.out.2.2.2).mono ?_; rintro e w3 ⟨rfl, hb3⟩; have B3 : Hid (Below wr.heap.size wr w3) := hb3; clear hb3)
            | (refine atStore 64 (.tmp 13) (.tmp 61) rfl ?_; go_must (refine wpList_exS rfl (execStAll (cells := bA 80 D) rfl rfl rfl (heapNew w3 _) (by rw [bA_size, bA_size]) (size80 _) (bA_one _ _)) ?_; obtain ⟨W4, hW4⟩ : ∃ W4, (w3.alloc (.cells (bA 80 fun _ => 0) 64)).setRow w3.heap.size (bA 80 D) = W4 := ⟨_, rfl⟩; have k4 : W4.heap[w3.heap.size]? = some (.cells (bA 80 D) 64) := (by rw [← hW4]; exact setRow_heap _ _ _ _ _ _ (heapNew w3 _)); have b4 : Below w3.heap.size w3 W4 := (by rw [← hW4]; exact below4 (belNew w3 _) (Nat.le_refl _) _); have br4 := B3.out.trans (b4.mono B3.out.size); have b14 := QQ.out.2.2.1.trans (br4.mono QQ.out.2.2.1.size); have K4 : Hid (W4.heap[w3.heap.size]? = some (.cells (bA 80 D) 64) ∧ W4.heap[w1.heap.size]? = some (.cells (bA 16 c) 23) ∧ W4.heap[w1.heap.size + 1]? = some (.cells (bA 16 hd) 23) ∧ Below w1.heap.size w1 W4 ∧ Below V.heap.size V W4) := ⟨k4, (by rw [br4.block _ (Array.getElem?_eq_some_iff.1 QQ.out.1).1]; exact QQ.out.1), (by rw [br4.block _ (Array.getElem?_eq_some_iff.1 QQ.out.2.1).1]; exact QQ.out.2.1), b14, X1.out.2.1.trans (b14.mono X1.out.2.1.size)⟩; rw [hW4]; clear k4 b4 br4 b14 hW4)))
          refine wp_region_detX 136 [(0, 63), (1, 64), (2, 65), (3, 66), (4, 67), (5, 68), (6, 15)] (rpT D c tg L (.slice (some ⟨g, 0, none⟩) S cap) (.slice (some ⟨g, 32, none⟩) N (cap - 32)) W4) (fun _ => undef) (by kernel_rfl) (by kernel_rfl) rfl (by kernel_rfl) (by decide) (by decide) ?_ ?_ ?_
          · exact ⟨fun q => (by cases q), fun q => (by cases q), fun q => (by cases q), fun q => (by cases q), fun q => (by cases q), fun q => (by cases q), fun q => (by cases q), (Below.refl _ _).drew⟩
          · intro j hj l x a W hl hf hdep hl2 hcl _ hT
            obtain ⟨t0, t1, t2, t3, t4, t5, t6, tb⟩ := hT
            have n7 : l 6 = false → l 7 = false := fun q => by
              cases h : l 7 with
              | false => rfl
              | true =>
                have := hcl 7 _ rfl h 6 rfl
                rw [q] at this
                cases this
            have n7' : l 5 = false → l 7 = false := fun q => by
              cases h : l 7 with
              | false => rfl
              | true =>
                have := hcl 7 _ rfl h 5 rfl
                rw [q] at this
                cases this
            match j, hj with
            | 0, _ => exact stepV rfl rfl (execLdAll rfl (hf 13 (by decide)) (by rw [tb.block _ (Array.getElem?_eq_some_iff.1 K4.out.1).1]; exact K4.out.1) Tryz.underlying64 rfl (size80 _)) ⟨_, ⟨_, rfl, rfl⟩, fun _ => rfl, t1, t2, t3, t4, t5, t6, tb⟩
            | 1, _ => exact stepV rfl rfl (execMvB rfl (hf 1 (by decide))) ⟨_, ⟨_, rfl, rfl⟩, t0, fun _ => rfl, t2, t3, t4, t5, t6, tb⟩
            | 2, _ => exact stepV rfl rfl (execLdAll rfl (hf 10 (by decide)) (by rw [tb.block _ (Array.getElem?_eq_some_iff.1 K4.out.2.1).1]; exact K4.out.2.1) Tryz.underlying23 rfl (size16 _)) ⟨_, ⟨_, rfl, rfl⟩, t0, t1, fun _ => rfl, t3, t4, t5, t6, tb⟩
            | 3, _ => exact stepV rfl rfl (execMvB rfl (hf 8 (by decide))) ⟨_, ⟨_, rfl, rfl⟩, t0, t1, t2, fun _ => rfl, t4, t5, t6, tb⟩
            | 4, _ =>
              have q := sl_lk g 0 S cap 32 (by have := HV.out; omega) (by have := HV.out; have := O1.out.2.2.1; omega) W
              rw [show S - 32 = N by have := HV.out; omega, Nat.zero_add] at q
              exact stepV rfl rfl (By8.execSlL rfl ((hdep _ rfl 3 rfl _ rfl _ rfl).trans (t3 (hl2 _ rfl 3 rfl))) rfl q) ⟨_, ⟨_, rfl, rfl⟩, t0, t1, t2, t3, fun _ => rfl, t5, t6, tb⟩
            | 5, _ =>
              have hT4 := rtg_any D c bx L N (.slice (some ⟨g, 32, none⟩) N (cap - 32)) W DL.out HD.out.2.2.2.2.2.2.2.2.2.2 (by have := HV.out; omega) (by have := HV.out; omega) (by have := HV.out; omega) ((SB.out.1.on K4.out.2.2.2.1).on tb)
              rw [HD.out.1] at hT4
              refine stepC rfl rfl (execCall4 Tryz.func44 (by kernel_rfl) (by kernel_rfl) rfl ((hdep _ rfl 0 rfl _ rfl _ rfl).trans (t0 (hl2 _ rfl 0 rfl))) ((hdep _ rfl 1 rfl _ rfl _ rfl).trans (t1 (hl2 _ rfl 1 rfl))) ((hdep _ rfl 2 rfl _ rfl _ rfl).trans (t2 (hl2 _ rfl 2 rfl))) ((hdep _ rfl 4 rfl _ rfl _ rfl).trans (t4 (hl2 _ rfl 4 rfl)))) hT4 fun e w' h => ?_
              obtain ⟨e1, bw⟩ := h
              refine ⟨_, e1, _, ⟨_, rfl, rfl⟩, t0, t1, t2, t3, t4, fun _ => rfl, fun q => ?_, tb.trans (bw.mono tb.size)⟩
              obtain ⟨I, e6, lI, r1, r2⟩ := t6 q
              refine ⟨I, e6, lI, fun q => ?_, fun q => ?_⟩
              · have := r1 q
                rw [bw.block _ (Array.getElem?_eq_some_iff.1 this).1]
                exact this
              · have q' : l 7 = true := q
                rw [n7' hl] at q'; cases q'
            | 6, _ =>
              refine stepV rfl rfl (execAl16 rfl) ⟨_, ⟨_, rfl, rfl⟩, t0, t1, t2, t3, t4, t5, fun _ => ⟨W.heap.size, rfl, tb.size, fun _ => heapNew _ _, fun q => ?_⟩, tb.trans ((belNew W _).mono tb.size)⟩
              have q' : l 7 = true := q
              rw [n7 hl] at q'; cases q'
            | 7, _ =>
              obtain ⟨I, e6, lI, r1, _⟩ := t6 (hl2 _ rfl 6 rfl)
              have r1 := r1 hl
              refine stepS rfl rfl (execStAll (cells := bA 16 tg) rfl ((hdep _ rfl 6 rfl _ rfl _ rfl).trans e6) ((hdep _ rfl 5 rfl _ rfl _ rfl).trans (t5 (hl2 _ rfl 5 rfl))) r1 (by rw [bA_size, bA_size]) (size16 _) (bA_one _ _)) ⟨_, ⟨_, rfl, rfl⟩, t0, t1, t2, t3, t4, t5, fun _ => ⟨I, e6, lI, fun q => (by cases q), fun _ => setRow_heap _ _ _ _ _ _ r1⟩, below4 tb lI _⟩
            | n + 8, h => exact absurd h (by simp)
          · intro l x W hall hT
            obtain ⟨t0, t1, t2, t3, t4, t5, t6, tb⟩ := hT
            have e0 := t0 (hall 0 (by simp))
            have e1 := t1 (hall 1 (by simp))
            have e2 := t2 (hall 2 (by simp))
            have e3 := t3 (hall 3 (by simp))
            have e4 := t4 (hall 4 (by simp))
            have e5 := t5 (hall 5 (by simp))
            obtain ⟨I, e6, lI, _, rI⟩ := t6 (hall 6 (by simp))
            have rI := rI (hall 7 (by simp))
            have b1W := K4.out.2.2.2.1.trans (tb.mono K4.out.2.2.2.1.size)
            have K5 : Hid (W.heap[I]? = some (.cells (bA 16 tg) 23) ∧ W.heap[w3.heap.size]? = some (.cells (bA 80 D) 64) ∧ W.heap[w1.heap.size + 1]? = some (.cells (bA 16 hd) 23) ∧ Below w1.heap.size w1 W ∧ Below V.heap.size V W ∧ W.heap[V.heap.size]? = some (.cells (pC (.slice none 0 0) fun _ => 0) 50)) := ⟨rI, by rw [tb.block _ (Array.getElem?_eq_some_iff.1 K4.out.1).1]; exact K4.out.1, by rw [tb.block _ (Array.getElem?_eq_some_iff.1 K4.out.2.2.1).1]; exact K4.out.2.2.1, b1W, X1.out.2.1.trans (b1W.mono X1.out.2.1.size), by rw [b1W.block _ X1.out.2.2]; exact X1.out.1⟩
            clear hall t0 t1 t2 t3 t4 t5 t6 tb lI rI b1W
            simp only [putP, e0, e1, e2, e3, e4, e5, e6, Act.put, List.setIfInBounds_toArray, List.set_cons_succ, List.set_cons_zero]
            clear e0 e1 e2 e3 e4 e5 e6
            cases TB with
            | false =>
              have eE : E = 70 := HE.out
              have EQ : Hid (peR E key c = (fun _ => 0) ∧ peN E = 0 ∧ E = 70) := ⟨by rw [PR.out, if_neg (by omega)], if_neg (by omega), eE⟩
              clear eE
              go_wp2_with (first
                | (refine atLoad 23 (.tmp 11) rfl ?_; go_must (refine wpList_ex rfl (execLdAll rfl rfl K5.out.2.2.1 Tryz.underlying23 rfl (size16 _)) ?_))
                | (refine atLoad 23 (.tmp 15) rfl ?_; go_must (refine wpList_ex rfl (execLdAll rfl rfl K5.out.1 Tryz.underlying23 rfl (size16 _)) ?_))
                | (refine wpList_ex rfl (exec_neq16 rfl rfl rfl) ?_; rw [HD.out.2.2.2.2.2.2.1])
                | (refine wpList_ex rfl (execBP0 rfl) ?_)
                | (refine atStore 50 (.tmp 6) (.tmp 72) rfl ?_; go_must (refine wpList_exS rfl (execStAll (cells := pC (.slice none 0 0) fun _ => 0) rfl rfl rfl K5.out.2.2.2.2.2 rfl (sizeP _ _) (pC_one _ rfl)) ?_)))
              refine bodyPost_ret (results_cell_tmp1 Tryz.results24 _ _ V.heap.size 50 _ (0, 0) _ rfl (setRow_heap _ _ _ _ _ _ K5.out.2.2.2.2.2) Tryz.underlying50 rfl (sizeP _ _)) rfl ⟨.slice none 0 0, by rw [EQ.out.1, EQ.out.2.2]; rfl, by rw [EQ.out.2.1]; exact World.ownsRow_nil _ _ _ _, below4 K5.out.2.2.2.2.1 (Nat.le_refl _) _⟩
            | true =>
              go_wp2_with (first
                | (refine atLoad 23 (.tmp 11) rfl ?_; go_must (refine wpList_ex rfl (execLdAll rfl rfl K5.out.2.2.1 Tryz.underlying23 rfl (size16 _)) ?_))
                | (refine atLoad 23 (.tmp 15) rfl ?_; go_must (refine wpList_ex rfl (execLdAll rfl rfl K5.out.1 Tryz.underlying23 rfl (size16 _)) ?_))
                | (refine wpList_ex rfl (exec_neq16 rfl rfl rfl) ?_; rw [HD.out.2.2.2.2.2.2.1]))
              have MK : Hid (∀ X (v : Value), SliceN X v N bx → Calls Tryz.prog 45 #[.agg (bA 16 fun j => D (0 + j)), .agg (bA 16 fun _ => 0), v] X fun e w' => ∃ r, e = .returned r ∧ SliceN w' r N pl ∧ Below X.heap.size X w') := fun X v hv => by
                have e1 : (fun j => D (0 + j)) = D := by funext j; rw [Nat.zero_add]
                rw [be0, e1]
                have h := rmask_any D bx 0 N v X (fun j _ => DL.out j) hv (by have := HV.out; omega)
                rw [show maskF (kw D) 0 bx = pl from HD.out.2.1] at h
                exact h
              refine wp_region_detX 136 [(0, 73), (1, 74), (2, 75), (3, 76), (4, 77), (5, 78), (6, 16)] (rmT w3.heap.size D pl (.slice (some ⟨g, 0, none⟩) S cap) (.slice (some ⟨g, 32, none⟩) N (cap - 32)) N W) (fun _ => undef) (by kernel_rfl) (by kernel_rfl) rfl (by kernel_rfl) (by decide) (by decide) ?_ ?_ ?_
              · exact ⟨fun q => (by cases q), fun q => (by cases q), fun q => (by cases q), fun q => (by cases q), fun q => (by cases q), fun q => (by cases q), fun q => (by cases q), (Below.refl _ _).drew⟩
              · intro j hj l x a X hl hf hdep hl2 hcl _ hT
                obtain ⟨t0, t1, t2, t3, t4, t5, t6, tb⟩ := hT
                have n6 : l 5 = false → l 6 = false := fun q => by
                  cases h : l 6 with
                  | false => rfl
                  | true =>
                    have := hcl 6 _ rfl h 5 rfl
                    rw [q] at this
                    cases this
                match j, hj with
                | 0, _ => exact stepV rfl rfl (execFldK0 rfl (hf 13 (by decide))) ⟨_, ⟨_, rfl, rfl⟩, fun _ => rfl, t1, t2, t3, t4, t5, t6, tb⟩
                | 1, _ => exact stepV rfl rfl (execLdPart (k := 16) rfl ((hdep _ rfl 0 rfl _ rfl _ rfl).trans (t0 (hl2 _ rfl 0 rfl))) (by rw [tb.block _ (Array.getElem?_eq_some_iff.1 K5.out.2.1).1]; exact K5.out.2.1) (by omega) Tryz.underlying23 rfl (by kernel_rfl)) ⟨_, ⟨_, rfl, rfl⟩, t0, fun _ => rfl, t2, t3, t4, t5, t6, tb⟩
                | 2, _ => exact stepV rfl rfl (execB16 rfl) ⟨_, ⟨_, rfl, rfl⟩, t0, t1, fun _ => rfl, t3, t4, t5, t6, tb⟩
                | 3, _ => exact stepV rfl rfl (execMvB rfl (hf 8 (by decide))) ⟨_, ⟨_, rfl, rfl⟩, t0, t1, t2, fun _ => rfl, t4, t5, t6, tb⟩
                | 4, _ =>
                  have q := sl_lk g 0 S cap 32 (by have := HV.out; omega) (by have := HV.out; have := O1.out.2.2.1; omega) X
                  rw [show S - 32 = N by have := HV.out; omega, Nat.zero_add] at q
                  exact stepV rfl rfl (By8.execSlL rfl ((hdep _ rfl 3 rfl _ rfl _ rfl).trans (t3 (hl2 _ rfl 3 rfl))) rfl q) ⟨_, ⟨_, rfl, rfl⟩, t0, t1, t2, t3, fun _ => rfl, t5, t6, tb⟩
                | 5, _ =>
                  refine stepC rfl rfl (execCall3 Tryz.func45 (by kernel_rfl) (by kernel_rfl) rfl ((hdep _ rfl 1 rfl _ rfl _ rfl).trans (t1 (hl2 _ rfl 1 rfl))) ((hdep _ rfl 2 rfl _ rfl _ rfl).trans (t2 (hl2 _ rfl 2 rfl))) ((hdep _ rfl 4 rfl _ rfl _ rfl).trans (t4 (hl2 _ rfl 4 rfl)))) (MK.out X _ ((SB.out.1.on K5.out.2.2.2.1).on tb)) fun e w' h => ?_
                  obtain ⟨r, e1, sl, bw⟩ := h
                  refine ⟨_, e1, _, ⟨_, rfl, rfl⟩, t0, t1, t2, t3, t4, fun _ => sl, fun q => ?_, tb.trans (bw.mono tb.size)⟩
                  have q' : l 6 = true := q
                  rw [n6 hl] at q'; cases q'
                | 6, _ => exact stepV rfl rfl (execAsgB rfl (hdep _ rfl 5 rfl _ rfl _ rfl)) ⟨_, ⟨_, rfl, rfl⟩, t0, t1, t2, t3, t4, t5, fun _ => rfl, tb⟩
                | n + 7, h => exact absurd h (by simp)
              · intro l x X hall hT
                obtain ⟨t0, t1, t2, t3, t4, t5, t6, tb⟩ := hT
                have e0 := t0 (hall 0 (by simp))
                have e1 := t1 (hall 1 (by simp))
                have e2 := t2 (hall 2 (by simp))
                have e3 := t3 (hall 3 (by simp))
                have e4 := t4 (hall 4 (by simp))
                have e6 := t6 (hall 6 (by simp))
                have sl := t5 (hall 5 (by simp))
                obtain ⟨pv, hpv⟩ : ∃ pv, x 5 = pv := ⟨_, rfl⟩
                rw [hpv] at sl e6
                obtain ⟨pg, po, pcap, rfl, hp1, hp2, hpc⟩ := cell_at sl (by have := HV.out; omega)
                have pgl : pg < X.heap.size := by
                  obtain ⟨a', c', e', _, _, e3⟩ := sl.shape
                  obtain ⟨b', o', e'', hb', _⟩ := e3 (by have := HV.out; omega)
                  injection e' with e4
                  rw [e''] at e4
                  injection e4 with e5
                  injection e5 with e6 _
                  rw [e6]
                  exact hb'
                have b1X := K5.out.2.2.2.1.trans (tb.mono K5.out.2.2.2.1.size)
                have K6 : Hid (SliceN X (.slice (some ⟨pg, po, none⟩) N pcap) N pl ∧ X.heap[w3.heap.size]? = some (.cells (bA 80 D) 64) ∧ Below w1.heap.size w1 X ∧ Below V.heap.size V X ∧ X.heap[V.heap.size]? = some (.cells (pC (.slice none 0 0) fun _ => 0) 50) ∧ pg < X.heap.size ∧ N ≤ pcap ∧ ∀ j, j < N → X.cell? ⟨pg, po + j, none⟩ = some (.int .u8 (pl j))) := ⟨sl, by rw [tb.block _ (Array.getElem?_eq_some_iff.1 K5.out.2.1).1]; exact K5.out.2.1, b1X, X1.out.2.1.trans (b1X.mono X1.out.2.1.size), by rw [b1X.block _ X1.out.2.2]; exact X1.out.1, pgl, hp1, hpc⟩
                clear hall t0 t1 t2 t3 t4 t5 t6 tb sl pgl hp1 hp2 hpc b1X
                simp only [putP, e0, e1, e2, e3, e4, e6, hpv, Act.put, List.setIfInBounds_toArray, List.set_cons_succ, List.set_cons_zero]
                clear e0 e1 e2 e3 e4 e6 hpv
                go_wp2_with fail
                obtain ⟨p0, h0⟩ : ∃ p0, pl 0 = p0 := ⟨_, rfl⟩
                obtain ⟨p1, h1⟩ : ∃ p1, pl 1 = p1 := ⟨_, rfl⟩
                have CC : Hid (X.cell? ⟨pg, po + 0, none⟩ = some (.int .u8 p0) ∧ X.cell? ⟨pg, po + 1, none⟩ = some (.int .u8 p1) ∧ p0 < 256 ∧ p1 < 256 ∧ 256 * p0 + p1 = n) := by
                  have hN := HV.out
                  refine ⟨?_, ?_, ?_, ?_, ?_⟩
                  · have := K6.out.2.2.2.2.2.2.2 0 (by omega)
                    rw [h0] at this
                    exact this
                  · have := K6.out.2.2.2.2.2.2.2 1 (by omega)
                    rw [h1] at this
                    exact this
                  · rw [← h0]; exact HD.out.2.2.2.2.2.1 0 (by omega)
                  · rw [← h1]; exact HD.out.2.2.2.2.2.1 1 (by omega)
                  · have := HD.out.2.2.2.2.2.2.2.1
                    unfold inN at this
                    rw [h0, h1] at this
                    omega
                clear h0 h1
                refine wp_region_det 136 [(0, 79), (1, 80), (2, 81), (3, 82), (4, 83), (5, 84), (6, 85), (7, 86), (8, 87), (9, 88), (10, 17)] (onV (.slice (some ⟨pg, po, none⟩) N pcap) pg po p0 p1 n) (fun _ Y => Below X.heap.size X Y) (by kernel_rfl) (by kernel_rfl) rfl (by kernel_rfl) (by decide) (by decide) ?_ ?_ ?_
                · exact (Below.refl _ _).drew
                · intro j hj l a Y hl hf hdep hl2 hcl _ hT
                  obtain ⟨k0, k1, y0, y1, yn⟩ := CC.out
                  have hg := K6.out.2.2.2.2.2.1
                  match j, hj with
                  | 0, _ => exact stepV rfl rfl (execMvB rfl (hf 16 (by decide))) ⟨⟨_, rfl, rfl⟩, hT⟩
                  | 1, _ => exact stepV rfl rfl (execIdxS (k := 0) rfl (hdep _ rfl 0 rfl _ rfl _ rfl) rfl (by have := HV.out; omega)) ⟨⟨_, rfl, rfl⟩, hT⟩
                  | 2, _ => exact stepV rfl rfl (execLdB rfl (hdep _ rfl 1 rfl _ rfl _ rfl) ((cell_below hT hg).trans k0)) ⟨⟨_, rfl, rfl⟩, hT⟩
                  | 3, _ => exact stepV rfl rfl (execU8I rfl (hdep _ rfl 2 rfl _ rfl _ rfl) y0) ⟨⟨_, rfl, rfl⟩, hT⟩
                  | 4, _ => exact stepV rfl rfl (execMul256 rfl (hdep _ rfl 3 rfl _ rfl _ rfl) y0) ⟨⟨_, rfl, rfl⟩, hT⟩
                  | 5, _ => exact stepV rfl rfl (execMvB rfl (hf 16 (by decide))) ⟨⟨_, rfl, rfl⟩, hT⟩
                  | 6, _ => exact stepV rfl rfl (execIdxS (k := 1) rfl (hdep _ rfl 5 rfl _ rfl _ rfl) rfl (by have := HV.out; omega)) ⟨⟨_, rfl, rfl⟩, hT⟩
                  | 7, _ => exact stepV rfl rfl (execLdB rfl (hdep _ rfl 6 rfl _ rfl _ rfl) ((cell_below hT hg).trans k1)) ⟨⟨_, rfl, rfl⟩, hT⟩
                  | 8, _ => exact stepV rfl rfl (execU8I rfl (hdep _ rfl 7 rfl _ rfl _ rfl) y1) ⟨⟨_, rfl, rfl⟩, hT⟩
                  | 9, _ =>
                    refine stepV rfl rfl (execAddI rfl (hdep _ rfl 4 rfl _ rfl _ rfl) (hdep _ rfl 8 rfl _ rfl _ rfl) (by omega) (by omega)) ⟨⟨_, rfl, ?_⟩, hT⟩
                    show _ = _
                    simp only [onV]
                    rw [yn]
                  | 10, _ => exact stepV rfl rfl (execAsgB rfl (hdep _ rfl 9 rfl _ rfl _ rfl)) ⟨⟨_, rfl, rfl⟩, hT⟩
                  | n + 11, h => exact absurd h (by simp)
                · intro l Y hall hT
                  have b1Y := K6.out.2.2.1.trans (hT.mono K6.out.2.2.1.size)
                  have K7 : Hid (SliceN Y (.slice (some ⟨pg, po, none⟩) N pcap) N pl ∧ Y.heap[w3.heap.size]? = some (.cells (bA 80 D) 64) ∧ Below w1.heap.size w1 Y ∧ Below V.heap.size V Y ∧ Y.heap[V.heap.size]? = some (.cells (pC (.slice none 0 0) fun _ => 0) 50) ∧ ∀ j, j < N → Y.cell? ⟨pg, po + j, none⟩ = some (.int .u8 (pl j))) := ⟨K6.out.1.on hT, by rw [hT.block _ (Array.getElem?_eq_some_iff.1 K6.out.2.1).1]; exact K6.out.2.1, b1Y, X1.out.2.1.trans (b1Y.mono X1.out.2.1.size), by rw [b1Y.block _ X1.out.2.2]; exact X1.out.1, fun j hj => by rw [cell_below hT K6.out.2.2.2.2.2.1]; exact K6.out.2.2.2.2.2.2.2 j hj⟩
                  have ln : (n : Int) ≤ 65535 := by have := CC.out; omega
                  have lS : (S : Int) ≤ 320 := by have := HV.out; omega
                  have lS' : (82 : Int) ≤ (S : Int) := by have := HV.out; omega
                  clear hall hT b1Y
                  simp only [putP, onV, Act.put, List.setIfInBounds_toArray, List.set_cons_succ, List.set_cons_zero]
                  have HOK : Hid (inOk N pl = (decide (n ≤ N - 2) && zeroF N pl (2 + n))) := by
                    show inOk N pl = _
                    unfold inOk
                    rw [HD.out.2.2.2.2.2.2.2.1]
                  by_cases hlong : N - 2 < n
                  · have eE : E = 71 := by
                      have := HE.out
                      rw [if_neg (by simp), if_pos (by rw [HOK.out, decide_eq_false (by omega), Bool.false_and])] at this
                      exact this
                    have EQ : Hid (peR E key c = (fun _ => 0) ∧ peN E = 0 ∧ E = 71) := ⟨by rw [PR.out, if_neg (by omega)], if_neg (by omega), eE⟩
                    have i5 : (n : Int) > (S : Int) - 34 := by have := HV.out; omega
                    clear eE hlong
                    go_wp2_with (first
                      | (go_at_call 32; refine (PS _).mono ?_; rintro e w2' ⟨rfl, hw2⟩; rw [hw2]; clear hw2)
                      | (refine wpList_ex rfl (execBP0 rfl) ?_)
                      | (refine atStore 50 (.tmp 6) (.tmp 94) rfl ?_; go_must (refine wpList_exS rfl (execStAll (cells := pC (.slice none 0 0) fun _ => 0) rfl rfl rfl K7.out.2.2.2.2.1 rfl (sizeP _ _) (pC_one _ rfl)) ?_)))
                    refine bodyPost_ret (results_cell_tmp1 Tryz.results24 _ _ V.heap.size 50 _ (0, 0) _ rfl (setRow_heap _ _ _ _ _ _ K7.out.2.2.2.2.1) Tryz.underlying50 rfl (sizeP _ _)) rfl ⟨.slice none 0 0, by rw [EQ.out.1, EQ.out.2.2]; rfl, by rw [EQ.out.2.1]; exact World.ownsRow_nil _ _ _ _, below4 K7.out.2.2.2.1 (Nat.le_refl _) _⟩
                  · have i5 : ¬ (n : Int) > (S : Int) - 34 := by have := HV.out; omega
                    have hnN : n + 2 ≤ N := by have := HV.out; omega
                    have NN : Hid (n + 2 ≤ N) := hnN
                    have l4 : (N : Int) ≤ 288 := by have := HV.out; omega
                    clear hlong hnN
                    go_wp2_with (go_at_call 32; refine (PS _).mono ?_; rintro e w2' ⟨rfl, hw2⟩; rw [hw2]; clear hw2)
                    go_loopw [18] (fun z Z => ∃ i : Nat, 2 + n ≤ i ∧ i ≤ N ∧ z = .int .i64 (i : Int) ∧ (∀ j, 2 + n ≤ j → j < i → pl j = 0) ∧ Z = Y) (fun z _ => N - (intOf z).toNat)
                    case atStart => exact ⟨2 + n, Nat.le_refl _, by have := NN.out; omega, by first | rfl | (rw [Int.natCast_add]; rfl), fun j h1 h2 => by omega, rfl⟩
                    case round =>
                      obtain ⟨i, hi0, hi1, rfl, hz, rfl⟩ := hrel
                      by_cases hlt : i < N
                      · have i6 : (i : Int) < N := by omega
                        obtain ⟨y, hy⟩ : ∃ y, pl i = y := ⟨_, rfl⟩
                        have c1 : wr.cell? ⟨pg, po + i, none⟩ = some (.int .u8 y) := by rw [K7.out.2.2.2.2.2 i hlt, hy]
                        have HZ : Hid ((∀ j, 2 + n ≤ j → j < i → pl j = 0) ∧ 2 + n ≤ i ∧ i < N ∧ pl i = y) := ⟨hz, hi0, hlt, hy⟩
                        clear hz hi0 hi1 hlt hy
                        by_cases h0 : y = 0
                        · have z0 : ((y : Int) != 0) = false := by simp [h0]
                          have H0 : Hid (y = 0) := h0
                          clear h0
                          go_wp2_with (refine wpList_ex rfl (execIdxS (x := .tmp 103) (k := i) rfl rfl rfl HZ.out.2.2.1) ?_)
                          go_roundw
                          case rel =>
                            have a := HZ.out
                            refine ⟨i + 1, by omega, by omega, by go_num, fun j h1 h2 => ?_, by first | rfl | trivial⟩
                            by_cases e : j = i
                            · subst e; rw [a.2.2.2, H0.out]
                            · exact a.1 j h1 (by omega)
                          case measure => have := HZ.out; simp [intOf]; omega
                        · have z0 : ((y : Int) != 0) = true := by simp [h0]
                          have eE : E = 71 := by
                            have := HE.out
                            rw [if_neg (by simp), if_pos] at this
                            · exact this
                            · rw [HOK.out]
                              cases hz : zeroF N pl (2 + n) with
                              | false => rw [Bool.and_false]
                              | true =>
                                have q := (zeroF_iff N pl (2 + n)).1 hz i HZ.out.2.1 HZ.out.2.2.1
                                rw [HZ.out.2.2.2] at q
                                exact absurd q h0
                          have EQ : Hid (peR E key c = (fun _ => 0) ∧ peN E = 0 ∧ E = 71) := ⟨by rw [PR.out, if_neg (by omega)], if_neg (by omega), eE⟩
                          clear eE h0
                          go_wp2_with (first
                            | (refine wpList_ex rfl (execIdxS (x := .tmp 103) (k := i) rfl rfl rfl HZ.out.2.2.1) ?_)
                            | (refine wpList_ex rfl (execBP0 rfl) ?_)
                            | (refine atStore 50 (.tmp 6) (.tmp 108) rfl ?_; go_must (refine wpList_exS rfl (execStAll (cells := pC (.slice none 0 0) fun _ => 0) rfl rfl rfl K7.out.2.2.2.2.1 rfl (sizeP _ _) (pC_one _ rfl)) ?_)))
                          refine bodyPost_ret (results_cell_tmp1 Tryz.results24 _ _ V.heap.size 50 _ (0, 0) _ rfl (setRow_heap _ _ _ _ _ _ K7.out.2.2.2.2.1) Tryz.underlying50 rfl (sizeP _ _)) rfl ⟨.slice none 0 0, by rw [EQ.out.1, EQ.out.2.2]; rfl, by rw [EQ.out.2.1]; exact World.ownsRow_nil _ _ _ _, below4 K7.out.2.2.2.1 (Nat.le_refl _) _⟩
                      · have i6 : ¬ (i : Int) < N := by omega
                        have eE : E = 0 := by
                          have := HE.out
                          rw [if_neg (by simp), if_neg] at this
                          · exact this
                          · rw [HOK.out, decide_eq_true (by have := NN.out; omega), Bool.true_and, (zeroF_iff N pl (2 + n)).2 fun j h1 h2 => hz j h1 (by omega)]
                            simp
                        obtain ⟨rp, hrp⟩ : ∃ rp, hfF (rpK D) c 32 = rp := ⟨_, rfl⟩
                        have EQ : Hid (peR E key c = rp ∧ peN E = 320 ∧ E = 0) := ⟨by rw [PR.out, if_pos eE, hrp], if_pos eE, eE⟩
                        obtain ⟨Z, hZ⟩ : ∃ Z, wr.alloc (.cells (pC (.slice none 0 0) fun _ => 0) 50) = Z := ⟨_, rfl⟩
                        have rz := heapNew wr (.cells (pC (.slice none 0 0) fun _ => 0) 50)
                        have bz := belNew wr (.cells (pC (.slice none 0 0) fun _ => 0) 50)
                        rw [hZ] at rz bz
                        have ZZ : Hid (Z.heap[wr.heap.size]? = some (.cells (pC (.slice none 0 0) fun _ => 0) 50) ∧ Below wr.heap.size wr Z) := ⟨rz, bz⟩
                        have RT : Hid (∀ Q (v : Value), SliceN Q v 32 c → Calls Tryz.prog 46 #[.agg (bA 32 fun j => D (48 + j)), v] Q fun e w' => e = .returned (.agg (bA 16 rp)) ∧ Below Q.heap.size Q w') := fun Q v hv => by
                          have h := half_any (fun j => D (48 + j)) c 32 v Q (fun j _ => DL.out _) hv (by omega) (by omega)
                          rw [show hfF (fun j => D (48 + j)) c 32 = rp from hrp] at h
                          exact h
                        clear hz hi0 hi1 hlt eE rz bz hrp
                        go_wp2_with fail
                        refine wp_region_detX 136 [(0, 109), (1, 110), (2, 111), (3, 112), (4, 113), (5, 114)] (rrT w3.heap.size D rp (.slice (some ⟨g, 0, none⟩) S cap) (.slice (some ⟨g, 0, none⟩) 32 cap) wr) (fun _ => undef) (by kernel_rfl) (by kernel_rfl) rfl (by kernel_rfl) (by decide) (by decide) ?_ ?_ ?_
                        · exact ⟨fun q => (by cases q), fun q => (by cases q), fun q => (by cases q), fun q => (by cases q), fun q => (by cases q), fun q => (by cases q), fun _ => ZZ.out.1, fun q => (by cases q), ZZ.out.2.drew⟩
                        · intro j hj l x a Q hl hf hdep hl2 hcl _ hT
                          obtain ⟨t0, t1, t2, t3, t4, t5, t6, t6', tb⟩ := hT
                          have n6' : l 4 = false → l 6 = false := fun q => by
                            cases h : l 6 with
                            | false => rfl
                            | true =>
                              have := hcl 6 _ rfl h 4 rfl
                              rw [q] at this
                              cases this
                          match j, hj with
                          | 0, _ => exact stepV rfl rfl (execFldK2 rfl (hf 13 (by decide))) ⟨_, ⟨_, rfl, rfl⟩, fun _ => rfl, t1, t2, t3, t4, t5, t6, t6', tb⟩
                          | 1, _ => exact stepV rfl rfl (execLdPart (k := 32) rfl ((hdep _ rfl 0 rfl _ rfl _ rfl).trans (t0 (hl2 _ rfl 0 rfl))) (by rw [tb.block _ (Array.getElem?_eq_some_iff.1 K7.out.2.1).1]; exact K7.out.2.1) (by omega) Tryz.underlying57 rfl (by kernel_rfl)) ⟨_, ⟨_, rfl, rfl⟩, t0, fun _ => rfl, t2, t3, t4, t5, t6, t6', tb⟩
                          | 2, _ => exact stepV rfl rfl (execMvB rfl (hf 8 (by decide))) ⟨_, ⟨_, rfl, rfl⟩, t0, t1, fun _ => rfl, t3, t4, t5, t6, t6', tb⟩
                          | 3, _ => exact stepV rfl rfl (By8.execSlH rfl ((hdep _ rfl 2 rfl _ rfl _ rfl).trans (t2 (hl2 _ rfl 2 rfl))) rfl (sl_h32 g 0 S cap (by have := HV.out; have := O1.out.2.2.1; omega) Q)) ⟨_, ⟨_, rfl, rfl⟩, t0, t1, t2, fun _ => rfl, t4, t5, t6, t6', tb⟩
                          | 4, _ =>
                            refine stepC rfl rfl (execCall2 Tryz.func46 (by kernel_rfl) (by kernel_rfl) rfl ((hdep _ rfl 1 rfl _ rfl _ rfl).trans (t1 (hl2 _ rfl 1 rfl))) ((hdep _ rfl 3 rfl _ rfl _ rfl).trans (t3 (hl2 _ rfl 3 rfl)))) (RT.out Q _ ((SB.out.2.on K7.out.2.2.1).on tb)) fun e w' h => ?_
                            obtain ⟨e1, bw⟩ := h
                            refine ⟨_, e1, _, ⟨_, rfl, rfl⟩, t0, t1, t2, t3, fun _ => rfl, t5, fun q => ?_, fun q => ?_, tb.trans (bw.mono tb.size)⟩
                            · have := t6 (n6' hl)
                              rw [bw.block _ (Array.getElem?_eq_some_iff.1 this).1]
                              exact this
                            · have q' : l 6 = true := q
                              rw [n6' hl] at q'; cases q'
                          | 5, _ => exact stepV rfl rfl (execFldQ1 rfl (hf 19 (by decide))) ⟨_, ⟨_, rfl, rfl⟩, t0, t1, t2, t3, t4, fun _ => rfl, t6, t6', tb⟩
                          | 6, _ =>
                            have r6 := t6 hl
                            refine stepS rfl rfl (execStRep rfl ((hdep _ rfl 5 rfl _ rfl _ rfl).trans (t5 (hl2 _ rfl 5 rfl))) ((hdep _ rfl 4 rfl _ rfl _ rfl).trans (t4 (hl2 _ rfl 4 rfl))) r6) ⟨_, ⟨_, rfl, rfl⟩, t0, t1, t2, t3, t4, t5, fun q => (by cases q), fun _ => setRow_heap _ _ _ _ _ _ r6, below4 tb (Nat.le_refl _) _⟩
                          | n + 7, h => exact absurd h (by simp)
                        · intro l x Q hall hT
                          obtain ⟨t0, t1, t2, t3, t4, t5, _, t6', tb⟩ := hT
                          have e0 := t0 (hall 0 (by simp))
                          have e1 := t1 (hall 1 (by simp))
                          have e2 := t2 (hall 2 (by simp))
                          have e3 := t3 (hall 3 (by simp))
                          have e4 := t4 (hall 4 (by simp))
                          have e5 := t5 (hall 5 (by simp))
                          have r6 := t6' (hall 6 (by simp))
                          have sQ := K7.out.1.on tb
                          obtain ⟨ad2, ea2⟩ := cut_shape pg po pcap 2 (2 + n)
                          have sub2 := sQ.sub 2 (2 + n) (by omega) (by have := NN.out; omega)
                          rw [ea2, show 2 + n - 2 = n by omega] at sub2
                          have gH : ∀ W, (Instr.sliceAt 22 (.slice (some ⟨pg, po, none⟩) N pcap) (some (.int .i64 2)) (some (.int .i64 (2 + (n : Int)))) none).run Tryz.prog W = .ok (.slice (some ad2) n (pcap - 2)) W := fun W => by
                            have := By8.slice_lh (some ⟨pg, po, none⟩) N pcap 2 (2 + n) (by omega) (by have := NN.out; have := K6.out.2.2.2.2.2.2.1; omega) W
                            rw [ea2, show 2 + n - 2 = n by omega, show ((2 + n : Nat) : Int) = 2 + (n : Int) from by omega] at this
                            exact this
                          have b1Q := K7.out.2.2.1.trans (tb.mono K7.out.2.2.1.size)
                          have K8 : Hid (Q.heap[wr.heap.size]? = some (.cells (pC (.slice none 0 0) rp) 50) ∧ SliceZ Q (.slice (some ad2) n (pcap - 2)) n inn ∧ Below V.heap.size V Q ∧ Q.heap[V.heap.size]? = some (.cells (pC (.slice none 0 0) fun _ => 0) 50) ∧ V.heap.size < wr.heap.size) := ⟨r6, ⟨sliceN_cg sub2 fun j _ => HD.out.2.2.2.2.2.2.2.2.1 j, fun l c e => by cases e⟩, X1.out.2.1.trans (b1Q.mono X1.out.2.1.size), by rw [b1Q.block _ X1.out.2.2]; exact X1.out.1, (Array.getElem?_eq_some_iff.1 K7.out.2.2.2.2.1).1⟩
                          clear hall t0 t1 t2 t3 t4 t5 t6' tb r6 sQ sub2 ea2 b1Q
                          simp only [putP, e0, e1, e2, e3, e4, e5, Act.put, List.setIfInBounds_toArray, List.set_cons_succ, List.set_cons_zero]
                          clear e0 e1 e2 e3 e4 e5
                          by_cases hL1 : L > 1
                          · have i7 : (L : Int) > 1 := by omega
                            have C9 : Hid (Calls Tryz.prog 20 #[.slice (some ad2) n (pcap - 2)] Q fun e w' => ∃ r, e = .returned (.tuple #[r, .int .i64 0]) ∧ w'.ownsRow Q.heap.size 5 1 r 320 (bytesL 320 nx) ∧ Below Q.heap.size Q w') := by
                              have h := rpad_any inn n (.slice (some ad2) n (pcap - 2)) Q K8.out.2.1 (by have := NN.out; have := HV.out; omega)
                              rw [show okE 320 n = 0 from if_pos (by have := NN.out; have := HV.out; omega), show okN 320 n = 320 from if_pos (by have := NN.out; have := HV.out; omega), show cellF 0 headO n inn = nx from by rw [← HD.out.2.2.2.2.2.2.2.2.2.1]; exact (if_pos (by omega)).symm] at h
                              exact h
                            clear hL1
                            go_wp2_with (first
                              | (go_at_call 20; refine C9.out.mono ?_; rintro e w9 ⟨r9, rfl, own9, hb9⟩; obtain ⟨a9, c9, rfl⟩ := own_shapeJ own9; have K9 : Hid (w9.heap[wr.heap.size]? = some (.cells (pC (.slice none 0 0) rp) 50) ∧ w9.ownsRow V.heap.size 5 1 (.slice a9 320 c9) 320 (bytesL 320 nx) ∧ Below V.heap.size V w9 ∧ w9.heap[V.heap.size]? = some (.cells (pC (.slice none 0 0) fun _ => 0) 50)) := ⟨(by rw [hb9.block _ (Array.getElem?_eq_some_iff.1 K8.out.1).1]; exact K8.out.1), own_base own9 K8.out.2.2.1.size, K8.out.2.2.1.trans (hb9.mono K8.out.2.2.1.size), (by rw [hb9.block _ (Array.getElem?_eq_some_iff.1 K8.out.2.2.2.1).1]; exact K8.out.2.2.2.1)⟩; clear own9 hb9)
                              | (refine atStore 22 (.tmp 125) (.tmp 123) rfl ?_; go_must (refine wpList_exS rfl (execStCell rfl rfl rfl K9.out.1) ?_; obtain ⟨W10, hW10⟩ : ∃ W10, w9.setRow wr.heap.size (pC (.slice a9 320 c9) rp) = W10 := ⟨_, rfl⟩; have K10 : Hid (W10.heap[wr.heap.size]? = some (.cells (pC (.slice a9 320 c9) rp) 50) ∧ W10.ownsRow V.heap.size 5 1 (.slice a9 320 c9) 320 (bytesL 320 nx) ∧ Below V.heap.size V W10 ∧ W10.heap[V.heap.size]? = some (.cells (pC (.slice none 0 0) fun _ => 0) 50)) := ⟨(by rw [← hW10]; exact setRow_heap _ _ _ _ _ _ K9.out.1), (by rw [← hW10]; exact ownsRow_row K9.out.2.1 K9.out.1 (by decide) _), (by rw [← hW10]; exact below4 K9.out.2.2.1 (by have := K8.out.2.2.2.2; omega) _), (by rw [← hW10, setRow_other _ _ _ _ (by have := K8.out.2.2.2.2; omega)]; exact K9.out.2.2.2)⟩; rw [hW10]; clear hW10))
                              | (refine atLoad 50 (.tmp 19) rfl ?_; go_must (refine wpList_ex rfl (execLdAll rfl rfl K10.out.1 Tryz.underlying50 rfl (sizeP _ _)) ?_))
                              | (refine atStore 50 (.tmp 6) (.tmp 135) rfl ?_; go_must (refine wpList_exS rfl (execStAll (cells := pC (.slice a9 320 c9) rp) rfl rfl rfl K10.out.2.2.2 (by rw [pC_size, pC_size]) (sizeP _ _) (pC_one _ rfl)) ?_)))
                            refine bodyPost_ret (results_cell_tmp1 Tryz.results24 _ _ V.heap.size 50 _ (0, 0) _ rfl (setRow_heap _ _ _ _ _ _ K10.out.2.2.2) Tryz.underlying50 rfl (sizeP _ _)) rfl ⟨.slice a9 320 c9, by rw [EQ.out.1, EQ.out.2.2]; rfl, by rw [EQ.out.2.1]; exact ownsRow_row K10.out.2.1 K10.out.2.2.2 (by decide) _, below4 K10.out.2.2.1 (Nat.le_refl _) _⟩
                          · have i7 : ¬ (L : Int) > 1 := by omega
                            have C9 : Hid (Calls Tryz.prog 47 #[.slice (some ad2) n (pcap - 2)] Q fun e w' => ∃ r, e = .returned (.tuple #[r, .int .i64 0]) ∧ w'.ownsRow Q.heap.size 5 1 r 320 (bytesL 320 nx) ∧ Below Q.heap.size Q w') := by
                              have h := rplain_any inn n (.slice (some ad2) n (pcap - 2)) Q K8.out.2.1 (by have := NN.out; have := HV.out; omega)
                              rw [show okE 48 n = 0 from if_pos (by have := NN.out; have := HV.out; omega), show okN 48 n = 320 from if_pos (by have := NN.out; have := HV.out; omega), show cellF 2 (headP n) n inn = nx from by rw [← HD.out.2.2.2.2.2.2.2.2.2.1]; exact (if_neg (by omega)).symm] at h
                              exact h
                            clear hL1
                            go_wp2_with (first
                              | (go_at_call 47; refine C9.out.mono ?_; rintro e w9 ⟨r9, rfl, own9, hb9⟩; obtain ⟨a9, c9, rfl⟩ := own_shapeJ own9; have K9 : Hid (w9.heap[wr.heap.size]? = some (.cells (pC (.slice none 0 0) rp) 50) ∧ w9.ownsRow V.heap.size 5 1 (.slice a9 320 c9) 320 (bytesL 320 nx) ∧ Below V.heap.size V w9 ∧ w9.heap[V.heap.size]? = some (.cells (pC (.slice none 0 0) fun _ => 0) 50)) := ⟨(by rw [hb9.block _ (Array.getElem?_eq_some_iff.1 K8.out.1).1]; exact K8.out.1), own_base own9 K8.out.2.2.1.size, K8.out.2.2.1.trans (hb9.mono K8.out.2.2.1.size), (by rw [hb9.block _ (Array.getElem?_eq_some_iff.1 K8.out.2.2.2.1).1]; exact K8.out.2.2.2.1)⟩; clear own9 hb9)
                              | (refine atStore 22 (.tmp 134) (.tmp 132) rfl ?_; go_must (refine wpList_exS rfl (execStCell rfl rfl rfl K9.out.1) ?_; obtain ⟨W10, hW10⟩ : ∃ W10, w9.setRow wr.heap.size (pC (.slice a9 320 c9) rp) = W10 := ⟨_, rfl⟩; have K10 : Hid (W10.heap[wr.heap.size]? = some (.cells (pC (.slice a9 320 c9) rp) 50) ∧ W10.ownsRow V.heap.size 5 1 (.slice a9 320 c9) 320 (bytesL 320 nx) ∧ Below V.heap.size V W10 ∧ W10.heap[V.heap.size]? = some (.cells (pC (.slice none 0 0) fun _ => 0) 50)) := ⟨(by rw [← hW10]; exact setRow_heap _ _ _ _ _ _ K9.out.1), (by rw [← hW10]; exact ownsRow_row K9.out.2.1 K9.out.1 (by decide) _), (by rw [← hW10]; exact below4 K9.out.2.2.1 (by have := K8.out.2.2.2.2; omega) _), (by rw [← hW10, setRow_other _ _ _ _ (by have := K8.out.2.2.2.2; omega)]; exact K9.out.2.2.2)⟩; rw [hW10]; clear hW10))
                              | (refine atLoad 50 (.tmp 19) rfl ?_; go_must (refine wpList_ex rfl (execLdAll rfl rfl K10.out.1 Tryz.underlying50 rfl (sizeP _ _)) ?_))
                              | (refine atStore 50 (.tmp 6) (.tmp 135) rfl ?_; go_must (refine wpList_exS rfl (execStAll (cells := pC (.slice a9 320 c9) rp) rfl rfl rfl K10.out.2.2.2 (by rw [pC_size, pC_size]) (sizeP _ _) (pC_one _ rfl)) ?_)))
                            refine bodyPost_ret (results_cell_tmp1 Tryz.results24 _ _ V.heap.size 50 _ (0, 0) _ rfl (setRow_heap _ _ _ _ _ _ K10.out.2.2.2) Tryz.underlying50 rfl (sizeP _ _)) rfl ⟨.slice a9 320 c9, by rw [EQ.out.1, EQ.out.2.2]; rfl, by rw [EQ.out.2.1]; exact ownsRow_row K10.out.2.1 K10.out.2.2.2 (by decide) _, below4 K10.out.2.2.1 (Nat.le_refl _) _⟩
    · rw [if_pos (by simp; exact hc0)] at E0
      have hcut : cutN c len (S : Int) = 0 := by unfold cutN; rw [hCE, if_neg hc0]
      rw [hCE, hcut] at C
      have EQ : Hid (peR E key c = (fun _ => 0) ∧ peN E = 0 ∧ E = CE) := ⟨by unfold peR; rw [if_neg (by omega)], if_neg (by omega), E0⟩
      have i2 : ((CE : Int) != 0) = true := by simp; omega
      clear hcut hCE hN hcb E0 hc0 g1 g2 g3 g4 hS
      go_enter Tryz.func24, Tryz.ntmps24
      go_wp2_with (first
        | (go_at_call 32; refine (PS _).mono ?_; rintro e w2 ⟨rfl, hw2⟩; rw [hw2]; clear hw2)
        | (go_at_call 42; refine C.mono ?_; rintro e w1 ⟨r, rfl, own, hb1⟩; have X1 : Hid (w1.heap[V.heap.size]? = some (.cells (pC (.slice none 0 0) fun _ => 0) 50) ∧ Below V.heap.size V w1) := ⟨(by rw [hb1.block _ (by have := H.out.2.2; omega)]; exact H.out.1), H.out.2.1.trans (hb1.mono H.out.2.1.size)⟩; clear own hb1)
        | (refine wpList_ex rfl (execBP0 rfl) ?_)
        | (refine atStore 50 (.tmp 6) (.tmp 38) rfl ?_; go_must (refine wpList_exS rfl (execStAll (cells := pC (.slice none 0 0) fun _ => 0) rfl rfl rfl X1.out.1 rfl (sizeP _ _) (pC_one _ rfl)) ?_)))
      refine bodyPost_ret (results_cell_tmp1 Tryz.results24 _ _ V.heap.size 50 _ (0, 0) _ rfl (setRow_heap _ _ _ _ _ _ X1.out.1) Tryz.underlying50 rfl (sizeP _ _)) rfl ⟨.slice none 0 0, by rw [EQ.out.1, EQ.out.2.2]; rfl, by rw [EQ.out.2.1]; exact World.ownsRow_nil _ _ _ _, below4 X1.out.2 (Nat.le_refl _) _⟩
end Go.Proofs.YtnjmcknanlbpdaaGreatDoor.Oni
