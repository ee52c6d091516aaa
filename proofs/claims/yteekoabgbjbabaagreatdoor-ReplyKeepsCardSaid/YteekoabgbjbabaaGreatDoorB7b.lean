import Derived.Test.YteekoabgbjbabaaGreatDoorX5k
namespace Go.Proofs.YteekoabgbjbabaaGreatDoor.Oni
open Go.RowKit Gf8 Aes By8 Cel
/- peeled, Peel. -/

set_option maxRecDepth 20000 in
set_option maxHeartbeats 2000000 in
theorem peeled_any (key c : Nat → Nat) (len L S N : Nat) (vk vc : Value) (V : World) (hG : Glob V) (hk : SliceN V vk 32 key) (hc : SliceZ V vc len c) (hb : len ≤ 140737488351232) (hS : sz (L : Int) = S) (hN : S = 32 + N ∧ 1 ≤ L ∧ L ≤ 8 ∧ N = 16 + 34 * L) :
    Calls Tryz.prog 39 #[vk, .int .i64 (L : Int), vc] V fun e w' => ∃ cv, e = .returned (.tuple #[.agg (pC cv (peR (peE 32 L len key c) key c)), .int .i64 (peE 32 L len key c : Nat)]) ∧ w'.ownsRow V.heap.size 5 1 cv (peN (peE 32 L len key c)) (bytesL (peN (peE 32 L len key c)) (peC L key c)) ∧ Below V.heap.size V w' := by
  obtain ⟨V1, hV1⟩ : ∃ V1, V.alloc (.cells (pC (.slice none 0 0) fun _ => 0) 51) = V1 := ⟨_, rfl⟩
  have r1 := heapNew V (.cells (pC (.slice none 0 0) fun _ => 0) 51)
  have b1 := belNew V (.cells (pC (.slice none 0 0) fun _ => 0) 51)
  have s1 : V1.heap.size = V.heap.size + 1 := by rw [← hV1]; simp
  rw [hV1] at r1 b1
  have C := cut_any c len (S : Int) vc V1 (hc.on b1) hb (by omega) (by omega)
  obtain ⟨CE, hCE⟩ : ∃ CE, cutE c len (S : Int) = CE := ⟨_, rfl⟩
  have PS := psize_any (L : Int)
  rw [hS] at PS
  have zp := zeroP
  have H : Hid (V1.heap[V.heap.size]? = some (.cells (pC (.slice none 0 0) fun _ => 0) 51) ∧ Below V.heap.size V V1 ∧ V1.heap.size = V.heap.size + 1) := ⟨r1, b1, s1⟩
  have E0 : peE 32 L len key c = if CE ≠ 0 then CE else if peT key L c = false then 70 else if inOk N (peP key c) = false then 71 else 0 := by
    unfold peE
    rw [if_neg (by rw [hS]; simp; omega), hS, hCE, show S - 32 = N by omega]
  obtain ⟨E, hE⟩ : ∃ E, peE 32 L len key c = E := ⟨_, rfl⟩
  rw [hE] at E0 ⊢
  have HV : Hid (Glob V ∧ SliceN V vk 32 key ∧ S = 32 + N ∧ 1 ≤ L ∧ L ≤ 8 ∧ N = 16 + 34 * L ∧ sz (L : Int) = S) := ⟨hG, hk, hN.1, hN.2.1, hN.2.2.1, hN.2.2.2, hS⟩
  have hcb := hc.sl.bytes
  clear hG hk hb hS r1 b1 s1 hE hc
  by_cases h0 : CE = 0
  · rw [if_neg (by simp [h0])] at E0
    have hcut : cutN c len (S : Int) = S := by unfold cutN; rw [hCE, if_pos h0]; simp
    have hl320 : len = 320 := by
      unfold cutE at hCE
      by_cases h : len = 320
      · exact h
      · rw [if_pos h] at hCE; omega
    have CB : Hid (∀ j, j < S → c j < 256) := fun j hj => hcb j (by omega)
    rw [hCE, h0, hcut] at C
    clear hcut hCE h0 hcb hl320 hN
    have PR : Hid (peR E key c = if E = 0 then hfF (rpK (dk key c)) c 32 else fun _ => 0) := rfl
    obtain ⟨D, hD⟩ : ∃ D, dk key c = D := ⟨_, rfl⟩
    have DL : Hid (∀ j, D j < 256) := by rw [← hD]; exact dk_lt key c
    obtain ⟨bx, hbx⟩ : ∃ bx : Nat → Nat, (fun j => c (32 + j)) = bx := ⟨_, rfl⟩
    obtain ⟨tg, htg⟩ : ∃ tg, tgF D L c bx N = tg := ⟨_, rfl⟩
    obtain ⟨pl, hpl⟩ : ∃ pl, bxF D bx = pl := ⟨_, rfl⟩
    have ePT : peT key L c = eqB 16 (fun j => c (16 + j)) tg := by
      unfold peT
      rw [hD, HV.out.2.2.2.2.2.2, show S - 32 = N by have := HV.out; omega, hbx, show (L : Int).toNat = L from by simp, htg]
    have ePP : peP key c = pl := by unfold peP; rw [hD, hbx, hpl]
    have bxl : ∀ j, j < N → bx j < 256 := fun j hj => by rw [← hbx]; exact CB.out _ (by have := HV.out; omega)
    obtain ⟨TB, hTB⟩ : ∃ TB, eqB 16 (fun j => c (16 + j)) tg = TB := ⟨_, rfl⟩
    rw [ePT, hTB, ePP] at E0
    have ePC : peC L key c = nxF L (inN pl) fun j => pl (2 + j) := by unfold peC; rw [ePP]
    rw [ePC]
    have HD : Hid (dk key c = D ∧ tgF D L c bx N = tg ∧ bxF D bx = pl ∧ (∀ j, c (32 + j) = bx j) ∧ (∀ j, j < N → bx j < 256) ∧ eqB 16 (fun j => c (16 + j)) tg = TB ∧ (∀ j, tg j < 256)) := ⟨hD, htg, hpl, fun j => by rw [← hbx], bxl, hTB, by rw [← htg]; exact tgF_lt _ _ _ _ _⟩
    have zk := zeroK
    have z16 := zero16
    rw [hD] at PR
    have HE : Hid (E = if TB = false then 70 else if inOk N pl = false then 71 else 0) := E0
    clear hD hbx htg hpl ePT ePP bxl hTB ePC E0
    go_enter Tryz.func39, Tryz.ntmps39
    go_wp2_with (first
      | (go_at_call 31; refine (PS _).mono ?_; rintro e w2 ⟨rfl, hw2⟩; rw [hw2]; clear hw2)
      | (go_at_call 52; refine C.mono ?_; rintro e w1 ⟨r, rfl, own, hb1⟩; obtain ⟨g, cap, rfl, hB, hcap, cells⟩ := own_cells own (by have := HV.out; omega); have O1 : Hid (SliceN w1 (.slice (some ⟨g, 0, none⟩) S cap) S c ∧ Below V1.heap.size V1 w1 ∧ S ≤ cap ∧ g < w1.heap.size ∧ V1.heap.size ≤ g ∧ ∀ j, j < S → w1.cell? ⟨g, j, none⟩ = some (.int .u8 (c j))) := ⟨own_slice own CB.out, hb1, hcap, (own.lt g rfl).2, hB, cells⟩; clear own hb1 hcap hB cells))
    have X1 : Hid (w1.heap[V.heap.size]? = some (.cells (pC (.slice none 0 0) fun _ => 0) 51) ∧ Below V.heap.size V w1 ∧ V.heap.size < w1.heap.size) := ⟨by rw [O1.out.2.1.block _ (by have := H.out.2.2; omega)]; exact H.out.1, H.out.2.1.trans (O1.out.2.1.mono H.out.2.1.size), by have := O1.out.2.1.size; have := H.out.2.2; omega⟩
    have sb := partN O1.out.1 (k := 32) (by have := HV.out; omega)
    rw [show S - 32 = N by have := HV.out; omega, Nat.zero_add] at sb
    have sbx : SliceN w1 (.slice (some ⟨g, 32, none⟩) N (cap - 32)) N bx := sliceN_cg sb (fun j _ => HD.out.2.2.2.1 j)
    have st16 : SliceN w1 (.slice (some ⟨g, 16, none⟩) 16 (cap - 16)) 16 (fun j => c (16 + j)) := by
      have h1 := partN O1.out.1 (k := 16) (by have := HV.out; omega)
      rw [Nat.zero_add] at h1
      exact takeN h1 (by have := HV.out; omega)
    have SB : Hid (SliceN w1 (.slice (some ⟨g, 32, none⟩) N (cap - 32)) N bx ∧ SliceN w1 (.slice (some ⟨g, 16, none⟩) 16 (cap - 16)) 16 (fun j => c (16 + j))) := ⟨sbx, st16⟩
    clear sb sbx st16
    refine wp_region_detX 81 [(0, 27), (1, 28), (2, 29), (3, 30), (4, 31), (5, 32), (6, 10), (8, 11)] (peD (.slice (some ⟨g, 0, none⟩) S cap) (.slice (some ⟨g, 0, none⟩) 16 cap) (.slice (some ⟨g, 32, none⟩) N (cap - 32)) g c w1) (fun _ => undef) (by kernel_rfl) (by kernel_rfl) rfl (by kernel_rfl) (by decide) (by decide) ?_ ?_ ?_
    · exact ⟨fun q => (by cases q), fun q => (by cases q), fun q => (by cases q), fun q => (by cases q), fun q => (by cases q), fun q => (by cases q), fun q => (by cases q), fun q => (by cases q), (Below.refl _ _).drew⟩
    · intro j hj l x a W hl hf hdep hl2 hcl _ hT
      obtain ⟨t0, t1, t2, t3, t4, t5, t6, t8, tb⟩ := hT
      have n7 : l 6 = false → l 7 = false := fun q => by
        cases h : l 7 with
        | false => rfl
        | true =>
          have := hcl 7 _ rfl h 6 rfl
          rw [q] at this
          cases this
      match j, hj with
      | 0, _ => exact stepV rfl rfl (execMvB rfl (hf 8 (by decide))) ⟨_, ⟨_, rfl, rfl⟩, fun _ => rfl, t1, t2, t3, t4, t5, t6, t8, tb⟩
      | 1, _ => exact stepV rfl rfl (By8.execSlH rfl ((hdep _ rfl 0 rfl _ rfl _ rfl).trans (t0 (hl2 _ rfl 0 rfl))) rfl (sl_h16 g 0 S cap (by have := HV.out; have := O1.out.2.2.1; omega) W)) ⟨_, ⟨_, rfl, rfl⟩, t0, fun _ => rfl, t2, t3, t4, t5, t6, t8, tb⟩
      | 2, _ => exact stepV rfl rfl (execArr16 rfl ((hdep _ rfl 1 rfl _ rfl _ rfl).trans (t1 (hl2 _ rfl 1 rfl))) (by omega)) ⟨_, ⟨_, rfl, rfl⟩, t0, t1, fun _ => rfl, t3, t4, t5, t6, t8, tb⟩
      | 3, _ => exact stepV rfl rfl (execLdList (k := 16) (q := c) rfl ((hdep _ rfl 2 rfl _ rfl _ rfl).trans (t2 (hl2 _ rfl 2 rfl))) (fun j hj => by rw [Nat.zero_add, cell_below tb O1.out.2.2.2.1]; exact O1.out.2.2.2.2.2 j (by have := HV.out; omega)) Tryz.underlying35 rfl (by kernel_rfl)) ⟨_, ⟨_, rfl, rfl⟩, t0, t1, t2, fun _ => rfl, t4, t5, t6, t8, tb⟩
      | 4, _ => exact stepV rfl rfl (execMvB rfl (hf 8 (by decide))) ⟨_, ⟨_, rfl, rfl⟩, t0, t1, t2, t3, fun _ => rfl, t5, t6, t8, tb⟩
      | 5, _ =>
        have q := sl_lk g 0 S cap 32 (by have := HV.out; omega) (by have := HV.out; have := O1.out.2.2.1; omega) W
        rw [show S - 32 = N by have := HV.out; omega, Nat.zero_add] at q
        exact stepV rfl rfl (By8.execSlL rfl ((hdep _ rfl 4 rfl _ rfl _ rfl).trans (t4 (hl2 _ rfl 4 rfl))) rfl q) ⟨_, ⟨_, rfl, rfl⟩, t0, t1, t2, t3, t4, fun _ => rfl, t6, t8, tb⟩
      | 6, _ =>
        refine stepV rfl rfl (execAl16 rfl) ⟨_, ⟨_, rfl, rfl⟩, t0, t1, t2, t3, t4, t5, fun _ => ⟨W.heap.size, rfl, tb.size, fun _ => heapNew _ _, fun q => ?_⟩, t8, tb.trans ((belNew W _).mono tb.size)⟩
        have q' : l 7 = true := q
        rw [n7 hl] at q'; cases q'
      | 7, _ =>
        obtain ⟨I, e6, lI, r1, _⟩ := t6 (hl2 _ rfl 6 rfl)
        have r1 := r1 hl
        refine stepS rfl rfl (execStAll (cells := bA 16 c) rfl ((hdep _ rfl 6 rfl _ rfl _ rfl).trans e6) ((hdep _ rfl 3 rfl _ rfl _ rfl).trans (t3 (hl2 _ rfl 3 rfl))) r1 (by rw [bA_size, bA_size]) (size16 _) (bA_one _ _)) ⟨_, ⟨_, rfl, rfl⟩, t0, t1, t2, t3, t4, t5, fun _ => ⟨I, e6, lI, fun q => (by cases q), fun _ => setRow_heap _ _ _ _ _ _ r1⟩, t8, below4 tb lI _⟩
      | 8, _ => exact stepV rfl rfl (execAsgB rfl ((hdep _ rfl 5 rfl _ rfl _ rfl).trans (t5 (hl2 _ rfl 5 rfl)))) ⟨_, ⟨_, rfl, rfl⟩, t0, t1, t2, t3, t4, t5, t6, fun _ => rfl, tb⟩
      | n + 9, h => exact absurd h (by simp)
    · intro l x W hall hT
      obtain ⟨t0, t1, t2, t3, t4, t5, t6, t8, tb⟩ := hT
      have e0 := t0 (hall 0 (by simp))
      have e1 := t1 (hall 1 (by simp))
      have e2 := t2 (hall 2 (by simp))
      have e3 := t3 (hall 3 (by simp))
      have e4 := t4 (hall 4 (by simp))
      have e5 := t5 (hall 5 (by simp))
      have e8 := t8 (hall 8 (by simp))
      obtain ⟨I, e6, lI, _, rI⟩ := t6 (hall 6 (by simp))
      have rI := rI (hall 7 (by simp))
      have XW : Hid (W.heap[I]? = some (.cells (bA 16 c) 35) ∧ Below w1.heap.size w1 W ∧ I < W.heap.size ∧ w1.heap.size ≤ I ∧ Below V.heap.size V W) := ⟨rI, tb, (Array.getElem?_eq_some_iff.1 rI).1, lI, X1.out.2.1.trans (tb.mono X1.out.2.1.size)⟩
      have DR := pder_ok key c vk W (HV.out.1.below XW.out.2.2.2.2 HV.out.1.sz) (fun j hj => CB.out j (by have := HV.out; omega)) (HV.out.2.1.on XW.out.2.2.2.2)
      rw [HD.out.1] at DR
      clear hall t0 t1 t2 t3 t4 t5 t6 t8 tb lI rI
      simp only [putP, e0, e1, e2, e3, e4, e5, e6, e8, Act.put, List.setIfInBounds_toArray, List.set_cons_succ, List.set_cons_zero]
      clear e0 e1 e2 e3 e4 e5 e6 e8
      go_wp2_with (first
        | (refine atLoad 35 (.tmp 10) rfl ?_; go_must (refine wpList_ex rfl (execLdAll rfl rfl (by first | exact K2.out.2.1 | exact XW.out.1) Tryz.underlying35 rfl (size16 _)) ?_))
        | (go_at_call 30; refine DR.mono ?_; rintro e w3 ⟨rfl, hb3⟩; have B3 : Hid (Below W.heap.size W w3) := hb3; clear hb3)
        | (refine atStore 58 (.tmp 12) (.tmp 37) rfl ?_; go_must (refine wpList_exS rfl (execStAll (cells := bA 80 D) rfl rfl rfl (heapNew w3 _) (by rw [bA_size, bA_size]) (size80 _) (bA_one _ _)) ?_; obtain ⟨W4, hW4⟩ : ∃ W4, (w3.alloc (.cells (bA 80 fun _ => 0) 58)).setRow w3.heap.size (bA 80 D) = W4 := ⟨_, rfl⟩; have k2 : W4.heap[w3.heap.size]? = some (.cells (bA 80 D) 58) := (by rw [← hW4]; exact setRow_heap _ _ _ _ _ _ (heapNew w3 _)); have b2 : Below w3.heap.size w3 W4 := (by rw [← hW4]; exact below4 (belNew w3 _) (Nat.le_refl _) _); have b24 : Below W.heap.size W W4 := B3.out.trans (b2.mono B3.out.size); have b14 : Below w1.heap.size w1 W4 := XW.out.2.1.trans (b24.mono XW.out.2.1.size); have K2 : Hid (W4.heap[w3.heap.size]? = some (.cells (bA 80 D) 58) ∧ W4.heap[I]? = some (.cells (bA 16 c) 35) ∧ Below w1.heap.size w1 W4 ∧ Below V.heap.size V W4 ∧ w3.heap.size < W4.heap.size) := ⟨k2, (by rw [b24.block _ XW.out.2.2.1]; exact XW.out.1), b14, X1.out.2.1.trans (b14.mono X1.out.2.1.size), (Array.getElem?_eq_some_iff.1 k2).1⟩; have TG := tagOf_any D c bx L N (.slice (some ⟨g, 32, none⟩) N (cap - 32)) W4 (HV.out.1.below K2.out.2.2.2.1 HV.out.1.sz) DL.out (fun j hj => CB.out j (by have := HV.out; omega)) (by have := HV.out; omega) (by have := HV.out; omega) (by have := HV.out; omega) (SB.out.1.on K2.out.2.2.1); rw [HD.out.2.1] at TG; rw [hW4]; clear k2 b2 b24 b14 hW4))
        | (refine atLoad 58 (.tmp 12) rfl ?_; go_must (refine wpList_ex rfl (execLdAll rfl rfl K2.out.1 Tryz.underlying58 rfl (size80 _)) ?_))
        | (go_at_call 35; refine TG.mono ?_; rintro e w5 ⟨rfl, hb5⟩; have B5 : Hid (_) := hb5; clear hb5)
        | (refine atStore 35 (.tmp 13) (.tmp 47) rfl ?_; go_must (refine wpList_exS rfl (execStAll (cells := bA 16 tg) rfl rfl rfl (heapNew w5 _) (by rw [bA_size, bA_size]) (size16 _) (bA_one _ _)) ?_; obtain ⟨W6, hW6⟩ : ∃ W6, (w5.alloc (.cells (bA 16 fun _ => 0) 35)).setRow w5.heap.size (bA 16 tg) = W6 := ⟨_, rfl⟩; have t6 : W6.heap[w5.heap.size]? = some (.cells (bA 16 tg) 35) := (by rw [← hW6]; exact setRow_heap _ _ _ _ _ _ (heapNew w5 _)); have b6 : Below w5.heap.size w5 W6 := (by rw [← hW6]; exact below4 (belNew w5 _) (Nat.le_refl _) _); have b46 : Below W4.heap.size W4 W6 := B5.out.trans (b6.mono B5.out.size); have b16 : Below w1.heap.size w1 W6 := K2.out.2.2.1.trans (b46.mono K2.out.2.2.1.size); have K6 : Hid (W6.heap[w5.heap.size]? = some (.cells (bA 16 tg) 35) ∧ W6.heap[w3.heap.size]? = some (.cells (bA 80 D) 58) ∧ Below w1.heap.size w1 W6 ∧ Below V.heap.size V W6) := ⟨t6, (by rw [b46.block _ K2.out.2.2.2.2]; exact K2.out.1), b16, X1.out.2.1.trans (b16.mono X1.out.2.1.size)⟩; rw [hW6]; clear t6 b6 b46 b16 hW6)))
      refine wp_region_det 81 [(0, 48), (1, 49), (2, 50), (3, 51), (4, 52)] (eqV (.slice (some ⟨g, 0, none⟩) S cap) (.slice (some ⟨g, 16, none⟩) 16 (cap - 16)) (.slice (some ⟨w5.heap.size, 0, none⟩) 16 16) TB) (fun _ X => Below W6.heap.size W6 X) (by kernel_rfl) (by kernel_rfl) rfl (by kernel_rfl) (by decide) (by decide) ?_ ?_ ?_
      · exact (Below.refl _ _).drew
      · intro j hj l a X hl hf hdep hl2 hcl _ hT
        match j, hj with
        | 0, _ => exact stepV rfl rfl (execMvB rfl (hf 8 (by decide))) ⟨⟨_, rfl, rfl⟩, hT⟩
        | 1, _ => exact stepV rfl rfl (By8.execSlLH rfl (hdep _ rfl 0 rfl _ rfl _ rfl) rfl rfl (sl_lh16 g 0 S cap (by have := HV.out; have := O1.out.2.2.1; omega) X)) ⟨⟨_, rfl, by simp only [eqV, Nat.zero_add]⟩, hT⟩
        | 2, _ => exact stepV rfl rfl (execSlice rfl (hf 13 (by decide)) (sl16 _ X)) ⟨⟨_, rfl, rfl⟩, hT⟩
        | 3, _ =>
          refine stepC rfl rfl (execCall2 Tryz.func53 (by kernel_rfl) (by kernel_rfl) rfl (hdep _ rfl 1 rfl _ rfl _ rfl) (hdep _ rfl 2 rfl _ rfl _ rfl)) (pequal_any _ _ 16 (fun j => c (16 + j)) tg X ((SB.out.2.on K6.out.2.2.1).on hT) (row_slice (by rw [hT.block _ (Array.getElem?_eq_some_iff.1 K6.out.1).1]; exact K6.out.1) (fun j _ => HD.out.2.2.2.2.2.2 j) (by omega))) fun e w' h => ⟨_, h.1, ⟨_, rfl, by rw [HD.out.2.2.2.2.2.1]; rfl⟩, by rw [h.2]; exact hT⟩
        | 4, _ => exact stepV rfl rfl (execNotB rfl (hdep _ rfl 3 rfl _ rfl _ rfl)) ⟨⟨_, rfl, rfl⟩, hT⟩
        | n + 5, h => exact absurd h (by simp)
      · intro l X hall hT
        have XX : Hid (X.heap[w3.heap.size]? = some (.cells (bA 80 D) 58) ∧ X.heap[V.heap.size]? = some (.cells (pC (.slice none 0 0) fun _ => 0) 51) ∧ Below w1.heap.size w1 X ∧ Below V.heap.size V X ∧ V.heap.size < X.heap.size ∧ w3.heap.size < X.heap.size) := by
          have b1X := K6.out.2.2.1.trans (hT.mono K6.out.2.2.1.size)
          exact ⟨by rw [hT.block _ (Array.getElem?_eq_some_iff.1 K6.out.2.1).1]; exact K6.out.2.1, by rw [b1X.block _ X1.out.2.2]; exact X1.out.1, b1X, X1.out.2.1.trans (b1X.mono X1.out.2.1.size), by have := b1X.size; have := X1.out.2.2; omega, by have := (Array.getElem?_eq_some_iff.1 K6.out.2.1).1; have := hT.size; omega⟩
        clear hall hT
        simp only [putP, eqV, Act.put, List.setIfInBounds_toArray, List.set_cons_succ, List.set_cons_zero]
        cases TB with
        | false =>
          have eE : E = 70 := HE.out
          have e1 : peR E key c = fun _ => 0 := by rw [PR.out, if_neg (by omega)]
          have e2 : peN E = 0 := if_neg (by omega)
          have EQ : Hid (peR E key c = (fun _ => 0) ∧ peN E = 0 ∧ E = 70) := ⟨e1, e2, eE⟩
          clear e1 e2 eE
          go_wp2_with (first
            | (refine wpList_ex rfl (execBP0 rfl) ?_)
            | (refine atStore 51 (.tmp 6) (.tmp 53) rfl ?_; go_must (refine wpList_exS rfl (execStAll (cells := pC (.slice none 0 0) fun _ => 0) rfl rfl rfl XX.out.2.1 rfl (sizeP _ _) (pC_one _ rfl)) ?_)))
          refine bodyPost_ret (results_cell_tmp1 Tryz.results39 _ _ V.heap.size 51 _ (0, 0) _ rfl (setRow_heap _ _ _ _ _ _ XX.out.2.1) Tryz.underlying51 rfl (sizeP _ _)) rfl ⟨.slice none 0 0, by rw [EQ.out.1, EQ.out.2.2]; rfl, by rw [EQ.out.2.1]; exact World.ownsRow_nil _ _ _ _, below4 XX.out.2.2.2.1 (Nat.le_refl _) _⟩
        | true =>
          have MK := masked_any D bx N (.slice (some ⟨g, 32, none⟩) N (cap - 32)) X DL.out (SB.out.1.on XX.out.2.2.1) (by have := HV.out; omega)
          rw [HD.out.2.2.1] at MK
          have eE : E = if inOk N pl = false then 71 else 0 := HE.out
          obtain ⟨ok, hok⟩ : ∃ ok, inOk N pl = ok := ⟨_, rfl⟩
          rw [hok] at eE
          obtain ⟨x71, hx71⟩ : ∃ x : Nat, (if ok = true then 0 else 71) = x := ⟨_, rfl⟩
          have IN : Hid (∀ (W : World) (v : Value), SliceN W v N pl → Calls Tryz.prog 54 #[.int .i64 (L : Int), v] W fun e w' => ∃ r, e = .returned (.tuple #[r, .int .i64 (x71 : Int)]) ∧ (ok = true → SliceZ W r (inN pl) fun j => pl (2 + j)) ∧ Below W.heap.size W w') := fun W v hv => by
            have h := inside_any (L : Int) N pl v W (by have := HV.out; omega) (by have := HV.out; omega) hv
            rw [hok, hx71] at h
            exact h
          have pll : Hid (∀ j, j < N → pl j < 256) := by
            intro j hj
            rw [← HD.out.2.2.1]
            unfold bxF maskF
            exact xor_lt (HD.out.2.2.2.2.1 j hj) (enc_by (fun j _ => kw_lt (fun i _ => DL.out i) j) (be_by _) _ (Nat.mod_lt _ (by omega)))
          have i1 : (x71 : Int) ≤ 71 := by rw [← hx71]; split <;> decide
          cases ok with
          | false =>
            have ex : x71 = 71 := by rw [← hx71]; rfl
            have eE : E = 71 := eE
            have e1 : peR E key c = fun _ => 0 := by rw [PR.out, if_neg (by omega)]
            have e2 : peN E = 0 := if_neg (by omega)
            have EQ : Hid (peR E key c = (fun _ => 0) ∧ peN E = 0 ∧ E = 71) := ⟨e1, e2, eE⟩
            have i2 : ((x71 : Int) != 0) = true := by rw [ex]; rfl
            have EX : Hid (x71 = 71) := ex
            clear e1 e2 hx71 eE ex
            go_wp2_with (first
              | (refine atLoad 58 (.tmp 12) rfl ?_; go_must (refine wpList_ex rfl (execLdAll rfl rfl XX.out.1 Tryz.underlying58 rfl (size80 _)) ?_))
              | (go_at_call 33; refine MK.mono ?_; rintro e w7 ⟨r7, rfl, own7, hb7⟩; have O7 : Hid (SliceN w7 r7 N pl ∧ Below X.heap.size X w7) := ⟨own_slice own7 pll.out, hb7⟩; clear own7 hb7)
              | (go_at_call 54; refine (IN.out w7 r7 O7.out.1).mono ?_; rintro e w8 ⟨r8, rfl, _, hb8⟩; have B8 : Hid (w8.heap[V.heap.size]? = some (.cells (pC (.slice none 0 0) fun _ => 0) 51) ∧ Below V.heap.size V w8) := (by have q := O7.out.2.trans (hb8.mono O7.out.2.size); exact ⟨by rw [q.block _ XX.out.2.2.2.2.1]; exact XX.out.2.1, XX.out.2.2.2.1.trans (q.mono XX.out.2.2.2.1.size)⟩); clear hb8)
              | (refine wpList_ex rfl (execBP0 rfl) ?_)
              | (refine atStore 51 (.tmp 6) (.tmp 64) rfl ?_; go_must (refine wpList_exS rfl (execStAll (cells := pC (.slice none 0 0) fun _ => 0) rfl rfl rfl B8.out.1 rfl (sizeP _ _) (pC_one _ rfl)) ?_)))
            refine bodyPost_ret (results_cell_tmp1 Tryz.results39 _ _ V.heap.size 51 _ (0, 0) _ rfl (setRow_heap _ _ _ _ _ _ B8.out.1) Tryz.underlying51 rfl (sizeP _ _)) rfl ⟨.slice none 0 0, by rw [EQ.out.1, EQ.out.2.2, ← EX.out]; rfl, by rw [EQ.out.2.1]; exact World.ownsRow_nil _ _ _ _, below4 B8.out.2 (Nat.le_refl _) _⟩
          | true =>
            have ex : x71 = 0 := by rw [← hx71]; rfl
            have eE : E = 0 := eE
            have e1 : peR E key c = hfF (rpK D) c 32 := by rw [PR.out, if_pos eE]
            have e2 : peN E = 320 := if_pos eE
            have i2 : ((x71 : Int) != 0) = false := by rw [ex]; rfl
            obtain ⟨rp, hrp⟩ : ∃ rp, hfF (rpK D) c 32 = rp := ⟨_, rfl⟩
            rw [hrp] at e1
            have EQ : Hid (peR E key c = rp ∧ peN E = 320 ∧ E = 0) := ⟨e1, e2, eE⟩
            have hin : inN pl ≤ N - 2 := by
              unfold inOk at hok
              rw [Bool.and_eq_true] at hok
              exact of_decide_eq_true hok.1
            have NX : Hid (∀ (W : World) (v : Value), SliceZ W v (inN pl) (fun j => pl (2 + j)) → Calls Tryz.prog 55 #[.int .i64 (L : Int), v] W fun e w' => ∃ r, e = .returned (.tuple #[r, .int .i64 0]) ∧ w'.ownsRow W.heap.size 5 1 r 320 (bytesL 320 (nxF L (inN pl) fun j => pl (2 + j))) ∧ Below W.heap.size W w') := fun W v hv => nextCell_any (L : Int) (inN pl) _ v W (by have := HV.out; omega) hv (by have := HV.out; omega) (fun q => by have := HV.out; omega)
            have RP : Hid (∀ (W : World) (v : Value), Glob W → SliceN W v S c → Calls Tryz.prog 56 #[.agg (bA 80 D), v] W fun e w' => e = .returned (.agg (bA 16 rp)) ∧ Below W.heap.size W w') := fun W v hg hv => by
              have h := replayTag_any D c S v W hg DL.out (by have := HV.out; omega) hv
              rw [hrp] at h
              exact h
            clear e1 e2 eE hx71 hrp hin
            go_wp2_with (first
              | (refine atLoad 58 (.tmp 12) rfl ?_; go_must (refine wpList_ex rfl (execLdAll rfl rfl (by first | exact B9.out.1 | exact XX.out.1) Tryz.underlying58 rfl (size80 _)) ?_))
              | (go_at_call 33; refine MK.mono ?_; rintro e w7 ⟨r7, rfl, own7, hb7⟩; have O7 : Hid (SliceN w7 r7 N pl ∧ Below X.heap.size X w7) := ⟨own_slice own7 pll.out, hb7⟩; clear own7 hb7)
              | (go_at_call 54; refine (IN.out w7 r7 O7.out.1).mono ?_; rintro e w8 ⟨r8, rfl, sz8, hb8⟩; have B8 : Hid (Below X.heap.size X w8 ∧ SliceZ w8 r8 (inN pl) (fun j => pl (2 + j))) := ⟨O7.out.2.trans (hb8.mono O7.out.2.size), (sz8 (by first | rfl | trivial)).on hb8⟩; clear hb8 sz8)
              | (go_at_call 55; refine (NX.out w8 r8 B8.out.2).mono ?_; rintro e w9 ⟨r9, rfl, own9, hb9⟩; obtain ⟨a9, c9, rfl⟩ := own_shapeJ own9; have B9 : Hid (w9.heap[w3.heap.size]? = some (.cells (bA 80 D) 58) ∧ Below X.heap.size X w9 ∧ Below V.heap.size V w9 ∧ SliceN w9 (.slice (some ⟨g, 0, none⟩) S cap) S c ∧ w9.ownsRow V.heap.size 5 1 (.slice a9 320 c9) 320 (bytesL 320 (nxF L (inN pl) fun j => pl (2 + j)))) := (by have q := B8.out.1.trans (hb9.mono B8.out.1.size); have q1 := XX.out.2.2.1.trans (q.mono XX.out.2.2.1.size); have qV := XX.out.2.2.2.1.trans (q.mono XX.out.2.2.2.1.size); exact ⟨by rw [q.block _ XX.out.2.2.2.2.2]; exact XX.out.1, q, qV, O1.out.1.on q1, own_base own9 (by have := B8.out.1.size; have := XX.out.2.2.2.2.1; omega)⟩); clear own9 hb9)
              | (go_at_call 56; refine (RP.out w9 _ (HV.out.1.below B9.out.2.2.1 HV.out.1.sz) B9.out.2.2.2.1).mono ?_; rintro e w10 ⟨rfl, hb10⟩; have B10 : Hid (w10.heap[V.heap.size]? = some (.cells (pC (.slice none 0 0) fun _ => 0) 51) ∧ Below V.heap.size V w10 ∧ w10.ownsRow V.heap.size 5 1 (.slice a9 320 c9) 320 (bytesL 320 (nxF L (inN pl) fun j => pl (2 + j)))) := (by have q := B9.out.2.1.trans (hb10.mono B9.out.2.1.size); exact ⟨by rw [q.block _ XX.out.2.2.2.2.1]; exact XX.out.2.1, B9.out.2.2.1.trans (hb10.mono B9.out.2.2.1.size), ownsRow_below B9.out.2.2.2.2 hb10⟩); clear hb10)
              | (refine wpList_ex rfl (execBP rfl rfl rfl) ?_)
              | (refine atStore 51 (.tmp 6) (.tmp 80) rfl ?_; go_must (refine wpList_exS rfl (execStAll (cells := pC (.slice a9 320 c9) rp) rfl rfl rfl B10.out.1 (by rw [pC_size, pC_size]) (sizeP _ _) (pC_one _ rfl)) ?_)))
            refine bodyPost_ret (results_cell_tmp1 Tryz.results39 _ _ V.heap.size 51 _ (0, 0) _ rfl (setRow_heap _ _ _ _ _ _ B10.out.1) Tryz.underlying51 rfl (sizeP _ _)) rfl ⟨.slice a9 320 c9, by rw [EQ.out.1, EQ.out.2.2]; rfl, by rw [EQ.out.2.1]; exact ownsRow_row B10.out.2.2 B10.out.1 (by decide) _, below4 B10.out.2.1 (Nat.le_refl _) _⟩
  · rw [if_pos (by simp; exact h0)] at E0
    have hcut : cutN c len (S : Int) = 0 := by unfold cutN; rw [hCE, if_neg h0]
    rw [hCE, hcut] at C
    have e1 : peR E key c = fun _ => 0 := by unfold peR; rw [if_neg (by omega)]
    have e2 : peN E = 0 := if_neg (by omega)
    rw [e1, e2, E0]
    have i2 : ((CE : Int) != 0) = true := by simp; omega
    clear e1 e2 hcut hCE hN hcb
    go_enter Tryz.func39, Tryz.ntmps39
    go_wp2_with (first
      | (go_at_call 31; refine (PS _).mono ?_; rintro e w2 ⟨rfl, hw2⟩; rw [hw2]; clear hw2)
      | (go_at_call 52; refine C.mono ?_; rintro e w1 ⟨r, rfl, own, hb1⟩; have X1 : Hid (w1.heap[V.heap.size]? = some (.cells (pC (.slice none 0 0) fun _ => 0) 51) ∧ Below V.heap.size V w1) := ⟨(by rw [hb1.block _ (by have := H.out.2.2; omega)]; exact H.out.1), H.out.2.1.trans (hb1.mono H.out.2.1.size)⟩; clear own hb1)
      | (refine wpList_ex rfl (execBP0 rfl) ?_)
      | (refine atStore 51 (.tmp 6) (.tmp 25) rfl ?_; go_must (refine wpList_exS rfl (execStAll (cells := pC (.slice none 0 0) fun _ => 0) rfl rfl rfl X1.out.1 rfl (sizeP _ _) (pC_one _ rfl)) ?_)))
    refine bodyPost_ret (results_cell_tmp1 Tryz.results39 _ _ V.heap.size 51 _ (0, 0) _ rfl (setRow_heap _ _ _ _ _ _ X1.out.1) Tryz.underlying51 rfl (sizeP _ _)) rfl ⟨_, rfl, World.ownsRow_nil _ _ _ _, below4 X1.out.2 (Nat.le_refl _) _⟩
set_option maxRecDepth 20000 in
set_option maxHeartbeats 1000000 in
theorem peel_any (key c : Nat → Nat) (lk len : Nat) (left : Int) (vk vc : Value) (V : World) (hG : Glob V) (hk : SliceN V vk lk key) (hc : SliceZ V vc len c) (hb : len ≤ 140737488351232) :
    Calls Tryz.prog 26 #[vk, .int .i64 left, vc] V fun e w' => ∃ cv, e = .returned (.tuple #[.agg (pC cv (peR (peE lk left len key c) key c)), .int .i64 (peE lk left len key c : Nat)]) ∧ w'.ownsRow V.heap.size 5 1 cv (peN (peE lk left len key c)) (bytesL (peN (peE lk left len key c)) (peC left key c)) ∧ Below V.heap.size V w' := by
  obtain ⟨V1, hV1⟩ : ∃ V1, V.alloc (.cells (pC (.slice none 0 0) fun _ => 0) 51) = V1 := ⟨_, rfl⟩
  have r1 := heapNew V (.cells (pC (.slice none 0 0) fun _ => 0) 51)
  have b1 := belNew V (.cells (pC (.slice none 0 0) fun _ => 0) 51)
  have s1 : V1.heap.size = V.heap.size + 1 := by rw [← hV1]; simp
  rw [hV1] at r1 b1
  obtain ⟨ka, kcap, rfl, _⟩ := id hk.shape
  obtain ⟨S, hS⟩ : ∃ S, sz left = S := ⟨_, rfl⟩
  have PS := psize_any left
  rw [hS] at PS
  have zp := zeroP
  have H : Hid (V1.heap[V.heap.size]? = some (.cells (pC (.slice none 0 0) fun _ => 0) 51) ∧ Below V.heap.size V V1 ∧ V1.heap.size = V.heap.size + 1) := ⟨r1, b1, s1⟩
  by_cases hbad : lk ≠ 32 ∨ S = 0
  · have E : peE lk left len key c = 2 := by unfold peE; rw [hS, if_pos hbad]
    have e1 : peR 2 key c = fun _ => 0 := rfl
    have e2 : peN 2 = 0 := rfl
    rw [E, e1, e2]
    clear E e1 e2 hG hk hc hb r1 b1 s1 hS
    by_cases hl : lk = 32
    · have i1 : ((lk : Int) != 32) = false := by simp; omega
      obtain rfl : S = 0 := by rcases hbad with h | h; exact absurd hl h; exact h
      clear hbad
      go_enter Tryz.func26, Tryz.ntmps26
      go_wp2_with (first
        | (go_at_call 31; refine (PS _).mono ?_; rintro e w2 ⟨rfl, hw2⟩; rw [hw2]; clear hw2)
        | (refine wpList_ex rfl (execBP0 rfl) ?_)
        | (refine atStore 51 (.tmp 6) (.tmp 16) rfl ?_; go_must (refine wpList_exS rfl (execStAll (cells := pC (.slice none 0 0) fun _ => 0) rfl rfl rfl H.out.1 rfl (sizeP _ _) (pC_one _ rfl)) ?_)))
      refine bodyPost_ret (results_cell_tmp1 Tryz.results26 _ _ V.heap.size 51 _ (0, 0) _ rfl (setRow_heap _ _ _ _ _ _ H.out.1) Tryz.underlying51 rfl (sizeP _ _)) rfl ⟨_, rfl, World.ownsRow_nil _ _ _ _, below4 H.out.2.1 (Nat.le_refl _) _⟩
    · have i1 : ((lk : Int) != 32) = true := by simp; omega
      clear hbad
      go_enter Tryz.func26, Tryz.ntmps26
      go_wp2_with (first
        | (refine wpList_ex rfl (execBP0 rfl) ?_)
        | (refine atStore 51 (.tmp 6) (.tmp 16) rfl ?_; go_must (refine wpList_exS rfl (execStAll (cells := pC (.slice none 0 0) fun _ => 0) rfl rfl rfl H.out.1 rfl (sizeP _ _) (pC_one _ rfl)) ?_)))
      refine bodyPost_ret (results_cell_tmp1 Tryz.results26 _ _ V.heap.size 51 _ (0, 0) _ rfl (setRow_heap _ _ _ _ _ _ H.out.1) Tryz.underlying51 rfl (sizeP _ _)) rfl ⟨_, rfl, World.ownsRow_nil _ _ _ _, below4 H.out.2.1 (Nat.le_refl _) _⟩
  · obtain rfl : lk = 32 := by
      by_cases h : lk = 32
      · exact h
      · exact absurd (Or.inl h) hbad
    have h0 : S ≠ 0 := fun h => hbad (Or.inr h)
    obtain ⟨g1, g2, g3, g4⟩ := sz_pos (left := left) (by rw [hS]; exact h0)
    obtain ⟨L, rfl⟩ : ∃ L : Nat, left = L := ⟨left.toNat, by omega⟩
    rw [hS] at g3 g4
    rw [show (L : Int).toNat = L from by simp] at g3
    have C := peeled_any key c len L S (S - 32) (.slice ka 32 kcap) vc V1 (hG.below b1 hG.sz) (hk.on b1) (hc.on b1) hb hS (by omega)
    obtain ⟨E, hE⟩ : ∃ E, peE 32 (L : Int) len key c = E := ⟨_, rfl⟩
    rw [hE] at C ⊢
    obtain ⟨rp, hrp⟩ : ∃ rp, peR E key c = rp := ⟨_, rfl⟩
    rw [hrp] at C ⊢
    have i1 : ((S : Int) == 0) = false := by simp; omega
    clear hbad hG hk hc hb r1 b1 s1 hS h0 g1 g2 g3 g4 hE hrp
    go_enter Tryz.func26, Tryz.ntmps26
    go_wp2_with (first
      | (go_at_call 31; refine (PS _).mono ?_; rintro e w2 ⟨rfl, hw2⟩; rw [hw2]; clear hw2)
      | (go_at_call 39; refine C.mono ?_; rintro e w1 ⟨cv, rfl, own, hb1⟩; obtain ⟨a9, c9, rfl⟩ := own_shapeJ own; have X1 : Hid (w1.heap[V.heap.size]? = some (.cells (pC (.slice none 0 0) fun _ => 0) 51) ∧ Below V.heap.size V w1 ∧ w1.ownsRow V.heap.size 5 1 (.slice a9 (peN E) c9) (peN E) (bytesL (peN E) (peC L key c))) := ⟨(by rw [hb1.block _ (by have := H.out.2.2; omega)]; exact H.out.1), H.out.2.1.trans (hb1.mono H.out.2.1.size), own_base own H.out.2.1.size⟩; clear own hb1)
      | (refine atStore 51 (.tmp 6) (.tmp 21) rfl ?_; go_must (refine wpList_exS rfl (execStAll (cells := pC (.slice a9 (peN E) c9) rp) rfl rfl rfl X1.out.1 (by rw [pC_size, pC_size]) (sizeP _ _) (pC_one _ rfl)) ?_)))
    refine bodyPost_ret (results_cell_tmp1 Tryz.results26 _ _ V.heap.size 51 _ (0, 0) _ rfl (setRow_heap _ _ _ _ _ _ X1.out.1) Tryz.underlying51 rfl (sizeP _ _)) rfl ⟨_, rfl, ownsRow_row X1.out.2.2 X1.out.1 (by decide) _, below4 X1.out.2.1 (Nat.le_refl _) _⟩
end Go.Proofs.YteekoabgbjbabaaGreatDoor.Oni

namespace Go.Proofs.YteekoabgbjbabaaGreatDoor.Oni
open Go.RowKit Gf8 Aes By8 Cel
/- What is wrapped is peeled; alive. -/

/-- An onion in its cell. -/
def cwF (key nonce : Nat → Nat) (L n : Nat) (inner : Nat → Nat) : Nat → Nat := cellF 0 headO (sz L) (wrF key nonce L n inner)
section
variable {key nonce inner : Nat → Nat} {L n : Nat}
theorem cw_in (j : Nat) (h : j < sz (L : Int)) : cwF key nonce L n inner j = wrF key nonce L n inner j := by
  unfold cwF cellF
  rw [if_neg (by omega), if_pos (by omega), Nat.sub_zero]
theorem cw_out (j : Nat) (h : sz (L : Int) ≤ j) : cwF key nonce L n inner j = 0 := by
  unfold cwF cellF
  rw [if_neg (by omega), if_neg (by omega)]
theorem wr_nonce (j : Nat) (h : j < 16) : wrF key nonce L n inner j = nonce j := by unfold wrF onB; rw [if_pos h]
theorem wr_tag (j : Nat) (h : j < 16) : wrF key nonce L n inner (16 + j) = tgF (dk key nonce) L nonce (bxF (dk key nonce) (pbF n inner)) (sz L - 32) j := by
  unfold wrF onB
  rw [if_neg (by omega), if_pos (by omega)]
  congr 1
  omega
theorem wr_box (j : Nat) : wrF key nonce L n inner (32 + j) = bxF (dk key nonce) (pbF n inner) j := by
  unfold wrF onB
  rw [if_neg (by omega), if_neg (by omega)]
  congr 1
  omega
theorem szL (hL : 1 ≤ L ∧ L ≤ 8) : sz (L : Int) = 48 + 34 * L := by unfold sz; rw [if_pos (by omega)]; simp
theorem cw_dk (hL : 1 ≤ L ∧ L ≤ 8) : dk key (cwF key nonce L n inner) = dk key nonce :=
  dk_congr (fun _ _ => rfl) fun i hi => by rw [cw_in i (by rw [szL hL]; omega), wr_nonce i hi]
theorem cw_cut (hL : 1 ≤ L ∧ L ≤ 8) (k : Int) (h : (sz (L : Int) : Int) ≤ k) (hk : k ≤ 320) : cutE (cwF key nonce L n inner) 320 k = 0 := by
  have _ := hL
  unfold cutE
  rw [if_neg (by simp), if_neg (by omega), if_pos]
  refine (zeroFrom_iff _ _).2 fun j h1 _ => cw_out j (by omega)
theorem cw_tag (hL : 1 ≤ L ∧ L ≤ 8) : peT key L (cwF key nonce L n inner) = true := by
  unfold peT
  rw [eqB_iff]
  intro j hj
  have s := szL hL
  show cwF key nonce L n inner (16 + j) = _
  rw [cw_in _ (by omega), wr_tag j hj, cw_dk hL, show (L : Int).toNat = L from by simp]
  refine congrFun (tgF_congr (fun i hi => ?_) fun i hi => ?_) j
  · rw [cw_in i (by omega), wr_nonce i hi]
  · show _ = cwF key nonce L n inner (32 + i)
    rw [cw_in _ (by omega), wr_box]
theorem cw_plain (hL : 1 ≤ L ∧ L ≤ 8) (j : Nat) (h : j < sz (L : Int) - 32) : peP key (cwF key nonce L n inner) j = pbF n inner j := by
  have s := szL hL
  unfold peP
  rw [cw_dk hL]
  unfold bxF maskF
  show cwF key nonce L n inner (32 + j) ^^^ _ = _
  rw [cw_in _ (by omega), wr_box]
  unfold bxF maskF
  rw [Nat.xor_assoc, Nat.xor_self, Nat.xor_zero]
theorem pb_n (hL : 1 ≤ L ∧ L ≤ 8) : inN (pbF n inner) = n := by
  have _ := hL
  unfold inN pbF cellF hd2
  simp
  omega
theorem cw_n (hL : 1 ≤ L ∧ L ≤ 8) : inN (peP key (cwF key nonce L n inner)) = n := by
  have s := szL hL
  unfold inN
  rw [cw_plain hL 0 (by omega), cw_plain hL 1 (by omega)]
  exact pb_n hL
theorem cw_ok (hL : 1 ≤ L ∧ L ≤ 8) (hn : n ≤ sz (L : Int) - 34) : inOk (sz (L : Int) - 32) (peP key (cwF key nonce L n inner)) = true := by
  have s := szL hL
  unfold inOk
  rw [cw_n hL, decide_eq_true (by omega), Bool.true_and]
  refine (zeroF_iff _ _ _).2 fun j h1 h2 => ?_
  rw [cw_plain hL j h2]
  unfold pbF cellF
  rw [if_neg (by omega), if_neg (by omega)]
theorem cw_inner (hL : 1 ≤ L ∧ L ≤ 8) (j : Nat) (hj : j < n) (hn : n ≤ sz (L : Int) - 34) : peP key (cwF key nonce L n inner) (2 + j) = inner j := by
  have s := szL hL
  rw [cw_plain hL _ (by omega)]
  unfold pbF cellF
  rw [if_neg (by omega), if_pos (by omega)]
  congr 1
  omega
theorem cw_e (hL : 1 ≤ L ∧ L ≤ 8) (hn : n ≤ sz (L : Int) - 34) : peE 32 L 320 key (cwF key nonce L n inner) = 0 := by
  have s := szL hL
  unfold peE
  rw [if_neg (by simp; omega), if_neg (by rw [cw_cut hL _ (by omega) (by omega)]; simp), if_neg (by rw [cw_tag hL]; simp), if_neg (by rw [cw_ok hL hn]; simp)]
theorem cw_c (hL : 1 ≤ L ∧ L ≤ 8) (hn : n ≤ sz (L : Int) - 34) : ∀ j, peC L key (cwF key nonce L n inner) j = nxF L n inner j := by
  intro j
  unfold peC nxF
  rw [cw_n hL]
  split
  · unfold cellF
    split
    · rfl
    · split
      · exact cw_inner hL _ (by omega) hn
      · rfl
  · unfold cellF
    split
    · rfl
    · split
      · exact cw_inner hL _ (by omega) hn
      · rfl
end
/-- The nonce of alive. -/
def oneF : Nat → Nat := fun j => if j = 0 then 1 else 0
end Go.Proofs.YteekoabgbjbabaaGreatDoor.Oni

namespace Go.Proofs.YteekoabgbjbabaaGreatDoor.Rou
open Go.RowKit Gf8 Aes By8 Cel Oni
/- Layer 8 (route) over Nat: chains. -/

/-- The length of what stands behind m layers. -/
def loN (n : Nat) : Nat → Nat
  | 0 => n
  | m + 1 => 48 + 34 * (m + 1)
/-- What stands behind m layers of a chain of h hops. -/
def loF (h : Nat) (key nonce : Nat → Nat → Nat) (n : Nat) (p : Nat → Nat) : Nat → Nat → Nat
  | 0 => p
  | m + 1 => wrF (key (h - (m + 1))) (nonce (h - (m + 1))) (m + 1) (loN n m) (loF h key nonce n p m)
def ksOk (h : Nat) (lk : Nat → Nat) : Bool := (List.range h).all fun i => lk i == 32
theorem ksOk_iff (h : Nat) (lk : Nat → Nat) : ksOk h lk = true ↔ ∀ i, i < h → lk i = 32 := by
  unfold ksOk
  simp [List.all_eq_true]
/-- What Wrap answers. -/
def rwE (h hn : Nat) (lk : Nat → Nat) (n : Nat) : Nat := if h < 1 ∨ 8 < h ∨ hn ≠ h then 80 else if ksOk h lk then (if 48 < n then 1 else 0) else 2
def rwN (h hn : Nat) (lk : Nat → Nat) (n : Nat) : Nat := if rwE h hn lk n = 0 then 320 else 0
def rwF (h : Nat) (key nonce : Nat → Nat → Nat) (n : Nat) (p : Nat → Nat) : Nat → Nat := cellF 0 headO (loN n h) (loF h key nonce n p h)
theorem rwE_ok {h hn : Nat} {lk : Nat → Nat} {n : Nat} (e : rwE h hn lk n = 0) : 1 ≤ h ∧ h ≤ 8 ∧ hn = h ∧ (∀ i, i < h → lk i = 32) ∧ n ≤ 48 := by
  unfold rwE at e
  split at e
  · omega
  · split at e
    · rename_i k
      split at e
      · omega
      · exact ⟨by omega, by omega, by omega, (ksOk_iff _ _).1 k, by omega⟩
    · omega
theorem rwE_is {h hn : Nat} {lk : Nat → Nat} {n : Nat} (h1 : 1 ≤ h) (h2 : h ≤ 8) (h3 : hn = h) (h4 : ∀ i, i < h → lk i = 32) (h5 : n ≤ 48) : rwE h hn lk n = 0 := by
  unfold rwE
  rw [if_neg (by omega), if_pos ((ksOk_iff _ _).2 h4), if_neg (by omega)]
theorem loN_sz (n : Nat) {m : Nat} (h1 : 1 ≤ m) (h2 : m ≤ 8) : loN n m = sz (m : Int) := by
  obtain ⟨k, rfl⟩ : ∃ k, m = k + 1 := ⟨m - 1, by omega⟩
  rw [szL (L := k + 1) (by omega)]
  rfl
theorem loN_room {n m : Nat} (hn : n ≤ 48) (h2 : m < 8) : loN n m ≤ sz ((m + 1 : Nat) : Int) - 34 := by
  rw [szL (L := m + 1) (by omega)]
  cases m with
  | zero => show n ≤ _; omega
  | succ k => show 48 + 34 * (k + 1) ≤ _; omega
theorem loN_le {n m : Nat} (hn : n ≤ 48) (h2 : m ≤ 8) : loN n m ≤ 320 := by
  cases m with
  | zero => show n ≤ _; omega
  | succ k => show 48 + 34 * (k + 1) ≤ _; omega
theorem lay_e {n m : Nat} (hn : n ≤ 48) (h2 : m < 8) : wrE 32 ((m + 1 : Nat) : Int) (loN n m) = 0 ∧ wrN 32 ((m + 1 : Nat) : Int) (loN n m) = loN n (m + 1) := by
  have hr := loN_room hn h2
  have hs := szL (L := m + 1) (by omega)
  have e : wrE 32 ((m + 1 : Nat) : Int) (loN n m) = 0 := by
    unfold wrE
    rw [if_neg (by rw [hs]; omega), if_neg (by omega)]
  exact ⟨e, by unfold wrN; rw [if_pos e, hs]; rfl⟩
/-- What Walk goes through. -/
def wkC (h : Nat) (key : Nat → Nat → Nat) (c : Nat → Nat) : Nat → Nat → Nat
  | 0 => c
  | i + 1 => peC ((h - i : Nat) : Int) (key i) (wkC h key c i)
def wkL (len : Nat) : Nat → Nat
  | 0 => len
  | _ + 1 => 320
def wkG (h : Nat) (key : Nat → Nat → Nat) (lk : Nat → Nat) (len : Nat) (c : Nat → Nat) : Nat → Nat
  | 0 => 0
  | i + 1 => if wkG h key lk len c i ≠ 0 then wkG h key lk len c i else peE (lk i) ((h - i : Nat) : Int) (wkL len i) (key i) (wkC h key c i)
theorem wkG_stop {h : Nat} {key : Nat → Nat → Nat} {lk : Nat → Nat} {len : Nat} {c : Nat → Nat} {i : Nat} (hi : wkG h key lk len c i ≠ 0) : ∀ {k}, i ≤ k → wkG h key lk len c k = wkG h key lk len c i := by
  intro k hk
  induction k with
  | zero => obtain rfl : i = 0 := by omega
            rfl
  | succ m ih =>
    by_cases e : i = m + 1
    · rw [e]
    · have h1 := ih (by omega)
      show (if wkG h key lk len c m ≠ 0 then wkG h key lk len c m else _) = _
      rw [if_pos (by rw [h1]; exact hi), h1]
theorem wkG_on {h : Nat} {key : Nat → Nat → Nat} {lk : Nat → Nat} {len : Nat} {c : Nat → Nat} {i : Nat} (h0 : wkG h key lk len c i = 0) : wkG h key lk len c (i + 1) = peE (lk i) ((h - i : Nat) : Int) (wkL len i) (key i) (wkC h key c i) := by
  show (if wkG h key lk len c i ≠ 0 then _ else _) = _
  rw [if_neg (by rw [h0]; simp)]
/-- The cell behind m layers. -/
def ceF (h : Nat) (key nonce : Nat → Nat → Nat) (n : Nat) (p : Nat → Nat) (m : Nat) : Nat → Nat := if m = 0 then cellF 2 (headP n) n p else cellF 0 headO (loN n m) (loF h key nonce n p m)
theorem rw_ce {h : Nat} {key nonce : Nat → Nat → Nat} {n : Nat} {p : Nat → Nat} (h1 : 1 ≤ h) : rwF h key nonce n p = ceF h key nonce n p h := by
  unfold ceF rwF
  rw [if_neg (by omega)]
theorem ce_cw {h : Nat} {key nonce : Nat → Nat → Nat} {n : Nat} {p : Nat → Nat} {m : Nat} (h2 : m < 8) : ceF h key nonce n p (m + 1) = cwF (key (h - (m + 1))) (nonce (h - (m + 1))) (m + 1) (loN n m) (loF h key nonce n p m) := by
  unfold ceF cwF
  rw [if_neg (by omega), loN_sz n (by omega) (by omega)]
  rfl
/-- One hop peels one layer. -/
theorem ce_peel {h : Nat} {key nonce : Nat → Nat → Nat} {n : Nat} {p : Nat → Nat} {m : Nat} (hn : n ≤ 48) (h2 : m < 8) :
    peE 32 ((m + 1 : Nat) : Int) 320 (key (h - (m + 1))) (ceF h key nonce n p (m + 1)) = 0 ∧ peC ((m + 1 : Nat) : Int) (key (h - (m + 1))) (ceF h key nonce n p (m + 1)) = ceF h key nonce n p m := by
  have hr := loN_room hn h2
  have hL : 1 ≤ m + 1 ∧ m + 1 ≤ 8 := by omega
  rw [ce_cw h2]
  refine ⟨cw_e (L := m + 1) hL hr, ?_⟩
  funext j
  rw [cw_c (L := m + 1) hL hr j]
  unfold Oni.nxF ceF
  by_cases h0 : m = 0
  · subst h0
    rw [if_neg (by omega), if_pos rfl]
    rfl
  · rw [if_pos (by omega), if_neg h0]
theorem ce_walk {h : Nat} {key nonce : Nat → Nat → Nat} {n : Nat} {p : Nat → Nat} {lk : Nat → Nat} (hn : n ≤ 48) (h8 : h ≤ 8) (hk : ∀ i, i < h → lk i = 32) : ∀ i, i ≤ h → wkC h key (ceF h key nonce n p h) i = ceF h key nonce n p (h - i) ∧ wkG h key lk 320 (ceF h key nonce n p h) i = 0
  | 0, _ => ⟨rfl, rfl⟩
  | i + 1, hi => by
    obtain ⟨e1, e2⟩ := ce_walk hn h8 hk i (by omega)
    have hp := ce_peel (h := h) (key := key) (nonce := nonce) (n := n) (p := p) (m := h - (i + 1)) hn (by omega)
    have e3 : h - (i + 1) + 1 = h - i := by omega
    have e4 : h - (h - i) = i := by omega
    rw [e3, e4] at hp
    refine ⟨?_, ?_⟩
    · show peC ((h - i : Nat) : Int) (key i) (wkC h key _ i) = _
      rw [e1]
      exact hp.2
    · rw [wkG_on e2, e1, hk i (by omega), show wkL 320 i = 320 by cases i <;> rfl]
      exact hp.1
end Go.Proofs.YteekoabgbjbabaaGreatDoor.Rou
