import Derived.Test.YtfhldpdnoaoohaaDoorX6g
namespace Go.Proofs.YtfhldpdnoaoohaaDoor.Oni
open Go.RowKit Gf8 Aes By8 Cel
/- OnionOne: the body. -/

theorem nonce_row (c : Nat → Nat) : bA 16 (spl (fun _ => 0) 0 16 c) = bA 16 c := bA_congr fun j hj => by unfold spl; rw [if_pos (by omega), Nat.sub_zero]
set_option maxRecDepth 20000 in
set_option maxHeartbeats 2000000 in
theorem one_any (key c : Nat → Nat) (lk len : Nat) (left : Int) (vk vc : Value) (V : World) (hG : Glob V) (hk : SliceN V vk lk key) (hc : SliceZ V vc len c) (hb : len ≤ 140737488351232) :
    Calls Tryd.prog 7 #[vk, .int .i64 left, vc] V fun e w' => e = .returned (.bool true) ∧ Below V.heap.size V w' := by
  have A := alive_any V hG
  obtain ⟨E, hE⟩ : ∃ E, peE lk left len key c = E := ⟨_, rfl⟩
  obtain ⟨rp, hrp⟩ : ∃ rp, peR E key c = rp := ⟨_, rfl⟩
  obtain ⟨M, hM⟩ : ∃ M, peN E = M := ⟨_, rfl⟩
  obtain ⟨pc, hpc⟩ : ∃ pc, peC left key c = pc := ⟨_, rfl⟩
  have PE : Hid (∀ W, Below V.heap.size V W → Calls Tryd.prog 16 #[vk, .int .i64 left, vc] W fun e w' => ∃ cv, e = .returned (.tuple #[.agg (pC cv rp), .int .i64 (E : Int)]) ∧ w'.ownsRow W.heap.size 5 1 cv M (bytesL M pc) ∧ Below W.heap.size W w') := fun W hW => by
    have h := peel_any key c lk len left vk vc W (hG.below hW hG.sz) (hk.on hW) (hc.on hW) hb
    rw [hE, hrp, hM, hpc] at h
    exact h
  have HV : Hid (Glob V ∧ SliceN V vk lk key ∧ SliceZ V vc len c) := ⟨hG, hk, hc⟩
  have zp := zeroP
  obtain ⟨ca, ccap, rfl⟩ := hc.shape
  have l1 : (len : Int) ≤ 140737488351232 := by omega
  by_cases hE0 : E = 0
  · obtain ⟨rfl, g1, g2, rfl, hz, ht, hok⟩ := pe_parts (hE.trans hE0)
    obtain ⟨L, rfl⟩ : ∃ L : Nat, left = L := ⟨left.toNat, by omega⟩
    have hL : 1 ≤ L ∧ L ≤ 8 := by omega
    have s := szL hL
    obtain ⟨S, hS⟩ : ∃ S, sz (L : Int) = S := ⟨_, rfl⟩
    have HC := one_cells (hE.trans hE0) hc.sl.bytes
    obtain ⟨pl, hpl⟩ : ∃ pl, peP key c = pl := ⟨_, rfl⟩
    obtain ⟨n, hn⟩ : ∃ n, inN pl = n := ⟨_, rfl⟩
    obtain ⟨inn, hinn⟩ : ∃ inn : Nat → Nat, (fun i => pl (2 + i)) = inn := ⟨_, rfl⟩
    rw [hpl, hn, hinn] at HC
    rw [hpl, hS] at hok
    rw [hS] at s
    obtain ⟨N, hN⟩ : ∃ N, N = S - 32 := ⟨_, rfl⟩
    rw [← hN] at hok
    have hnN : n ≤ N - 2 := by
      unfold inOk at hok
      rw [Bool.and_eq_true, hn] at hok
      exact of_decide_eq_true hok.1
    have plb : ∀ j, j < N → pl j < 256 := fun j hj => by rw [← hpl]; exact peP_lt (hc.sl.bytes _ (by omega))
    have innb : ∀ j, j < n → inn j < 256 := fun j hj => by rw [← hinn]; exact plb _ (by omega)
    obtain ⟨D, hD⟩ : ∃ D, dk key c = D := ⟨_, rfl⟩
    obtain ⟨on, hon⟩ : ∃ on, wrF key c L n inn = on := ⟨_, rfl⟩
    obtain ⟨nx, hnx⟩ : ∃ nx, nxF (L : Int) n inn = nx := ⟨_, rfl⟩
    have epc : pc = nx := by rw [← hpc, ← hnx]; unfold peC; rw [hpl, hn, hinn]
    have hM0 : M = 320 := by rw [← hM]; exact if_pos hE0
    have By' : By c := fun j hj => hc.sl.bytes j (by omega)
    have onb : ∀ j, on j < 256 := by rw [← hon]; exact wrF_lt By' (by omega) innb
    have nxb : ∀ j, nx j < 256 := by rw [← hnx]; exact nxF_lt (fun q => by omega) innb
    have PD : Hid (∀ W, Below V.heap.size V W → Calls Tryd.prog 11 #[vk, .agg (bA 16 c)] W fun e w' => e = .returned (.tuple #[.agg (bA 80 D), .int .i64 0]) ∧ Below W.heap.size W w') := fun W hW => by
      have h := pder_ok key c vk W (HV.out.1.below hW HV.out.1.sz) By' (HV.out.2.1.on hW)
      rw [hD] at h
      exact h
    have MK : Hid (∀ W (v : Value), SliceN W v N (fun j => c (32 + j)) → Calls Tryd.prog 19 #[.agg (bA 16 fun j => D (0 + j)), .agg (bA 16 fun _ => 0), v] W fun e w' => ∃ r, e = .returned r ∧ w'.ownsRow W.heap.size 5 1 r N (bytesL N pl) ∧ Below W.heap.size W w') := fun W v hv => by
      have e1 : (fun j => D (0 + j)) = D := by funext j; rw [Nat.zero_add]
      rw [be0, e1]
      have h := pMask_any D (fun j => c (32 + j)) 0 N v W (fun j _ => by rw [← hD]; exact dk_lt _ _ _) hv (by omega)
      rw [show maskF (kw D) 0 (fun j => c (32 + j)) = pl from by rw [← hpl, ← hD]; rfl] at h
      exact h
    have WR : Hid (∀ W (v : Value), Below V.heap.size V W → SliceN W v n inn → Calls Tryd.prog 14 #[vk, .agg (bA 16 c), .int .i64 (L : Int), v] W fun e w' => ∃ r, e = .returned (.tuple #[r, .int .i64 0]) ∧ w'.ownsRow W.heap.size 5 1 r S (bytesL S on) ∧ Below W.heap.size W w') := fun W v hW hv => by
      have h := wrap_any key c inn 32 n (L : Int) vk v W (HV.out.1.below hW HV.out.1.sz) (HV.out.2.1.on hW) By' hv (by omega)
      have eE : wrE 32 (L : Int) n = 0 := by unfold wrE; rw [if_neg (by rw [hS]; simp; omega), if_neg (by rw [hS]; omega)]
      have eN : wrN 32 (L : Int) n = S := by unfold wrN; rw [if_pos eE, hS]
      rw [eE, eN, show (L : Int).toNat = L from by simp, hon] at h
      exact h
    have PDo : Hid (∀ W (v : Value), SliceZ W v S on → Calls Tryd.prog 15 #[v] W fun e w' => ∃ r, e = .returned (.tuple #[r, .int .i64 0]) ∧ SliceN w' r 320 c ∧ Below W.heap.size W w') := fun W v hv => by
      refine (pad_any on S v W hv (by omega)).mono ?_
      rw [show okE 320 S = 0 from if_pos (by omega), show okN 320 S = 320 from if_pos (by omega)]
      rintro e w' ⟨r, rfl, own, hb⟩
      refine ⟨r, rfl, sliceN_cg (own_slice own fun j _ => cellF_lt (fun j h => by omega) (fun j _ => onb j) j) fun j hj => ?_, hb⟩
      rw [← HC j hj, ← hon, ← hS]
      rfl
    have PDi : Hid (∀ W (v : Value), SliceZ W v n inn → Calls Tryd.prog 15 #[v] W fun e w' => ∃ r, e = .returned (.tuple #[r, .int .i64 0]) ∧ (L ≠ 1 → SliceN w' r 320 nx) ∧ (∃ a c, r = .slice a 320 c) ∧ Below W.heap.size W w') := fun W v hv => by
      refine (pad_any inn n v W hv (by omega)).mono ?_
      rw [show okE 320 n = 0 from if_pos (by omega), show okN 320 n = 320 from if_pos (by omega)]
      rintro e w' ⟨r, rfl, own, hb⟩
      refine ⟨r, rfl, fun h => ?_, own_shapeJ own, hb⟩
      have e1 : nx = cellF 0 headO n inn := by rw [← hnx]; exact if_pos (by omega)
      rw [← e1] at own
      exact own_slice own fun j _ => nxb j
    have PL : Hid (L = 1 → ∀ W (v : Value), SliceZ W v n inn → Calls Tryd.prog 17 #[v] W fun e w' => ∃ r, e = .returned (.tuple #[r, .int .i64 0]) ∧ SliceN w' r 320 nx ∧ Below W.heap.size W w') := fun h1 W v hv => by
      refine (plain_any inn n v W hv (by omega)).mono ?_
      rw [show okE 48 n = 0 from if_pos (by omega), show okN 48 n = 320 from if_pos (by omega)]
      rintro e w' ⟨r, rfl, own, hb⟩
      have e1 : nx = cellF 2 (headP n) n inn := by rw [← hnx]; exact if_neg (by omega)
      rw [← e1] at own
      exact ⟨r, rfl, own_slice own fun j _ => nxb j, hb⟩
    have PS := psize_any (L : Int)
    rw [hS] at PS
    have HN : Hid (S = 32 + N ∧ 50 ≤ N ∧ N ≤ 288 ∧ n ≤ N - 2 ∧ 1 ≤ L ∧ L ≤ 8 ∧ By c ∧ (∀ j, j < N → pl j < 256) ∧ inN pl = n ∧ (∀ j, pl (2 + j) = inn j) ∧ (∀ j, on j < 256) ∧ (∀ j, nx j < 256) ∧ pc = nx ∧ M = 320) := ⟨by omega, by omega, by omega, hnN, hL.1, hL.2, By', plb, hn, fun j => by rw [← hinn], onb, nxb, epc, hM0⟩
    have zk := zeroK
    have z16 := zero16
    have s16 := sl16
    have i1 : ¬ (L : Int) < 1 := by omega
    have i2 : ¬ (L : Int) > 8 := by omega
    have i3 : ¬ (S : Int) < 82 := by omega
    have i4 : ¬ (S : Int) > 320 := by omega
    have i5 : (S : Int) ≤ 320 := by omega
    subst hE0
    clear hG hk hc hb hrp hM hpc g1 g2 hz ht hok hL s HC hpl hn hinn hN hnN plb innb hD hon hnx epc hM0 By' onb nxb hS l1 hE
    go_enter Tryd.func7, Tryd.ntmps7
    go_wp2_with (first
      | (go_at_call 8; refine A.mono ?_; rintro e w1 ⟨rfl, hb1⟩; have B1 : Hid (Below V.heap.size V w1) := hb1; clear hb1)
      | (go_at_call 16; refine (PE.out w1 B1.out).mono ?_; rintro e w2 ⟨cv, rfl, own2, hb2⟩; rw [HN.out.2.2.2.2.2.2.2.2.2.2.2.2.1, HN.out.2.2.2.2.2.2.2.2.2.2.2.2.2] at own2; obtain ⟨a2, c2, rfl⟩ := own_shapeJ own2; have B2 : Hid (Below V.heap.size V w2 ∧ SliceN w2 (.slice a2 320 c2) 320 nx) := ⟨B1.out.trans (hb2.mono B1.out.size), own_slice own2 (fun j _ => HN.out.2.2.2.2.2.2.2.2.2.2.2.1 j)⟩; clear own2 hb2)
      | (refine atStore 44 (.tmp 7) (.tmp 29) rfl ?_; go_must (refine wpList_exS rfl (execStAll (cells := pC (.slice a2 320 c2) rp) rfl rfl rfl (heapNew w2 _) (by rw [pC_size, pC_size]) (sizeP _ _) (pC_one _ rfl)) ?_; obtain ⟨W3, hW3⟩ : ∃ W3, (w2.alloc (.cells (pC (.slice none 0 0) fun _ => 0) 44)).setRow w2.heap.size (pC (.slice a2 320 c2) rp) = W3 := ⟨_, rfl⟩; have r3 : W3.heap[w2.heap.size]? = some (.cells (pC (.slice a2 320 c2) rp) 44) := (by rw [← hW3]; exact setRow_heap _ _ _ _ _ _ (heapNew w2 _)); have b3 : Below w2.heap.size w2 W3 := (by rw [← hW3]; exact below4 (belNew w2 _) (Nat.le_refl _) _); have b03 := B2.out.1.trans (b3.mono B2.out.1.size); obtain ⟨W4, hW4⟩ : ∃ W4, W3.alloc (.cells (bA 16 fun _ => 0) 25) = W4 := ⟨_, rfl⟩; have r4 := heapNew W3 (.cells (bA 16 fun _ => 0) 25); have b4 := belNew W3 (.cells (bA 16 fun _ => 0) 25); rw [hW4] at r4 b4; obtain ⟨W5, hW5⟩ : ∃ W5, W4.setRow W3.heap.size (bA 16 c) = W5 := ⟨_, rfl⟩; have r5 := setRow_heap _ _ _ (bA 16 c) _ _ r4; have b5 := below4 b4 (Nat.le_refl _) (bA 16 c); rw [hW5] at r5 b5; have b05 := b03.trans (b5.mono b03.size); have S5 : Hid (W5.heap[W3.heap.size]? = some (.cells (bA 16 c) 25) ∧ W5.heap[w2.heap.size]? = some (.cells (pC (.slice a2 320 c2) rp) 44) ∧ SliceN W5 (.slice a2 320 c2) 320 nx ∧ Below V.heap.size V W5) := ⟨r5, (by rw [b5.block _ (Array.getElem?_eq_some_iff.1 r3).1]; exact r3), (B2.out.2.on b3).on b5, b05⟩; have S4 : Hid (W4.heap[W3.heap.size]? = some (.cells (bA 16 fun _ => 0) 25) ∧ Below V.heap.size V W4) := ⟨r4, b03.trans (b4.mono b03.size)⟩; rw [hW3]; clear r3 b3 b03 r4 b4 r5 b5 b05 hW3))
      | (refine wpList_ex (v := .int .i64 16) rfl (execCopyN (x := .tmp 54) (y := .tmp 55) (n := 16) (off := 0) rfl rfl rfl (HV.out.2.2.sl.on S4.out.2) S4.out.1 (by omega) (by omega) (by omega)) ?_; rw [nonce_row, hW5])
      | (refine atLoad 25 (.tmp 9) rfl ?_; go_must (refine wpList_ex rfl (execLdAll rfl rfl S5.out.1 Tryd.underlying25 rfl (size16 _)) ?_))
      | (go_at_call 11; refine (PD.out W5 S5.out.2.2.2).mono ?_; rintro e w6 ⟨rfl, hb6⟩; have B6 : Hid (Below W5.heap.size W5 w6) := hb6; clear hb6)
      | (refine atStore 28 (.tmp 10) (.tmp 61) rfl ?_; go_must (refine wpList_exS rfl (execStAll (cells := bA 80 D) rfl rfl rfl (heapNew w6 _) (by rw [bA_size, bA_size]) (size80 _) (bA_one _ _)) ?_; obtain ⟨W7, hW7⟩ : ∃ W7, (w6.alloc (.cells (bA 80 fun _ => 0) 28)).setRow w6.heap.size (bA 80 D) = W7 := ⟨_, rfl⟩; have k7 : W7.heap[w6.heap.size]? = some (.cells (bA 80 D) 28) := (by rw [← hW7]; exact setRow_heap _ _ _ _ _ _ (heapNew w6 _)); have b7 : Below w6.heap.size w6 W7 := (by rw [← hW7]; exact below4 (belNew w6 _) (Nat.le_refl _) _); have b57 := B6.out.trans (b7.mono B6.out.size); have S7 : Hid (W7.heap[w6.heap.size]? = some (.cells (bA 80 D) 28) ∧ W7.heap[W3.heap.size]? = some (.cells (bA 16 c) 25) ∧ W7.heap[w2.heap.size]? = some (.cells (pC (.slice a2 320 c2) rp) 44) ∧ SliceN W7 (.slice a2 320 c2) 320 nx ∧ Below V.heap.size V W7) := ⟨k7, (by rw [b57.block _ (Array.getElem?_eq_some_iff.1 S5.out.1).1]; exact S5.out.1), (by rw [b57.block _ (Array.getElem?_eq_some_iff.1 S5.out.2.1).1]; exact S5.out.2.1), S5.out.2.2.1.on b57, S5.out.2.2.2.trans (b57.mono S5.out.2.2.2.size)⟩; rw [hW7]; clear k7 b7 b57 hW7))
      | (go_at_call 9; refine (PS _).mono ?_; rintro e w8 ⟨rfl, hw8⟩; rw [hw8]; clear hw8))
    obtain ⟨b, off, cap', ecv, hc1, hc2, hcc⟩ := cell_at HV.out.2.2.sl (by omega)
    injection ecv with e1 _ e2
    subst e1 e2
    have sb := partN (takeN HV.out.2.2.sl (n := S) (by have := HN.out; omega)) (k := 32) (by have := HN.out; omega)
    rw [show S - 32 = N by have := HN.out; omega] at sb
    have SB : Hid (SliceN V (.slice (some ⟨b, off + 32, none⟩) N (ccap - 32)) N (fun j => c (32 + j)) ∧ 320 ≤ ccap) := ⟨sb, hc1⟩
    have gS : Hid (∀ W, (Instr.sliceAt 24 (.slice (some ⟨b, off, none⟩) 320 ccap) (some (.int .i64 32)) (some (.int .i64 (S : Int))) none).run Tryd.prog W = .ok (.slice (some ⟨b, off + 32, none⟩) N (ccap - 32)) W) := fun W => by
      have h := By8.slice_lh (some ⟨b, off, none⟩) 320 ccap 32 S (by have := HN.out; omega) (by have := HN.out; omega) W
      have e : sliced (some ⟨b, off, none⟩) 32 S ccap 1 = .slice (some ⟨b, off + 32, none⟩) N (ccap - 32) := by
        unfold sliced
        rw [if_neg (by omega), show S - 32 = N by have := HN.out; omega]
        simp [Addr.add_mid]
      rw [e] at h
      exact h
    clear sb hc1 hc2 hcc
    refine wp_region_detX 155 [(0, 75), (1, 76), (2, 77), (3, 78), (4, 79), (5, 80), (6, 81), (7, 13)] (oxT w6.heap.size D pl (.slice (some ⟨b, off, none⟩) 320 ccap) (.slice (some ⟨b, off + 32, none⟩) N (ccap - 32)) S N W7) (fun _ => undef) (by kernel_rfl) (by kernel_rfl) rfl (by kernel_rfl) (by decide) (by decide) ?_ ?_ ?_
    · exact ⟨fun q => (by cases q), fun q => (by cases q), fun q => (by cases q), fun q => (by cases q), fun q => (by cases q), fun q => (by cases q), fun q => (by cases q), fun q => (by cases q), (Below.refl _ _).drew⟩
    · intro j hj l x a W hl hf hdep hl2 hcl _ hT
      obtain ⟨t0, t1, t2, t3, t4, t5, t6, t7, tb⟩ := hT
      have n7 : l 6 = false → l 7 = false := fun q => by
        cases h : l 7 with
        | false => rfl
        | true =>
          have := hcl 7 _ rfl h 6 rfl
          rw [q] at this
          cases this
      match j, hj with
      | 0, _ => exact stepV rfl rfl (execFldK0 rfl (hf 10 (by decide))) ⟨_, ⟨_, rfl, rfl⟩, fun _ => rfl, t1, t2, t3, t4, t5, t6, t7, tb⟩
      | 1, _ => exact stepV rfl rfl (execLdPart (k := 16) rfl ((hdep _ rfl 0 rfl _ rfl _ rfl).trans (t0 (hl2 _ rfl 0 rfl))) (by rw [tb.block _ (Array.getElem?_eq_some_iff.1 S7.out.1).1]; exact S7.out.1) (by omega) Tryd.underlying25 rfl (by kernel_rfl)) ⟨_, ⟨_, rfl, rfl⟩, t0, fun _ => rfl, t2, t3, t4, t5, t6, t7, tb⟩
      | 2, _ => exact stepV rfl rfl (execB16 rfl) ⟨_, ⟨_, rfl, rfl⟩, t0, t1, fun _ => rfl, t3, t4, t5, t6, t7, tb⟩
      | 3, _ => exact stepV rfl rfl (execMvB rfl (hf 2 (by decide))) ⟨_, ⟨_, rfl, rfl⟩, t0, t1, t2, fun _ => rfl, t4, t5, t6, t7, tb⟩
      | 4, _ => exact stepV rfl rfl (execMvB rfl (hf 12 (by decide))) ⟨_, ⟨_, rfl, rfl⟩, t0, t1, t2, t3, fun _ => rfl, t5, t6, t7, tb⟩
      | 5, _ => exact stepV rfl rfl (By8.execSlLH rfl ((hdep _ rfl 3 rfl _ rfl _ rfl).trans (t3 (hl2 _ rfl 3 rfl))) rfl ((hdep _ rfl 4 rfl _ rfl _ rfl).trans (t4 (hl2 _ rfl 4 rfl))) (gS.out W)) ⟨_, ⟨_, rfl, rfl⟩, t0, t1, t2, t3, t4, fun _ => rfl, t6, t7, tb⟩
      | 6, _ =>
        refine stepC rfl rfl (execCall3 Tryd.func19 (by kernel_rfl) (by kernel_rfl) rfl ((hdep _ rfl 1 rfl _ rfl _ rfl).trans (t1 (hl2 _ rfl 1 rfl))) ((hdep _ rfl 2 rfl _ rfl _ rfl).trans (t2 (hl2 _ rfl 2 rfl))) ((hdep _ rfl 5 rfl _ rfl _ rfl).trans (t5 (hl2 _ rfl 5 rfl)))) (MK.out W _ (SB.out.1.on (S7.out.2.2.2.2.trans (tb.mono S7.out.2.2.2.2.size)))) fun e w' h => ?_
        obtain ⟨r, e1, own, bw⟩ := h
        refine ⟨_, e1, _, ⟨_, rfl, rfl⟩, t0, t1, t2, t3, t4, t5, fun _ => own_base own tb.size, fun q => ?_, tb.trans (bw.mono tb.size)⟩
        have q' : l 7 = true := q
        rw [n7 hl] at q'; cases q'
      | 7, _ => exact stepV rfl rfl (execAsgB rfl (hdep _ rfl 6 rfl _ rfl _ rfl)) ⟨_, ⟨_, rfl, rfl⟩, t0, t1, t2, t3, t4, t5, t6, fun _ => rfl, tb⟩
      | n + 8, h => exact absurd h (by simp)
    · intro l x W hall hT
      obtain ⟨t0, t1, t2, t3, t4, t5, t6, t7, tb⟩ := hT
      have e0 := t0 (hall 0 (by simp))
      have e1 := t1 (hall 1 (by simp))
      have e2 := t2 (hall 2 (by simp))
      have e3 := t3 (hall 3 (by simp))
      have e4 := t4 (hall 4 (by simp))
      have e5 := t5 (hall 5 (by simp))
      have e7 := t7 (hall 7 (by simp))
      have own := t6 (hall 6 (by simp))
      obtain ⟨bv, hbv⟩ : ∃ bv, x 6 = bv := ⟨_, rfl⟩
      rw [hbv] at own e7
      obtain ⟨g, gc, rfl, hgB, hgc, hgcell⟩ := own_cells own (by have := HN.out; omega)
      have SW : Hid (SliceN W (.slice (some ⟨g, 0, none⟩) N gc) N pl ∧ W.heap[W3.heap.size]? = some (.cells (bA 16 c) 25) ∧ W.heap[w2.heap.size]? = some (.cells (pC (.slice a2 320 c2) rp) 44) ∧ SliceN W (.slice a2 320 c2) 320 nx ∧ Below V.heap.size V W ∧ g < W.heap.size ∧ N ≤ gc ∧ ∀ j, j < N → W.cell? ⟨g, j, none⟩ = some (.int .u8 (pl j))) := ⟨own_slice own HN.out.2.2.2.2.2.2.2.1, by rw [tb.block _ (Array.getElem?_eq_some_iff.1 S7.out.2.1).1]; exact S7.out.2.1, by rw [tb.block _ (Array.getElem?_eq_some_iff.1 S7.out.2.2.1).1]; exact S7.out.2.2.1, S7.out.2.2.2.1.on tb, S7.out.2.2.2.2.trans (tb.mono S7.out.2.2.2.2.size), (own.lt g rfl).2, hgc, hgcell⟩
      have i7 : (((N : Int)) != (S : Int) - 32) = false := by have := HN.out; simp; omega
      have i8 : (N : Int) ≤ 288 := by have := HN.out; omega
      clear hall t0 t1 t2 t3 t4 t5 t6 t7 own tb hgB hgc hgcell
      simp only [putP, e0, e1, e2, e3, e4, e5, e7, hbv, Act.put, List.setIfInBounds_toArray, List.set_cons_succ, List.set_cons_zero]
      clear e0 e1 e2 e3 e4 e5 e7 hbv
      go_wp2_with fail
      obtain ⟨p0, h0⟩ : ∃ p0, pl 0 = p0 := ⟨_, rfl⟩
      obtain ⟨p1, h1⟩ : ∃ p1, pl 1 = p1 := ⟨_, rfl⟩
      have CC : Hid (W.cell? ⟨g, 0 + 0, none⟩ = some (.int .u8 p0) ∧ W.cell? ⟨g, 0 + 1, none⟩ = some (.int .u8 p1) ∧ p0 < 256 ∧ p1 < 256 ∧ 256 * p0 + p1 = n) := by
        have hN := HN.out
        refine ⟨?_, ?_, ?_, ?_, ?_⟩
        · have := SW.out.2.2.2.2.2.2.2 0 (by omega)
          rw [h0] at this
          exact this
        · have := SW.out.2.2.2.2.2.2.2 1 (by omega)
          rw [h1] at this
          exact this
        · rw [← h0]; exact hN.2.2.2.2.2.2.2.1 0 (by omega)
        · rw [← h1]; exact hN.2.2.2.2.2.2.2.1 1 (by omega)
        · have := hN.2.2.2.2.2.2.2.2.1
          unfold inN at this
          rw [h0, h1] at this
          omega
      clear h0 h1
      refine wp_region_det 155 [(0, 87), (1, 88), (2, 89), (3, 90), (4, 91), (5, 92), (6, 93), (7, 94), (8, 95), (9, 96), (10, 14)] (onV (.slice (some ⟨g, 0, none⟩) N gc) g 0 p0 p1 n) (fun _ X => Below W.heap.size W X) (by kernel_rfl) (by kernel_rfl) rfl (by kernel_rfl) (by decide) (by decide) ?_ ?_ ?_
      · exact (Below.refl _ _).drew
      · intro j hj l a X hl hf hdep hl2 hcl _ hT
        obtain ⟨k0, k1, y0, y1, yn⟩ := CC.out
        have hg := SW.out.2.2.2.2.2.1
        match j, hj with
        | 0, _ => exact stepV rfl rfl (execMvB rfl (hf 13 (by decide))) ⟨⟨_, rfl, rfl⟩, hT⟩
        | 1, _ => exact stepV rfl rfl (execIdxS (k := 0) rfl (hdep _ rfl 0 rfl _ rfl _ rfl) rfl (by have := HN.out; omega)) ⟨⟨_, rfl, rfl⟩, hT⟩
        | 2, _ => exact stepV rfl rfl (execLdB rfl (hdep _ rfl 1 rfl _ rfl _ rfl) ((cell_below hT hg).trans k0)) ⟨⟨_, rfl, rfl⟩, hT⟩
        | 3, _ => exact stepV rfl rfl (execU8I rfl (hdep _ rfl 2 rfl _ rfl _ rfl) y0) ⟨⟨_, rfl, rfl⟩, hT⟩
        | 4, _ => exact stepV rfl rfl (execMul256 rfl (hdep _ rfl 3 rfl _ rfl _ rfl) y0) ⟨⟨_, rfl, rfl⟩, hT⟩
        | 5, _ => exact stepV rfl rfl (execMvB rfl (hf 13 (by decide))) ⟨⟨_, rfl, rfl⟩, hT⟩
        | 6, _ => exact stepV rfl rfl (execIdxS (k := 1) rfl (hdep _ rfl 5 rfl _ rfl _ rfl) rfl (by have := HN.out; omega)) ⟨⟨_, rfl, rfl⟩, hT⟩
        | 7, _ => exact stepV rfl rfl (execLdB rfl (hdep _ rfl 6 rfl _ rfl _ rfl) ((cell_below hT hg).trans k1)) ⟨⟨_, rfl, rfl⟩, hT⟩
        | 8, _ => exact stepV rfl rfl (execU8I rfl (hdep _ rfl 7 rfl _ rfl _ rfl) y1) ⟨⟨_, rfl, rfl⟩, hT⟩
        | 9, _ =>
          refine stepV rfl rfl (execAddI rfl (hdep _ rfl 4 rfl _ rfl _ rfl) (hdep _ rfl 8 rfl _ rfl _ rfl) (by omega) (by omega)) ⟨⟨_, rfl, ?_⟩, hT⟩
          show _ = _
          simp only [onV]
          rw [yn]
        | 10, _ => exact stepV rfl rfl (execAsgB rfl (hdep _ rfl 9 rfl _ rfl _ rfl)) ⟨⟨_, rfl, rfl⟩, hT⟩
        | n + 11, h => exact absurd h (by simp)
      · intro l X hall hT
        obtain ⟨ad2, ea2⟩ := cut_shape g 0 gc 2 (2 + n)
        have sub2 := SW.out.1.sub 2 (2 + n) (by omega) (by have := HN.out; omega)
        rw [ea2, show 2 + n - 2 = n by omega] at sub2
        have gH : ∀ W, (Instr.sliceAt 24 (.slice (some ⟨g, 0, none⟩) N gc) (some (.int .i64 2)) (some (.int .i64 (2 + (n : Int)))) none).run Tryd.prog W = .ok (.slice (some ad2) n (gc - 2)) W := fun W => by
          have := By8.slice_lh (some ⟨g, 0, none⟩) N gc 2 (2 + n) (by omega) (by have := HN.out; have := SW.out.2.2.2.2.2.2.1; omega) W
          rw [ea2, show 2 + n - 2 = n by omega, show ((2 + n : Nat) : Int) = 2 + (n : Int) from by omega] at this
          exact this
        have XX : Hid (SliceZ X (.slice (some ad2) n (gc - 2)) n inn ∧ X.heap[W3.heap.size]? = some (.cells (bA 16 c) 25) ∧ X.heap[w2.heap.size]? = some (.cells (pC (.slice a2 320 c2) rp) 44) ∧ SliceN X (.slice a2 320 c2) 320 nx ∧ Below V.heap.size V X) := ⟨⟨sliceN_cg (sub2.on hT) fun j _ => HN.out.2.2.2.2.2.2.2.2.2.1 j, fun l c e => by cases e⟩, by rw [hT.block _ (Array.getElem?_eq_some_iff.1 SW.out.2.1).1]; exact SW.out.2.1, by rw [hT.block _ (Array.getElem?_eq_some_iff.1 SW.out.2.2.1).1]; exact SW.out.2.2.1, SW.out.2.2.2.1.on hT, SW.out.2.2.2.2.1.trans (hT.mono SW.out.2.2.2.2.1.size)⟩
        have i9 : ¬ (n : Int) > (S : Int) - 34 := by have := HN.out; omega
        have i10 : (n : Int) ≤ 286 := by have := HN.out; omega
        clear hall hT sub2 ea2
        simp only [putP, onV, Act.put, List.setIfInBounds_toArray, List.set_cons_succ, List.set_cons_zero]
        by_cases h1 : L = 1
        · have i11 : ((L : Int) == 1) = true := by simp; omega
          have PL1 : Hid (_) := PL.out h1
          clear h1
          go_wp2_with (first
            | (refine atLoad 25 (.tmp 9) rfl ?_; go_must (refine wpList_ex rfl (execLdAll rfl rfl XX.out.2.1 Tryd.underlying25 rfl (size16 _)) ?_))
            | (go_at_call 14; refine (WR.out X _ XX.out.2.2.2.2 XX.out.1.sl).mono ?_; rintro e w9 ⟨r9, rfl, own9, hb9⟩; obtain ⟨a9, c9, rfl⟩ := own_shapeJ own9; have S9 : Hid (SliceZ w9 (.slice a9 S c9) S on ∧ Below X.heap.size X w9) := ⟨own_sliceZ own9 (fun j _ => HN.out.2.2.2.2.2.2.2.2.2.2.1 j), hb9⟩; clear own9 hb9)
            | (go_at_call_of 15 (Value.slice a9 S c9); refine (PDo.out w9 _ S9.out.1).mono ?_; rintro e w10 ⟨r10, rfl, sl10, hb10⟩; obtain ⟨a10, c10, rfl, _⟩ := id sl10.shape; have S10 : Hid (SliceN w10 (.slice a10 320 c10) 320 c ∧ Below X.heap.size X w10) := ⟨sl10, S9.out.2.trans (hb10.mono S9.out.2.size)⟩; clear sl10 hb10)
            | (go_at_call 15; refine (PDi.out w10 _ (XX.out.1.on S10.out.2)).mono ?_; rintro e w11 ⟨r11, rfl, _, ⟨a11, c11, rfl⟩, hb11⟩; have S11 : Hid (SliceN w11 (.slice a10 320 c10) 320 c ∧ Below X.heap.size X w11) := ⟨S10.out.1.on hb11, S10.out.2.trans (hb11.mono S10.out.2.size)⟩; clear hb11)
            | (go_at_call 17; refine (PL1.out w11 _ (XX.out.1.on S11.out.2)).mono ?_; rintro e w12 ⟨r12, rfl, sl12, hb12⟩; obtain ⟨a12, c12, rfl, _⟩ := id sl12.shape; have b12 := S11.out.2.trans (hb12.mono S11.out.2.size); have bV := XX.out.2.2.2.2.trans (b12.mono XX.out.2.2.2.2.size); have ce := pC_at (W := w12) (g := w2.heap.size) (cv := .slice a2 320 c2) (r := rp) (t := 44) (by rw [b12.block _ (Array.getElem?_eq_some_iff.1 XX.out.2.2.1).1]; exact XX.out.2.2.1); have k1 := By8.conv_str (S11.out.1.on hb12); have k2 := By8.conv_str (HV.out.2.2.sl.on bV); have k3 := By8.conv_str (XX.out.2.2.2.1.on b12); have k4 := By8.conv_str sl12; have S12 : Hid (Below V.heap.size V w12) := bV; clear sl12 hb12 b12 bV))
          go_ret
          exact ⟨rfl, S12.out⟩
        · have i11 : ((L : Int) == 1) = false := by simp; omega
          have L1 : Hid (L ≠ 1) := h1
          clear h1
          go_wp2_with (first
            | (refine atLoad 25 (.tmp 9) rfl ?_; go_must (refine wpList_ex rfl (execLdAll rfl rfl XX.out.2.1 Tryd.underlying25 rfl (size16 _)) ?_))
            | (go_at_call 14; refine (WR.out X _ XX.out.2.2.2.2 XX.out.1.sl).mono ?_; rintro e w9 ⟨r9, rfl, own9, hb9⟩; obtain ⟨a9, c9, rfl⟩ := own_shapeJ own9; have S9 : Hid (SliceZ w9 (.slice a9 S c9) S on ∧ Below X.heap.size X w9) := ⟨own_sliceZ own9 (fun j _ => HN.out.2.2.2.2.2.2.2.2.2.2.1 j), hb9⟩; clear own9 hb9)
            | (go_at_call_of 15 (Value.slice a9 S c9); refine (PDo.out w9 _ S9.out.1).mono ?_; rintro e w10 ⟨r10, rfl, sl10, hb10⟩; obtain ⟨a10, c10, rfl, _⟩ := id sl10.shape; have S10 : Hid (SliceN w10 (.slice a10 320 c10) 320 c ∧ Below X.heap.size X w10) := ⟨sl10, S9.out.2.trans (hb10.mono S9.out.2.size)⟩; clear sl10 hb10)
            | (go_at_call 15; refine (PDi.out w10 _ (XX.out.1.on S10.out.2)).mono ?_; rintro e w11 ⟨r11, rfl, sl11, ⟨a11, c11, rfl⟩, hb11⟩; have b11 := S10.out.2.trans (hb11.mono S10.out.2.size); have bV := XX.out.2.2.2.2.trans (b11.mono XX.out.2.2.2.2.size); have ce := pC_at (W := w11) (g := w2.heap.size) (cv := .slice a2 320 c2) (r := rp) (t := 44) (by rw [b11.block _ (Array.getElem?_eq_some_iff.1 XX.out.2.2.1).1]; exact XX.out.2.2.1); have k1 := By8.conv_str (S10.out.1.on hb11); have k2 := By8.conv_str (HV.out.2.2.sl.on bV); have k3 := By8.conv_str (XX.out.2.2.2.1.on b11); have k4 := By8.conv_str (sl11 L1.out); have S12 : Hid (Below V.heap.size V w11) := bV; clear sl11 hb11 b11 bV))
          go_ret
          exact ⟨rfl, S12.out⟩
  · have hM0 : M = 0 := by rw [← hM]; exact if_neg hE0
    have hr0 : rp = fun _ => 0 := by rw [← hrp]; unfold peR; rw [if_neg hE0]
    subst hM0 hr0
    have i1 : ((E : Int) != 0) = true := by simp; omega
    clear hG hk hc hb hrp hM hpc hE hE0 l1
    go_enter Tryd.func7, Tryd.ntmps7
    go_wp2_with (first
      | (go_at_call 8; refine A.mono ?_; rintro e w1 ⟨rfl, hb1⟩; have B1 : Hid (Below V.heap.size V w1) := hb1; clear hb1)
      | (go_at_call 16; refine (PE.out w1 B1.out).mono ?_; rintro e w2 ⟨cv, rfl, own2, hb2⟩; obtain ⟨a2, c2, rfl⟩ := own_shapeJ own2; have B2 : Hid (Below V.heap.size V w2) := B1.out.trans (hb2.mono B1.out.size); clear own2 hb2)
      | (refine atStore 44 (.tmp 7) (.tmp 29) rfl ?_; go_must (refine wpList_exS rfl (execStAll (cells := pC (.slice a2 0 c2) fun _ => 0) rfl rfl rfl (heapNew w2 _) (by rw [pC_size, pC_size]) (sizeP _ _) (pC_one _ rfl)) ?_; obtain ⟨W3, hW3⟩ : ∃ W3, (w2.alloc (.cells (pC (.slice none 0 0) fun _ => 0) 44)).setRow w2.heap.size (pC (.slice a2 0 c2) fun _ => 0) = W3 := ⟨_, rfl⟩; have r3 : W3.heap[w2.heap.size]? = some (.cells (pC (.slice a2 0 c2) fun _ => 0) 44) := (by rw [← hW3]; exact setRow_heap _ _ _ _ _ _ (heapNew w2 _)); have b3 : Below w2.heap.size w2 W3 := (by rw [← hW3]; exact below4 (belNew w2 _) (Nat.le_refl _) _); have ce := pC_at r3; have CA : Hid (_) := pC_arr r3; have B3 : Hid (Below V.heap.size V W3) := B2.out.trans (b3.mono B2.out.size); rw [hW3]; clear r3 b3 hW3))
      | (refine atLoad 25 (.tmp 38) rfl ?_; go_must (refine wpList_ex rfl (execLdList (k := 16) (q := fun _ => 0) rfl rfl CA.out Tryd.underlying25 rfl (by kernel_rfl)) ?_))
      | (refine wpList_ex rfl (execB16 rfl) ?_)
      | (refine wpList_ex rfl (exec_same16 rfl rfl rfl (fun _ _ => rfl)) ?_))
    go_ret
    exact ⟨rfl, B3.out⟩
end Go.Proofs.YtfhldpdnoaoohaaDoor.Oni
