import Derived.Test.YtaiiomoajjhliaaDoorB7f
namespace Go.Proofs.YtaiiomoajjhliaaDoor.Rou
open Go.RowKit Gf8 Aes By8 Cel Oni
/- layered, Wrap. Written by tools/mkB7g.py. -/

set_option maxRecDepth 20000 in
set_option maxHeartbeats 2000000 in
theorem layered_any (kv nv pv : Value) (h n : Nat) (xv : Nat → Value) (lk : Nat → Nat) (key q : Nat → Nat → Nat) (p : Nat → Nat) (V : World) (hG : Glob V) (hc : Cells V kv h xv lk key) (hq : Nons V nv h q) (hp : SliceZ V pv n p) (h1 : 1 ≤ h) (h8 : h ≤ 8) (hk : ∀ i, i < h → lk i = 32) (hn : n ≤ 48) :
    Calls Tryd.prog 28 #[kv, nv, pv] V fun e w' => ∃ r, e = .returned (.tuple #[r, .int .i64 0]) ∧ SliceZ w' r (loN n h) (loF h key q n p h) ∧ Below V.heap.size V w' := by
  obtain ⟨ca, kc, rfl, _, _, hs⟩ := id hc.shape
  obtain ⟨na, nc, rfl, _, _, ht⟩ := id hq.shape
  obtain ⟨kb, ko, rfl, hs1, hs2⟩ := hs (by omega)
  obtain ⟨nb, no, rfl, ht1, ht2⟩ := ht (by omega)
  obtain ⟨pa, pc, rfl⟩ := id hp.shape
  have KK : Hid (kb < V.heap.size ∧ ∀ i, i < h → V.cell? ⟨kb, ko + i, none⟩ = some (xv i)) := ⟨hs1, hs2⟩
  have NN : Hid (nb < V.heap.size ∧ ∀ i, i < h → ∀ j, j < 16 → V.cell? ⟨nb, no + i * 16 + j, none⟩ = some (.int .u8 (q i j))) := ⟨ht1, ht2⟩
  have HH : Hid (1 ≤ h ∧ h ≤ 8 ∧ n ≤ 48) := ⟨h1, h8, hn⟩
  have HP : Hid (SliceZ V (.slice pa n pc) n p) := hp
  have LT : Hid (∀ m, m ≤ h → ∀ j, j < loN n m → loF h key q n p m j < 256) := fun m hm => loF_lt hq.by_ hn hp.sl.bytes m hm (by omega)
  have WR : Hid (∀ m, m < h → ∀ (W : World) (ov : Value), Below V.heap.size V W → SliceZ W ov (loN n m) (loF h key q n p m) → Calls Tryd.prog 31 #[xv (h - (m + 1)), .agg (bA 16 (q (h - (m + 1)))), .int .i64 ((m + 1 : Nat) : Int), ov] W fun e w' => ∃ r, e = .returned (.tuple #[r, .int .i64 0]) ∧ w'.ownsRow W.heap.size 5 1 r (loN n (m + 1)) (bytesL (loN n (m + 1)) (loF h key q n p (m + 1))) ∧ Below W.heap.size W w') := fun m hm W ov hW hov => by
    have hl := loN_le (n := n) (m := m) hn (by omega)
    have e := wrap_any (key (h - (m + 1))) (q (h - (m + 1))) (loF h key q n p m) 32 (loN n m) ((m + 1 : Nat) : Int) (xv (h - (m + 1))) ov W (hG.below hW hG.sz) (by have := hc.cell (h - (m + 1)) (by omega); rw [hk _ (by omega)] at this; exact this.on hW) (hq.by_ _ (by omega)) hov.sl (by omega)
    obtain ⟨e1, e2⟩ := lay_e (n := n) (m := m) hn (by omega)
    rw [e1, e2] at e
    exact e
  have i8 : (h : Int) ≤ 8 := by omega
  clear hG hc hq hp h1 h8 hk hn hs hs1 hs2 ht ht1 ht2
  go_enter Tryd.func28, Tryd.ntmps28
  go_wp2_with fail
  go_loopw [8, 9] (fun u x W => ∃ m : Nat, m ≤ h ∧ x = .int .i64 ((m + 1 : Nat) : Int) ∧ SliceZ W u (loN n m) (loF h key q n p m) ∧ Below V.heap.size V W) (fun _ x _ => h + 1 - (intOf x).toNat)
  case atStart => exact ⟨0, Nat.zero_le _, rfl, HP.out, Below.refl _ _⟩
  case round =>
    obtain ⟨m, hm, rfl, so, bel⟩ := hrel
    obtain ⟨oa, oc, rfl⟩ := id so.shape
    have SO : Hid (SliceZ wr (.slice oa (loN n m) oc) (loN n m) (loF h key q n p m)) := so
    have HB : Hid (Below V.heap.size V wr) := bel
    by_cases hlt : m < h
    · have i1 : ((m + 1 : Nat) : Int) ≤ h := by omega
      obtain ⟨i, hi⟩ : ∃ i, h - (m + 1) = i := ⟨_, rfl⟩
      have CW : Hid (∀ W, Below V.heap.size V W → SliceZ W (.slice oa (loN n m) oc) (loN n m) (loF h key q n p m) → Calls Tryd.prog 31 #[xv i, .agg (bA 16 (q i)), .int .i64 ((m + 1 : Nat) : Int), .slice oa (loN n m) oc] W fun e w' => ∃ r, e = .returned (.tuple #[r, .int .i64 0]) ∧ w'.ownsRow W.heap.size 5 1 r (loN n (m + 1)) (bytesL (loN n (m + 1)) (loF h key q n p (m + 1))) ∧ Below W.heap.size W w') := fun W hW ho => by
        have := WR.out m hlt W _ hW ho
        rw [hi] at this
        exact this
      have HK : Hid (m < h ∧ h = m + 1 + i ∧ i < h) := ⟨hlt, by omega, by omega⟩
      clear so bel hm hlt hi
      go_wp2_with (refine wpList_ex rfl (execSubJ (x := .tmp 21) (p := h) (q := m + 1) (r := i) rfl rfl rfl HK.out.2.1 (by have := HH.out; omega)) ?_)
      refine wp_region_st 43 [(0, 25), (1, 26), (2, 27), (3, 28), (4, 29), (5, 30), (6, 31), (7, 32), (8, 33), (9, 34), (10, 35), (11, 24), (12, 36), (13, 37), (14, 11), (15, 12)] (fun l r X => Below wr.heap.size wr X ∧ (l 10 = true → X.ownsRow V.heap.size 5 1 r (loN n (m + 1)) (bytesL (loN n (m + 1)) (loF h key q n p (m + 1))))) (fun r => fun i_ => match i_ with | 0 => .slice (some ⟨kb, ko, none⟩) h kc | 1 => .int .i64 (i : Int) | 2 => .pointer (some ⟨kb, ko + i, none⟩) | 3 => xv i | 4 => .slice (some ⟨nb, no, none⟩) h nc | 5 => .int .i64 (i : Int) | 6 => .pointer (some ⟨nb, no + i * 16, none⟩) | 7 => .agg (bA 16 (q i)) | 8 => .int .i64 ((m + 1 : Nat) : Int) | 9 => .slice oa (loN n m) oc | 10 => .tuple #[r, .int .i64 0] | 11 => .tuple #[r, .int .i64 0] | 12 => r | 13 => .int .i64 0 | 14 => r | 15 => .int .i64 0 | _ => undef) undef (by kernel_rfl) (by kernel_rfl) rfl (by kernel_rfl) (by decide) (by decide) ?_ ?_ ?_
      · exact ⟨(Below.refl _ _).drew, fun q => by cases q⟩
      · intro j hj l r a X hl hf hdep hl2 hcl hS
        match j, hj with
        | 0, _ => exact stepV rfl rfl (execMvB rfl (hf 0 (by decide))) ⟨r, ⟨_, rfl, rfl⟩, ⟨hS.1, fun q => hS.2 q⟩, fun _ _ _ => rfl⟩
        | 1, _ => exact stepV rfl rfl (execMvB rfl (hf 10 (by decide))) ⟨r, ⟨_, rfl, rfl⟩, ⟨hS.1, fun q => hS.2 q⟩, fun _ _ _ => rfl⟩
        | 2, _ => exact stepV rfl rfl (execIdxL rfl (hdep _ rfl 0 rfl _ rfl _ rfl) (hdep _ rfl 1 rfl _ rfl _ rfl) (by have := HK.out; omega)) ⟨r, ⟨_, rfl, rfl⟩, ⟨hS.1, fun q => hS.2 q⟩, fun _ _ _ => rfl⟩
        | 3, _ => exact stepV rfl rfl (execLdL rfl (hdep _ rfl 2 rfl _ rfl _ rfl) (by rw [cell_below (HB.out.trans (hS.1.mono HB.out.size)) KK.out.1]; exact KK.out.2 i (by have := HK.out; omega))) ⟨r, ⟨_, rfl, rfl⟩, ⟨hS.1, fun q => hS.2 q⟩, fun _ _ _ => rfl⟩
        | 4, _ => exact stepV rfl rfl (execMvB rfl (hf 1 (by decide))) ⟨r, ⟨_, rfl, rfl⟩, ⟨hS.1, fun q => hS.2 q⟩, fun _ _ _ => rfl⟩
        | 5, _ => exact stepV rfl rfl (execMvB rfl (hf 10 (by decide))) ⟨r, ⟨_, rfl, rfl⟩, ⟨hS.1, fun q => hS.2 q⟩, fun _ _ _ => rfl⟩
        | 6, _ => exact stepV rfl rfl (execIdxA rfl (hdep _ rfl 4 rfl _ rfl _ rfl) (hdep _ rfl 5 rfl _ rfl _ rfl) (by have := HK.out; omega)) ⟨r, ⟨_, rfl, rfl⟩, ⟨hS.1, fun q => hS.2 q⟩, fun _ _ _ => rfl⟩
        | 7, _ => exact stepV rfl rfl (execLdList (k := 16) (q := q i) rfl (hdep _ rfl 6 rfl _ rfl _ rfl) (fun j hj => by rw [cell_below (HB.out.trans (hS.1.mono HB.out.size)) NN.out.1]; exact NN.out.2 i (by have := HK.out; omega) j hj) Tryd.underlying33 rfl (by kernel_rfl)) ⟨r, ⟨_, rfl, rfl⟩, ⟨hS.1, fun q => hS.2 q⟩, fun _ _ _ => rfl⟩
        | 8, _ => exact stepV rfl rfl (execMvB rfl (hf 9 (by decide))) ⟨r, ⟨_, rfl, rfl⟩, ⟨hS.1, fun q => hS.2 q⟩, fun _ _ _ => rfl⟩
        | 9, _ => exact stepV rfl rfl (execMvB rfl (hf 8 (by decide))) ⟨r, ⟨_, rfl, rfl⟩, ⟨hS.1, fun q => hS.2 q⟩, fun _ _ _ => rfl⟩
        | 10, _ =>
          refine stepC rfl rfl (execCall4 Tryd.func31 (by kernel_rfl) (by kernel_rfl) rfl (hdep _ rfl 3 rfl _ rfl _ rfl) (hdep _ rfl 7 rfl _ rfl _ rfl) (hdep _ rfl 8 rfl _ rfl _ rfl) (hdep _ rfl 9 rfl _ rfl _ rfl)) (CW.out X (HB.out.trans (hS.1.mono HB.out.size)) (SO.out.on hS.1)) fun e w' hh => ?_
          obtain ⟨r', e1, own', bw⟩ := hh
          refine ⟨_, e1, r', ⟨_, rfl, rfl⟩, ⟨hS.1.trans (bw.mono hS.1.size), fun _ => own_base own' (Nat.le_trans HB.out.size hS.1.size)⟩, fun i hi hli => ?_⟩
          match i, hi with
          | 0, _ | 1, _ | 2, _ | 3, _ | 4, _ | 5, _ | 6, _ | 7, _ | 8, _ | 9, _ | 13, _ | 15, _ => rfl
          | 10, _ => exact absurd (hl.symm.trans hli) (by decide)
          | 11, _ => exact absurd (hl.symm.trans (hcl 11 _ rfl hli 10 rfl)) (by decide)
          | 12, _ => exact absurd (hl.symm.trans (hcl 11 _ rfl (hcl 12 _ rfl hli 11 rfl) 10 rfl)) (by decide)
          | 14, _ => exact absurd (hl.symm.trans (hcl 11 _ rfl (hcl 12 _ rfl (hcl 14 _ rfl hli 12 rfl) 11 rfl) 10 rfl)) (by decide)
          | k + 16, h => exact absurd h (by simp)
        | 11, _ => exact stepV rfl rfl (execMvB rfl (hdep _ rfl 10 rfl _ rfl _ rfl)) ⟨r, ⟨_, rfl, rfl⟩, ⟨hS.1, fun q => hS.2 q⟩, fun _ _ _ => rfl⟩
        | 12, _ => exact stepV rfl rfl (execExtT rfl (hdep _ rfl 11 rfl _ rfl _ rfl) rfl) ⟨r, ⟨_, rfl, rfl⟩, ⟨hS.1, fun q => hS.2 q⟩, fun _ _ _ => rfl⟩
        | 13, _ => exact stepV rfl rfl (execExtT rfl (hdep _ rfl 11 rfl _ rfl _ rfl) rfl) ⟨r, ⟨_, rfl, rfl⟩, ⟨hS.1, fun q => hS.2 q⟩, fun _ _ _ => rfl⟩
        | 14, _ => exact stepV rfl rfl (execAsgB rfl (hdep _ rfl 12 rfl _ rfl _ rfl)) ⟨r, ⟨_, rfl, rfl⟩, ⟨hS.1, fun q => hS.2 q⟩, fun _ _ _ => rfl⟩
        | 15, _ => exact stepV rfl rfl (execAsgB rfl (hdep _ rfl 13 rfl _ rfl _ rfl)) ⟨r, ⟨_, rfl, rfl⟩, ⟨hS.1, fun q => hS.2 q⟩, fun _ _ _ => rfl⟩
        | k + 16, h => exact absurd h (by simp)
      · intro l r X hall hS
        obtain ⟨hb2, ho2⟩ := hS
        have O2 : Hid (X.ownsRow V.heap.size 5 1 r (loN n (m + 1)) (bytesL (loN n (m + 1)) (loF h key q n p (m + 1))) ∧ Below V.heap.size V X) := ⟨ho2 (hall 10 (by simp)), HB.out.trans (hb2.mono HB.out.size)⟩
        clear hall hb2 ho2
        simp only [putP, Act.put, List.setIfInBounds_toArray, List.set_cons_succ, List.set_cons_zero]
        go_wp2_with fail
        go_roundw
        case rel => exact ⟨m + 1, HK.out.1, by go_num, own_sliceZ O2.out.1 (LT.out (m + 1) HK.out.1), O2.out.2⟩
        case measure => have := HK.out; simp [intOf]; omega
    · have i1 : ¬ ((m + 1 : Nat) : Int) ≤ h := by omega
      obtain rfl : m = h := by omega
      clear so bel hm hlt
      go_wp2_with fail
      refine bodyPost_ret (results_tmp2 rfl _ _ _) rfl ⟨_, rfl, SO.out, HB.out⟩
set_option maxRecDepth 20000 in
set_option maxHeartbeats 2000000 in
theorem rwrap8_any (kv nv pv : Value) (h hn n : Nat) (xv : Nat → Value) (lk : Nat → Nat) (key q : Nat → Nat → Nat) (p : Nat → Nat) (V : World) (hG : Glob V) (hc : Cells V kv h xv lk key) (hq : Nons V nv hn q) (hp : SliceZ V pv n p) (hb1 : h ≤ 140737488351232) (hb2 : hn ≤ 140737488351232) (hb3 : n ≤ 140737488351232) :
    Calls Tryd.prog 13 #[kv, nv, pv] V fun e w' => ∃ r, e = .returned (.tuple #[r, .int .i64 (rwE h hn lk n : Nat)]) ∧ w'.ownsRow V.heap.size 5 1 r (rwN h hn lk n) (bytesL (rwN h hn lk n) (rwF h key q n p)) ∧ Below V.heap.size V w' := by
  obtain ⟨ca, kc, rfl, _⟩ := id hc.shape
  obtain ⟨na, nc, rfl, _⟩ := id hq.shape
  obtain ⟨pa, pc, rfl⟩ := id hp.shape
  have IC := ischain_any (.slice ca h kc) h V ⟨_, _, rfl⟩ hb1
  have AK := arekeys_any (.slice ca h kc) h xv lk key V hc hb1
  by_cases hch : 1 ≤ h ∧ h ≤ 8
  · rw [decide_eq_true hch] at IC
    by_cases hne : hn = h
    · subst hne
      have i1 : ((hn : Int) != (hn : Int)) = false := by simp
      cases hko : ksOk hn lk with
      | false =>
        rw [hko] at AK
        have E : rwE hn hn lk n = 2 := by unfold rwE; rw [if_neg (by omega), if_neg (by rw [hko]; simp)]
        have E2 : rwN hn hn lk n = 0 := by unfold rwN; rw [E]; rfl
        rw [E, E2]
        clear E E2 hG hc hq hp hb1 hb2 hb3 hch hko
        go_enter Tryd.func13, Tryd.ntmps13
        go_wp2_with (first
          | (go_at_call 26; refine IC.mono ?_; rintro e w1 ⟨rfl, hw1⟩; rw [hw1]; clear hw1)
          | (go_at_call 27; refine AK.mono ?_; rintro e w2 ⟨rfl, hw2⟩; rw [hw2]; clear hw2))
        refine bodyPost_ret (results_tmp2 rfl _ _ _) rfl ⟨_, rfl, World.ownsRow_nil _ _ _ _, Below.refl _ _⟩
      | true =>
        rw [hko] at AK
        by_cases hlong : 48 < n
        · have E : rwE hn hn lk n = 1 := by unfold rwE; rw [if_neg (by omega), if_pos hko, if_pos hlong]
          have E2 : rwN hn hn lk n = 0 := by unfold rwN; rw [E]; rfl
          rw [E, E2]
          have i2 : (n : Int) > 48 := by omega
          clear E E2 hG hc hq hp hb1 hb2 hb3 hch hko hlong
          go_enter Tryd.func13, Tryd.ntmps13
          go_wp2_with (first
            | (go_at_call 26; refine IC.mono ?_; rintro e w1 ⟨rfl, hw1⟩; rw [hw1]; clear hw1)
            | (go_at_call 27; refine AK.mono ?_; rintro e w2 ⟨rfl, hw2⟩; rw [hw2]; clear hw2))
          refine bodyPost_ret (results_tmp2 rfl _ _ _) rfl ⟨_, rfl, World.ownsRow_nil _ _ _ _, Below.refl _ _⟩
        · have E : rwE hn hn lk n = 0 := by unfold rwE; rw [if_neg (by omega), if_pos hko, if_neg hlong]
          have E2 : rwN hn hn lk n = 320 := by unfold rwN; rw [E]; rfl
          rw [E, E2]
          have i2 : ¬ (n : Int) > 48 := by omega
          have LA := layered_any (.slice ca hn kc) (.slice na hn nc) (.slice pa n pc) hn n xv lk key q p V hG hc hq hp hch.1 hch.2 ((ksOk_iff _ _).1 hko) (by omega)
          have hl := loN_le (n := n) (m := hn) (by omega) hch.2
          have PD : Hid (∀ W v, SliceZ W v (loN n hn) (loF hn key q n p hn) → Calls Tryd.prog 17 #[v] W fun e w' => ∃ r, e = .returned (.tuple #[r, .int .i64 0]) ∧ w'.ownsRow W.heap.size 5 1 r 320 (bytesL 320 (rwF hn key q n p)) ∧ Below W.heap.size W w') := fun W v hv => by
            have := pad_any (loF hn key q n p hn) (loN n hn) v W hv (by omega)
            rw [show okE 320 (loN n hn) = 0 from if_pos hl, show okN 320 (loN n hn) = 320 from if_pos hl] at this
            exact this
          clear E E2 hG hc hq hp hb1 hb2 hb3 hch hko hlong hl
          go_enter Tryd.func13, Tryd.ntmps13
          go_wp2_with (first
            | (go_at_call 26; refine IC.mono ?_; rintro e w1 ⟨rfl, hw1⟩; rw [hw1]; clear hw1)
            | (go_at_call 27; refine AK.mono ?_; rintro e w2 ⟨rfl, hw2⟩; rw [hw2]; clear hw2)
            | (go_at_call 28; refine LA.mono ?_; rintro e w3 ⟨r3, rfl, s3, hb3⟩; have S3 : Hid (SliceZ w3 r3 (loN n hn) (loF hn key q n p hn) ∧ Below V.heap.size V w3) := ⟨s3, hb3⟩; obtain ⟨a3, c3, rfl⟩ := id s3.shape; clear s3 hb3)
            | (go_at_call 17; refine (PD.out w3 _ S3.out.1).mono ?_; rintro e w4 ⟨r4, rfl, own4, hb4⟩; have S4 : Hid (w4.ownsRow V.heap.size 5 1 r4 320 (bytesL 320 (rwF hn key q n p)) ∧ Below V.heap.size V w4) := ⟨own_base own4 S3.out.2.size, S3.out.2.trans (hb4.mono S3.out.2.size)⟩; clear own4 hb4))
          refine bodyPost_ret (results_tmp2 rfl _ _ _) rfl ⟨_, rfl, S4.out.1, S4.out.2⟩
    · have i1 : ((hn : Int) != (h : Int)) = true := by simp; omega
      have E : rwE h hn lk n = 80 := if_pos (by omega)
      have E2 : rwN h hn lk n = 0 := by unfold rwN; rw [E]; rfl
      rw [E, E2]
      clear E E2 hG hc hq hp hb1 hb2 hb3 hch AK
      go_enter Tryd.func13, Tryd.ntmps13
      go_wp2_with (go_at_call 26; refine IC.mono ?_; rintro e w1 ⟨rfl, hw1⟩; rw [hw1]; clear hw1)
      refine bodyPost_ret (results_tmp2 rfl _ _ _) rfl ⟨_, rfl, World.ownsRow_nil _ _ _ _, Below.refl _ _⟩
  · rw [decide_eq_false hch] at IC
    have E : rwE h hn lk n = 80 := if_pos (by omega)
    have E2 : rwN h hn lk n = 0 := by unfold rwN; rw [E]; rfl
    rw [E, E2]
    clear E E2 hG hc hq hp hb1 hb2 hb3 hch AK
    go_enter Tryd.func13, Tryd.ntmps13
    go_wp2_with (go_at_call 26; refine IC.mono ?_; rintro e w1 ⟨rfl, hw1⟩; rw [hw1]; clear hw1)
    refine bodyPost_ret (results_tmp2 rfl _ _ _) rfl ⟨_, rfl, World.ownsRow_nil _ _ _ _, Below.refl _ _⟩
end Go.Proofs.YtaiiomoajjhliaaDoor.Rou
