import Derived.Test.YtaiiomoajjhliaaDoorX5h
namespace Go.Proofs.YtaiiomoajjhliaaDoor.Oni
open Go.RowKit Gf8 Aes By8 Cel
/- Wrap. -/

def wpT (D pb : Nat → Nat) (left : Int) (vi : Value) (N : Nat) (bx : Nat → Nat) (W0 : World) (l : Nat → Bool) (x : Nat → Value) (W : World) : Prop :=
  (l 0 = true → x 0 = .agg (bA 80 D)) ∧ (l 1 = true → x 1 = .int .i64 left) ∧ (l 2 = true → x 2 = vi) ∧ (l 3 = true → W.ownsRow W0.heap.size 5 1 (x 3) N (bytesL N pb)) ∧ (l 4 = true → W.ownsRow W0.heap.size 5 1 (x 4) N (bytesL N bx)) ∧ (l 5 = true → x 5 = x 4) ∧ Below W0.heap.size W0 W
theorem bxF_lt {D p : Nat → Nat} (hD : ∀ j, D j < 256) (hp : ∀ j, p j < 256) (j : Nat) : bxF D p j < 256 := by
  unfold bxF maskF
  exact xor_lt (hp j) (enc_by (fun j _ => kw_lt (fun i _ => hD i) j) (be_by _) _ (Nat.mod_lt _ (by omega)))
theorem tgF_lt (d : Nat → Nat) (left : Nat) (nonce box : Nat → Nat) (bl j : Nat) : tgF d left nonce box bl j < 256 := hfF_lt _ _ _ _
theorem onB_lt {nonce tg box : Nat → Nat} (h1 : By nonce) (h2 : ∀ j, tg j < 256) (h3 : ∀ j, box j < 256) (j : Nat) : onB nonce tg box j < 256 := by
  unfold onB
  split
  · exact h1 _ (by omega)
  · split
    · exact h2 _
    · exact h3 _
theorem pbF_all {n : Nat} {inner : Nat → Nat} (hn : n < 65536) (h : ∀ j, j < n → inner j < 256) : ∀ j, pbF n inner j < 256 := fun j => pbF_lt hn h j
set_option maxRecDepth 20000 in
theorem wrap_key (key nonce inner : Nat → Nat) (lk n : Nat) (left : Int) (vk vi : Value) (V : World) (hk : SliceN V vk lk key) (hl : lk ≠ 32) :
    Calls Tryd.prog 31 #[vk, .agg (bA 16 nonce), .int .i64 left, vi] V fun e w' => ∃ r, e = .returned (.tuple #[r, .int .i64 (wrE lk left n : Nat)]) ∧ w'.ownsRow V.heap.size 5 1 r (wrN lk left n) (bytesL (wrN lk left n) (wrF key nonce left.toNat n inner)) ∧ Below V.heap.size V w' := by
  have E : wrE lk left n = 2 := if_pos (Or.inl hl)
  have E2 : wrN lk left n = 0 := by unfold wrN; rw [E]; rfl
  rw [E, E2]
  have r1 := heapNew V (.cells (bA 16 nonce) 33)
  have b1 := belNew V (.cells (bA 16 nonce) 33)
  have C := pder_bad key nonce lk vk (V.alloc (.cells (bA 16 nonce) 33)) (hk.on b1) hl
  have H : Hid (_ ∧ _) := ⟨r1, b1⟩
  have zk := zeroK
  clear E E2 hl hk r1 b1
  go_enter Tryd.func31, Tryd.ntmps31
  go_wp2_with (first
    | (refine atLoad 33 (.tmp 5) rfl ?_; go_must (refine wpList_ex rfl (execLdAll rfl rfl H.out.1 Tryd.underlying33 rfl (size16 _)) ?_))
    | (go_at_call 36; refine C.mono ?_; rintro e w1 ⟨rfl, hb1⟩; have B1 : Hid (_) := hb1; clear hb1)
    | (refine atStore 65 (.tmp 10) (.tmp 19) rfl ?_; go_must (refine wpList_exS rfl (execStAll (cells := bA 80 fun _ => 0) rfl rfl rfl (heapNew w1 _) (by rw [bA_size]) (size80 _) (bA_one _ _)) ?_)))
  have b2 := H.out.2.trans (B1.out.mono H.out.2.size)
  refine bodyPost_ret (results_tmp2 rfl _ _ _) rfl ⟨_, rfl, World.ownsRow_nil _ _ _ _, b2.trans ((below4 (belNew w1 _) (Nat.le_refl _) _).mono b2.size)⟩
set_option maxRecDepth 20000 in
set_option maxHeartbeats 1000000 in
theorem wrap_any (key nonce inner : Nat → Nat) (lk n : Nat) (left : Int) (vk vi : Value) (V : World) (hG : Glob V) (hk : SliceN V vk lk key) (hn : By nonce) (hi : SliceN V vi n inner) (hb : n ≤ 140737488351232) :
    Calls Tryd.prog 31 #[vk, .agg (bA 16 nonce), .int .i64 left, vi] V fun e w' => ∃ r, e = .returned (.tuple #[r, .int .i64 (wrE lk left n : Nat)]) ∧ w'.ownsRow V.heap.size 5 1 r (wrN lk left n) (bytesL (wrN lk left n) (wrF key nonce left.toNat n inner)) ∧ Below V.heap.size V w' := by
  by_cases hl : lk = 32
  · subst hl
    obtain ⟨V1, hV1⟩ : ∃ V1, V.alloc (.cells (bA 16 nonce) 33) = V1 := ⟨_, rfl⟩
    have r1 := heapNew V (.cells (bA 16 nonce) 33)
    have b1 := belNew V (.cells (bA 16 nonce) 33)
    have s1 : V1.heap.size = V.heap.size + 1 := by rw [← hV1]; simp
    rw [hV1] at r1 b1
    obtain ⟨ao, cap, rfl, _⟩ := id hi.shape
    obtain ⟨D, hD⟩ : ∃ D, dk key nonce = D := ⟨_, rfl⟩
    have C := pder_ok key nonce vk V1 (hG.below b1 hG.sz) hn (hk.on b1)
    rw [hD] at C
    have DL : Hid (∀ j, D j < 256) := by rw [← hD]; exact dk_lt key nonce
    have H : Hid (V1.heap[V.heap.size]? = some (.cells (bA 16 nonce) 33) ∧ Below V.heap.size V V1 ∧ V1.heap.size = V.heap.size + 1) := ⟨r1, b1, s1⟩
    have HV : Hid (Glob V ∧ By nonce ∧ SliceN V (.slice ao n cap) n inner) := ⟨hG, hn, hi⟩
    have zk := zeroK
    obtain ⟨S, hS⟩ : ∃ S, sz left = S := ⟨_, rfl⟩
    have PS := psize_any left
    have PR := proom_any left
    rw [hS] at PS PR
    have l3 : (n : Int) ≤ 140737488351232 := by omega
    clear hG hk hn hi hb r1 b1 s1
    by_cases h0 : S = 0
    · have E : wrE 32 left n = 2 := if_pos (Or.inr (hS.trans h0))
      have E2 : wrN 32 left n = 0 := by unfold wrN; rw [E]; rfl
      rw [E, E2]
      subst h0
      clear E E2
      go_enter Tryd.func31, Tryd.ntmps31
      go_wp2_with (first
        | (refine atLoad 33 (.tmp 5) rfl ?_; go_must (refine wpList_ex rfl (execLdAll rfl rfl H.out.1 Tryd.underlying33 rfl (size16 _)) ?_))
        | (go_at_call 36; refine C.mono ?_; rintro e w1 ⟨rfl, hb1⟩; have B1 : Hid (_) := hb1; clear hb1)
        | (refine atStore 65 (.tmp 10) (.tmp 19) rfl ?_; go_must (refine wpList_exS rfl (execStAll (cells := bA 80 D) rfl rfl rfl (heapNew w1 _) (by rw [bA_size, bA_size]) (size80 _) (bA_one _ _)) ?_))
        | (go_at_call 15; refine (PS _).mono ?_; rintro e w2 ⟨rfl, hw2⟩; subst hw2))
      have b2 := H.out.2.1.trans (B1.out.mono H.out.2.1.size)
      refine bodyPost_ret (results_tmp2 rfl _ _ _) rfl ⟨_, rfl, World.ownsRow_nil _ _ _ _, b2.trans ((below4 (belNew w1 _) (Nat.le_refl _) _).mono b2.size)⟩
    · obtain ⟨g1, g2, g3, g4⟩ := sz_pos (left := left) (by rw [hS]; exact h0)
      have g5 := sz_le left
      rw [hS] at g3 g4 g5
      have i0 : ¬ (S : Int) = 0 := by omega
      have i9 : ((S : Int) == 0) = false := by simp; omega
      have i6 : (S : Int) ≤ 320 := by omega
      by_cases hlong : S - 34 < n
      · have E : wrE 32 left n = 1 := by unfold wrE; rw [if_neg (by rw [hS]; simp; exact h0), if_pos (by rw [hS]; exact hlong)]
        have E2 : wrN 32 left n = 0 := by unfold wrN; rw [E]; rfl
        rw [E, E2]
        have i1 : (n : Int) > (S : Int) - 34 := by omega
        clear E E2 g1 g2 g3 g4 g5 h0 hlong hS
        go_enter Tryd.func31, Tryd.ntmps31
        go_wp2_with (first
          | (refine atLoad 33 (.tmp 5) rfl ?_; go_must (refine wpList_ex rfl (execLdAll rfl rfl H.out.1 Tryd.underlying33 rfl (size16 _)) ?_))
          | (go_at_call 36; refine C.mono ?_; rintro e w1 ⟨rfl, hb1⟩; have B1 : Hid (_) := hb1; clear hb1)
          | (refine atStore 65 (.tmp 10) (.tmp 19) rfl ?_; go_must (refine wpList_exS rfl (execStAll (cells := bA 80 D) rfl rfl rfl (heapNew w1 _) (by rw [bA_size, bA_size]) (size80 _) (bA_one _ _)) ?_))
          | (go_at_call 15; refine (PS _).mono ?_; rintro e w2 ⟨rfl, hw2⟩; subst hw2)
          | (go_at_call 43; refine (PR _).mono ?_; rintro e w3 ⟨rfl, hw3⟩; subst hw3))
        have b2 := H.out.2.1.trans (B1.out.mono H.out.2.1.size)
        refine bodyPost_ret (results_tmp2 rfl _ _ _) rfl ⟨_, rfl, World.ownsRow_nil _ _ _ _, b2.trans ((below4 (belNew w1 _) (Nat.le_refl _) _).mono b2.size)⟩
      · have E : wrE 32 left n = 0 := by unfold wrE; rw [if_neg (by rw [hS]; simp; exact h0), if_neg (by rw [hS]; exact hlong)]
        have E2 : wrN 32 left n = S := by unfold wrN; rw [if_pos E, hS]
        rw [E, E2]
        obtain ⟨L, hL⟩ : ∃ L : Nat, left = L := ⟨left.toNat, by omega⟩
        subst hL
        have i1 : ¬ (n : Int) > (S : Int) - 34 := by omega
        obtain ⟨N, hN⟩ : ∃ N, S = 32 + N := ⟨S - 32, by omega⟩
        subst hN
        obtain ⟨pb, hpb⟩ : ∃ pb, pbF n inner = pb := ⟨_, rfl⟩
        obtain ⟨bx, hbx⟩ : ∃ bx, bxF D pb = bx := ⟨_, rfl⟩
        obtain ⟨tg, htg⟩ : ∃ tg, tgF D L nonce bx N = tg := ⟨_, rfl⟩
        obtain ⟨on, hon⟩ : ∃ on, onB nonce tg bx = on := ⟨_, rfl⟩
        have hw : wrF key nonce (L : Int).toNat n inner = on := by
          unfold wrF
          rw [hD, hpb, hbx, show ((L : Int).toNat : Int) = (L : Int) from by simp, hS, show 32 + N - 32 = N by omega, show (L : Int).toNat = L from by simp, htg, hon]
        rw [hw]
        have PBX := fun W (hW : Below V.heap.size V W) => plainBox_any (L : Int) n inner (.slice ao n cap) W (by rw [hS]; omega) (by rw [hS]; omega) (HV.out.2.2.on hW)
        rw [hS, show 32 + N - 32 = N by omega, hpb] at PBX
        have pbl : ∀ j, pb j < 256 := by rw [← hpb]; exact pbF_all (by omega) HV.out.2.2.bytes
        have bxl : ∀ j, bx j < 256 := by rw [← hbx]; exact bxF_lt DL.out pbl
        have PP : Hid ((∀ W, Below V.heap.size V W → Calls Tryd.prog 44 #[.int .i64 (L : Int), .slice ao n cap] W fun e w' => ∃ r, e = .returned r ∧ w'.ownsRow W.heap.size 5 1 r N (bytesL N pb) ∧ Below W.heap.size W w') ∧ (∀ j, pb j < 256) ∧ (∀ j, bx j < 256) ∧ (∀ j, tg j < 256) ∧ bxF D pb = bx ∧ tgF D L nonce bx N = tg ∧ 50 ≤ N ∧ N ≤ 288 ∧ L ≤ 8) := ⟨PBX, pbl, bxl, by rw [← htg]; exact tgF_lt _ _ _ _ _, hbx, htg, by omega, by omega, by omega⟩
        have o1 : ∀ j, j < 16 → nonce j = on j := fun j hj => by rw [← hon]; unfold onB; rw [if_pos hj]
        have o2 : ∀ j, j < 16 → tg j = on (16 + j) := fun j hj => by rw [← hon]; unfold onB; rw [if_neg (by omega), if_pos (by omega)]; congr 1; omega
        have o3 : ∀ j, bx j = on (32 + j) := fun j => by rw [← hon]; unfold onB; rw [if_neg (by omega), if_neg (by omega)]; congr 1; omega
        have OO : Hid ((∀ j, j < 16 → nonce j = on (0 + j)) ∧ (∀ j, j < 16 → tg j = on (16 + j)) ∧ ∀ j, bx j = on (32 + j)) := ⟨fun j hj => by rw [Nat.zero_add]; exact o1 j hj, o2, o3⟩
        clear E E2 g1 g2 g3 g4 g5 h0 hlong hS hpb hbx htg hon hw PBX pbl bxl o1 o2 o3
        have z16 := zero16
        have s16 := sl16
        go_enter Tryd.func31, Tryd.ntmps31
        go_wp2_with (first
          | (refine atLoad 33 (.tmp 5) rfl ?_; go_must (refine wpList_ex rfl (execLdAll rfl rfl H.out.1 Tryd.underlying33 rfl (size16 _)) ?_))
          | (go_at_call 36; refine C.mono ?_; rintro e w1 ⟨rfl, hb1⟩; have B1 : Hid (_) := hb1; clear hb1)
          | (refine atStore 65 (.tmp 10) (.tmp 19) rfl ?_; go_must (refine wpList_exS rfl (execStAll (cells := bA 80 D) rfl rfl rfl (heapNew w1 _) (by rw [bA_size, bA_size]) (size80 _) (bA_one _ _)) ?_; obtain ⟨W2, hW2⟩ : ∃ W2, (w1.alloc (.cells (bA 80 fun _ => 0) 65)).setRow w1.heap.size (bA 80 D) = W2 := ⟨_, rfl⟩; have k2 : W2.heap[w1.heap.size]? = some (.cells (bA 80 D) 65) := (by rw [← hW2]; exact setRow_heap _ _ _ _ _ _ (heapNew w1 _)); have b2 : Below w1.heap.size w1 W2 := (by rw [← hW2]; exact below4 (belNew w1 _) (Nat.le_refl _) _); have a2 : W2.heap[V.heap.size]? = some (.cells (bA 16 nonce) 33) := (by have := B1.out.size; have := H.out.2.2; rw [b2.block _ (by omega), B1.out.block _ (by omega)]; exact H.out.1); have H2 : Hid (W2.heap[w1.heap.size]? = some (.cells (bA 80 D) 65) ∧ W2.heap[V.heap.size]? = some (.cells (bA 16 nonce) 33) ∧ Below V.heap.size V W2) := ⟨k2, a2, (H.out.2.1.trans (B1.out.mono H.out.2.1.size)).trans (b2.mono (by have := H.out.2.1.size; have := B1.out.size; omega))⟩; rw [hW2]; clear k2 b2 a2 hW2))
          | (go_at_call 15; refine (PS _).mono ?_; rintro e w2 ⟨rfl, hw2⟩; subst hw2)
          | (go_at_call 43; refine (PR _).mono ?_; rintro e w3 ⟨rfl, hw3⟩; subst hw3))
        refine wp_region_detX 54 [(0, 32), (1, 33), (2, 34), (3, 35), (4, 36), (5, 12)] (wpT D pb (L : Int) (.slice ao n cap) N bx w3) (fun _ => undef) (by kernel_rfl) (by kernel_rfl) rfl (by kernel_rfl) (by decide) (by decide) ?_ ?_ ?_
        · exact ⟨fun q => (by cases q), fun q => (by cases q), fun q => (by cases q), fun q => (by cases q), fun q => (by cases q), fun q => (by cases q), (Below.refl _ _).drew⟩
        · intro j hj l x a W hl hf hdep hl2 hcl _ hT
          obtain ⟨t0, t1, t2, t3, t4, t5, tb⟩ := hT
          have n4 : l 3 = false → l 4 = false := fun q => by
            cases h : l 4 with
            | false => rfl
            | true =>
              have := hcl 4 _ rfl h 3 rfl
              rw [q] at this
              cases this
          have n5 : l 4 = false → l 5 = false := fun q => by
            cases h : l 5 with
            | false => rfl
            | true =>
              have := hcl 5 _ rfl h 4 rfl
              rw [q] at this
              cases this
          match j, hj with
          | 0, _ => exact stepV rfl rfl (execLdAll rfl (hf 10 (by decide)) (by rw [tb.block _ (Array.getElem?_eq_some_iff.1 H2.out.1).1]; exact H2.out.1) Tryd.underlying65 rfl (size80 _)) ⟨_, ⟨_, rfl, rfl⟩, fun _ => rfl, t1, t2, t3, t4, t5, tb⟩
          | 1, _ => exact stepV rfl rfl (execMvB rfl (hf 2 (by decide))) ⟨_, ⟨_, rfl, rfl⟩, t0, fun _ => rfl, t2, t3, t4, t5, tb⟩
          | 2, _ => exact stepV rfl rfl (execMvB rfl (hf 3 (by decide))) ⟨_, ⟨_, rfl, rfl⟩, t0, t1, fun _ => rfl, t3, t4, t5, tb⟩
          | 3, _ =>
            refine stepC rfl rfl (execCall2 Tryd.func44 (by kernel_rfl) (by kernel_rfl) rfl ((hdep _ rfl 1 rfl _ rfl _ rfl).trans (t1 (hl2 _ rfl 1 rfl))) ((hdep _ rfl 2 rfl _ rfl _ rfl).trans (t2 (hl2 _ rfl 2 rfl)))) (PP.out.1 W (H2.out.2.2.trans (tb.mono H2.out.2.2.size))) fun e w' h => ?_
            obtain ⟨r, e1, own, bw⟩ := h
            refine ⟨_, e1, _, ⟨_, rfl, rfl⟩, t0, t1, t2, fun _ => own_base own tb.size, fun q => ?_, fun q => ?_, tb.trans (bw.mono tb.size)⟩
            · have q' : l 4 = true := q
              rw [n4 hl] at q'; cases q'
            · have q' : l 5 = true := q
              rw [n5 (n4 hl)] at q'; cases q'
          | 4, _ =>
            have own := t3 (hl2 _ rfl 3 rfl)
            refine stepC rfl rfl (execCall2 Tryd.func40 (by kernel_rfl) (by kernel_rfl) rfl ((hdep _ rfl 0 rfl _ rfl _ rfl).trans (t0 (hl2 _ rfl 0 rfl))) (hdep _ rfl 3 rfl _ rfl _ rfl)) (masked_any D pb N _ W DL.out (own_slice own (fun j _ => PP.out.2.1 j)) (by have := PP.out; omega)) fun e w' h => ?_
            obtain ⟨r, e1, own2, bw⟩ := h
            rw [PP.out.2.2.2.2.1] at own2
            refine ⟨_, e1, _, ⟨_, rfl, rfl⟩, t0, t1, t2, fun _ => ownsRow_below own bw, fun _ => own_base own2 tb.size, fun q => ?_, tb.trans (bw.mono tb.size)⟩
            have q' : l 5 = true := q
            rw [n5 hl] at q'; cases q'
          | 5, _ => exact stepV rfl rfl (execAsgB rfl (hdep _ rfl 4 rfl _ rfl _ rfl)) ⟨_, ⟨_, rfl, rfl⟩, t0, t1, t2, t3, t4, fun _ => rfl, tb⟩
          | n + 6, h => exact absurd h (by simp)
        · intro l x W hall hT
          obtain ⟨t0, t1, t2, t3, t4, t5, tb⟩ := hT
          have e0 := t0 (hall 0 (by simp))
          have e1 := t1 (hall 1 (by simp))
          have e2 := t2 (hall 2 (by simp))
          have e5 := t5 (hall 5 (by simp))
          have own := t4 (hall 4 (by simp))
          obtain ⟨bv, hbv⟩ : ∃ bv, x 4 = bv := ⟨_, rfl⟩
          rw [hbv] at own e5
          obtain ⟨ba, bc, rfl⟩ := own_shapeJ own
          have HB : Hid (SliceN W (.slice ba N bc) N bx ∧ W.heap[w1.heap.size]? = some (.cells (bA 80 D) 65) ∧ W.heap[V.heap.size]? = some (.cells (bA 16 nonce) 33) ∧ Below V.heap.size V W ∧ V.heap.size < W.heap.size) := ⟨own_slice own (fun j _ => PP.out.2.2.1 j), by rw [tb.block _ (Array.getElem?_eq_some_iff.1 H2.out.1).1]; exact H2.out.1, by rw [tb.block _ (Array.getElem?_eq_some_iff.1 H2.out.2.1).1]; exact H2.out.2.1, H2.out.2.2.trans (tb.mono H2.out.2.2.size), by have := (Array.getElem?_eq_some_iff.1 H2.out.2.1).1; have := tb.size; omega⟩
          have TG := tagOf_any D nonce bx L N (.slice ba N bc) W (HV.out.1.below HB.out.2.2.2.1 HV.out.1.sz) DL.out HV.out.2.1 (by have := PP.out; omega) (by have := PP.out; omega) (by have := PP.out; omega) HB.out.1
          rw [PP.out.2.2.2.2.2.1] at TG
          clear hall t0 t1 t2 t3 t4 t5 own tb
          generalize x 3 = x3
          simp only [putP, e0, e1, e2, e5, hbv, Act.put, List.setIfInBounds_toArray, List.set_cons_succ, List.set_cons_zero]
          clear e0 e1 e2 e5 hbv
          go_wp2_with (first
            | (refine atLoad 65 (.tmp 10) rfl ?_; go_must (refine wpList_ex rfl (execLdAll rfl rfl HB.out.2.1 Tryd.underlying65 rfl (size80 _)) ?_))
            | (refine atLoad 33 (.tmp 5) rfl ?_; go_must (refine wpList_ex rfl (execLdAll rfl rfl HB.out.2.2.1 Tryd.underlying33 rfl (size16 _)) ?_))
            | (go_at_call 37; refine TG.mono ?_; rintro e w5 ⟨rfl, hb5⟩; have B5 : Hid (_) := hb5; clear hb5)
            | (refine atStore 33 (.tmp 13) (.tmp 41) rfl ?_; go_must (refine wpList_exS rfl (execStAll (cells := bA 16 tg) rfl rfl rfl (heapNew w5 _) (by rw [bA_size, bA_size]) (size16 _) (bA_one _ _)) ?_; obtain ⟨W6, hW6⟩ : ∃ W6, (w5.alloc (.cells (bA 16 fun _ => 0) 33)).setRow w5.heap.size (bA 16 tg) = W6 := ⟨_, rfl⟩; have t6 : W6.heap[w5.heap.size]? = some (.cells (bA 16 tg) 33) := (by rw [← hW6]; exact setRow_heap _ _ _ _ _ _ (heapNew w5 _)); have b6 : Below w5.heap.size w5 W6 := (by rw [← hW6]; exact below4 (belNew w5 _) (Nat.le_refl _) _); have b56 : Below W.heap.size W W6 := B5.out.trans (b6.mono B5.out.size); have H6 : Hid (SliceN W6 (.slice (some ⟨w5.heap.size, 0, none⟩) 16 16) 16 tg ∧ SliceN W6 (.slice (some ⟨V.heap.size, 0, none⟩) 16 16) 16 nonce ∧ SliceN W6 (.slice ba N bc) N bx ∧ Below V.heap.size V W6 ∧ ba ≠ none) := ⟨row_slice t6 (fun j _ => PP.out.2.2.2.1 j) (by omega), row_slice (by rw [b56.block _ HB.out.2.2.2.2]; exact HB.out.2.2.1) (fun j hj => HV.out.2.1 j hj) (by omega), HB.out.1.on b56, HB.out.2.2.2.1.trans (b56.mono HB.out.2.2.2.1.size), (by intro q; obtain ⟨a', c', e', _, _, e3⟩ := HB.out.1.shape; obtain ⟨b', o', e'', _⟩ := e3 (by have := PP.out; omega); injection e' with e1'; rw [q, e''] at e1'; cases e1')⟩; rw [hW6]; clear t6 b6 b56 hW6))
            | (go_at_call 15; refine (PS _).mono ?_; rintro e w7 ⟨rfl, hw7⟩; subst hw7)
            | (refine wpList_ex rfl (execMk (l := 0) (n := 32 + N) rfl rfl rfl (by omega) (by have := PP.out; omega)) ?_; have O0 : Hid (_) := own_made w7 (B := w7.heap.size) (n := 32 + N) (Nat.le_refl _) (by have := PP.out; omega); have F0 : Hid (Below w7.heap.size w7 (w7.alloc (.cells (bA (32 + N) fun _ => 0) 5))) := belNew w7 _)
            | (refine atAppB (.tmp 45) (.tmp 46) rfl ?_; go_must (refine By8.wpList_appS (B := w7.heap.size) (n := 0) (m := 16) (p := on) rfl (.tmp 45) (.tmp 46) rfl rfl rfl O0.out (sliceN_cg (H6.out.2.1.on F0.out) OO.out.1) (fun l c e => by cases e) (by omega) F0.out.size ?_; intro u1 X1 ow1 gr1; have O1 : Hid (_) := ow1; have F1 : Hid (Below w7.heap.size w7 X1) := below_grown F0.out F0.out.size O0.out gr1; clear ow1 gr1))
            | (refine atAppB (.tmp 48) (.tmp 49) rfl ?_; go_must (refine By8.wpList_appS (B := w7.heap.size) (n := 0 + 16) (m := 16) (p := on) rfl (.tmp 48) (.tmp 49) rfl rfl rfl O1.out (sliceN_cg (H6.out.1.on F1.out) OO.out.2.1) (fun l c e => by cases e) (by omega) F1.out.size ?_; intro u2 X2 ow2 gr2; have O2 : Hid (_) := ow2; have F2 : Hid (Below w7.heap.size w7 X2) := below_grown F1.out F1.out.size O1.out gr2; clear ow2 gr2))
            | (refine atAppB (.tmp 51) (.tmp 52) rfl ?_; go_must (refine By8.wpList_appS (B := w7.heap.size) (n := 0 + 16 + 16) (m := N) (p := on) rfl (.tmp 51) (.tmp 52) rfl rfl rfl O2.out (sliceN_cg (H6.out.2.2.1.on F2.out) fun j _ => OO.out.2.2 j) (fun l c e => by injection e with e1; exact absurd e1 H6.out.2.2.2.2) (by have := PP.out; omega) F2.out.size ?_; intro u3 X3 ow3 gr3; have O3 : Hid (_) := ow3; have F3 : Hid (Below w7.heap.size w7 X3) := below_grown F2.out F2.out.size O2.out gr3; clear ow3 gr3)))
          refine bodyPost_ret (results_tmp2 rfl _ _ _) rfl ⟨_, rfl, ?_, H6.out.2.2.2.1.trans (F3.out.mono H6.out.2.2.2.1.size)⟩
          have := own_base O3.out H6.out.2.2.2.1.size
          rw [show 0 + 16 + 16 + N = 32 + N by omega] at this
          exact this
  · exact wrap_key key nonce inner lk n left vk vi V hk hl
end Go.Proofs.YtaiiomoajjhliaaDoor.Oni
