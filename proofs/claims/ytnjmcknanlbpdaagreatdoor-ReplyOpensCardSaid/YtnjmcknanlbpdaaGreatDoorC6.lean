import Derived.Test.YtnjmcknanlbpdaaGreatDoorC5
namespace Go.Proofs.YtnjmcknanlbpdaaGreatDoor.Cel
open Go.RowKit Gf8 Aes By8
/- The program's layer 5. -/

/-- No head. -/
theorem no_head (V : World) : SliceN V (.slice none 0 0) 0 headO := ⟨⟨none, 0, rfl, Nat.le_refl _, by omega, fun h => by omega⟩, fun j h => by omega⟩
set_option maxRecDepth 20000 in
theorem pad_any (p : Nat → Nat) (len : Nat) (v : Value) (V : World) (hv : SliceZ V v len p) (hl : len ≤ 140737488351232) :
    Calls Tryz.prog 23 #[v] V fun e w' => ∃ r, e = .returned (.tuple #[r, .int .i64 (okE 320 len : Nat)]) ∧ w'.ownsRow V.heap.size 5 1 r (okN 320 len) (bytesL (okN 320 len) (cellF 0 headO len p)) ∧ Below V.heap.size V w' := by
  have HV : Hid (SliceZ V v len p) := hv
  obtain ⟨ao, cap, rfl⟩ := hv.shape
  have lb : (len : Int) ≤ 140737488351232 := by omega
  clear hv
  by_cases h : len ≤ 320
  · have i1 : ¬ (len : Int) > 320 := by omega
    rw [show okN 320 len = 320 from if_pos h, show okE 320 len = 0 from if_pos h]
    go_enter Tryz.func23, Tryz.ntmps23
    go_wp2_with (go_at_call 41; refine (filled_any 0 len headO p _ _ V (no_head V) HV.out.sl (by omega) (by omega)).mono ?_; rintro e w1 ⟨r, rfl, own, hb1⟩)
    refine bodyPost_ret (results_tmp2 rfl _ _ _) rfl ⟨_, rfl, own, hb1⟩
  · have i1 : (len : Int) > 320 := by omega
    rw [show okN 320 len = 0 from if_neg h, show okE 320 len = 1 from if_neg h]
    go_enter Tryz.func23, Tryz.ntmps23
    go_wp2
    refine bodyPost_ret (results_tmp2 rfl _ _ _) rfl ⟨_, rfl, World.ownsRow_nil _ _ _ _, Below.refl _ _⟩
theorem head2_slice (V : World) (x y : Nat) (h : Nat → Nat) (h0 : h 0 = x) (h1 : h 1 = y) (b0 : x < 256) (b1 : y < 256) : SliceN (V.alloc (.cells #[.int .u8 x, .int .u8 y] 5)) (.slice (some ⟨V.heap.size, 0, none⟩) 2 2) 2 h := by
  refine ⟨⟨_, _, rfl, Nat.le_refl _, by omega, fun _ => ⟨V.heap.size, 0, rfl, by simp, fun j hj => ?_⟩⟩, fun j hj => ?_⟩
  · rw [cell_of_row _ _ _ _ _ _ (heapNew V _), Nat.zero_add]
    match j, hj with
    | 0, _ => rw [h0]; rfl
    | 1, _ => rw [h1]; rfl
  · match j, hj with
    | 0, _ => rw [h0]; exact b0
    | 1, _ => rw [h1]; exact b1
set_option maxRecDepth 20000 in
theorem plain_any (p : Nat → Nat) (len : Nat) (v : Value) (V : World) (hv : SliceZ V v len p) (hl : len ≤ 140737488351232) :
    Calls Tryz.prog 90 #[v] V fun e w' => ∃ r, e = .returned (.tuple #[r, .int .i64 (okE 48 len : Nat)]) ∧ w'.ownsRow V.heap.size 5 1 r (okN 48 len) (bytesL (okN 48 len) (cellF 2 (headP len) len p)) ∧ Below V.heap.size V w' := by
  have HV : Hid (SliceZ V v len p) := hv
  obtain ⟨ao, cap, rfl⟩ := hv.shape
  have lb : (len : Int) ≤ 140737488351232 := by omega
  clear hv
  by_cases h : len ≤ 48
  · have i1 : ¬ (len : Int) > 48 := by omega
    have i2 : (len : Int) ≤ 48 := by omega
    have i3 : (len : Int) % 256 = len := by omega
    have HH : Hid (len ≤ 48) := h
    rw [show okN 48 len = 320 from if_pos h, show okE 48 len = 0 from if_pos h]
    clear h
    go_enter Tryz.func90, Tryz.ntmps90
    go_wp2_with (go_at_call 41; refine (filled_any 2 len (headP len) p _ _ _ (head2_slice V 1 len (headP len) rfl rfl (by omega) (by have := HH.out; omega)) (HV.out.sl.on (belNew V _)) (by omega) (by have := HH.out; omega)).mono ?_; rintro e w1 ⟨r, rfl, own, hb1⟩)
    refine bodyPost_ret (results_tmp2 rfl _ _ _) rfl ⟨_, rfl, own_base own (by simp), (belNew V _).trans (hb1.mono (by simp))⟩
  · have i1 : (len : Int) > 48 := by omega
    rw [show okN 48 len = 0 from if_neg h, show okE 48 len = 1 from if_neg h]
    go_enter Tryz.func90, Tryz.ntmps90
    go_wp2
    refine bodyPost_ret (results_tmp2 rfl _ _ _) rfl ⟨_, rfl, World.ownsRow_nil _ _ _ _, Below.refl _ _⟩
/-- A piece of a cell, by its bounds. -/
theorem cut_shape (b off cap l h : Nat) : ∃ ad, sliced (some ⟨b, off, none⟩) l h cap 1 = .slice (some ad) (h - l) (cap - l) := by
  unfold sliced
  by_cases e : cap = l
  · exact ⟨_, by rw [if_pos e]⟩
  · exact ⟨_, by rw [if_neg e]; rfl⟩

set_option maxRecDepth 20000 in
set_option maxHeartbeats 400000 in
theorem cut_any (c : Nat → Nat) (len : Nat) (n : Int) (v : Value) (V : World) (hv : SliceZ V v len c) (hl : len ≤ 140737488351232) (h0 : -9223372036854775808 ≤ n) (h1 : n < 9223372036854775808) :
    Calls Tryz.prog 74 #[v, .int .i64 n] V fun e w' => ∃ r, e = .returned (.tuple #[r, .int .i64 (cutE c len n : Nat)]) ∧ w'.ownsRow V.heap.size 5 1 r (cutN c len n) (bytesL (cutN c len n) c) ∧ Below V.heap.size V w' := by
  have HV : Hid (SliceZ V v len c) := hv
  by_cases hs : len = 320
  · subst hs
    obtain ⟨b, off, cap, rfl, hc1, hc2, hc⟩ := cell_at hv.sl (by omega)
    clear hv hc
    by_cases hn : n < 0 ∨ 320 < n
    · have E : cutE c 320 n = 2 := by unfold cutE; rw [if_neg (by simp), if_pos hn]
      have E2 : cutN c 320 n = 0 := by unfold cutN; rw [E]; rfl
      rw [E, E2]
      clear E E2
      by_cases hn0 : n < 0
      · clear hn
        go_enter Tryz.func74, Tryz.ntmps74
        go_wp2
        refine bodyPost_ret (results_tmp2 rfl _ _ _) rfl ⟨_, rfl, World.ownsRow_nil _ _ _ _, Below.refl _ _⟩
      · have hn1 : n > 320 := by omega
        clear hn
        go_enter Tryz.func74, Tryz.ntmps74
        go_wp2
        refine bodyPost_ret (results_tmp2 rfl _ _ _) rfl ⟨_, rfl, World.ownsRow_nil _ _ _ _, Below.refl _ _⟩
    · obtain ⟨m, rfl⟩ : ∃ m : Nat, n = m := ⟨n.toNat, by omega⟩
      have hm : m ≤ 320 := by omega
      have n0 : ¬ (m : Int) < 0 := by omega
      have n1 : ¬ (m : Int) > 320 := by omega
      obtain ⟨a1, e1⟩ := cut_shape b off cap m 320
      obtain ⟨a2, e2⟩ := cut_shape b off cap 0 m
      have p1 := HV.out.sl.sub m 320 hm (Nat.le_refl _)
      have p2 := HV.out.sl.sub 0 m (Nat.zero_le _) hm
      have NG := pnoughts_any _ _ _ V p1 (by omega)
      rw [e1] at NG
      rw [e2] at p2
      simp only [Nat.sub_zero, Nat.zero_add] at p2 e2
      have s1 := fun W => By8.slice_l (some ⟨b, off, none⟩) 320 cap m hm W
      have s2 := fun W => By8.slice_h (some ⟨b, off, none⟩) 320 cap m (by omega) W
      rw [e1] at s1
      rw [e2] at s2
      rw [zeroF_piece c 320 m hm] at NG
      clear e1 e2 p1
      cases hz : zeroF 320 c m with
      | false =>
        have E : cutE c 320 m = 51 := by unfold cutE; rw [if_neg (by simp), if_neg hn]; rw [if_neg (by show ¬ zeroF 320 c m = true; rw [hz]; simp)]
        have E2 : cutN c 320 m = 0 := by unfold cutN; rw [E]; rfl
        rw [E, E2]
        rw [hz] at NG
        clear E E2 hn p2
        go_enter Tryz.func74, Tryz.ntmps74
        go_wp2_with (go_at_call 61; refine NG.mono ?_; rintro e w1 ⟨rfl, hb1⟩)
        refine bodyPost_ret (results_tmp2 rfl _ _ _) rfl ⟨_, rfl, World.ownsRow_nil _ _ _ _, hb1⟩
      | true =>
        have E : cutE c 320 m = 0 := by unfold cutE; rw [if_neg (by simp), if_neg hn]; exact if_pos hz
        have E2 : cutN c 320 m = m := by unfold cutN; rw [E]; rfl
        rw [E, E2]
        rw [hz] at NG
        have HM : Hid (m ≤ 320) := hm
        have P2 : Hid (_) := p2
        clear E E2 hn hm p2
        go_enter Tryz.func74, Tryz.ntmps74
        go_wp2_with (first
          | (go_at_call 61; refine NG.mono ?_; rintro e w1 ⟨rfl, hb1⟩)
          | (go_at_call 62; refine (clone_any c m a2 cap w1 (P2.out.on hb1) HM.out).mono ?_; rintro e w2 ⟨r, rfl, own, hb2⟩))
        refine bodyPost_ret (results_tmp2 rfl _ _ _) rfl ⟨_, rfl, own_base own hb1.size, hb1.trans (hb2.mono hb1.size)⟩
  · have E : cutE c len n = 50 := by unfold cutE; rw [if_pos hs]
    have E2 : cutN c len n = 0 := by unfold cutN; rw [E]; rfl
    rw [E, E2]
    obtain ⟨ao, cap, rfl⟩ := hv.shape
    have z0 : ((len : Int) != 320) = true := by simp; omega
    clear E E2 hs hv
    go_enter Tryz.func74, Tryz.ntmps74
    go_wp2
    refine bodyPost_ret (results_tmp2 rfl _ _ _) rfl ⟨_, rfl, World.ownsRow_nil _ _ _ _, Below.refl _ _⟩

set_option maxRecDepth 20000 in
set_option maxHeartbeats 1000000 in
theorem opened_any (c : Nat → Nat) (v : Value) (V : World) (hv : SliceZ V v 320 c) (hk : c 0 = 1) :
    Calls Tryz.prog 50 #[v] V fun e w' => ∃ r, e = .returned (.tuple #[r, .bool (openY c 320), .int .i64 (openE c 320 : Nat)]) ∧ w'.ownsRow V.heap.size 5 1 r (openN c 320) (bytesL (openN c 320) fun j => c (2 + j)) ∧ Below V.heap.size V w' := by
  have HV : Hid (SliceZ V v 320 c) := hv
  obtain ⟨b, off, cap, rfl, hc1, hc2, hc⟩ := cell_at hv.sl (by omega)
  have b1 := hv.sl.bytes 1 (by omega)
  obtain ⟨y, hy⟩ : ∃ y, c 1 = y := ⟨_, rfl⟩
  have q1 : V.cell? ⟨b, off + 1, none⟩ = some (.int .u8 y) := by rw [hc 1 (by omega), hy]
  rw [hy] at b1
  clear hv hc
  by_cases h48 : 48 < y
  · have E : openE c 320 = 53 := by unfold openE; rw [if_neg (by simp), if_neg (by omega), if_neg (by omega), if_pos (by omega)]
    have Y : openY c 320 = false := by unfold openY; simp; omega
    have N : openN c 320 = 0 := by unfold openN; rw [Y]; rfl
    rw [E, Y, N]
    have i2 : (y : Int) > 48 := by omega
    clear E Y N hk hy
    go_enter Tryz.func50, Tryz.ntmps50
    go_wp2
    refine bodyPost_ret (results_tmp3 rfl _ _ _) rfl ⟨_, rfl, World.ownsRow_nil _ _ _ _, Below.refl _ _⟩
  · have i2 : ¬ (y : Int) > 48 := by omega
    have i3 : (y : Int) ≤ 48 := by omega
    obtain ⟨m, hm⟩ : ∃ m, 2 + y = m := ⟨_, rfl⟩
    have e2 : 2 + (y : Int) = m := by omega
    have hm3 : m ≤ 320 := by omega
    obtain ⟨a1, e1⟩ := cut_shape b off cap m 320
    obtain ⟨a2, e3⟩ := cut_shape b off cap 2 m
    have p1 := HV.out.sl.sub m 320 hm3 (Nat.le_refl _)
    have p2 := HV.out.sl.sub 2 m (by omega) hm3
    have NG := pnoughts_any _ _ _ V p1 (by omega)
    rw [e1] at NG
    rw [e3] at p2
    have s1 := fun W => By8.slice_l (some ⟨b, off, none⟩) 320 cap m hm3 W
    have s2 : ∀ W, (Instr.sliceAt 22 (.slice (some ⟨b, off, none⟩) 320 cap) (some (.int .i64 2)) (some (.int .i64 (m : Int))) none).run Tryz.prog W = .ok (sliced (some ⟨b, off, none⟩) 2 m cap 1) W := fun W => By8.slice_lh (some ⟨b, off, none⟩) 320 cap 2 m (by omega) (by omega) W
    rw [e1] at s1
    rw [e3] at s2
    rw [zeroF_piece c 320 m hm3] at NG
    clear e1 e3 p1
    cases hz : zeroF 320 c m with
    | false =>
      have zf : ¬ zeroFrom c (2 + c 1) = true := by rw [hy, hm]; show ¬ zeroF 320 c m = true; rw [hz]; simp
      have E : openE c 320 = 51 := by unfold openE; rw [if_neg (by simp), if_neg (by omega), if_neg (by omega), if_neg (by omega), if_neg zf]
      have Y : openY c 320 = false := by unfold openY; simp only [Bool.and_eq_false_iff]; exact Or.inr (by simpa using zf)
      have N : openN c 320 = 0 := by unfold openN; rw [Y]; rfl
      rw [E, Y, N]
      rw [hz] at NG
      clear E Y N hk hy zf hm p2
      go_enter Tryz.func50, Tryz.ntmps50
      go_wp2_with (go_at_call 61; refine NG.mono ?_; rintro e w1 ⟨rfl, hb1⟩)
      refine bodyPost_ret (results_tmp3 rfl _ _ _) rfl ⟨_, rfl, World.ownsRow_nil _ _ _ _, hb1⟩
    | true =>
      have zf : zeroFrom c (2 + c 1) = true := by rw [hy, hm]; exact hz
      have E : openE c 320 = 0 := by unfold openE; rw [if_neg (by simp), if_neg (by omega), if_neg (by omega), if_neg (by omega), if_pos zf]
      have Y : openY c 320 = true := by unfold openY; simp only [Bool.and_eq_true, decide_eq_true_eq]; exact ⟨⟨⟨trivial, hk⟩, by omega⟩, zf⟩
      have N : openN c 320 = m - 2 := by unfold openN; rw [Y, if_pos rfl, hy]; omega
      rw [E, Y, N]
      rw [hz] at NG
      have HM : Hid (m - 2 ≤ 320) := by show m - 2 ≤ 320; omega
      have P2 : Hid (_) := p2
      clear E Y N hk hy zf hm hm3 p2
      go_enter Tryz.func50, Tryz.ntmps50
      go_wp2_with (first
        | (go_at_call 61; refine NG.mono ?_; rintro e w1 ⟨rfl, hb1⟩)
        | (go_at_call 62; refine (clone_any (fun j => c (2 + j)) (m - 2) a2 (cap - 2) w1 (P2.out.on hb1) HM.out).mono ?_; rintro e w2 ⟨r, rfl, own, hb2⟩))
      refine bodyPost_ret (results_tmp3 rfl _ _ _) rfl ⟨_, rfl, own_base own hb1.size, hb1.trans (hb2.mono hb1.size)⟩

set_option maxRecDepth 20000 in
set_option maxHeartbeats 1000000 in
theorem open_any (c : Nat → Nat) (len : Nat) (v : Value) (V : World) (hv : SliceZ V v len c) (hl : len ≤ 140737488351232) :
    Calls Tryz.prog 27 #[v] V fun e w' => ∃ r, e = .returned (.tuple #[r, .bool (openY c len), .int .i64 (openE c len : Nat)]) ∧ w'.ownsRow V.heap.size 5 1 r (openN c len) (bytesL (openN c len) fun j => c (2 + j)) ∧ Below V.heap.size V w' := by
  have HV : Hid (SliceZ V v len c) := hv
  by_cases hs : len = 320
  · subst hs
    obtain ⟨b, off, cap, rfl, hc1, hc2, hc⟩ := cell_at hv.sl (by omega)
    have b0 := hv.sl.bytes 0 (by omega)
    obtain ⟨x, hx⟩ : ∃ x, c 0 = x := ⟨_, rfl⟩
    have q0 : V.cell? ⟨b, off, none⟩ = some (.int .u8 x) := by have := hc 0 (by omega); rw [hx] at this; exact this
    rw [hx] at b0
    clear hv hc hl
    by_cases h0 : x = 0
    · have E : openE c 320 = 0 := by unfold openE; rw [if_neg (by simp), if_neg (by omega), if_pos (by omega)]
      have Y : openY c 320 = false := by unfold openY; simp; omega
      have N : openN c 320 = 0 := by unfold openN; rw [Y]; rfl
      rw [E, Y, N]
      subst h0
      clear E Y N hx
      go_enter Tryz.func27, Tryz.ntmps27
      go_wp2
      refine bodyPost_ret (results_tmp3 rfl _ _ _) rfl ⟨_, rfl, World.ownsRow_nil _ _ _ _, Below.refl _ _⟩
    · have i0 : ((x : Int) == 0) = false := by simp; omega
      by_cases h1 : x = 1
      · subst h1
        have OP := opened_any c _ V HV.out hx
        clear hx h0
        go_enter Tryz.func27, Tryz.ntmps27
        go_wp2_with (go_at_call 50; refine OP.mono ?_; rintro e w1 ⟨r, rfl, own, hb1⟩)
        refine bodyPost_ret (results_tmp3 rfl _ _ _) rfl ⟨_, rfl, own, hb1⟩
      · have i1 : ((x : Int) == 1) = false := by simp; omega
        have E : openE c 320 = 52 := by unfold openE; rw [if_neg (by simp), if_pos (by omega)]
        have Y : openY c 320 = false := by unfold openY; simp; omega
        have N : openN c 320 = 0 := by unfold openN; rw [Y]; rfl
        rw [E, Y, N]
        clear E Y N hx h0 h1
        go_enter Tryz.func27, Tryz.ntmps27
        go_wp2
        refine bodyPost_ret (results_tmp3 rfl _ _ _) rfl ⟨_, rfl, World.ownsRow_nil _ _ _ _, Below.refl _ _⟩
  · have E : openE c len = 50 := by unfold openE; rw [if_pos hs]
    have Y : openY c len = false := by unfold openY; simp [hs]
    have N : openN c len = 0 := by unfold openN; rw [Y]; rfl
    rw [E, Y, N]
    obtain ⟨ao, cap, rfl⟩ := hv.shape
    have z0 : ((len : Int) != 320) = true := by simp; omega
    clear E Y N hs hv
    go_enter Tryz.func27, Tryz.ntmps27
    go_wp2
    refine bodyPost_ret (results_tmp3 rfl _ _ _) rfl ⟨_, rfl, World.ownsRow_nil _ _ _ _, Below.refl _ _⟩
end Go.Proofs.YtnjmcknanlbpdaaGreatDoor.Cel
