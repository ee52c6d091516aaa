import Derived.Test.YtmmdaiknggjmmaaO1
import Derived.OwnWalk
namespace Go.Proofs.Ytmmdaiknggjmmaa.Cel
open Go.RowKit Gf8 Aes By8
/- The reference's Cut and Open. -/

/-- A cell that was handed in: where it lies. -/
theorem cell_at {W : World} {v : Value} {len : Nat} {c : Nat → Nat} (h : SliceN W v len c) (h0 : 0 < len) : ∃ b off cap, v = .slice (some ⟨b, off, none⟩) len cap ∧ len ≤ cap ∧ cap < 9223372036854775808 ∧ ∀ j, j < len → W.cell? ⟨b, off + j, none⟩ = some (.int .u8 (c j)) := by
  obtain ⟨a, cap, e, h1, h2, h3⟩ := h.shape
  obtain ⟨b, off, rfl, _, hc⟩ := h3 h0
  exact ⟨b, off, cap, e, h1, h2, hc⟩
theorem piece {W : World} {b off len cap l m : Nat} {c : Nat → Nat} (h : SliceN W (.slice (some ⟨b, off, none⟩) len cap) len c) (hm : l + m ≤ len) : SliceN W (.slice (some ⟨b, off + l, none⟩) m (cap - l)) m fun j => c (l + j) := by
  obtain ⟨a', cap', e, h1, h2, h3⟩ := h.shape
  injection e with e1 e2 e3
  subst e3
  refine ⟨⟨_, _, rfl, by omega, by omega, fun h0 => ?_⟩, fun j hj => h.bytes _ (by omega)⟩
  obtain ⟨b', off', e4, hb, hc⟩ := h3 (by omega)
  rw [← e1] at e4
  injection e4 with e4
  injection e4 with e5 e6
  subst e5 e6
  exact ⟨b, off + l, rfl, hb, fun j hj => by rw [Nat.add_assoc]; exact hc _ (by omega)⟩

set_option maxRecDepth 20000 in
set_option maxHeartbeats 400000 in
theorem rcut_any (c : Nat → Nat) (len : Nat) (n : Int) (v : Value) (V : World) (hv : SliceZ V v len c) (hl : len ≤ 140737488351232) (h0 : -9223372036854775808 ≤ n) (h1 : n < 9223372036854775808) :
    Calls Try.prog 15 #[v, .int .i64 n] V fun e w' => ∃ r, e = .returned (.tuple #[r, .int .i64 (cutE c len n : Nat)]) ∧ w'.ownsRow V.heap.size 5 1 r (cutN c len n) (bytesL (cutN c len n) c) ∧ Below V.heap.size V w' := by
  have HV : Hid (SliceZ V v len c) := hv
  by_cases hs : len = 320
  · subst hs
    obtain ⟨b, off, cap, rfl, hc1, hc2, hc⟩ := cell_at hv.sl (by omega)
    clear hv hc
    by_cases hn : n < 0 ∨ 320 < n
    · have E : cutE c 320 n = 2 := by unfold cutE; rw [if_neg (by simp), if_pos hn]
      have E2 : cutN c 320 n = 0 := by unfold cutN; rw [E]; rfl
      rw [E, E2]
      clear E E2
      by_cases hn0 : n < 0
      · clear hn
        go_enter Try.func15, Try.ntmps15
        go_wp2
        refine bodyPost_ret (results_tmp2 rfl _ _ _) rfl ⟨_, rfl, World.ownsRow_nil _ _ _ _, Below.refl _ _⟩
      · have hn1 : n > 320 := by omega
        clear hn
        go_enter Try.func15, Try.ntmps15
        go_wp2
        refine bodyPost_ret (results_tmp2 rfl _ _ _) rfl ⟨_, rfl, World.ownsRow_nil _ _ _ _, Below.refl _ _⟩
    · obtain ⟨m, rfl⟩ : ∃ m : Nat, n = m := ⟨n.toNat, by omega⟩
      have hm : m ≤ 320 := by omega
      have n0 : ¬ (m : Int) < 0 := by omega
      have n1 : ¬ (m : Int) > 320 := by omega
      have NG := noughts_any c 320 m _ V HV.out.sl (by omega) (by omega)
      cases hz : zeroF 320 c m with
      | false =>
        have E : cutE c 320 m = 51 := by unfold cutE; rw [if_neg (by simp), if_neg hn]; rw [if_neg (by show ¬ zeroF 320 c m = true; rw [hz]; simp)]
        have E2 : cutN c 320 m = 0 := by unfold cutN; rw [E]; rfl
        rw [E, E2]
        rw [hz] at NG
        clear E E2 hn
        go_enter Try.func15, Try.ntmps15
        go_wp2_with (go_at_call 21; refine NG.mono ?_; rintro e w1 ⟨rfl, hb1⟩)
        refine bodyPost_ret (results_tmp2 rfl _ _ _) rfl ⟨_, rfl, World.ownsRow_nil _ _ _ _, hb1⟩
      | true =>
        have E : cutE c 320 m = 0 := by unfold cutE; rw [if_neg (by simp), if_neg hn]; exact if_pos hz
        have E2 : cutN c 320 m = m := by unfold cutN; rw [E]; rfl
        rw [E, E2]
        rw [hz] at NG
        have HM : Hid (m ≤ 320) := hm
        have lc : m ≤ cap := by omega
        have lc0 : ¬ cap = 0 := by omega
        clear E E2 hn hm
        go_enter Try.func15, Try.ntmps15
        go_wp2_with (first
          | (go_at_call 21; refine NG.mono ?_; rintro e w1 ⟨rfl, hb1⟩)
          | (refine atAppB (.tmp 22) (.tmp 25) rfl ?_; go_must (refine wpList_appS (B := w1.heap.size) (n := 0) (m := m) (p := c) rfl (.tmp 22) (.tmp 25) rfl rfl rfl (own_none w1 c) (piece (l := 0) (HV.out.sl.on (hb1.trans (belNew w1 _ |>.mono hb1.size))) (by have := HM.out; omega)) (fun l c h => by cases h) (by have := HM.out; omega) (by simp) ?_; intro u1 W1 own1 gr1; have b1 : Below w1.heap.size w1 W1 := below_grown (belNew w1 _) (by simp) (own_none w1 c) gr1; rw [Nat.zero_add] at own1; clear gr1)))
        refine bodyPost_ret (results_tmp2 rfl _ _ _) rfl ⟨_, rfl, own_base own1 hb1.size, hb1.trans (b1.mono hb1.size)⟩
  · have E : cutE c len n = 50 := by unfold cutE; rw [if_pos hs]
    have E2 : cutN c len n = 0 := by unfold cutN; rw [E]; rfl
    rw [E, E2]
    obtain ⟨ao, cap, rfl⟩ := hv.shape
    have z0 : ((len : Int) != 320) = true := by simp; omega
    clear E E2 hs hv
    go_enter Try.func15, Try.ntmps15
    go_wp2
    refine bodyPost_ret (results_tmp2 rfl _ _ _) rfl ⟨_, rfl, World.ownsRow_nil _ _ _ _, Below.refl _ _⟩

set_option maxRecDepth 20000 in
set_option maxHeartbeats 1000000 in
theorem ropen_any (c : Nat → Nat) (len : Nat) (v : Value) (V : World) (hv : SliceZ V v len c) (hl : len ≤ 140737488351232) :
    Calls Try.prog 16 #[v] V fun e w' => ∃ r, e = .returned (.tuple #[r, .bool (openY c len), .int .i64 (openE c len : Nat)]) ∧ w'.ownsRow V.heap.size 5 1 r (openN c len) (bytesL (openN c len) fun j => c (2 + j)) ∧ Below V.heap.size V w' := by
  have HV : Hid (SliceZ V v len c) := hv
  by_cases hs : len = 320
  · subst hs
    obtain ⟨b, off, cap, rfl, hc1, hc2, hc⟩ := cell_at hv.sl (by omega)
    have b0 := hv.sl.bytes 0 (by omega)
    have b1 := hv.sl.bytes 1 (by omega)
    obtain ⟨x, hx⟩ : ∃ x, c 0 = x := ⟨_, rfl⟩
    obtain ⟨y, hy⟩ : ∃ y, c 1 = y := ⟨_, rfl⟩
    have q0 : V.cell? ⟨b, off, none⟩ = some (.int .u8 x) := by have := hc 0 (by omega); rw [hx] at this; exact this
    have q1 : V.cell? ⟨b, off + 1, none⟩ = some (.int .u8 y) := by rw [hc 1 (by omega), hy]
    rw [hx] at b0
    rw [hy] at b1
    clear hv hc hl
    by_cases h1 : 1 < x
    · have E : openE c 320 = 52 := by unfold openE; rw [if_neg (by simp), if_pos (by omega)]
      have Y : openY c 320 = false := by unfold openY; simp; omega
      have N : openN c 320 = 0 := by unfold openN; rw [Y]; rfl
      rw [E, Y, N]
      have i1 : (x : Int) > 1 := by omega
      clear E Y N hx hy h1
      go_enter Try.func16, Try.ntmps16
      go_wp2
      refine bodyPost_ret (results_tmp3 rfl _ _ _) rfl ⟨_, rfl, World.ownsRow_nil _ _ _ _, Below.refl _ _⟩
    · have i1 : ¬ (x : Int) > 1 := by omega
      by_cases h0 : x = 0
      · have E : openE c 320 = 0 := by unfold openE; rw [if_neg (by simp), if_neg (by omega), if_pos (by omega)]
        have Y : openY c 320 = false := by unfold openY; simp; omega
        have N : openN c 320 = 0 := by unfold openN; rw [Y]; rfl
        rw [E, Y, N]
        subst h0
        clear E Y N hx hy h1
        go_enter Try.func16, Try.ntmps16
        go_wp2
        refine bodyPost_ret (results_tmp3 rfl _ _ _) rfl ⟨_, rfl, World.ownsRow_nil _ _ _ _, Below.refl _ _⟩
      · have ex : x = 1 := by omega
        subst ex
        by_cases h48 : 48 < y
        · have E : openE c 320 = 53 := by unfold openE; rw [if_neg (by simp), if_neg (by omega), if_neg (by omega), if_pos (by omega)]
          have Y : openY c 320 = false := by unfold openY; simp; omega
          have N : openN c 320 = 0 := by unfold openN; rw [Y]; rfl
          rw [E, Y, N]
          have i2 : (y : Int) > 48 := by omega
          clear E Y N hx hy h1 h0
          go_enter Try.func16, Try.ntmps16
          go_wp2
          refine bodyPost_ret (results_tmp3 rfl _ _ _) rfl ⟨_, rfl, World.ownsRow_nil _ _ _ _, Below.refl _ _⟩
        · have i2 : ¬ (y : Int) > 48 := by omega
          have i3 : (y : Int) ≤ 48 := by omega
          obtain ⟨m, hm⟩ : ∃ m, 2 + y = m := ⟨_, rfl⟩
          have e2 : 2 + (y : Int) = m := by omega
          have i4 : (m : Int) ≤ 50 := by omega
          have NG := noughts_any c 320 m _ V HV.out.sl (by omega) (by omega)
          cases hz : zeroF 320 c m with
          | false =>
            have zf : ¬ zeroFrom c (2 + c 1) = true := by rw [hy, hm]; show ¬ zeroF 320 c m = true; rw [hz]; simp
            have E : openE c 320 = 51 := by unfold openE; rw [if_neg (by simp), if_neg (by omega), if_neg (by omega), if_neg (by omega), if_neg zf]
            have Y : openY c 320 = false := by unfold openY; simp only [Bool.and_eq_false_iff]; exact Or.inr (by simpa using zf)
            have N : openN c 320 = 0 := by unfold openN; rw [Y]; rfl
            rw [E, Y, N]
            rw [hz] at NG
            clear E Y N hx hy h1 h0 zf hm
            go_enter Try.func16, Try.ntmps16
            go_wp2_with (go_at_call 21; refine NG.mono ?_; rintro e w1 ⟨rfl, hb1⟩)
            refine bodyPost_ret (results_tmp3 rfl _ _ _) rfl ⟨_, rfl, World.ownsRow_nil _ _ _ _, hb1⟩
          | true =>
            have zf : zeroFrom c (2 + c 1) = true := by rw [hy, hm]; exact hz
            have E : openE c 320 = 0 := by unfold openE; rw [if_neg (by simp), if_neg (by omega), if_neg (by omega), if_neg (by omega), if_pos zf]
            have Y : openY c 320 = true := by unfold openY; simp only [Bool.and_eq_true, decide_eq_true_eq]; exact ⟨⟨⟨trivial, hx⟩, by omega⟩, zf⟩
            have N : openN c 320 = y := by unfold openN; rw [Y, if_pos rfl, hy]
            rw [E, Y, N]
            rw [hz] at NG
            have HM : Hid (2 + y = m ∧ y ≤ 48 ∧ m - 2 = y) := ⟨hm, by omega, by omega⟩
            have HB : Hid (b < V.heap.size) := World.block_lt_of_cell? V _ q0
            have lc : m ≤ cap := by omega
            have lc1 : 2 ≤ m := by omega
            have lc0 : ¬ cap = 2 := by omega
            clear E Y N hx hy h1 h0 zf hm
            go_enter Try.func16, Try.ntmps16
            go_wp2_with (first
              | (go_at_call 21; refine NG.mono ?_; rintro e w1 ⟨rfl, hb1⟩; have q2 : w1.cell? ⟨b, off + 1, none⟩ = some (.int .u8 y) := (by rw [cell_below hb1 HB.out]; exact q1); have q3 : (w1.alloc (.cells #[] 5)).cell? ⟨b, off + 1, none⟩ = some (.int .u8 y) := (by rw [cell_below (belNew w1 _) (Nat.lt_of_lt_of_le HB.out hb1.size)]; exact q2))
              | (refine atAppB (.tmp 33) (.tmp 40) rfl ?_; go_must (refine wpList_appS (B := w1.heap.size) (n := 0) (m := m - 2) (p := fun j => c (2 + j)) rfl (.tmp 33) (.tmp 40) rfl rfl rfl (own_none w1 _) (sliceN_cg (piece (l := 2) (m := m - 2) (HV.out.sl.on (hb1.trans (belNew w1 _ |>.mono hb1.size))) (by have := HM.out; omega)) (fun j _ => congrArg (fun i => c (2 + i)) (Nat.zero_add j).symm)) (fun l c h => by cases h) (by have := HM.out; omega) (by simp) ?_; intro u1 W1 own1 gr1; have b1 : Below w1.heap.size w1 W1 := below_grown (belNew w1 _) (by simp) (own_none w1 c) gr1; rw [Nat.zero_add, HM.out.2.2] at own1; clear gr1)))
            refine bodyPost_ret (results_tmp3 rfl _ _ _) rfl ⟨_, rfl, own_base own1 hb1.size, hb1.trans (b1.mono hb1.size)⟩
  · have E : openE c len = 50 := by unfold openE; rw [if_pos hs]
    have Y : openY c len = false := by unfold openY; simp [hs]
    have N : openN c len = 0 := by unfold openN; rw [Y]; rfl
    rw [E, Y, N]
    obtain ⟨ao, cap, rfl⟩ := hv.shape
    have z0 : ((len : Int) != 320) = true := by simp; omega
    clear E Y N hs hv
    go_enter Try.func16, Try.ntmps16
    go_wp2
    refine bodyPost_ret (results_tmp3 rfl _ _ _) rfl ⟨_, rfl, World.ownsRow_nil _ _ _ _, Below.refl _ _⟩
end Go.Proofs.Ytmmdaiknggjmmaa.Cel
