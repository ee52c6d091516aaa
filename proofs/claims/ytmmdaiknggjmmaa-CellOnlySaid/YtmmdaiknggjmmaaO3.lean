import Derived.Test.YtmmdaiknggjmmaaO2
namespace Go.Proofs.Ytmmdaiknggjmmaa.Cel
open Go.RowKit Gf8 Aes By8
/- CellMakes, CellReads. -/

theorem headP_lt {len : Nat} (h : len ≤ 48) : ∀ j, j < 2 → headP len j < 256 := fun j _ => by unfold headP; split <;> omega
theorem plain_lt {len : Nat} {p : Nat → Nat} (hp : ∀ j, j < len → p j < 256) : ∀ j, j < okN 48 len → cellF 2 (headP len) len p j < 256 := by
  intro j hj
  by_cases h : len ≤ 48
  · exact cellF_lt (headP_lt h) hp j
  · rw [show okN 48 len = 0 from if_neg h] at hj; omega
theorem headO_lt {hl : Nat} : ∀ j, j < hl → headO j < 256 := fun j _ => by unfold headO; omega

set_option maxRecDepth 20000 in
set_option maxHeartbeats 1000000 in
theorem makes_any (I : Impl) (p : Nat → Nat) (len : Nat) (v : Value) (V : World) (hv : SliceZ V v len p) (hl : len ≤ 140737488351232) :
    Calls Try.prog 3 #[v] V fun e w' => e = .returned (.bool true) ∧ Below V.heap.size V w' := by
  have HI : Hid Impl := I
  have HL : Hid (len ≤ 140737488351232) := hl
  have P0 : Hid (∀ j, j < okN 320 len → cellF 0 headO len p j < 256) := fun j _ => cellF_lt headO_lt hv.sl.bytes j
  have P1 : Hid (∀ j, j < okN 48 len → cellF 2 (headP len) len p j < 256) := plain_lt hv.sl.bytes
  have P2 : Hid (∀ j, j < okN 319 len → cellF 1 headO len p j < 256) := fun j _ => cellF_lt headO_lt hv.sl.bytes j
  have sv : Hid (SliceZ V v len p) := hv
  have bel : Hid (Below V.heap.size V V) := Below.refl _ _
  clear I hl hv
  obtain ⟨n0, e0⟩ : ∃ n, okN 320 len = n := ⟨_, rfl⟩
  obtain ⟨n1, e1⟩ : ∃ n, okN 48 len = n := ⟨_, rfl⟩
  obtain ⟨n2, e2⟩ : ∃ n, okN 319 len = n := ⟨_, rfl⟩
  obtain ⟨f0, g0⟩ : ∃ f, cellF 0 headO len p = f := ⟨_, rfl⟩
  obtain ⟨f1, g1⟩ : ∃ f, cellF 2 (headP len) len p = f := ⟨_, rfl⟩
  obtain ⟨f2, g2⟩ : ∃ f, cellF 1 headO len p = f := ⟨_, rfl⟩
  have X0 : Hid (okN 320 len = n0 ∧ cellF 0 headO len p = f0) := ⟨e0, g0⟩
  have X1 : Hid (okN 48 len = n1 ∧ cellF 2 (headP len) len p = f1) := ⟨e1, g1⟩
  have X2 : Hid (okN 319 len = n2 ∧ cellF 1 headO len p = f2) := ⟨e2, g2⟩
  rw [e0, g0] at P0
  rw [e1, g1] at P1
  rw [e2, g2] at P2
  clear e0 e1 e2 g0 g1 g2
  go_enter Try.func3, Try.ntmps3
  go_wp2_with (first
    | (go_at_call 8; refine (awake_any HI.out _).mono ?_; rintro e w0 ⟨rfl, hb0⟩; have sv : Hid (SliceZ w0 v len p) := sv.out.on hb0; have bel : Hid (Below V.heap.size V w0) := bel.out.trans (hb0.mono bel.out.size); clear hb0)
    | (go_at_call 9; refine (rpad_any p len v _ sv.out HL.out).mono ?_; rintro e w1 ⟨x, rfl, ox, hb1⟩; have sv : Hid (SliceZ w1 v len p) := sv.out.on hb1; have bel : Hid (Below V.heap.size V w1) := bel.out.trans (hb1.mono bel.out.size); rw [X0.out.1, X0.out.2] at ox; have sx : Hid (SliceN w1 x n0 f0) := own_slice ox P0.out; clear ox hb1)
    | (go_at_call 10; refine (rplain_any p len v _ sv.out HL.out).mono ?_; rintro e w2 ⟨y, rfl, oy, hb2⟩; have sv : Hid (SliceZ w2 v len p) := sv.out.on hb2; have bel : Hid (Below V.heap.size V w2) := bel.out.trans (hb2.mono bel.out.size); have sx : Hid (SliceN w2 x n0 f0) := sx.out.on hb2; rw [X1.out.1, X1.out.2] at oy; have sy : Hid (SliceN w2 y n1 f1) := own_slice oy P1.out; clear oy hb2)
    | (go_at_call 11; refine (rnoise_any p len v _ sv.out HL.out).mono ?_; rintro e w3 ⟨z, rfl, oz, hb3⟩; have sv : Hid (SliceZ w3 v len p) := sv.out.on hb3; have bel : Hid (Below V.heap.size V w3) := bel.out.trans (hb3.mono bel.out.size); have sx : Hid (SliceN w3 x n0 f0) := sx.out.on hb3; have sy : Hid (SliceN w3 y n1 f1) := sy.out.on hb3; rw [X2.out.1, X2.out.2] at oz; have sz : Hid (SliceN w3 z n2 f2) := own_slice oz P2.out; clear oz hb3)
    | (go_at_call 12; refine (HI.out.pad p len v _ sv.out HL.out).mono ?_; rintro e w4 ⟨a, rfl, oa, hb4⟩; have sv : Hid (SliceZ w4 v len p) := sv.out.on hb4; have bel : Hid (Below V.heap.size V w4) := bel.out.trans (hb4.mono bel.out.size); have sx : Hid (SliceN w4 x n0 f0) := sx.out.on hb4; have sy : Hid (SliceN w4 y n1 f1) := sy.out.on hb4; have sz : Hid (SliceN w4 z n2 f2) := sz.out.on hb4; rw [X0.out.1, X0.out.2] at oa; have sa : Hid (SliceN w4 a n0 f0) := own_slice oa P0.out; clear oa hb4)
    | (go_at_call 13; refine (HI.out.plain p len v _ sv.out HL.out).mono ?_; rintro e w5 ⟨b, rfl, ob, hb5⟩; have sv : Hid (SliceZ w5 v len p) := sv.out.on hb5; have bel : Hid (Below V.heap.size V w5) := bel.out.trans (hb5.mono bel.out.size); have sx : Hid (SliceN w5 x n0 f0) := sx.out.on hb5; have sy : Hid (SliceN w5 y n1 f1) := sy.out.on hb5; have sz : Hid (SliceN w5 z n2 f2) := sz.out.on hb5; have sa : Hid (SliceN w5 a n0 f0) := sa.out.on hb5; rw [X1.out.1, X1.out.2] at ob; have sb : Hid (SliceN w5 b n1 f1) := own_slice ob P1.out; clear ob hb5)
    | (go_at_call 14; refine (HI.out.noise p len v _ sv.out HL.out).mono ?_; rintro e w6 ⟨c, rfl, oc, hb6⟩; have bel : Hid (Below V.heap.size V w6) := bel.out.trans (hb6.mono bel.out.size); have sx : Hid (SliceN w6 x n0 f0) := sx.out.on hb6; have sy : Hid (SliceN w6 y n1 f1) := sy.out.on hb6; have sz : Hid (SliceN w6 z n2 f2) := sz.out.on hb6; have sa : Hid (SliceN w6 a n0 f0) := sa.out.on hb6; have sb : Hid (SliceN w6 b n1 f1) := sb.out.on hb6; rw [X2.out.1, X2.out.2] at oc; have sc : Hid (SliceN w6 c n2 f2) := own_slice oc P2.out; clear oc hb6)
    | (refine wpList_ex rfl (execStr rfl rfl sa.out) ?_)
    | (refine wpList_ex rfl (execStr rfl rfl sx.out) ?_)
    | (refine wpList_ex rfl (execStr rfl rfl sb.out) ?_)
    | (refine wpList_ex rfl (execStr rfl rfl sy.out) ?_)
    | (refine wpList_ex rfl (execStr rfl rfl sc.out) ?_)
    | (refine wpList_ex rfl (execStr rfl rfl sz.out) ?_)
    | (refine wpList_ex rfl (execEqlS rfl rfl rfl) ?_))
  go_ret
  exact ⟨rfl, bel.out⟩

theorem openN_lt (c : Nat → Nat) (len : Nat) {j : Nat} (h : j < openN c len) : len = 320 ∧ 2 + j < len := by
  unfold openN at h
  cases hy : openY c len with
  | false => rw [hy] at h; simp at h
  | true =>
    rw [hy] at h
    unfold openY at hy
    simp only [Bool.and_eq_true, decide_eq_true_eq] at hy
    obtain ⟨⟨⟨e, _⟩, h48⟩, _⟩ := hy
    simp at h
    omega
theorem cutN_lt (c : Nat → Nat) (len : Nat) (n : Int) {j : Nat} (h : j < cutN c len n) : j < len := by
  unfold cutN at h
  by_cases e : cutE c len n = 0
  · rw [if_pos e] at h
    unfold cutE at e
    by_cases h1 : len ≠ 320
    · rw [if_pos h1] at e; omega
    · rw [if_neg h1] at e
      by_cases h2 : n < 0 ∨ 320 < n
      · rw [if_pos h2] at e; omega
      · omega
  · rw [if_neg e] at h; omega

set_option maxRecDepth 20000 in
set_option maxHeartbeats 1000000 in
theorem reads_any (I : Impl) (c : Nat → Nat) (len : Nat) (n : Int) (v : Value) (V : World) (hv : SliceZ V v len c) (hl : len ≤ 140737488351232) (h0 : -9223372036854775808 ≤ n) (h1 : n < 9223372036854775808) :
    Calls Try.prog 4 #[v, .int .i64 n] V fun e w' => e = .returned (.bool true) ∧ Below V.heap.size V w' := by
  have HI : Hid Impl := I
  have HL : Hid (len ≤ 140737488351232) := hl
  have HN : Hid (-9223372036854775808 ≤ n ∧ n < 9223372036854775808) := ⟨h0, h1⟩
  have P0 : Hid (∀ j, j < cutN c len n → c j < 256) := fun j hj => hv.sl.bytes j (cutN_lt c len n hj)
  have P1 : Hid (∀ j, j < openN c len → c (2 + j) < 256) := fun j hj => hv.sl.bytes _ (openN_lt c len hj).2
  have sv : Hid (SliceZ V v len c) := hv
  have bel : Hid (Below V.heap.size V V) := Below.refl _ _
  clear I hl hv h0 h1
  obtain ⟨n0, e0⟩ : ∃ m, cutN c len n = m := ⟨_, rfl⟩
  obtain ⟨n1, e1⟩ : ∃ m, openN c len = m := ⟨_, rfl⟩
  obtain ⟨yes, ey⟩ : ∃ y, openY c len = y := ⟨_, rfl⟩
  obtain ⟨f1, g1⟩ : ∃ f : Nat → Nat, (fun j => c (2 + j)) = f := ⟨_, rfl⟩
  have X0 : Hid (cutN c len n = n0) := e0
  have X1 : Hid (openN c len = n1 ∧ (fun j => c (2 + j)) = f1 ∧ openY c len = yes) := ⟨e1, g1, ey⟩
  rw [e0] at P0
  have P2 : Hid (∀ j, j < n1 → f1 j < 256) := by
    show ∀ j, j < n1 → f1 j < 256
    rw [← e1, ← g1]; exact P1.out
  clear e0 e1 g1 ey P1
  go_enter Try.func4, Try.ntmps4
  go_wp2_with (first
    | (go_at_call 8; refine (awake_any HI.out _).mono ?_; rintro e w0 ⟨rfl, hb0⟩; have sv : Hid (SliceZ w0 v len c) := sv.out.on hb0; have bel : Hid (Below V.heap.size V w0) := bel.out.trans (hb0.mono bel.out.size); clear hb0)
    | (go_at_call 15; refine (rcut_any c len n v _ sv.out HL.out HN.out.1 HN.out.2).mono ?_; rintro e w1 ⟨x, rfl, ox, hb1⟩; have sv : Hid (SliceZ w1 v len c) := sv.out.on hb1; have bel : Hid (Below V.heap.size V w1) := bel.out.trans (hb1.mono bel.out.size); rw [X0.out] at ox; have sx : Hid (SliceN w1 x n0 c) := own_slice ox P0.out; clear ox hb1)
    | (go_at_call 16; refine (ropen_any c len v _ sv.out HL.out).mono ?_; rintro e w2 ⟨y, rfl, oy, hb2⟩; have sv : Hid (SliceZ w2 v len c) := sv.out.on hb2; have bel : Hid (Below V.heap.size V w2) := bel.out.trans (hb2.mono bel.out.size); have sx : Hid (SliceN w2 x n0 c) := sx.out.on hb2; rw [X1.out.1, X1.out.2.1] at oy; rw [X1.out.2.2]; have sy : Hid (SliceN w2 y n1 f1) := own_slice oy P2.out; clear oy hb2)
    | (go_at_call 17; refine (HI.out.cut c len n v _ sv.out HL.out HN.out.1 HN.out.2).mono ?_; rintro e w3 ⟨a, rfl, oa, hb3⟩; have sv : Hid (SliceZ w3 v len c) := sv.out.on hb3; have bel : Hid (Below V.heap.size V w3) := bel.out.trans (hb3.mono bel.out.size); have sx : Hid (SliceN w3 x n0 c) := sx.out.on hb3; have sy : Hid (SliceN w3 y n1 f1) := sy.out.on hb3; rw [X0.out] at oa; have sa : Hid (SliceN w3 a n0 c) := own_slice oa P0.out; clear oa hb3)
    | (go_at_call 18; refine (HI.out.opens c len v _ sv.out HL.out).mono ?_; rintro e w4 ⟨b, rfl, ob, hb4⟩; have bel : Hid (Below V.heap.size V w4) := bel.out.trans (hb4.mono bel.out.size); have sx : Hid (SliceN w4 x n0 c) := sx.out.on hb4; have sy : Hid (SliceN w4 y n1 f1) := sy.out.on hb4; have sa : Hid (SliceN w4 a n0 c) := sa.out.on hb4; rw [X1.out.1, X1.out.2.1] at ob; rw [X1.out.2.2]; have sb : Hid (SliceN w4 b n1 f1) := own_slice ob P2.out; clear ob hb4)
    | (refine wpList_ex rfl (execStr rfl rfl sa.out) ?_)
    | (refine wpList_ex rfl (execStr rfl rfl sx.out) ?_)
    | (refine wpList_ex rfl (execStr rfl rfl sb.out) ?_)
    | (refine wpList_ex rfl (execStr rfl rfl sy.out) ?_)
    | (refine wpList_ex rfl (execEqlS rfl rfl rfl) ?_))
  go_ret
  exact ⟨rfl, bel.out⟩
end Go.Proofs.Ytmmdaiknggjmmaa.Cel
