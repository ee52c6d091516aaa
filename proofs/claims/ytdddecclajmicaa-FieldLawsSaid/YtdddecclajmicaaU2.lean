import Derived.Test.YtdddecclajmicaaU0
namespace Go.Proofs.Ytdddecclajmicaa
open Go.RowKit

theorem mul_int {x y : Int} {w : World} (hx : 0 ≤ x ∧ x < 256) (hy : 0 ≤ y ∧ y < 256) :
    Calls Try.prog 11 #[.int .u8 x, .int .u8 y] w fun e w' => e = .returned (.int .u8 (gm x.toNat y.toNat : Nat)) ∧ w' = w := by
  obtain ⟨n, rfl⟩ := Int.eq_ofNat_of_zero_le hx.1
  obtain ⟨m, rfl⟩ := Int.eq_ofNat_of_zero_le hy.1
  exact mul_any n m w (by omega) (by omega)
theorem add_int {x y : Int} {w : World} (hx : 0 ≤ x ∧ x < 256) (hy : 0 ≤ y ∧ y < 256) :
    Calls Try.prog 9 #[.int .u8 x, .int .u8 y] w fun e w' => e = .returned (.int .u8 (x.toNat ^^^ y.toNat : Nat)) ∧ w' = w := by
  obtain ⟨n, rfl⟩ := Int.eq_ofNat_of_zero_le hx.1
  obtain ⟨m, rfl⟩ := Int.eq_ofNat_of_zero_le hy.1
  exact add_any n m w (by omega) (by omega)
theorem inv_int {x : Int} {w : World} (hx : 0 ≤ x ∧ x < 256) :
    Calls Try.prog 13 #[.int .u8 x] w fun e w' => e = .returned (.int .u8 (ginv x.toNat : Nat)) ∧ w' = w := by
  obtain ⟨n, rfl⟩ := Int.eq_ofNat_of_zero_le hx.1
  exact inv_any n w (by omega)

set_option maxRecDepth 20000 in
set_option maxHeartbeats 400000 in
theorem laws_a (b c : Nat) (w : World) (hb : b < 256) (hc : c < 256) :
    Calls Try.prog 5 #[.int .u8 0, .int .u8 b, .int .u8 c] w fun e w' => e = .returned (.bool true) ∧ Below w.heap.size w w' := by
  obtain ⟨r, r0⟩ : ∃ r, gm b c = r := ⟨_, rfl⟩
  obtain ⟨u, u0⟩ : ∃ u, b ^^^ c = u := ⟨_, rfl⟩
  have r1 : r < 256 := by rw [← r0]; exact gm_lt _ hb
  have u1 : u < 256 := by rw [← u0]; exact xor_lt hb hc
  have z1 (y : Nat) : gm 0 y = 0 := gm_zl y
  have z2 (y : Nat) : gm y 0 = 0 := gm_zr y
  have z3 : ginv 0 = 0 := rfl
  go_enter Try.func5, Try.ntmps5
  go_wp2_with (first
    | (go_at_call 8; refine (awake_any _).mono ?_; rintro e w1 ⟨rfl, b1⟩)
    | (go_at_call 9; refine (add_int (by omega) (by omega)).mono ?_; rintro e w' ⟨rfl, rfl⟩)
    | (go_at_call 11; refine (mul_int (by omega) (by omega)).mono ?_; rintro e w' ⟨rfl, rfl⟩)
    | (go_at_call 13; refine (inv_int (by omega)).mono ?_; rintro e w' ⟨rfl, rfl⟩))
  go_ret
  exact ⟨rfl, b1⟩

set_option maxRecDepth 20000 in
set_option maxHeartbeats 400000 in
theorem laws_b (a c : Nat) (w : World) (ha : a < 256) (hc : c < 256) (h0 : ¬ a = 0) :
    Calls Try.prog 5 #[.int .u8 a, .int .u8 0, .int .u8 c] w fun e w' => e = .returned (.bool true) ∧ Below w.heap.size w w' := by
  obtain ⟨v, v0⟩ : ∃ v, gm a c = v := ⟨_, rfl⟩
  obtain ⟨t, t0⟩ : ∃ t, a ^^^ c = t := ⟨_, rfl⟩
  obtain ⟨j, j0⟩ : ∃ j, ginv a = j := ⟨_, rfl⟩
  have v1 : v < 256 := by rw [← v0]; exact gm_lt _ ha
  have t1 : t < 256 := by rw [← t0]; exact xor_lt ha hc
  have j1 : j < 256 := by rw [← j0]; exact ginv_lt ha
  have j2 : gm a j = 1 := by rw [← j0]; exact gm_inv ha h0
  have z1 (y : Nat) : gm 0 y = 0 := gm_zl y
  have z2 (y : Nat) : gm y 0 = 0 := gm_zr y
  have o2 : gm a 1 = a := gm_one ha
  have a2 : a ^^^ a = 0 := Nat.xor_self a
  have za : Hid (((a : Int) != 0) = true) := by show ((a : Int) != 0) = true; simp [h0]
  go_enter Try.func5, Try.ntmps5
  go_wp2_with (first
    | (go_at_call 8; refine (awake_any _).mono ?_; rintro e w1 ⟨rfl, b1⟩)
    | (go_at_call 9; refine (add_int (by omega) (by omega)).mono ?_; rintro e w' ⟨rfl, rfl⟩)
    | (go_at_call 11; refine (mul_int (by omega) (by omega)).mono ?_; rintro e w' ⟨rfl, rfl⟩)
    | (go_at_call 13; refine (inv_int (by omega)).mono ?_; rintro e w' ⟨rfl, rfl⟩))
  go_ret
  exact ⟨congrArg (fun z => Ending.returned (Value.bool z)) za.out, b1⟩

set_option maxRecDepth 20000 in
set_option maxHeartbeats 400000 in
theorem laws_c (a b c : Nat) (w : World) (ha : a < 256) (hb : b < 256) (hc : c < 256) (h0 : ¬ a = 0) (h1 : ¬ b = 0) :
    Calls Try.prog 5 #[.int .u8 a, .int .u8 b, .int .u8 c] w fun e w' => e = .returned (.bool true) ∧ Below w.heap.size w w' := by
  obtain ⟨p, p0⟩ : ∃ p, gm a b = p := ⟨_, rfl⟩
  obtain ⟨r, r0⟩ : ∃ r, gm b c = r := ⟨_, rfl⟩
  obtain ⟨v, v0⟩ : ∃ v, gm a c = v := ⟨_, rfl⟩
  obtain ⟨s, s0⟩ : ∃ s, a ^^^ b = s := ⟨_, rfl⟩
  obtain ⟨u, u0⟩ : ∃ u, b ^^^ c = u := ⟨_, rfl⟩
  obtain ⟨q, q0⟩ : ∃ q, gm p c = q := ⟨_, rfl⟩
  obtain ⟨t, t0⟩ : ∃ t, s ^^^ c = t := ⟨_, rfl⟩
  obtain ⟨x, x0⟩ : ∃ x, gm a u = x := ⟨_, rfl⟩
  obtain ⟨j, j0⟩ : ∃ j, ginv a = j := ⟨_, rfl⟩
  have p1 : p < 256 := by rw [← p0]; exact gm_lt _ ha
  have r1 : r < 256 := by rw [← r0]; exact gm_lt _ hb
  have v1 : v < 256 := by rw [← v0]; exact gm_lt _ ha
  have s1 : s < 256 := by rw [← s0]; exact xor_lt ha hb
  have u1 : u < 256 := by rw [← u0]; exact xor_lt hb hc
  have j1 : j < 256 := by rw [← j0]; exact ginv_lt ha
  have j2 : gm a j = 1 := by rw [← j0]; exact gm_inv ha h0
  have p2 : gm b a = p := by rw [← p0, gm_comm ha hb]
  have p3 : ¬ p = 0 := by rw [← p0]; intro e; rcases (gm_eq_zero ha hb).1 e with e | e; exact h0 e; exact h1 e
  have s2 : b ^^^ a = s := by rw [← s0, Nat.xor_comm]
  have q2 : gm a r = q := by rw [← q0, ← p0, ← r0, gm_assoc ha hb hc]
  have t2 : a ^^^ u = t := by rw [← t0, ← s0, ← u0, Nat.xor_assoc]
  have x2 : p ^^^ v = x := by rw [← x0, ← u0, ← p0, ← v0, gm_xr]
  have o2 : gm a 1 = a := gm_one ha
  have a2 : a ^^^ a = 0 := Nat.xor_self a
  have za : ((a : Int) == 0) = false := by simp [h0]
  have zb : ((b : Int) == 0) = false := by simp [h1]
  have zp : ((p : Int) == 0) = false := by simp [p3]
  have za2 : Hid (((a : Int) != 0) = true) := by show ((a : Int) != 0) = true; simp [h0]
  go_enter Try.func5, Try.ntmps5
  go_wp2_with (first
    | (go_at_call 8; refine (awake_any _).mono ?_; rintro e w1 ⟨rfl, b1⟩)
    | (go_at_call 9; refine (add_int (by omega) (by omega)).mono ?_; rintro e w' ⟨rfl, rfl⟩)
    | (go_at_call 11; refine (mul_int (by omega) (by omega)).mono ?_; rintro e w' ⟨rfl, rfl⟩)
    | (go_at_call 13; refine (inv_int (by omega)).mono ?_; rintro e w' ⟨rfl, rfl⟩))
  go_ret
  exact ⟨congrArg (fun z => Ending.returned (Value.bool z)) za2.out, b1⟩

theorem laws_any (a b c : Nat) (w : World) (ha : a < 256) (hb : b < 256) (hc : c < 256) :
    Calls Try.prog 5 #[.int .u8 a, .int .u8 b, .int .u8 c] w fun e w' => e = .returned (.bool true) ∧ Below w.heap.size w w' := by
  by_cases h0 : a = 0
  · subst h0; exact laws_a b c w hb hc
  by_cases h1 : b = 0
  · subst h1; exact laws_b a c w ha hc h0
  exact laws_c a b c w ha hb hc h0 h1
end Go.Proofs.Ytdddecclajmicaa
