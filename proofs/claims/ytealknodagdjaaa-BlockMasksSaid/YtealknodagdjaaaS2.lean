import Derived.Test.YtealknodagdjaaaS1
namespace Go.Proofs.Ytealknodagdjaaa.Gf8
open Go.RowKit

theorem and_u64 {a b : Nat} (ha : a < 2 ^ 64) (hb : b < 2 ^ 64) : bits .and .u64 (a : Int) (b : Int) = ((a &&& b : Nat) : Int) := by
  show IntKind.u64.wrap ((BitVec.ofInt 64 (a : Int) &&& BitVec.ofInt 64 (b : Int)).toNat : Int) = _
  have h := Nat.and_lt_two_pow (n := 64) a hb
  rw [BitVec.toNat_and, BitVec.ofInt_natCast, BitVec.ofInt_natCast, BitVec.toNat_ofNat, BitVec.toNat_ofNat, Nat.mod_eq_of_lt ha, Nat.mod_eq_of_lt hb]
  simp only [IntKind.wrap, IntKind.bits, IntKind.signed]
  simp
  omega
theorem bit_u64 {b : Nat} (hb : b < 2 ^ 64) (i : Nat) : bits .and .u64 ((b : Int) / 2 ^ i) 1 = ((b / 2 ^ i % 2 : Nat) : Int) := by
  have e : ((b : Int) / 2 ^ i) = ((b / 2 ^ i : Nat) : Int) := by simp
  have h : b / 2 ^ i < 2 ^ 64 := Nat.lt_of_le_of_lt (Nat.div_le_self _ _) hb
  rw [e, show (1 : Int) = ((1 : Nat) : Int) from rfl, and_u64 h (by omega), Nat.and_one_is_mod]

theorem mod_step (n k : Nat) : n % 2 ^ (k + 1) = n % 2 ^ k + 2 ^ k * (n / 2 ^ k % 2) := by
  rw [Nat.pow_succ, Nat.mod_mul]
theorem gpow_dbl {a : Nat} (ha : a < 256) (k : Nat) : gm (gpow a (2 ^ k)) (gpow a (2 ^ k)) = gpow a (2 ^ (k + 1)) := by
  rw [← gpow_add ha, Nat.pow_succ, Nat.mul_two]

set_option maxRecDepth 20000 in
set_option maxHeartbeats 400000 in
theorem power_any (a n : Nat) (w : World) (ha : a < 256) (hn : n < 2 ^ 64) :
    Calls Try.prog 52 #[.int .u8 a, .int .u64 n] w fun e w' => e = .returned (.int .u8 (gpow a n : Nat)) ∧ w' = w := by
  go_enter Try.func52, Try.ntmps52
  go_wp2_with (go_at_call 53; refine (len_any n _ hn).mono ?_; rintro e w' ⟨L, rfl, hl, hm, rfl⟩)
  go_loopw [0, 5, 9] (fun x p i W => ∃ k : Nat, k ≤ L ∧ x = .int .u8 (gpow a (2 ^ k) : Nat) ∧ p = .int .u8 (gpow a (n % 2 ^ k) : Nat) ∧ i = .int .i64 k ∧ W = w') (fun _ _ i _ => L - (intOf i).toNat)
  case atStart => exact ⟨0, by omega, by rw [Nat.pow_zero, gpow_one ha], by rw [Nat.pow_zero, Nat.mod_one]; rfl, rfl, rfl⟩
  case round =>
    obtain ⟨k, hk, rfl, rfl, rfl, rfl⟩ := hrel
    have HN : Hid (_) := hn
    have HM : Hid (_) := hm
    clear hn hm
    by_cases hlt : k < L
    · have i1 : (k : Int) < L := by omega
      have i0 : (0 : Int) ≤ (k : Int) := by omega
      have i2 : min k 64 = k := by omega
      have e1 := bit_u64 HN.out k
      obtain ⟨x, hx⟩ : ∃ x, gpow a (2 ^ k) = x := ⟨_, rfl⟩
      obtain ⟨p, hp⟩ : ∃ p, gpow a (n % 2 ^ k) = p := ⟨_, rfl⟩
      have x1 : x < 256 := by rw [← hx]; exact gpow_lt _
      have p1 : p < 256 := by rw [← hp]; exact gpow_lt _
      have X : Hid (gm x x = gpow a (2 ^ (k + 1))) := by show gm x x = gpow a (2 ^ (k + 1)); rw [← hx, gpow_dbl ha]
      rw [hx, hp]
      by_cases hbit : n / 2 ^ k % 2 = 1
      · rw [hbit] at e1
        have e1' : bits .and .u64 ((n : Int) / 2 ^ k) 1 = 1 := e1
        have q : Hid (gm p x = gpow a (n % 2 ^ (k + 1))) := by
          show gm p x = gpow a (n % 2 ^ (k + 1))
          rw [mod_step, hbit, Nat.mul_one, gpow_add ha, hx, hp]
        clear e1 hbit hx hp
        go_wp2_with (go_at_call 43; refine (mul_any _ _ _ (by assumption) (by assumption)).mono ?_; rintro e w' ⟨rfl, rfl⟩)
        go_roundw
        case rel => exact ⟨k + 1, by omega, by rw [X.out], by rw [q.out], by go_num, trivial⟩
        case measure => simp [intOf]; omega
      · have hbit0 : n / 2 ^ k % 2 = 0 := by omega
        rw [hbit0] at e1
        have e1' : bits .and .u64 ((n : Int) / 2 ^ k) 1 = 0 := e1
        have q : Hid (p = gpow a (n % 2 ^ (k + 1))) := by
          show p = gpow a (n % 2 ^ (k + 1))
          rw [mod_step, hbit0, Nat.mul_zero, Nat.add_zero, hp]
        clear e1 hbit hbit0 hx hp
        go_wp2_with (go_at_call 43; refine (mul_any x x _ x1 x1).mono ?_; rintro e w' ⟨rfl, rfl⟩)
        go_roundw
        case rel => exact ⟨k + 1, by omega, by rw [X.out], by rw [q.out], by go_num, trivial⟩
        case measure => simp [intOf]; omega
    · have i1 : ¬ (k : Int) < L := by omega
      have ek : k = L := by omega
      subst ek
      have q : Hid (n % 2 ^ k = n) := Nat.mod_eq_of_lt HM.out
      go_wp2
      go_ret
      exact ⟨congrArg (fun x : Nat => Ending.returned (Value.int .u8 (gpow a x : Nat))) q.out, rfl⟩

theorem inv_is {a : Nat} (ha : a < 256) : gpow a 254 = ginv a := by
  by_cases h : a = 0
  · subst h; exact gpow_zero (by omega)
  · exact (ginv_pow ha h).symm
set_option maxRecDepth 20000 in
theorem inv_any (a : Nat) (w : World) (ha : a < 256) :
    Calls Try.prog 45 #[.int .u8 a] w fun e w' => e = .returned (.int .u8 (ginv a : Nat)) ∧ w' = w := by
  have q : Hid (gpow a 254 = ginv a) := inv_is ha
  go_enter Try.func45, Try.ntmps45
  go_wp2_with (go_at_call 52; refine (power_any a 254 _ ha (by omega)).mono ?_; rintro e w' ⟨rfl, rfl⟩)
  go_ret
  exact ⟨congrArg (fun x : Nat => Ending.returned (Value.int .u8 x)) q.out, rfl⟩
end Go.Proofs.Ytealknodagdjaaa.Gf8
