import Derived.Test.YtdddecclajmicaaRows
import Derived.WalkKit
import Derived.WalkSpells
import Derived.Test.YtdddecclajmicaaR1
namespace Go.Proofs.Ytdddecclajmicaa
open Go.RowKit

theorem wrap64_nat {n : Nat} (h : n < 9223372036854775808) : wrap64 (n : Int) = n := by unfold wrap64; omega
theorem shl283 : ∀ k : Fin 7, wrap64 (283 * 2 ^ (14 - k.val - 8)) = ((283 * 2 ^ (6 - k.val) : Nat) : Int) := by decide +kernel
set_option maxHeartbeats 400000 in
theorem rmul_any (a b : Nat) (w : World) (ha : a < 256) (hb : b < 256) :
    Calls Try.prog 12 #[.int .u8 a, .int .u8 b] w fun e w' => e = .returned (.int .u8 (gm a b)) ∧ w' = w := by
  go_enter Try.func12, Try.ntmps12
  go_wp2
  go_loopw [5, 6] (fun p i W => ∃ k : Nat, k ≤ 8 ∧ p = .int .i64 (rpN a b k : Nat) ∧ i = .int .i64 k ∧ W = w) (fun _ i _ => 8 - (intOf i).toNat)
  case atStart => exact ⟨0, by omega, rfl, rfl, rfl⟩
  case round =>
    obtain ⟨k, hk, rfl, rfl, rfl⟩ := hrel
    by_cases hlt : k < 8
    · have i1 : (k : Int) < 8 := by omega
      have i0 : (0 : Int) ≤ (k : Int) := by omega
      have i2 : min k 8 = k := by omega
      have i3 : min k 64 = k := by omega
      have e1 := bit_u8 hb k
      by_cases hbit : b.testBit k = true
      · rw [if_pos hbit] at e1
        have e3 : Hid (bits .xor .i64 ((rpN a b k : Nat) : Int) (wrap64 ((a : Int) * 2 ^ k)) = ((rpN a b (k + 1) : Nat) : Int)) := by
          have h : 2 ^ k ≤ 2 ^ 7 := Nat.pow_le_pow_right (by omega) (by omega)
          have h2 : a * 2 ^ k ≤ a * 2 ^ 7 := Nat.mul_le_mul_left _ h
          have h3 := rpN_lt ha b hk
          show bits .xor .i64 ((rpN a b k : Nat) : Int) (wrap64 ((a : Int) * 2 ^ k)) = ((rpN a b (k + 1) : Nat) : Int)
          rw [show ((a : Int) * 2 ^ k) = ((a * 2 ^ k : Nat) : Int) by simp, wrap64_nat (by omega), xor_i64 (by omega) (by omega)]
          simp [rpN, pick, hbit]
        go_wp2
        go_roundw
        case rel =>
          exact ⟨k + 1, by omega, by rw [e3.out], by go_num, trivial⟩
        case measure => simp [intOf]; omega
      · rw [if_neg hbit] at e1
        go_wp2
        go_roundw
        case rel => exact ⟨k + 1, by omega, by simp [rpN, pick, hbit], by go_num, trivial⟩
        case measure => simp [intOf]; omega
    · have i1 : ¬ (k : Int) < 8 := by omega
      have e8 : k = 8 := by omega
      subst e8
      go_wp2
      go_loopw [5, 7] (fun p i W => ∃ k : Nat, k ≤ 7 ∧ p = .int .i64 (rrN (rpN a b 8) k : Nat) ∧ i = .int .i64 (14 - k : Int) ∧ W = wr) (fun _ i _ => (intOf i).toNat)
      case atStart => exact ⟨0, by omega, rfl, rfl, rfl⟩
      case round =>
        obtain ⟨k, hk, rfl, rfl, rfl⟩ := hrel
        by_cases hlt : k < 7
        · have i1 : (14 - (k : Int)) ≥ 8 := by omega
          have i0 : (0 : Int) ≤ 14 - (k : Int) := by omega
          have i2 : min (14 - (k : Int)).toNat 64 = 14 - k := by omega
          have e0 : (14 - (k : Int)).toNat = 14 - k := by omega
          have hp := rrN_lt (rpN_lt ha b (Nat.le_refl 8)) k
          have e1 := bit_i64 (b := rrN (rpN a b 8) k) (by omega) (14 - k)
          by_cases hbit : (rrN (rpN a b 8) k).testBit (14 - k) = true
          · rw [if_pos hbit] at e1
            have e3 : Hid (bits .xor .i64 ((rrN (rpN a b 8) k : Nat) : Int) (wrap64 (283 * 2 ^ (14 - k - 8))) = ((rrN (rpN a b 8) (k + 1) : Nat) : Int)) := by
              have h : 2 ^ (6 - k) ≤ 2 ^ 6 := Nat.pow_le_pow_right (by omega) (by omega)
              have h2 : 283 * 2 ^ (6 - k) ≤ 283 * 2 ^ 6 := Nat.mul_le_mul_left _ h
              show bits .xor .i64 ((rrN (rpN a b 8) k : Nat) : Int) (wrap64 (283 * 2 ^ (14 - k - 8))) = ((rrN (rpN a b 8) (k + 1) : Nat) : Int)
              rw [show wrap64 (283 * 2 ^ (14 - k - 8)) = ((283 * 2 ^ (6 - k) : Nat) : Int) from shl283 ⟨k, hlt⟩, xor_i64 (by omega) (by omega)]
              simp [rrN, pick, hbit]
            go_wp2
            go_roundw
            case rel => exact ⟨k + 1, by omega, by rw [e3.out], by go_num, trivial⟩
            case measure => simp [intOf]; omega
          · rw [if_neg hbit] at e1
            go_wp2
            go_roundw
            case rel => exact ⟨k + 1, by omega, by simp [rrN, pick, hbit], by go_num, trivial⟩
            case measure => simp [intOf]; omega
        · have i1 : ¬ (14 - (k : Int)) ≥ 8 := by omega
          have e7 : k = 7 := by omega
          subst e7
          have q : Hid (((rrN (rpN a b 8) 7 : Nat) : Int) % 256 = ((gm a b : Nat) : Int)) := by
            show ((rrN (rpN a b 8) 7 : Nat) : Int) % 256 = ((gm a b : Nat) : Int)
            have h1 : rrN (rpN a b 8) 7 = gm a b := rmul_gm ha hb
            have h2 := gm_lt b ha
            rw [h1]
            omega
          go_wp2
          go_ret
          exact ⟨congrArg (fun x => Ending.returned (Value.int .u8 x)) q.out, rfl⟩
end Go.Proofs.Ytdddecclajmicaa
