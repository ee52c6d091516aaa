import Derived.Test.YteekoabgbjbabaaGreatDoorL0
import Derived.Test.YteekoabgbjbabaaGreatDoorK7
namespace Go.Proofs.YteekoabgbjbabaaGreatDoor.Gf8
open Go.RowKit

/-- a times x^k. -/
def xk (a : Nat) : Nat → Nat
  | 0 => a
  | k + 1 => xt (xk a k)
theorem xk_lt {a : Nat} (ha : a < 256) (k : Nat) : xk a k < 256 := by
  induction k with
  | zero => exact ha
  | succ k ih => exact xt_lt ih
/-- The product by the first k bits of b, from below. -/
def fm (a b : Nat) : Nat → Nat
  | 0 => 0
  | k + 1 => fm a b k ^^^ pick (b.testBit k) (xk a k)
theorem fm_lt {a : Nat} (ha : a < 256) (b k : Nat) : fm a b k < 256 := by
  induction k with
  | zero => exact (by decide : (0 : Nat) < 256)
  | succ k ih => exact xor_lt ih (pick_lt (xk_lt ha k))
theorem fm_more (a b : Nat) : ∀ k j : Nat, fm a b j ^^^ gmN k (xk a j) (b / 2 ^ j) = fm a b (j + k) := by
  intro k
  induction k with
  | zero => intro j; exact Nat.xor_zero _
  | succ k ih =>
    intro j
    show fm a b j ^^^ (pick ((b / 2 ^ j).testBit 0) (xk a j) ^^^ gmN k (xt (xk a j)) (b / 2 ^ j / 2)) = _
    rw [Nat.testBit_div_two_pow, Nat.zero_add, ← Nat.xor_assoc, Nat.div_div_eq_div_mul, ← Nat.pow_succ]
    have := ih (j + 1)
    rw [show j + 1 + k = j + (k + 1) by omega] at this
    exact this
theorem fm_gm (a b : Nat) : fm a b 8 = gm a b := by
  have h := fm_more a b 8 0
  rw [Nat.zero_add] at h
  rw [← h]
  show 0 ^^^ gmN 8 a (b / 2 ^ 0) = gm a b
  rw [Nat.zero_xor, Nat.pow_zero, Nat.div_one]
  rfl
theorem double_all : ∀ a : Fin 256, (a.val * 2 % 256) ^^^ (27 &&& ((256 - a.val / 128) % 256)) = xt a.val := by decide +kernel
set_option maxRecDepth 20000 in
set_option maxHeartbeats 400000 in
theorem double_any (a : Nat) (w : World) (ha : a < 256) :
    Calls Tryz.prog 103 #[.int .u8 a] w fun e w' => e = .returned (.int .u8 (xt a : Nat)) ∧ w' = w := by
  have e1 : ((a : Int) * 2 % 256) = ((a * 2 % 256 : Nat) : Int) := by omega
  have e2 : (-((a : Int) / 128) % 256) = (((256 - a / 128) % 256 : Nat) : Int) := by omega
  have q : Hid (bits BinOp.xor IntKind.u8 ((a : Int) * 2 % 256) (bits BinOp.and IntKind.u8 27 (-((a : Int) / 128) % 256)) = ((xt a : Nat) : Int)) := by
    show bits BinOp.xor IntKind.u8 ((a : Int) * 2 % 256) (bits BinOp.and IntKind.u8 27 (-((a : Int) / 128) % 256)) = ((xt a : Nat) : Int)
    rw [e1, e2, show (27 : Int) = ((27 : Nat) : Int) from rfl, and_u8 (by omega) (by omega), xor_u8 (by omega) (Nat.and_lt_two_pow (n := 8) _ (by omega)), double_all ⟨a, ha⟩]
  clear e1 e2
  go_enter Tryz.func103, Tryz.ntmps103
  go_wp2
  go_ret
  exact ⟨congrArg (fun x => Ending.returned (Value.int .u8 x)) q.out, rfl⟩

theorem and_pick (a : Nat) (c : Bool) (ha : a < 256) : bits BinOp.and IntKind.u8 (a : Int) (-(if c then 1 else 0 : Int) % 256) = ((pick c a : Nat) : Int) := by
  cases c
  · show bits BinOp.and IntKind.u8 (a : Int) ((0 : Nat) : Int) = _
    rw [and_u8 ha (by omega), Nat.and_zero]; rfl
  · show bits BinOp.and IntKind.u8 (a : Int) ((255 : Nat) : Int) = _
    rw [and_u8 ha (by omega), show (255 : Nat) = 2 ^ 8 - 1 from rfl, Nat.and_two_pow_sub_one_eq_mod, Nat.mod_eq_of_lt ha]; rfl

set_option maxRecDepth 20000 in
set_option maxHeartbeats 400000 in
theorem mul_any (a b : Nat) (w : World) (ha : a < 256) (hb : b < 256) :
    Calls Tryz.prog 89 #[.int .u8 a, .int .u8 b] w fun e w' => e = .returned (.int .u8 (gm a b : Nat)) ∧ w' = w := by
  go_enter Tryz.func89, Tryz.ntmps89
  go_wp2
  go_loopw [0, 5, 7] (fun x s i W => ∃ k : Nat, k ≤ 8 ∧ x = .int .u8 (xk a k : Nat) ∧ s = .int .u8 (fm a b k : Nat) ∧ i = .int .i64 k ∧ W = w) (fun _ _ i _ => 8 - (intOf i).toNat)
  case atStart => exact ⟨0, by omega, rfl, rfl, rfl, rfl⟩
  case round =>
    obtain ⟨k, hk, rfl, rfl, rfl, rfl⟩ := hrel
    by_cases hlt : k < 8
    · have i1 : (k : Int) < 8 := by omega
      have i0 : (0 : Int) ≤ (k : Int) := by omega
      have i2 : min k 8 = k := by omega
      have e1 := bit_u8 hb k
      have e2 : Hid (bits BinOp.xor IntKind.u8 ((fm a b k : Nat) : Int) (bits BinOp.and IntKind.u8 ((xk a k : Nat) : Int) (-(if b.testBit k then 1 else 0 : Int) % 256)) = ((fm a b (k + 1) : Nat) : Int)) := by
        show bits BinOp.xor IntKind.u8 ((fm a b k : Nat) : Int) (bits BinOp.and IntKind.u8 ((xk a k : Nat) : Int) (-(if b.testBit k then 1 else 0 : Int) % 256)) = ((fm a b (k + 1) : Nat) : Int)
        rw [and_pick _ _ (xk_lt ha k), xor_u8 (fm_lt ha b k) (pick_lt (xk_lt ha k))]
        rfl
      go_wp2_with (go_at_call 103; refine (double_any (xk a k) _ (xk_lt ha k)).mono ?_; rintro e w' ⟨rfl, rfl⟩)
      go_roundw
      case rel => exact ⟨k + 1, by omega, rfl, by rw [e2.out], by go_num, trivial⟩
      case measure => simp [intOf]; omega
    · have i1 : ¬ (k : Int) < 8 := by omega
      have e8 : k = 8 := by omega
      subst e8
      go_wp2
      go_ret
      exact ⟨congrArg (fun x : Nat => Ending.returned (Value.int .u8 x)) (fm_gm a b), rfl⟩

end Go.Proofs.YteekoabgbjbabaaGreatDoor.Gf8

namespace Go.Proofs.YteekoabgbjbabaaGreatDoor.Gf8
open Go.RowKit

/-- How many bits a byte has. -/
def lenT : ByteArray := ⟨#[0, 1, 2, 2, 3, 3, 3, 3, 4, 4, 4, 4, 4, 4, 4, 4, 5, 5, 5, 5, 5, 5, 5, 5, 5, 5, 5, 5, 5, 5, 5, 5, 6, 6, 6, 6, 6, 6, 6, 6, 6, 6, 6, 6, 6, 6, 6, 6, 6, 6, 6, 6, 6, 6, 6, 6, 6, 6, 6, 6, 6, 6, 6, 6, 7, 7, 7, 7, 7, 7, 7, 7, 7, 7, 7, 7, 7, 7, 7, 7, 7, 7, 7, 7, 7, 7, 7, 7, 7, 7, 7, 7, 7, 7, 7, 7, 7, 7, 7, 7, 7, 7, 7, 7, 7, 7, 7, 7, 7, 7, 7, 7, 7, 7, 7, 7, 7, 7, 7, 7, 7, 7, 7, 7, 7, 7, 7, 7, 8, 8, 8, 8, 8, 8, 8, 8, 8, 8, 8, 8, 8, 8, 8, 8, 8, 8, 8, 8, 8, 8, 8, 8, 8, 8, 8, 8, 8, 8, 8, 8, 8, 8, 8, 8, 8, 8, 8, 8, 8, 8, 8, 8, 8, 8, 8, 8, 8, 8, 8, 8, 8, 8, 8, 8, 8, 8, 8, 8, 8, 8, 8, 8, 8, 8, 8, 8, 8, 8, 8, 8, 8, 8, 8, 8, 8, 8, 8, 8, 8, 8, 8, 8, 8, 8, 8, 8, 8, 8, 8, 8, 8, 8, 8, 8, 8, 8, 8, 8, 8, 8, 8, 8, 8, 8, 8, 8, 8, 8, 8, 8, 8, 8, 8, 8, 8, 8, 8, 8, 8, 8, 8, 8, 8, 8, 8, 8]⟩
theorem lenT_size : lenT.size = 256 := by decide +kernel
theorem len_all : ∀ j : Fin 256, (lenT[j.val]'(by rw [lenT_size]; exact j.isLt)).toNat ≤ 8 ∧ j.val < 2 ^ (lenT[j.val]'(by rw [lenT_size]; exact j.isLt)).toNat := by decide +kernel
theorem len_at (c n j : Nat) (hc : c ≤ 56) (hj : n / 2 ^ c = j) (h : j < lenT.size) : ∃ L : Nat, wrap64 ((c : Int) + wrap64 (((lenT[j]'h).toNat : Nat) : Int)) = (L : Int) ∧ L ≤ 64 ∧ n < 2 ^ L := by
  have h2 : j < 256 := by rw [← lenT_size]; exact h
  obtain ⟨l1, l2⟩ := len_all ⟨j, h2⟩
  simp only at l1 l2
  obtain ⟨x, hx⟩ : ∃ x, x = (lenT[j]'h).toNat := ⟨_, rfl⟩
  rw [← hx] at l1 l2 ⊢
  refine ⟨c + x, ?_, by omega, ?_⟩
  · unfold wrap64; omega
  · rw [Nat.pow_add, Nat.mul_comm]
    rw [← hj] at l2
    exact (Nat.div_lt_iff_lt_mul (Nat.two_pow_pos c)).1 l2

theorem len_close {T : ByteArray} {c' : Int} {j : Nat} {h : j < T.size} (hT : T = lenT) (c n : Nat) (hc' : c' = c) (hc : c ≤ 56) (hj : n / 2 ^ c = j) (w : World) :
    ∃ L : Nat, Ending.returned (Value.int .i64 (wrap64 (c' + wrap64 (((T[j]'h).toNat : Nat) : Int)))) = .returned (.int .i64 L) ∧ L ≤ 64 ∧ n < 2 ^ L ∧ w = w := by
  subst hT hc'
  obtain ⟨L, g1, g2, g3⟩ := len_at c n j hc hj h
  exact ⟨L, by rw [g1], g2, g3, rfl⟩
theorem len_close0 {T : ByteArray} {j : Nat} {h : j < T.size} (hT : T = lenT) (n : Nat) (hj : n = j) (w : World) :
    ∃ L : Nat, Ending.returned (Value.int .i64 (wrap64 (wrap64 (((T[j]'h).toNat : Nat) : Int)))) = .returned (.int .i64 L) ∧ L ≤ 64 ∧ n < 2 ^ L ∧ w = w := by
  have e := len_close (h := h) (c' := 0) hT 0 n rfl (by omega) (by simpa using hj) w
  rw [Int.zero_add] at e
  exact e

set_option maxRecDepth 20000 in
set_option maxHeartbeats 400000 in
theorem len64_any (n : Nat) (w : World) (hn : n < 2 ^ 64) :
    Calls Tryz.prog 114 #[.int .u64 n] w fun e w' => ∃ L : Nat, e = .returned (.int .i64 L) ∧ L ≤ 64 ∧ n < 2 ^ L ∧ w' = w := by
  by_cases h0 : (n : Int) ≥ 4294967296
  · obtain ⟨x, g0⟩ : ∃ x, n / 4294967296 = x := ⟨_, rfl⟩
    have r0 : (n : Int) / 4294967296 = (x : Int) := by omega
    by_cases h1 : (x : Int) ≥ 65536
    · obtain ⟨y, g1⟩ : ∃ y, x / 65536 = y := ⟨_, rfl⟩
      have r1 : (x : Int) / 65536 = (y : Int) := by omega
      by_cases h2 : (y : Int) ≥ 256
      · obtain ⟨z, g2⟩ : ∃ z, y / 256 = z := ⟨_, rfl⟩
        have r2 : (y : Int) / 256 = (z : Int) := by omega
        have HJ : Hid (n / 2 ^ 56 = z) := by show n / 2 ^ 56 = z; omega
        have l : (z : Int) < 256 := by omega
        clear hn
        clear g0
        clear g1
        clear g2
        go_enter Tryz.func114, Tryz.ntmps114
        go_wp2
        go_ret
        exact len_close rfl 56 n rfl (by omega) HJ.out w
      · have HJ : Hid (n / 2 ^ 48 = y) := by show n / 2 ^ 48 = y; omega
        have l : (y : Int) < 256 := by omega
        clear hn
        clear g0
        clear g1
        go_enter Tryz.func114, Tryz.ntmps114
        go_wp2
        go_ret
        exact len_close rfl 48 n rfl (by omega) HJ.out w
    · by_cases h2 : (x : Int) ≥ 256
      · obtain ⟨z, g2⟩ : ∃ z, x / 256 = z := ⟨_, rfl⟩
        have r2 : (x : Int) / 256 = (z : Int) := by omega
        have HJ : Hid (n / 2 ^ 40 = z) := by show n / 2 ^ 40 = z; omega
        have l : (z : Int) < 256 := by omega
        clear hn
        clear g0
        clear g2
        go_enter Tryz.func114, Tryz.ntmps114
        go_wp2
        go_ret
        exact len_close rfl 40 n rfl (by omega) HJ.out w
      · have HJ : Hid (n / 2 ^ 32 = x) := by show n / 2 ^ 32 = x; omega
        have l : (x : Int) < 256 := by omega
        clear hn
        clear g0
        go_enter Tryz.func114, Tryz.ntmps114
        go_wp2
        go_ret
        exact len_close rfl 32 n rfl (by omega) HJ.out w
  · by_cases h1 : (n : Int) ≥ 65536
    · obtain ⟨y, g1⟩ : ∃ y, n / 65536 = y := ⟨_, rfl⟩
      have r1 : (n : Int) / 65536 = (y : Int) := by omega
      by_cases h2 : (y : Int) ≥ 256
      · obtain ⟨z, g2⟩ : ∃ z, y / 256 = z := ⟨_, rfl⟩
        have r2 : (y : Int) / 256 = (z : Int) := by omega
        have HJ : Hid (n / 2 ^ 24 = z) := by show n / 2 ^ 24 = z; omega
        have l : (z : Int) < 256 := by omega
        clear hn
        clear g1
        clear g2
        go_enter Tryz.func114, Tryz.ntmps114
        go_wp2
        go_ret
        exact len_close rfl 24 n rfl (by omega) HJ.out w
      · have HJ : Hid (n / 2 ^ 16 = y) := by show n / 2 ^ 16 = y; omega
        have l : (y : Int) < 256 := by omega
        clear hn
        clear g1
        go_enter Tryz.func114, Tryz.ntmps114
        go_wp2
        go_ret
        exact len_close rfl 16 n rfl (by omega) HJ.out w
    · by_cases h2 : (n : Int) ≥ 256
      · obtain ⟨z, g2⟩ : ∃ z, n / 256 = z := ⟨_, rfl⟩
        have r2 : (n : Int) / 256 = (z : Int) := by omega
        have HJ : Hid (n / 2 ^ 8 = z) := by show n / 2 ^ 8 = z; omega
        have l : (z : Int) < 256 := by omega
        clear hn
        clear g2
        go_enter Tryz.func114, Tryz.ntmps114
        go_wp2
        go_ret
        exact len_close rfl 8 n rfl (by omega) HJ.out w
      · have HJ : Hid (n / 2 ^ 0 = n) := by show n / 2 ^ 0 = n; omega
        have l : (n : Int) < 256 := by omega
        clear hn
        go_enter Tryz.func114, Tryz.ntmps114
        go_wp2
        go_ret
        exact len_close0 rfl n rfl w

set_option maxRecDepth 20000 in
theorem len_any (n : Nat) (w : World) (hn : n < 2 ^ 64) :
    Calls Tryz.prog 112 #[.int .u64 n] w fun e w' => ∃ L : Nat, e = .returned (.int .i64 L) ∧ L ≤ 64 ∧ n < 2 ^ L ∧ w' = w := by
  go_enter Tryz.func112, Tryz.ntmps112
  have m : (n : Int) % 18446744073709551616 = n := by omega
  go_wp2_with (go_at_call 114; refine (len64_any n _ hn).mono ?_; rintro e w' ⟨L, rfl, hl, hm, rfl⟩)
  go_ret
  exact ⟨L, rfl, hl, hm, rfl⟩

end Go.Proofs.YteekoabgbjbabaaGreatDoor.Gf8

namespace Go.Proofs.YteekoabgbjbabaaGreatDoor.Gf8
open Go.RowKit

theorem and_u64 {a b : Nat} (ha : a < 2 ^ 64) (hb : b < 2 ^ 64) : bits .and .u64 (a : Int) (b : Int) = ((a &&& b : Nat) : Int) := by
  show IntKind.u64.wrap ((BitVec.ofInt 64 (a : Int) &&& BitVec.ofInt 64 (b : Int)).toNat : Int) = _
  have h := Nat.and_lt_two_pow (n := 64) a hb
  rw [BitVec.toNat_and, BitVec.ofInt_natCast, BitVec.ofInt_natCast, BitVec.toNat_ofNat, BitVec.toNat_ofNat, Nat.mod_eq_of_lt ha, Nat.mod_eq_of_lt hb]
  simp only [IntKind.wrap, IntKind.bits, IntKind.signed]
  simp
  omega
theorem bit_u64 {b : Nat} (hb : b < 2 ^ 64) (i : Nat) : bits .and .u64 ((b : Int) / 2 ^ i) 1 = ((b / 2 ^ i % 2 : Nat) : Int) := by
  have e : ((b : Int) / 2 ^ i) = ((b / 2 ^ i : Nat) : Int) := by simp
  have h : b / 2 ^ i < 2 ^ 64 := Nat.lt_of_le_of_lt (Nat.div_le_self _ _) hb
  rw [e, show (1 : Int) = ((1 : Nat) : Int) from rfl, and_u64 h (by omega), Nat.and_one_is_mod]

theorem mod_step (n k : Nat) : n % 2 ^ (k + 1) = n % 2 ^ k + 2 ^ k * (n / 2 ^ k % 2) := by
  rw [Nat.pow_succ, Nat.mod_mul]
theorem gpow_dbl {a : Nat} (ha : a < 256) (k : Nat) : gm (gpow a (2 ^ k)) (gpow a (2 ^ k)) = gpow a (2 ^ (k + 1)) := by
  rw [← gpow_add ha, Nat.pow_succ, Nat.mul_two]

set_option maxRecDepth 20000 in
set_option maxHeartbeats 400000 in
theorem power_any (a n : Nat) (w : World) (ha : a < 256) (hn : n < 2 ^ 64) :
    Calls Tryz.prog 110 #[.int .u8 a, .int .u64 n] w fun e w' => e = .returned (.int .u8 (gpow a n : Nat)) ∧ w' = w := by
  go_enter Tryz.func110, Tryz.ntmps110
  go_wp2_with (go_at_call 112; refine (len_any n _ hn).mono ?_; rintro e w' ⟨L, rfl, hl, hm, rfl⟩)
  go_loopw [0, 5, 9] (fun x p i W => ∃ k : Nat, k ≤ L ∧ x = .int .u8 (gpow a (2 ^ k) : Nat) ∧ p = .int .u8 (gpow a (n % 2 ^ k) : Nat) ∧ i = .int .i64 k ∧ W = w') (fun _ _ i _ => L - (intOf i).toNat)
  case atStart => exact ⟨0, by omega, by rw [Nat.pow_zero, gpow_one ha], by rw [Nat.pow_zero, Nat.mod_one]; rfl, rfl, rfl⟩
  case round =>
    obtain ⟨k, hk, rfl, rfl, rfl, rfl⟩ := hrel
    have HN : Hid (_) := hn
    have HM : Hid (_) := hm
    clear hn hm
    by_cases hlt : k < L
    · have i1 : (k : Int) < L := by omega
      have i0 : (0 : Int) ≤ (k : Int) := by omega
      have i2 : min k 64 = k := by omega
      have e1 := bit_u64 HN.out k
      obtain ⟨x, hx⟩ : ∃ x, gpow a (2 ^ k) = x := ⟨_, rfl⟩
      obtain ⟨p, hp⟩ : ∃ p, gpow a (n % 2 ^ k) = p := ⟨_, rfl⟩
      have x1 : x < 256 := by rw [← hx]; exact gpow_lt _
      have p1 : p < 256 := by rw [← hp]; exact gpow_lt _
      have X : Hid (gm x x = gpow a (2 ^ (k + 1))) := by show gm x x = gpow a (2 ^ (k + 1)); rw [← hx, gpow_dbl ha]
      rw [hx, hp]
      by_cases hbit : n / 2 ^ k % 2 = 1
      · rw [hbit] at e1
        have e1' : bits .and .u64 ((n : Int) / 2 ^ k) 1 = 1 := e1
        have q : Hid (gm p x = gpow a (n % 2 ^ (k + 1))) := by
          show gm p x = gpow a (n % 2 ^ (k + 1))
          rw [mod_step, hbit, Nat.mul_one, gpow_add ha, hx, hp]
        clear e1 hbit hx hp
        go_wp2_with (go_at_call 89; refine (mul_any _ _ _ (by assumption) (by assumption)).mono ?_; rintro e w' ⟨rfl, rfl⟩)
        go_roundw
        case rel => exact ⟨k + 1, by omega, by rw [X.out], by rw [q.out], by go_num, trivial⟩
        case measure => simp [intOf]; omega
      · have hbit0 : n / 2 ^ k % 2 = 0 := by omega
        rw [hbit0] at e1
        have e1' : bits .and .u64 ((n : Int) / 2 ^ k) 1 = 0 := e1
        have q : Hid (p = gpow a (n % 2 ^ (k + 1))) := by
          show p = gpow a (n % 2 ^ (k + 1))
          rw [mod_step, hbit0, Nat.mul_zero, Nat.add_zero, hp]
        clear e1 hbit hbit0 hx hp
        go_wp2_with (go_at_call 89; refine (mul_any x x _ x1 x1).mono ?_; rintro e w' ⟨rfl, rfl⟩)
        go_roundw
        case rel => exact ⟨k + 1, by omega, by rw [X.out], by rw [q.out], by go_num, trivial⟩
        case measure => simp [intOf]; omega
    · have i1 : ¬ (k : Int) < L := by omega
      have ek : k = L := by omega
      subst ek
      have q : Hid (n % 2 ^ k = n) := Nat.mod_eq_of_lt HM.out
      go_wp2
      go_ret
      exact ⟨congrArg (fun x : Nat => Ending.returned (Value.int .u8 (gpow a x : Nat))) q.out, rfl⟩

theorem inv_is {a : Nat} (ha : a < 256) : gpow a 254 = ginv a := by
  by_cases h : a = 0
  · subst h; exact gpow_zero (by omega)
  · exact (ginv_pow ha h).symm
set_option maxRecDepth 20000 in
theorem inv_any (a : Nat) (w : World) (ha : a < 256) :
    Calls Tryz.prog 102 #[.int .u8 a] w fun e w' => e = .returned (.int .u8 (ginv a : Nat)) ∧ w' = w := by
  have q : Hid (gpow a 254 = ginv a) := inv_is ha
  go_enter Tryz.func102, Tryz.ntmps102
  go_wp2_with (go_at_call 110; refine (power_any a 254 _ ha (by omega)).mono ?_; rintro e w' ⟨rfl, rfl⟩)
  go_ret
  exact ⟨congrArg (fun x : Nat => Ending.returned (Value.int .u8 x)) q.out, rfl⟩
end Go.Proofs.YteekoabgbjbabaaGreatDoor.Gf8

namespace Go.Proofs.YteekoabgbjbabaaGreatDoor.Gf8
open Go.RowKit

/-- a byte turned to the left. -/
def rot (a k : Nat) : Nat := (a * 2 ^ k % 256) ||| (a / 2 ^ (8 - k))
theorem rot_lt {a k : Nat} (ha : a < 256) : rot a k < 256 := Nat.or_lt_two_pow (n := 8) (Nat.mod_lt _ (by omega)) (Nat.lt_of_le_of_lt (Nat.div_le_self _ _) ha)
theorem and7 : ∀ k : Fin 8, bits .and .u64 ((k.val : Nat) : Int) 7 = ((k.val : Nat) : Int) := by decide +kernel
set_option maxRecDepth 20000 in
theorem rot_any (a k : Nat) (w : World) (ha : a < 256) (hk : k < 8) :
    Calls Tryz.prog 109 #[.int .u8 a, .int .i64 k] w fun e w' => e = .returned (.int .u8 (rot a k : Nat)) ∧ w' = w := by
  have r1 : IntKind.u64.wrap (k : Int) = (k : Int) := by simp only [IntKind.wrap, IntKind.bits, IntKind.signed]; simp; omega
  have r2 : bits .and .u64 (k : Int) 7 = (k : Int) := and7 ⟨k, hk⟩
  go_enter Tryz.func109, Tryz.ntmps109
  go_wp2
  go_ret
  refine ⟨congrArg (fun x => Ending.returned (Value.int .u8 x)) ?_, rfl⟩
  rw [show ((a : Int) * 2 ^ k % 256) = ((a * 2 ^ k % 256 : Nat) : Int) by simp, show ((a : Int) / 2 ^ (8 - k)) = ((a / 2 ^ (8 - k) : Nat) : Int) by simp,
    or_u8 (Nat.mod_lt _ (by omega)) (Nat.lt_of_le_of_lt (Nat.div_le_self _ _) ha)]
  rfl

theorem sub_turns : ∀ a : Fin 256, rot (ginv a.val) 0 ^^^ rot (ginv a.val) 1 ^^^ rot (ginv a.val) 2 ^^^ rot (ginv a.val) 3 ^^^ rot (ginv a.val) 4 ^^^ 99 = gsub a.val := by decide +kernel
/-- The sum of the first n turns. -/
def rots (a : Nat) (ks : Nat → Nat) : Nat → Nat
  | 0 => 0
  | n + 1 => rots a ks n ^^^ rot a (ks n)
theorem rots_lt {a : Nat} (ha : a < 256) (ks : Nat → Nat) (n : Nat) : rots a ks n < 256 := by
  induction n with
  | zero => exact (by decide : (0 : Nat) < 256)
  | succ n ih => exact xor_lt ih (rot_lt ha)

set_option maxRecDepth 20000 in
set_option maxHeartbeats 400000 in
theorem turns_any (a b n : Nat) (ks : Nat → Nat) (w : World) (ha : a < 256) (hn : n < 256) (hk : ∀ i, i < n → ks i < 8) (hc : ∀ i, i < n → w.cell? ⟨b, i, none⟩ = some (.int .i64 (ks i))) :
    Calls Tryz.prog 101 #[.int .u8 a, .slice (some ⟨b, 0, none⟩) n n] w fun e w' => e = .returned (.int .u8 (rots a ks n : Nat)) ∧ w' = w := by
  have HK : Hid (_) := hk
  have HC : Hid (_) := hc
  clear hk hc
  go_enter Tryz.func101, Tryz.ntmps101
  go_wp2
  go_loopw [5, 10] (fun s i W => ∃ k : Nat, k ≤ n ∧ s = .int .u8 (rots a ks k : Nat) ∧ i = .int .i64 k ∧ W = w) (fun _ i _ => n - (intOf i).toNat)
  case atStart => exact ⟨0, by omega, rfl, rfl, rfl⟩
  case round =>
    obtain ⟨k, hk, rfl, rfl, rfl⟩ := hrel
    by_cases hlt : k < n
    · have i1 : (k : Int) < n := by omega
      have i0 : (0 : Int) ≤ (k : Int) := by omega
      have c1 := HC.out k hlt
      have m1 := HK.out k hlt
      obtain ⟨r, hr⟩ : ∃ r, ks k = r := ⟨_, rfl⟩
      rw [hr] at c1 m1
      have q : Hid (bits .xor .u8 ((rots a ks k : Nat) : Int) ((rot a r : Nat) : Int) = ((rots a ks (k + 1) : Nat) : Int)) := by
        show bits .xor .u8 ((rots a ks k : Nat) : Int) ((rot a r : Nat) : Int) = ((rots a ks (k + 1) : Nat) : Int)
        rw [xor_u8 (rots_lt ha ks k) (rot_lt ha), ← hr]
        rfl
      clear hr
      go_wp2_with (go_at_call 109; refine (rot_any a r _ ha m1).mono ?_; rintro e w' ⟨rfl, rfl⟩)
      go_roundw
      case rel => exact ⟨k + 1, by omega, by rw [q.out], by go_num, trivial⟩
      case measure => simp [intOf]; omega
    · have i1 : ¬ (k : Int) < n := by omega
      have ek : k = n := by omega
      subst ek
      go_wp2
      go_ret
      exact ⟨rfl, rfl⟩

theorem alloc_cell (w : World) {A : Array Value} {t : TypeId} {i : Nat} {v : Value} (h : A[i]? = some v) : (w.alloc (.cells A t)).cell? ⟨w.heap.size, i, none⟩ = some v := by
  rw [cell_of_row _ _ _ A t (0, 0) (by show (w.heap.push _)[w.heap.size]? = _; rw [Array.getElem?_push_size])]
  exact h
def ksub : Nat → Nat := fun i => i
theorem ksub_at : ∀ i, i < 5 → ksub i < 8 ∧ (#[Value.int IntKind.i64 0, Value.int IntKind.i64 1, Value.int IntKind.i64 2, Value.int IntKind.i64 3, Value.int IntKind.i64 4] : Array Value)[i]? = some (.int .i64 (ksub i)) := by
  intro i hi
  have : i = 0 ∨ i = 1 ∨ i = 2 ∨ i = 3 ∨ i = 4 := by omega
  rcases this with rfl | rfl | rfl | rfl | rfl <;> exact ⟨by decide, rfl⟩
theorem rots_sub {a : Nat} (ha : a < 256) : rots (ginv a) ksub 5 ^^^ 99 = gsub a := by
  rw [← sub_turns ⟨a, ha⟩]
  show ((((0 ^^^ rot (ginv a) 0) ^^^ rot (ginv a) 1) ^^^ rot (ginv a) 2) ^^^ rot (ginv a) 3) ^^^ rot (ginv a) 4 ^^^ 99 = _
  rw [Nat.zero_xor]
set_option maxRecDepth 20000 in
set_option maxHeartbeats 400000 in
theorem sub_any (a : Nat) (w : World) (ha : a < 256) :
    Calls Tryz.prog 86 #[.int .u8 a] w fun e w' => e = .returned (.int .u8 (gsub a : Nat)) ∧ Below w.heap.size w w' := by
  have q : Hid (bits .xor .u8 ((rots (ginv a) ksub 5 : Nat) : Int) 99 = ((gsub a : Nat) : Int)) := by
    show bits .xor .u8 ((rots (ginv a) ksub 5 : Nat) : Int) ((99 : Nat) : Int) = ((gsub a : Nat) : Int)
    rw [xor_u8 (rots_lt (ginv_lt ha) _ _) (by omega), rots_sub ha]
  have HG : Hid (ginv a < 256) := ginv_lt ha
  go_enter Tryz.func86, Tryz.ntmps86
  go_wp2_with (first
    | (go_at_call 102; refine (inv_any a _ ha).mono ?_; rintro e w' ⟨rfl, rfl⟩)
    | (go_at_call 101; refine (turns_any (ginv a) w'.heap.size 5 ksub _ HG.out (by omega) (fun i hi => (ksub_at i hi).1) (fun i hi => alloc_cell w' (ksub_at i hi).2)).mono ?_; rintro e w'' ⟨rfl, rfl⟩))
  go_ret
  exact ⟨congrArg (fun x => Ending.returned (Value.int .u8 x)) q.out, (Below.refl _ _).alloc (Nat.le_refl _) _⟩

end Go.Proofs.YteekoabgbjbabaaGreatDoor.Gf8

namespace Go.Proofs.YteekoabgbjbabaaGreatDoor.Gf8
open Go.RowKit

theorem results_tmp4 {fn : Func} {t u v x : Tmp} (h : fn.results = #[.tmp t, .tmp u, .tmp v, .tmp x]) (tmps : Array Value) (P : Program) (w : World) :
    (results fn tmps).run P w = .ok (.tuple #[tmps.getD t undef, tmps.getD u undef, tmps.getD v undef, tmps.getD x undef]) w := by
  simp [results, h]
set_option maxRecDepth 20000 in
set_option maxHeartbeats 400000 in
theorem from_any (c : Nat → Nat) (i : Nat) (w : World) (hi : i < 4) :
    Calls Tryz.prog 104 #[.agg (col c), .int .i64 i] w fun e w' => e = .returned (.tuple #[.int .u8 (c i), .int .u8 (c ((i + 1) % 4)), .int .u8 (c ((i + 2) % 4)), .int .u8 (c ((i + 3) % 4))]) ∧ Below w.heap.size w w' := by
  have B : Hid (Below w.heap.size w (w.alloc (.cells (col c) 125))) := (Below.refl _ _).alloc (Nat.le_refl _) _
  obtain ⟨j1, h1⟩ : ∃ j, (i + 1) % 4 = j := ⟨_, rfl⟩
  obtain ⟨j2, h2⟩ : ∃ j, (i + 2) % 4 = j := ⟨_, rfl⟩
  obtain ⟨j3, h3⟩ : ∃ j, (i + 3) % 4 = j := ⟨_, rfl⟩
  have k1 : j1 < 4 := by omega
  have k2 : j2 < 4 := by omega
  have k3 : j3 < 4 := by omega
  have t1 : ((i : Int) + 1).tmod 4 = (j1 : Int) := by rw [Int.tmod_eq_emod_of_nonneg (by omega)]; omega
  have t2 : ((i : Int) + 2).tmod 4 = (j2 : Int) := by rw [Int.tmod_eq_emod_of_nonneg (by omega)]; omega
  have t3 : ((i : Int) + 3).tmod 4 = (j3 : Int) := by rw [Int.tmod_eq_emod_of_nonneg (by omega)]; omega
  rw [h1, h2, h3]
  clear h1 h2 h3
  have i0 : (i : Int) < 4 := by omega
  have i1 : (j1 : Int) < 4 := by omega
  have i2 : (j2 : Int) < 4 := by omega
  have i3 : (j3 : Int) < 4 := by omega
  have c0 : (w.alloc (.cells (col c) 125)).cell? ⟨w.heap.size, i, none⟩ = some (.int .u8 (c i)) := alloc_cell w (col_at c hi)
  have c1 : (w.alloc (.cells (col c) 125)).cell? ⟨w.heap.size, j1, none⟩ = some (.int .u8 (c j1)) := alloc_cell w (col_at c k1)
  have c2 : (w.alloc (.cells (col c) 125)).cell? ⟨w.heap.size, j2, none⟩ = some (.int .u8 (c j2)) := alloc_cell w (col_at c k2)
  have c3 : (w.alloc (.cells (col c) 125)).cell? ⟨w.heap.size, j3, none⟩ = some (.int .u8 (c j3)) := alloc_cell w (col_at c k3)
  go_enter Tryz.func104, Tryz.ntmps104
  go_wp2
  go_quiet (skip)
  go_wp2
  refine bodyPost_ret (results_tmp4 rfl _ _ _) rfl ⟨rfl, ?_⟩
  exact belowD B.out _

theorem small_all : ∀ x : Fin 256, gm 2 x.val = xt x.val ∧ gm 3 x.val = xt x.val ^^^ x.val ∧ gm 1 x.val = x.val := by decide +kernel
/-- The code's row of the mixing. -/
def fcol (c : Nat → Nat) (i : Nat) : Nat := xt (c i) ^^^ xt (c ((i + 1) % 4)) ^^^ c ((i + 1) % 4) ^^^ c ((i + 2) % 4) ^^^ c ((i + 3) % 4)
theorem fcol_mix {c : Nat → Nat} (hc : ∀ i, i < 4 → c i < 256) {i : Nat} (hi : i < 4) : fcol c i = mixk fwd c i := by
  have s (j : Nat) (h : j < 4) := small_all ⟨c j, hc j h⟩
  obtain ⟨a0, b0, e0⟩ := s 0 (by omega)
  obtain ⟨a1, b1, e1⟩ := s 1 (by omega)
  obtain ⟨a2, b2, e2⟩ := s 2 (by omega)
  obtain ⟨a3, b3, e3⟩ := s 3 (by omega)
  simp only at a0 b0 e0 a1 b1 e1 a2 b2 e2 a3 b3 e3
  have : i = 0 ∨ i = 1 ∨ i = 2 ∨ i = 3 := by omega
  rcases this with rfl | rfl | rfl | rfl
  · show xt (c 0) ^^^ xt (c 1) ^^^ c 1 ^^^ c 2 ^^^ c 3 = gm 2 (c 0) ^^^ gm 3 (c 1) ^^^ gm 1 (c 2) ^^^ gm 1 (c 3)
    rw [a0, b1, e2, e3]; ac_rfl
  · show xt (c 1) ^^^ xt (c 2) ^^^ c 2 ^^^ c 3 ^^^ c 0 = gm 1 (c 0) ^^^ gm 2 (c 1) ^^^ gm 3 (c 2) ^^^ gm 1 (c 3)
    rw [e0, a1, b2, e3]; ac_rfl
  · show xt (c 2) ^^^ xt (c 3) ^^^ c 3 ^^^ c 0 ^^^ c 1 = gm 1 (c 0) ^^^ gm 1 (c 1) ^^^ gm 2 (c 2) ^^^ gm 3 (c 3)
    rw [e0, e1, a2, b3]; ac_rfl
  · show xt (c 3) ^^^ xt (c 0) ^^^ c 0 ^^^ c 1 ^^^ c 2 = gm 3 (c 0) ^^^ gm 1 (c 1) ^^^ gm 1 (c 2) ^^^ gm 2 (c 3)
    rw [b0, e1, e2, a3]; ac_rfl
end Go.Proofs.YteekoabgbjbabaaGreatDoor.Gf8

namespace Go.Proofs.YteekoabgbjbabaaGreatDoor.Gf8
open Go.RowKit

set_option maxRecDepth 20000 in
set_option maxHeartbeats 400000 in
theorem column_any (c : Nat → Nat) (w : World) (hc : ∀ i, i < 4 → c i < 256) :
    Calls Tryz.prog 94 #[.agg (col c)] w fun e w' => e = .returned (.agg (col (mixk fwd c))) ∧ Below w.heap.size w w' := by
  have HC : Hid (_) := hc
  clear hc
  have h3 := heap3c w (.cells (col c) 125) (.cells (col fun _ => 0) 125) (.cells (col fun _ => 0) 125)
  have H3 : Hid (_) := h3
  clear h3
  go_enter Tryz.func94, Tryz.ntmps94
  go_wp2
  rw [show w.heap.size + 1 + 1 = w.heap.size + 2 from rfl]
  go_loopw [9] (fun i W => ∃ k : Nat, k ≤ 4 ∧ i = .int .i64 k ∧ W.heap[w.heap.size]? = some (.cells (col c) 125) ∧ W.heap[w.heap.size + 1]? = some (.cells (col fun _ => 0) 125) ∧ W.heap[w.heap.size + 2]? = some (.cells (col (uptoC (mixk fwd c) k)) 125) ∧ Below w.heap.size w W) (fun i _ => 4 - (intOf i).toNat)
  case atStart => exact ⟨0, by omega, rfl, H3.out.1, H3.out.2.1, H3.out.2.2, below3c _ _ _ _⟩
  case round =>
    obtain ⟨k, hk, rfl, g1, g2, g3, bel⟩ := hrel
    have B : Hid (Below w.heap.size w wr) := bel
    have G1 : Hid (_) := g1
    have G2 : Hid (_) := g2
    have G3 : Hid (_) := g3
    clear bel g1 g2 g3 H3
    by_cases hlt : k < 4
    · have i1 : (k : Int) < 4 := by omega
      have i0 : (0 : Int) ≤ (k : Int) := by omega
      have HL : Hid (k < 4) := hlt
      obtain ⟨p, hp⟩ : ∃ p, c k = p := ⟨_, rfl⟩
      obtain ⟨q, hq⟩ : ∃ q, c ((k + 1) % 4) = q := ⟨_, rfl⟩
      obtain ⟨r, hr⟩ : ∃ r, c ((k + 2) % 4) = r := ⟨_, rfl⟩
      obtain ⟨s, hs⟩ : ∃ s, c ((k + 3) % 4) = s := ⟨_, rfl⟩
      have p1 : p < 256 := by rw [← hp]; exact HC.out _ hlt
      have q1 : q < 256 := by rw [← hq]; exact HC.out _ (Nat.mod_lt _ (by omega))
      have r1 : r < 256 := by rw [← hr]; exact HC.out _ (Nat.mod_lt _ (by omega))
      have s1 : s < 256 := by rw [← hs]; exact HC.out _ (Nat.mod_lt _ (by omega))
      have FR := from_any c k wr hlt
      rw [hp, hq, hr, hs] at FR
      have x1 := xor_u8 (xt_lt p1) (xt_lt q1)
      have x2 := xor_u8 (xor_lt (xt_lt p1) (xt_lt q1)) q1
      have x3 := xor_u8 (xor_lt (xor_lt (xt_lt p1) (xt_lt q1)) q1) r1
      have x4 := xor_u8 (xor_lt (xor_lt (xor_lt (xt_lt p1) (xt_lt q1)) q1) r1) s1
      have E : Hid (xt p ^^^ xt q ^^^ q ^^^ r ^^^ s = mixk fwd c k) := by
        show xt p ^^^ xt q ^^^ q ^^^ r ^^^ s = mixk fwd c k
        rw [← fcol_mix HC.out hlt, ← hp, ← hq, ← hr, ← hs]
        rfl
      clear hlt hp hq hr hs
      go_wp2_with (first
        | (refine atLoad 125 (.tmp 1) rfl ?_; go_must (refine wpList_load_row rfl 125 (.tmp 1) rfl w.heap.size rfl 125 _ (0, 0) _ G1.out Tryz.underlying125 rfl (size4' _) ?_; simp only [Act.put, List.setIfInBounds_toArray, List.set_cons_succ, List.set_cons_zero])))
      refine FR.mono ?_
      rintro e w1 ⟨rfl, hb1⟩
      have hsz : w.heap.size + 2 < wr.heap.size := (Array.getElem?_eq_some_iff.1 G3.out).1
      have D1 : Hid (w1.heap[w.heap.size]? = some (.cells (col c) 125)) := by show w1.heap[w.heap.size]? = _; rw [hb1.block _ (by omega)]; exact G1.out
      have D2 : Hid (w1.heap[w.heap.size + 1]? = some (.cells (col fun _ => 0) 125)) := by show w1.heap[w.heap.size + 1]? = _; rw [hb1.block _ (by omega)]; exact G2.out
      have D3 : Hid (w1.heap[w.heap.size + 2]? = some (.cells (col (uptoC (mixk fwd c) k)) 125)) := by show w1.heap[w.heap.size + 2]? = _; rw [hb1.block _ (by omega)]; exact G3.out
      have D4 : Hid (Below w.heap.size w w1) := B.out.trans (hb1.mono (by omega))
      have n1 : w1.cell? ⟨w.heap.size + 2, k, none⟩ = some (.int .u8 (uptoC (mixk fwd c) k k)) := by rw [cell_of_row _ _ _ _ _ _ D3.out]; exact col_at _ HL.out
      have n2 : w1.frozen? ⟨w.heap.size + 2, k, none⟩ = false := frozen4 D3.out
      clear hb1 hsz FR
      go_wp2_with (go_at_call 103; refine (double_any _ _ (by assumption)).mono ?_; rintro e w2 ⟨rfl, rfl⟩)
      go_roundw
      case rel =>
        refine ⟨k + 1, by have := HL.out; omega, by go_num, ?_, ?_, ?_, D4.out.setCell (by simp) _⟩
        · rw [heap4o _ D3.out (by omega)]; exact D1.out
        · rw [heap4o _ D3.out (by omega)]; exact D2.out
        · rw [heap4 _ D3.out, E.out, col_set _ HL.out]
      case measure => have := HL.out; simp [intOf]; omega
    · have i1 : ¬ (k : Int) < 4 := by omega
      have ek : k = 4 := by omega
      subst ek
      go_wp2_with (first
        | (refine atLoad 125 (.tmp 3) rfl ?_; go_must (refine wpList_load_row rfl 125 (.tmp 3) rfl (w.heap.size + 2) rfl 125 _ (0, 0) _ G3.out Tryz.underlying125 rfl (size4' _) ?_; simp only [Act.put, List.setIfInBounds_toArray, List.set_cons_succ, List.set_cons_zero]))
        | (refine atStore 125 (.tmp 2) (.tmp 34) rfl ?_; go_must (refine wpList_store_row rfl 125 (.tmp 2) (.tmp 34) rfl (w.heap.size + 1) _ rfl rfl 125 _ G2.out (size4' _) rfl (col_one _) ?_)))
      refine bodyPost_ret (v := .agg (col (mixk fwd c))) (results_cell_row Tryz.results94 _ _ (w.heap.size + 1) 125 _ (0, 0) _ rfl (setRow_heap _ _ _ _ _ _ G2.out) Tryz.underlying125 rfl (size4' _)) rfl ⟨rfl, ?_⟩
      exact below4 B.out (by omega) _
end Go.Proofs.YteekoabgbjbabaaGreatDoor.Gf8

namespace Go.Proofs.YteekoabgbjbabaaGreatDoor.Gf8
open Go.RowKit

theorem zero4 : ∀ w, (zeroValue 125).run Tryz.prog w = .ok (.agg (col fun _ => 0)) w :=
  (zero_of_info (n := 4) (by kernel_rfl)).1
section
variable {o : Oper} {a : Act} {w : World}
theorem execIdx4 {x i : Operand} {g k : Nat} (ho : o.op = .indexAddr 125 x i) (hx : a.eval x = .pointer (some ⟨g, 0, none⟩)) (hi : a.eval i = .int .i64 (k : Int)) (hk : k < 4) : (execOp a.eval o).run Tryz.prog w = .ok (.value (.pointer (some ⟨g, k, none⟩))) w := by
  have h1 : (k : Int) < 4 := by omega
  unfold execOp
  simp only [ho, hx, hi]
  simp [go_sem, h1]
theorem execAlloc4 (ho : o.op = .alloc 125) : (execOp a.eval o).run Tryz.prog w = .ok (.value (.pointer (some ⟨w.heap.size, 0, none⟩))) (w.alloc (.cells (col fun _ => 0) 125)) := by
  have h := zero4
  unfold execOp
  simp only [ho]
  simp [go_sem, h]
end
end Go.Proofs.YteekoabgbjbabaaGreatDoor.Gf8
