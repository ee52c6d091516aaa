import Derived.Test.YtmfaapbhehhlpaaL0
namespace Go.Proofs.Ytmfaapbhehhlpaa.Gf8
open Go.RowKit

/-- a times x^k. -/
def xk (a : Nat) : Nat → Nat
  | 0 => a
  | k + 1 => xt (xk a k)
theorem xk_lt {a : Nat} (ha : a < 256) (k : Nat) : xk a k < 256 := by
  induction k with
  | zero => exact ha
  | succ k ih => exact xt_lt ih
/-- The product by the first k bits of b, from below. -/
def fm (a b : Nat) : Nat → Nat
  | 0 => 0
  | k + 1 => fm a b k ^^^ pick (b.testBit k) (xk a k)
theorem fm_lt {a : Nat} (ha : a < 256) (b k : Nat) : fm a b k < 256 := by
  induction k with
  | zero => exact (by decide : (0 : Nat) < 256)
  | succ k ih => exact xor_lt ih (pick_lt (xk_lt ha k))
theorem fm_more (a b : Nat) : ∀ k j : Nat, fm a b j ^^^ gmN k (xk a j) (b / 2 ^ j) = fm a b (j + k) := by
  intro k
  induction k with
  | zero => intro j; exact Nat.xor_zero _
  | succ k ih =>
    intro j
    show fm a b j ^^^ (pick ((b / 2 ^ j).testBit 0) (xk a j) ^^^ gmN k (xt (xk a j)) (b / 2 ^ j / 2)) = _
    rw [Nat.testBit_div_two_pow, Nat.zero_add, ← Nat.xor_assoc, Nat.div_div_eq_div_mul, ← Nat.pow_succ]
    have := ih (j + 1)
    rw [show j + 1 + k = j + (k + 1) by omega] at this
    exact this
theorem fm_gm (a b : Nat) : fm a b 8 = gm a b := by
  have h := fm_more a b 8 0
  rw [Nat.zero_add] at h
  rw [← h]
  show 0 ^^^ gmN 8 a (b / 2 ^ 0) = gm a b
  rw [Nat.zero_xor, Nat.pow_zero, Nat.div_one]
  rfl
theorem double_all : ∀ a : Fin 256, (a.val * 2 % 256) ^^^ (27 &&& ((256 - a.val / 128) % 256)) = xt a.val := by decide +kernel
set_option maxRecDepth 20000 in
set_option maxHeartbeats 400000 in
theorem double_any (a : Nat) (w : World) (ha : a < 256) :
    Calls Try.prog 60 #[.int .u8 a] w fun e w' => e = .returned (.int .u8 (xt a : Nat)) ∧ w' = w := by
  have e1 : ((a : Int) * 2 % 256) = ((a * 2 % 256 : Nat) : Int) := by omega
  have e2 : (-((a : Int) / 128) % 256) = (((256 - a / 128) % 256 : Nat) : Int) := by omega
  have q : Hid (bits BinOp.xor IntKind.u8 ((a : Int) * 2 % 256) (bits BinOp.and IntKind.u8 27 (-((a : Int) / 128) % 256)) = ((xt a : Nat) : Int)) := by
    show bits BinOp.xor IntKind.u8 ((a : Int) * 2 % 256) (bits BinOp.and IntKind.u8 27 (-((a : Int) / 128) % 256)) = ((xt a : Nat) : Int)
    rw [e1, e2, show (27 : Int) = ((27 : Nat) : Int) from rfl, and_u8 (by omega) (by omega), xor_u8 (by omega) (Nat.and_lt_two_pow (n := 8) _ (by omega)), double_all ⟨a, ha⟩]
  clear e1 e2
  go_enter Try.func60, Try.ntmps60
  go_wp2
  go_ret
  exact ⟨congrArg (fun x => Ending.returned (Value.int .u8 x)) q.out, rfl⟩

theorem and_pick (a : Nat) (c : Bool) (ha : a < 256) : bits BinOp.and IntKind.u8 (a : Int) (-(if c then 1 else 0 : Int) % 256) = ((pick c a : Nat) : Int) := by
  cases c
  · show bits BinOp.and IntKind.u8 (a : Int) ((0 : Nat) : Int) = _
    rw [and_u8 ha (by omega), Nat.and_zero]; rfl
  · show bits BinOp.and IntKind.u8 (a : Int) ((255 : Nat) : Int) = _
    rw [and_u8 ha (by omega), show (255 : Nat) = 2 ^ 8 - 1 from rfl, Nat.and_two_pow_sub_one_eq_mod, Nat.mod_eq_of_lt ha]; rfl

set_option maxRecDepth 20000 in
set_option maxHeartbeats 400000 in
theorem mul_any (a b : Nat) (w : World) (ha : a < 256) (hb : b < 256) :
    Calls Try.prog 49 #[.int .u8 a, .int .u8 b] w fun e w' => e = .returned (.int .u8 (gm a b : Nat)) ∧ w' = w := by
  go_enter Try.func49, Try.ntmps49
  go_wp2
  go_loopw [0, 5, 7] (fun x s i W => ∃ k : Nat, k ≤ 8 ∧ x = .int .u8 (xk a k : Nat) ∧ s = .int .u8 (fm a b k : Nat) ∧ i = .int .i64 k ∧ W = w) (fun _ _ i _ => 8 - (intOf i).toNat)
  case atStart => exact ⟨0, by omega, rfl, rfl, rfl, rfl⟩
  case round =>
    obtain ⟨k, hk, rfl, rfl, rfl, rfl⟩ := hrel
    by_cases hlt : k < 8
    · have i1 : (k : Int) < 8 := by omega
      have i0 : (0 : Int) ≤ (k : Int) := by omega
      have i2 : min k 8 = k := by omega
      have e1 := bit_u8 hb k
      have e2 : Hid (bits BinOp.xor IntKind.u8 ((fm a b k : Nat) : Int) (bits BinOp.and IntKind.u8 ((xk a k : Nat) : Int) (-(if b.testBit k then 1 else 0 : Int) % 256)) = ((fm a b (k + 1) : Nat) : Int)) := by
        show bits BinOp.xor IntKind.u8 ((fm a b k : Nat) : Int) (bits BinOp.and IntKind.u8 ((xk a k : Nat) : Int) (-(if b.testBit k then 1 else 0 : Int) % 256)) = ((fm a b (k + 1) : Nat) : Int)
        rw [and_pick _ _ (xk_lt ha k), xor_u8 (fm_lt ha b k) (pick_lt (xk_lt ha k))]
        rfl
      go_wp2_with (go_at_call 60; refine (double_any (xk a k) _ (xk_lt ha k)).mono ?_; rintro e w' ⟨rfl, rfl⟩)
      go_roundw
      case rel => exact ⟨k + 1, by omega, rfl, by rw [e2.out], by go_num, trivial⟩
      case measure => simp [intOf]; omega
    · have i1 : ¬ (k : Int) < 8 := by omega
      have e8 : k = 8 := by omega
      subst e8
      go_wp2
      go_ret
      exact ⟨congrArg (fun x : Nat => Ending.returned (Value.int .u8 x)) (fm_gm a b), rfl⟩

end Go.Proofs.Ytmfaapbhehhlpaa.Gf8

namespace Go.Proofs.Ytmfaapbhehhlpaa.Gf8
open Go.RowKit

/-- How many bits a byte has. -/
def lenT : ByteArray := ⟨#[0, 1, 2, 2, 3, 3, 3, 3, 4, 4, 4, 4, 4, 4, 4, 4, 5, 5, 5, 5, 5, 5, 5, 5, 5, 5, 5, 5, 5, 5, 5, 5, 6, 6, 6, 6, 6, 6, 6, 6, 6, 6, 6, 6, 6, 6, 6, 6, 6, 6, 6, 6, 6, 6, 6, 6, 6, 6, 6, 6, 6, 6, 6, 6, 7, 7, 7, 7, 7, 7, 7, 7, 7, 7, 7, 7, 7, 7, 7, 7, 7, 7, 7, 7, 7, 7, 7, 7, 7, 7, 7, 7, 7, 7, 7, 7, 7, 7, 7, 7, 7, 7, 7, 7, 7, 7, 7, 7, 7, 7, 7, 7, 7, 7, 7, 7, 7, 7, 7, 7, 7, 7, 7, 7, 7, 7, 7, 7, 8, 8, 8, 8, 8, 8, 8, 8, 8, 8, 8, 8, 8, 8, 8, 8, 8, 8, 8, 8, 8, 8, 8, 8, 8, 8, 8, 8, 8, 8, 8, 8, 8, 8, 8, 8, 8, 8, 8, 8, 8, 8, 8, 8, 8, 8, 8, 8, 8, 8, 8, 8, 8, 8, 8, 8, 8, 8, 8, 8, 8, 8, 8, 8, 8, 8, 8, 8, 8, 8, 8, 8, 8, 8, 8, 8, 8, 8, 8, 8, 8, 8, 8, 8, 8, 8, 8, 8, 8, 8, 8, 8, 8, 8, 8, 8, 8, 8, 8, 8, 8, 8, 8, 8, 8, 8, 8, 8, 8, 8, 8, 8, 8, 8, 8, 8, 8, 8, 8, 8, 8, 8, 8, 8, 8, 8, 8, 8]⟩
theorem lenT_size : lenT.size = 256 := by decide +kernel
theorem len_all : ∀ j : Fin 256, (lenT[j.val]'(by rw [lenT_size]; exact j.isLt)).toNat ≤ 8 ∧ j.val < 2 ^ (lenT[j.val]'(by rw [lenT_size]; exact j.isLt)).toNat := by decide +kernel
theorem len_at (c n j : Nat) (hc : c ≤ 56) (hj : n / 2 ^ c = j) (h : j < lenT.size) : ∃ L : Nat, wrap64 ((c : Int) + wrap64 (((lenT[j]'h).toNat : Nat) : Int)) = (L : Int) ∧ L ≤ 64 ∧ n < 2 ^ L := by
  have h2 : j < 256 := by rw [← lenT_size]; exact h
  obtain ⟨l1, l2⟩ := len_all ⟨j, h2⟩
  simp only at l1 l2
  obtain ⟨x, hx⟩ : ∃ x, x = (lenT[j]'h).toNat := ⟨_, rfl⟩
  rw [← hx] at l1 l2 ⊢
  refine ⟨c + x, ?_, by omega, ?_⟩
  · unfold wrap64; omega
  · rw [Nat.pow_add, Nat.mul_comm]
    rw [← hj] at l2
    exact (Nat.div_lt_iff_lt_mul (Nat.two_pow_pos c)).1 l2

theorem len_close {T : ByteArray} {c' : Int} {j : Nat} {h : j < T.size} (hT : T = lenT) (c n : Nat) (hc' : c' = c) (hc : c ≤ 56) (hj : n / 2 ^ c = j) (w : World) :
    ∃ L : Nat, Ending.returned (Value.int .i64 (wrap64 (c' + wrap64 (((T[j]'h).toNat : Nat) : Int)))) = .returned (.int .i64 L) ∧ L ≤ 64 ∧ n < 2 ^ L ∧ w = w := by
  subst hT hc'
  obtain ⟨L, g1, g2, g3⟩ := len_at c n j hc hj h
  exact ⟨L, by rw [g1], g2, g3, rfl⟩
theorem len_close0 {T : ByteArray} {j : Nat} {h : j < T.size} (hT : T = lenT) (n : Nat) (hj : n = j) (w : World) :
    ∃ L : Nat, Ending.returned (Value.int .i64 (wrap64 (wrap64 (((T[j]'h).toNat : Nat) : Int)))) = .returned (.int .i64 L) ∧ L ≤ 64 ∧ n < 2 ^ L ∧ w = w := by
  have e := len_close (h := h) (c' := 0) hT 0 n rfl (by omega) (by simpa using hj) w
  rw [Int.zero_add] at e
  exact e

set_option maxRecDepth 20000 in
set_option maxHeartbeats 400000 in
theorem len64_any (n : Nat) (w : World) (hn : n < 2 ^ 64) :
    Calls Try.prog 66 #[.int .u64 n] w fun e w' => ∃ L : Nat, e = .returned (.int .i64 L) ∧ L ≤ 64 ∧ n < 2 ^ L ∧ w' = w := by
  by_cases h0 : (n : Int) ≥ 4294967296
  · obtain ⟨x, g0⟩ : ∃ x, n / 4294967296 = x := ⟨_, rfl⟩
    have r0 : (n : Int) / 4294967296 = (x : Int) := by omega
    by_cases h1 : (x : Int) ≥ 65536
    · obtain ⟨y, g1⟩ : ∃ y, x / 65536 = y := ⟨_, rfl⟩
      have r1 : (x : Int) / 65536 = (y : Int) := by omega
      by_cases h2 : (y : Int) ≥ 256
      · obtain ⟨z, g2⟩ : ∃ z, y / 256 = z := ⟨_, rfl⟩
        have r2 : (y : Int) / 256 = (z : Int) := by omega
        have HJ : Hid (n / 2 ^ 56 = z) := by show n / 2 ^ 56 = z; omega
        have l : (z : Int) < 256 := by omega
        clear hn
        clear g0
        clear g1
        clear g2
        go_enter Try.func66, Try.ntmps66
        go_wp2
        go_ret
        exact len_close rfl 56 n rfl (by omega) HJ.out w
      · have HJ : Hid (n / 2 ^ 48 = y) := by show n / 2 ^ 48 = y; omega
        have l : (y : Int) < 256 := by omega
        clear hn
        clear g0
        clear g1
        go_enter Try.func66, Try.ntmps66
        go_wp2
        go_ret
        exact len_close rfl 48 n rfl (by omega) HJ.out w
    · by_cases h2 : (x : Int) ≥ 256
      · obtain ⟨z, g2⟩ : ∃ z, x / 256 = z := ⟨_, rfl⟩
        have r2 : (x : Int) / 256 = (z : Int) := by omega
        have HJ : Hid (n / 2 ^ 40 = z) := by show n / 2 ^ 40 = z; omega
        have l : (z : Int) < 256 := by omega
        clear hn
        clear g0
        clear g2
        go_enter Try.func66, Try.ntmps66
        go_wp2
        go_ret
        exact len_close rfl 40 n rfl (by omega) HJ.out w
      · have HJ : Hid (n / 2 ^ 32 = x) := by show n / 2 ^ 32 = x; omega
        have l : (x : Int) < 256 := by omega
        clear hn
        clear g0
        go_enter Try.func66, Try.ntmps66
        go_wp2
        go_ret
        exact len_close rfl 32 n rfl (by omega) HJ.out w
  · by_cases h1 : (n : Int) ≥ 65536
    · obtain ⟨y, g1⟩ : ∃ y, n / 65536 = y := ⟨_, rfl⟩
      have r1 : (n : Int) / 65536 = (y : Int) := by omega
      by_cases h2 : (y : Int) ≥ 256
      · obtain ⟨z, g2⟩ : ∃ z, y / 256 = z := ⟨_, rfl⟩
        have r2 : (y : Int) / 256 = (z : Int) := by omega
        have HJ : Hid (n / 2 ^ 24 = z) := by show n / 2 ^ 24 = z; omega
        have l : (z : Int) < 256 := by omega
        clear hn
        clear g1
        clear g2
        go_enter Try.func66, Try.ntmps66
        go_wp2
        go_ret
        exact len_close rfl 24 n rfl (by omega) HJ.out w
      · have HJ : Hid (n / 2 ^ 16 = y) := by show n / 2 ^ 16 = y; omega
        have l : (y : Int) < 256 := by omega
        clear hn
        clear g1
        go_enter Try.func66, Try.ntmps66
        go_wp2
        go_ret
        exact len_close rfl 16 n rfl (by omega) HJ.out w
    · by_cases h2 : (n : Int) ≥ 256
      · obtain ⟨z, g2⟩ : ∃ z, n / 256 = z := ⟨_, rfl⟩
        have r2 : (n : Int) / 256 = (z : Int) := by omega
        have HJ : Hid (n / 2 ^ 8 = z) := by show n / 2 ^ 8 = z; omega
        have l : (z : Int) < 256 := by omega
        clear hn
        clear g2
        go_enter Try.func66, Try.ntmps66
        go_wp2
        go_ret
        exact len_close rfl 8 n rfl (by omega) HJ.out w
      · have HJ : Hid (n / 2 ^ 0 = n) := by show n / 2 ^ 0 = n; omega
        have l : (n : Int) < 256 := by omega
        clear hn
        go_enter Try.func66, Try.ntmps66
        go_wp2
        go_ret
        exact len_close0 rfl n rfl w

set_option maxRecDepth 20000 in
theorem len_any (n : Nat) (w : World) (hn : n < 2 ^ 64) :
    Calls Try.prog 64 #[.int .u64 n] w fun e w' => ∃ L : Nat, e = .returned (.int .i64 L) ∧ L ≤ 64 ∧ n < 2 ^ L ∧ w' = w := by
  go_enter Try.func64, Try.ntmps64
  have m : (n : Int) % 18446744073709551616 = n := by omega
  go_wp2_with (go_at_call 66; refine (len64_any n _ hn).mono ?_; rintro e w' ⟨L, rfl, hl, hm, rfl⟩)
  go_ret
  exact ⟨L, rfl, hl, hm, rfl⟩

end Go.Proofs.Ytmfaapbhehhlpaa.Gf8
