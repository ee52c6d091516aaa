import Derived.Test.YtealknodagdjaaaS0
namespace Go.Proofs.Ytealknodagdjaaa.Gf8
open Go.RowKit

/-- How many bits a byte has. -/
def lenT : ByteArray := ⟨#[0, 1, 2, 2, 3, 3, 3, 3, 4, 4, 4, 4, 4, 4, 4, 4, 5, 5, 5, 5, 5, 5, 5, 5, 5, 5, 5, 5, 5, 5, 5, 5, 6, 6, 6, 6, 6, 6, 6, 6, 6, 6, 6, 6, 6, 6, 6, 6, 6, 6, 6, 6, 6, 6, 6, 6, 6, 6, 6, 6, 6, 6, 6, 6, 7, 7, 7, 7, 7, 7, 7, 7, 7, 7, 7, 7, 7, 7, 7, 7, 7, 7, 7, 7, 7, 7, 7, 7, 7, 7, 7, 7, 7, 7, 7, 7, 7, 7, 7, 7, 7, 7, 7, 7, 7, 7, 7, 7, 7, 7, 7, 7, 7, 7, 7, 7, 7, 7, 7, 7, 7, 7, 7, 7, 7, 7, 7, 7, 8, 8, 8, 8, 8, 8, 8, 8, 8, 8, 8, 8, 8, 8, 8, 8, 8, 8, 8, 8, 8, 8, 8, 8, 8, 8, 8, 8, 8, 8, 8, 8, 8, 8, 8, 8, 8, 8, 8, 8, 8, 8, 8, 8, 8, 8, 8, 8, 8, 8, 8, 8, 8, 8, 8, 8, 8, 8, 8, 8, 8, 8, 8, 8, 8, 8, 8, 8, 8, 8, 8, 8, 8, 8, 8, 8, 8, 8, 8, 8, 8, 8, 8, 8, 8, 8, 8, 8, 8, 8, 8, 8, 8, 8, 8, 8, 8, 8, 8, 8, 8, 8, 8, 8, 8, 8, 8, 8, 8, 8, 8, 8, 8, 8, 8, 8, 8, 8, 8, 8, 8, 8, 8, 8, 8, 8, 8, 8]⟩
theorem lenT_size : lenT.size = 256 := by decide +kernel
theorem len_all : ∀ j : Fin 256, (lenT[j.val]'(by rw [lenT_size]; exact j.isLt)).toNat ≤ 8 ∧ j.val < 2 ^ (lenT[j.val]'(by rw [lenT_size]; exact j.isLt)).toNat := by decide +kernel
theorem len_at (c n j : Nat) (hc : c ≤ 56) (hj : n / 2 ^ c = j) (h : j < lenT.size) : ∃ L : Nat, wrap64 ((c : Int) + wrap64 (((lenT[j]'h).toNat : Nat) : Int)) = (L : Int) ∧ L ≤ 64 ∧ n < 2 ^ L := by
  have h2 : j < 256 := by rw [← lenT_size]; exact h
  obtain ⟨l1, l2⟩ := len_all ⟨j, h2⟩
  simp only at l1 l2
  obtain ⟨x, hx⟩ : ∃ x, x = (lenT[j]'h).toNat := ⟨_, rfl⟩
  rw [← hx] at l1 l2 ⊢
  refine ⟨c + x, ?_, by omega, ?_⟩
  · unfold wrap64; omega
  · rw [Nat.pow_add, Nat.mul_comm]
    rw [← hj] at l2
    exact (Nat.div_lt_iff_lt_mul (Nat.two_pow_pos c)).1 l2

theorem len_close {T : ByteArray} {c' : Int} {j : Nat} {h : j < T.size} (hT : T = lenT) (c n : Nat) (hc' : c' = c) (hc : c ≤ 56) (hj : n / 2 ^ c = j) (w : World) :
    ∃ L : Nat, Ending.returned (Value.int .i64 (wrap64 (c' + wrap64 (((T[j]'h).toNat : Nat) : Int)))) = .returned (.int .i64 L) ∧ L ≤ 64 ∧ n < 2 ^ L ∧ w = w := by
  subst hT hc'
  obtain ⟨L, g1, g2, g3⟩ := len_at c n j hc hj h
  exact ⟨L, by rw [g1], g2, g3, rfl⟩
theorem len_close0 {T : ByteArray} {j : Nat} {h : j < T.size} (hT : T = lenT) (n : Nat) (hj : n = j) (w : World) :
    ∃ L : Nat, Ending.returned (Value.int .i64 (wrap64 (wrap64 (((T[j]'h).toNat : Nat) : Int)))) = .returned (.int .i64 L) ∧ L ≤ 64 ∧ n < 2 ^ L ∧ w = w := by
  have e := len_close (h := h) (c' := 0) hT 0 n rfl (by omega) (by simpa using hj) w
  rw [Int.zero_add] at e
  exact e

set_option maxRecDepth 20000 in
set_option maxHeartbeats 400000 in
theorem len64_any (n : Nat) (w : World) (hn : n < 2 ^ 64) :
    Calls Try.prog 55 #[.int .u64 n] w fun e w' => ∃ L : Nat, e = .returned (.int .i64 L) ∧ L ≤ 64 ∧ n < 2 ^ L ∧ w' = w := by
  by_cases h0 : (n : Int) ≥ 4294967296
  · obtain ⟨x, g0⟩ : ∃ x, n / 4294967296 = x := ⟨_, rfl⟩
    have r0 : (n : Int) / 4294967296 = (x : Int) := by omega
    by_cases h1 : (x : Int) ≥ 65536
    · obtain ⟨y, g1⟩ : ∃ y, x / 65536 = y := ⟨_, rfl⟩
      have r1 : (x : Int) / 65536 = (y : Int) := by omega
      by_cases h2 : (y : Int) ≥ 256
      · obtain ⟨z, g2⟩ : ∃ z, y / 256 = z := ⟨_, rfl⟩
        have r2 : (y : Int) / 256 = (z : Int) := by omega
        have HJ : Hid (n / 2 ^ 56 = z) := by show n / 2 ^ 56 = z; omega
        have l : (z : Int) < 256 := by omega
        clear hn
        clear g0
        clear g1
        clear g2
        go_enter Try.func55, Try.ntmps55
        go_wp2
        go_ret
        exact len_close rfl 56 n rfl (by omega) HJ.out w
      · have HJ : Hid (n / 2 ^ 48 = y) := by show n / 2 ^ 48 = y; omega
        have l : (y : Int) < 256 := by omega
        clear hn
        clear g0
        clear g1
        go_enter Try.func55, Try.ntmps55
        go_wp2
        go_ret
        exact len_close rfl 48 n rfl (by omega) HJ.out w
    · by_cases h2 : (x : Int) ≥ 256
      · obtain ⟨z, g2⟩ : ∃ z, x / 256 = z := ⟨_, rfl⟩
        have r2 : (x : Int) / 256 = (z : Int) := by omega
        have HJ : Hid (n / 2 ^ 40 = z) := by show n / 2 ^ 40 = z; omega
        have l : (z : Int) < 256 := by omega
        clear hn
        clear g0
        clear g2
        go_enter Try.func55, Try.ntmps55
        go_wp2
        go_ret
        exact len_close rfl 40 n rfl (by omega) HJ.out w
      · have HJ : Hid (n / 2 ^ 32 = x) := by show n / 2 ^ 32 = x; omega
        have l : (x : Int) < 256 := by omega
        clear hn
        clear g0
        go_enter Try.func55, Try.ntmps55
        go_wp2
        go_ret
        exact len_close rfl 32 n rfl (by omega) HJ.out w
  · by_cases h1 : (n : Int) ≥ 65536
    · obtain ⟨y, g1⟩ : ∃ y, n / 65536 = y := ⟨_, rfl⟩
      have r1 : (n : Int) / 65536 = (y : Int) := by omega
      by_cases h2 : (y : Int) ≥ 256
      · obtain ⟨z, g2⟩ : ∃ z, y / 256 = z := ⟨_, rfl⟩
        have r2 : (y : Int) / 256 = (z : Int) := by omega
        have HJ : Hid (n / 2 ^ 24 = z) := by show n / 2 ^ 24 = z; omega
        have l : (z : Int) < 256 := by omega
        clear hn
        clear g1
        clear g2
        go_enter Try.func55, Try.ntmps55
        go_wp2
        go_ret
        exact len_close rfl 24 n rfl (by omega) HJ.out w
      · have HJ : Hid (n / 2 ^ 16 = y) := by show n / 2 ^ 16 = y; omega
        have l : (y : Int) < 256 := by omega
        clear hn
        clear g1
        go_enter Try.func55, Try.ntmps55
        go_wp2
        go_ret
        exact len_close rfl 16 n rfl (by omega) HJ.out w
    · by_cases h2 : (n : Int) ≥ 256
      · obtain ⟨z, g2⟩ : ∃ z, n / 256 = z := ⟨_, rfl⟩
        have r2 : (n : Int) / 256 = (z : Int) := by omega
        have HJ : Hid (n / 2 ^ 8 = z) := by show n / 2 ^ 8 = z; omega
        have l : (z : Int) < 256 := by omega
        clear hn
        clear g2
        go_enter Try.func55, Try.ntmps55
        go_wp2
        go_ret
        exact len_close rfl 8 n rfl (by omega) HJ.out w
      · have HJ : Hid (n / 2 ^ 0 = n) := by show n / 2 ^ 0 = n; omega
        have l : (n : Int) < 256 := by omega
        clear hn
        go_enter Try.func55, Try.ntmps55
        go_wp2
        go_ret
        exact len_close0 rfl n rfl w

set_option maxRecDepth 20000 in
theorem len_any (n : Nat) (w : World) (hn : n < 2 ^ 64) :
    Calls Try.prog 53 #[.int .u64 n] w fun e w' => ∃ L : Nat, e = .returned (.int .i64 L) ∧ L ≤ 64 ∧ n < 2 ^ L ∧ w' = w := by
  go_enter Try.func53, Try.ntmps53
  have m : (n : Int) % 18446744073709551616 = n := by omega
  go_wp2_with (go_at_call 55; refine (len64_any n _ hn).mono ?_; rintro e w' ⟨L, rfl, hl, hm, rfl⟩)
  go_ret
  exact ⟨L, rfl, hl, hm, rfl⟩

end Go.Proofs.Ytealknodagdjaaa.Gf8
