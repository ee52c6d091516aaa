import Derived.Test.YtfhldpdnoaoohaaDoorR0
import Derived.Test.YtfhldpdnoaoohaaDoorL1
namespace Go.Proofs.YtfhldpdnoaoohaaDoor.Gf8
/- The bit operations of bytes and ints, over Nat; the product's definition by the document's words (first the polynomials' product, then the rest). -/

/-- The polynomials' product by the first k bits of b. -/
def rpN (a b : Nat) : Nat → Nat
  | 0 => 0
  | k + 1 => rpN a b k ^^^ pick (b.testBit k) (a * 2 ^ k)
/-- What is left of p behind the first k places from x^14 on. -/
def rrN (p : Nat) : Nat → Nat
  | 0 => p
  | k + 1 => rrN p k ^^^ pick ((rrN p k).testBit (14 - k)) (283 * 2 ^ (6 - k))
theorem mul_pow_xor (a b k : Nat) : (a ^^^ b) * 2 ^ k = a * 2 ^ k ^^^ b * 2 ^ k := by
  rw [← Nat.shiftLeft_eq, ← Nat.shiftLeft_eq, ← Nat.shiftLeft_eq, Nat.shiftLeft_xor_distrib]
theorem rpN_xl (a b c : Nat) (k : Nat) : rpN (a ^^^ b) c k = rpN a c k ^^^ rpN b c k := by
  induction k with
  | zero => exact (Nat.xor_self 0).symm
  | succ k ih =>
    show rpN (a ^^^ b) c k ^^^ pick (c.testBit k) ((a ^^^ b) * 2 ^ k) = (rpN a c k ^^^ pick (c.testBit k) (a * 2 ^ k)) ^^^ (rpN b c k ^^^ pick (c.testBit k) (b * 2 ^ k))
    rw [ih, mul_pow_xor, pick_xr, xor_mid]
theorem rpN_xr (a b c : Nat) (k : Nat) : rpN a (b ^^^ c) k = rpN a b k ^^^ rpN a c k := by
  induction k with
  | zero => exact (Nat.xor_self 0).symm
  | succ k ih =>
    show rpN a (b ^^^ c) k ^^^ pick ((b ^^^ c).testBit k) (a * 2 ^ k) = (rpN a b k ^^^ pick (b.testBit k) (a * 2 ^ k)) ^^^ (rpN a c k ^^^ pick (c.testBit k) (a * 2 ^ k))
    rw [ih, Nat.testBit_xor, pick_xl, xor_mid]
theorem rrN_x (p q : Nat) (k : Nat) : rrN (p ^^^ q) k = rrN p k ^^^ rrN q k := by
  induction k with
  | zero => rfl
  | succ k ih =>
    show rrN (p ^^^ q) k ^^^ pick ((rrN (p ^^^ q) k).testBit (14 - k)) (283 * 2 ^ (6 - k)) = (rrN p k ^^^ pick ((rrN p k).testBit (14 - k)) (283 * 2 ^ (6 - k))) ^^^ (rrN q k ^^^ pick ((rrN q k).testBit (14 - k)) (283 * 2 ^ (6 - k)))
    rw [ih, Nat.testBit_xor, pick_xl, xor_mid]
/-- The product by the document's words. -/
def rmul (a b : Nat) : Nat := rrN (rpN a b 8) 7
theorem rmul_xl (a b c : Nat) : rmul (a ^^^ b) c = rmul a c ^^^ rmul b c := by unfold rmul; rw [rpN_xl, rrN_x]
theorem rmul_xr (a b c : Nat) : rmul a (b ^^^ c) = rmul a b ^^^ rmul a c := by unfold rmul; rw [rpN_xr, rrN_x]
theorem rmul_zl (a : Nat) : rmul 0 a = 0 := by
  have h := rmul_xl 0 0 a
  rw [Nat.xor_self, Nat.xor_self] at h
  exact h
theorem rmul_zr (a : Nat) : rmul a 0 = 0 := by
  have h := rmul_xr a 0 0
  rw [Nat.xor_self, Nat.xor_self] at h
  exact h
theorem rmul_all : ∀ i : Fin 8, ∀ j : Fin 8, rmul (2 ^ i.val) (2 ^ j.val) = gm (2 ^ i.val) (2 ^ j.val) := by decide +kernel
theorem rmul_gm {a b : Nat} (ha : a < 256) (hb : b < 256) : rmul a b = gm a b := by
  refine basis (P := fun a => ∀ b, b < 256 → rmul a b = gm a b) ?_ ?_ ?_ a ha b hb
  · intro b _; rw [rmul_zl, gm_zl]
  · intro i
    refine basis ?_ ?_ ?_
    · rw [rmul_zr, gm_zr]
    · intro j; exact rmul_all i j
    · intro x y _ _ hx hy; rw [rmul_xr, gm_xr, hx, hy]
  · intro x y _ _ hx hy b hb; rw [rmul_xl, gm_xl, hx b hb, hy b hb]
theorem pick_lt16 {c : Bool} {a : Nat} (ha : a < 2 ^ 16) : pick c a < 2 ^ 16 := by cases c <;> simp [pick] <;> omega
theorem rpN_lt {a : Nat} (ha : a < 256) (b : Nat) {k : Nat} (hk : k ≤ 8) : rpN a b k < 2 ^ 16 := by
  induction k with
  | zero => exact (by decide : (0 : Nat) < 2 ^ 16)
  | succ k ih =>
    refine Nat.xor_lt_two_pow (ih (by omega)) (pick_lt16 ?_)
    have h : 2 ^ k ≤ 2 ^ 7 := Nat.pow_le_pow_right (by omega) (by omega)
    have : a * 2 ^ k ≤ a * 2 ^ 7 := Nat.mul_le_mul_left _ h
    omega
theorem rrN_lt {p : Nat} (hp : p < 2 ^ 16) (k : Nat) : rrN p k < 2 ^ 16 := by
  induction k with
  | zero => exact hp
  | succ k ih =>
    refine Nat.xor_lt_two_pow ih (pick_lt16 ?_)
    have h : 2 ^ (6 - k) ≤ 2 ^ 6 := Nat.pow_le_pow_right (by omega) (by omega)
    have : 283 * 2 ^ (6 - k) ≤ 283 * 2 ^ 6 := Nat.mul_le_mul_left _ h
    omega

/-- A byte's own bits, put together from below. -/
def upB (f : Nat → Bool) : Nat → Nat
  | 0 => 0
  | k + 1 => upB f k ||| pick (f k) (2 ^ k)
theorem upB_lt (f : Nat → Bool) (k : Nat) : upB f k < 2 ^ k := by
  induction k with
  | zero => exact (by decide : (0 : Nat) < 2 ^ 0)
  | succ k ih =>
    have h : 2 ^ (k + 1) = 2 ^ k + 2 ^ k := by rw [Nat.pow_succ]; omega
    refine Nat.or_lt_two_pow (by omega) ?_
    have p : 0 < 2 ^ k := Nat.two_pow_pos k
    cases f k <;> simp [pick] <;> omega
theorem upB_bit (f : Nat → Bool) (k i : Nat) : (upB f k).testBit i = (decide (i < k) && f i) := by
  induction k with
  | zero => simp [upB]
  | succ k ih =>
    show (upB f k ||| pick (f k) (2 ^ k)).testBit i = _
    rw [Nat.testBit_or, ih]
    by_cases h : i = k
    · subst h
      cases f i <;> simp [pick]
    · cases f k <;> simp [pick, show ¬ k = i by omega] <;> by_cases h2 : i < k <;> simp [h2] <;> omega
/-- The affine map of the inverse, bit by bit, is the table's. -/
theorem aff_sub {a : Nat} (ha : a < 256) : upB (affB (ginv a)) 8 = gsub a := by
  apply Nat.eq_of_testBit_eq
  intro i
  rw [upB_bit]
  by_cases h : i < 8
  · rw [sub_bits ⟨a, ha⟩ ⟨i, h⟩]
    simp [h]
  · have hs : gsub a < 2 ^ i := Nat.lt_of_lt_of_le (sub_all ⟨a, ha⟩).1 (show 2 ^ 8 ≤ 2 ^ i from Nat.pow_le_pow_right (by omega) (by omega))
    rw [Nat.testBit_lt_two_pow hs]
    simp [h]
end Go.Proofs.YtfhldpdnoaoohaaDoor.Gf8

namespace Go.Proofs.YtfhldpdnoaoohaaDoor.Gf8
open Go.RowKit

/-- A column's cells. -/
def col (c : Nat → Nat) : Array Value := #[.int .u8 (c 0), .int .u8 (c 1), .int .u8 (c 2), .int .u8 (c 3)]
theorem col_at (c : Nat → Nat) {i : Nat} (h : i < 4) : (col c)[i]? = some (.int .u8 (c i)) := by
  have : i = 0 ∨ i = 1 ∨ i = 2 ∨ i = 3 := by omega
  rcases this with rfl | rfl | rfl | rfl <;> rfl
theorem col_set (g : Nat → Nat) {k : Nat} (h : k < 4) : (col (uptoC g k)).setIfInBounds k (.int .u8 (g k)) = col (uptoC g (k + 1)) := by
  have : k = 0 ∨ k = 1 ∨ k = 2 ∨ k = 3 := by omega
  rcases this with rfl | rfl | rfl | rfl <;> rfl
theorem col_four (g : Nat → Nat) : col (uptoC g 4) = col g := rfl
theorem fwd_lt : ∀ i, i < 4 → fwd i < 256 := by
  intro i hi
  have : i = 0 ∨ i = 1 ∨ i = 2 ∨ i = 3 := by omega
  rcases this with rfl | rfl | rfl | rfl <;> decide
theorem bwd_lt : ∀ i, i < 4 → bwd i < 256 := by
  intro i hi
  have : i = 0 ∨ i = 1 ∨ i = 2 ∨ i = 3 := by omega
  rcases this with rfl | rfl | rfl | rfl <;> decide
theorem size4 : (Tryd.prog.info? 110).map (·.size) = some 4 := by kernel_rfl
theorem size4' (c : Nat → Nat) : (Tryd.prog.info? 110).map (·.size) = some (col c).size := size4
theorem col_one (c : Nat → Nat) : (col c).all Value.oneCell' = true := by simp [col, Value.oneCell']
end Go.Proofs.YtfhldpdnoaoohaaDoor.Gf8
