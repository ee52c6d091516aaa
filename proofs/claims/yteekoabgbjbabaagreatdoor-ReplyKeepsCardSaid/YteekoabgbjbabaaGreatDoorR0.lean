import Derived.Test.YteekoabgbjbabaaGreatDoorL2
namespace Go.Proofs.YteekoabgbjbabaaGreatDoor.Gf8
/- The field of 256 elements over Nat: pure, it names nothing of a program. -/

/-- a or nothing. -/
def pick (c : Bool) (a : Nat) : Nat := bif c then a else 0
/-- x times a. -/
def xt (a : Nat) : Nat := (a + a) ^^^ pick (a.testBit 7) 283
/-- The product by the first k bits of b. -/
def gmN : Nat → Nat → Nat → Nat
  | 0, _, _ => 0
  | k + 1, a, b => pick (b.testBit 0) a ^^^ gmN k (xt a) (b / 2)
/-- The product. -/
def gm (a b : Nat) : Nat := gmN 8 a b
/-- The inverses. -/
def invT : List Nat := [0, 1, 141, 246, 203, 82, 123, 209, 232, 79, 41, 192, 176, 225, 229, 199, 116, 180, 170, 75, 153, 43, 96, 95, 88, 63, 253, 204, 255, 64, 238, 178, 58, 110, 90, 241, 85, 77, 168, 201, 193, 10, 152, 21, 48, 68, 162, 194, 44, 69, 146, 108, 243, 57, 102, 66, 242, 53, 32, 111, 119, 187, 89, 25, 29, 254, 55, 103, 45, 49, 245, 105, 167, 100, 171, 19, 84, 37, 233, 9, 237, 92, 5, 202, 76, 36, 135, 191, 24, 62, 34, 240, 81, 236, 97, 23, 22, 94, 175, 211, 73, 166, 54, 67, 244, 71, 145, 223, 51, 147, 33, 59, 121, 183, 151, 133, 16, 181, 186, 60, 182, 112, 208, 6, 161, 250, 129, 130, 131, 126, 127, 128, 150, 115, 190, 86, 155, 158, 149, 217, 247, 2, 185, 164, 222, 106, 50, 109, 216, 138, 132, 114, 42, 20, 159, 136, 249, 220, 137, 154, 251, 124, 46, 195, 143, 184, 101, 72, 38, 200, 18, 74, 206, 231, 210, 98, 12, 224, 31, 239, 17, 117, 120, 113, 165, 142, 118, 61, 189, 188, 134, 87, 11, 40, 47, 163, 218, 212, 228, 15, 169, 39, 83, 4, 27, 252, 172, 230, 122, 7, 174, 99, 197, 219, 226, 234, 148, 139, 196, 213, 157, 248, 144, 107, 177, 13, 214, 235, 198, 14, 207, 173, 8, 78, 215, 227, 93, 80, 30, 179, 91, 35, 56, 52, 104, 70, 3, 140, 221, 156, 125, 160, 205, 26, 65, 28]
/-- The powers of 3. -/
def powT : List Nat := [1, 3, 5, 15, 17, 51, 85, 255, 26, 46, 114, 150, 161, 248, 19, 53, 95, 225, 56, 72, 216, 115, 149, 164, 247, 2, 6, 10, 30, 34, 102, 170, 229, 52, 92, 228, 55, 89, 235, 38, 106, 190, 217, 112, 144, 171, 230, 49, 83, 245, 4, 12, 20, 60, 68, 204, 79, 209, 104, 184, 211, 110, 178, 205, 76, 212, 103, 169, 224, 59, 77, 215, 98, 166, 241, 8, 24, 40, 120, 136, 131, 158, 185, 208, 107, 189, 220, 127, 129, 152, 179, 206, 73, 219, 118, 154, 181, 196, 87, 249, 16, 48, 80, 240, 11, 29, 39, 105, 187, 214, 97, 163, 254, 25, 43, 125, 135, 146, 173, 236, 47, 113, 147, 174, 233, 32, 96, 160, 251, 22, 58, 78, 210, 109, 183, 194, 93, 231, 50, 86, 250, 21, 63, 65, 195, 94, 226, 61, 71, 201, 64, 192, 91, 237, 44, 116, 156, 191, 218, 117, 159, 186, 213, 100, 172, 239, 42, 126, 130, 157, 188, 223, 122, 142, 137, 128, 155, 182, 193, 88, 232, 35, 101, 175, 234, 37, 111, 177, 200, 67, 197, 84, 252, 31, 33, 99, 165, 244, 7, 9, 27, 45, 119, 153, 176, 203, 70, 202, 69, 207, 74, 222, 121, 139, 134, 145, 168, 227, 62, 66, 198, 81, 243, 14, 18, 54, 90, 238, 41, 123, 141, 140, 143, 138, 133, 148, 167, 242, 13, 23, 57, 75, 221, 124, 132, 151, 162, 253, 28, 36, 108, 180, 199, 82, 246]
/-- The logarithms to the base 3. -/
def logT : List Nat := [0, 0, 25, 1, 50, 2, 26, 198, 75, 199, 27, 104, 51, 238, 223, 3, 100, 4, 224, 14, 52, 141, 129, 239, 76, 113, 8, 200, 248, 105, 28, 193, 125, 194, 29, 181, 249, 185, 39, 106, 77, 228, 166, 114, 154, 201, 9, 120, 101, 47, 138, 5, 33, 15, 225, 36, 18, 240, 130, 69, 53, 147, 218, 142, 150, 143, 219, 189, 54, 208, 206, 148, 19, 92, 210, 241, 64, 70, 131, 56, 102, 221, 253, 48, 191, 6, 139, 98, 179, 37, 226, 152, 34, 136, 145, 16, 126, 110, 72, 195, 163, 182, 30, 66, 58, 107, 40, 84, 250, 133, 61, 186, 43, 121, 10, 21, 155, 159, 94, 202, 78, 212, 172, 229, 243, 115, 167, 87, 175, 88, 168, 80, 244, 234, 214, 116, 79, 174, 233, 213, 231, 230, 173, 232, 44, 215, 117, 122, 235, 22, 11, 245, 89, 203, 95, 176, 156, 169, 81, 160, 127, 12, 246, 111, 23, 196, 73, 236, 216, 67, 31, 45, 164, 118, 123, 183, 204, 187, 62, 90, 251, 96, 177, 134, 59, 82, 161, 108, 170, 85, 41, 157, 151, 178, 135, 144, 97, 190, 220, 252, 188, 149, 207, 205, 55, 63, 91, 209, 83, 57, 132, 60, 65, 162, 109, 71, 20, 42, 158, 93, 86, 242, 211, 171, 68, 17, 146, 217, 35, 32, 46, 137, 180, 124, 184, 38, 119, 153, 227, 165, 103, 74, 237, 222, 197, 49, 254, 24, 13, 99, 140, 128, 192, 247, 112, 7]
/-- The substitution. -/
def subT : List Nat := [99, 124, 119, 123, 242, 107, 111, 197, 48, 1, 103, 43, 254, 215, 171, 118, 202, 130, 201, 125, 250, 89, 71, 240, 173, 212, 162, 175, 156, 164, 114, 192, 183, 253, 147, 38, 54, 63, 247, 204, 52, 165, 229, 241, 113, 216, 49, 21, 4, 199, 35, 195, 24, 150, 5, 154, 7, 18, 128, 226, 235, 39, 178, 117, 9, 131, 44, 26, 27, 110, 90, 160, 82, 59, 214, 179, 41, 227, 47, 132, 83, 209, 0, 237, 32, 252, 177, 91, 106, 203, 190, 57, 74, 76, 88, 207, 208, 239, 170, 251, 67, 77, 51, 133, 69, 249, 2, 127, 80, 60, 159, 168, 81, 163, 64, 143, 146, 157, 56, 245, 188, 182, 218, 33, 16, 255, 243, 210, 205, 12, 19, 236, 95, 151, 68, 23, 196, 167, 126, 61, 100, 93, 25, 115, 96, 129, 79, 220, 34, 42, 144, 136, 70, 238, 184, 20, 222, 94, 11, 219, 224, 50, 58, 10, 73, 6, 36, 92, 194, 211, 172, 98, 145, 149, 228, 121, 231, 200, 55, 109, 141, 213, 78, 169, 108, 86, 244, 234, 101, 122, 174, 8, 186, 120, 37, 46, 28, 166, 180, 198, 232, 221, 116, 31, 75, 189, 139, 138, 112, 62, 181, 102, 72, 3, 246, 14, 97, 53, 87, 185, 134, 193, 29, 158, 225, 248, 152, 17, 105, 217, 142, 148, 155, 30, 135, 233, 206, 85, 40, 223, 140, 161, 137, 13, 191, 230, 66, 104, 65, 153, 45, 15, 176, 84, 187, 22]
/-- The substitution back. -/
def unsT : List Nat := [82, 9, 106, 213, 48, 54, 165, 56, 191, 64, 163, 158, 129, 243, 215, 251, 124, 227, 57, 130, 155, 47, 255, 135, 52, 142, 67, 68, 196, 222, 233, 203, 84, 123, 148, 50, 166, 194, 35, 61, 238, 76, 149, 11, 66, 250, 195, 78, 8, 46, 161, 102, 40, 217, 36, 178, 118, 91, 162, 73, 109, 139, 209, 37, 114, 248, 246, 100, 134, 104, 152, 22, 212, 164, 92, 204, 93, 101, 182, 146, 108, 112, 72, 80, 253, 237, 185, 218, 94, 21, 70, 87, 167, 141, 157, 132, 144, 216, 171, 0, 140, 188, 211, 10, 247, 228, 88, 5, 184, 179, 69, 6, 208, 44, 30, 143, 202, 63, 15, 2, 193, 175, 189, 3, 1, 19, 138, 107, 58, 145, 17, 65, 79, 103, 220, 234, 151, 242, 207, 206, 240, 180, 230, 115, 150, 172, 116, 34, 231, 173, 53, 133, 226, 249, 55, 232, 28, 117, 223, 110, 71, 241, 26, 113, 29, 41, 197, 137, 111, 183, 98, 14, 170, 24, 190, 27, 252, 86, 62, 75, 198, 210, 121, 32, 154, 219, 192, 254, 120, 205, 90, 244, 31, 221, 168, 51, 136, 7, 199, 49, 177, 18, 16, 89, 39, 128, 236, 95, 96, 81, 127, 169, 25, 181, 74, 13, 45, 229, 122, 159, 147, 201, 156, 239, 160, 224, 59, 77, 174, 42, 245, 176, 200, 235, 187, 60, 131, 83, 153, 97, 23, 43, 4, 126, 186, 119, 214, 38, 225, 105, 20, 99, 85, 33, 12, 125]
def ginv (a : Nat) : Nat := invT.getD a 0
def gsub (a : Nat) : Nat := subT.getD a 0
def guns (a : Nat) : Nat := unsT.getD a 0

theorem pick_xl (c d : Bool) (a : Nat) : pick (c ^^ d) a = pick c a ^^^ pick d a := by cases c <;> cases d <;> simp [pick]
theorem pick_xr (c : Bool) (a b : Nat) : pick c (a ^^^ b) = pick c a ^^^ pick c b := by cases c <;> simp [pick]
theorem xor_mid (a b c d : Nat) : (a ^^^ b) ^^^ (c ^^^ d) = (a ^^^ c) ^^^ (b ^^^ d) := by
  rw [Nat.xor_assoc, Nat.xor_assoc, ← Nat.xor_assoc b c d, Nat.xor_comm b c, Nat.xor_assoc c b d]
theorem dbl_xor (a b : Nat) : (a ^^^ b) + (a ^^^ b) = (a + a) ^^^ (b + b) := by
  have h (n : Nat) : n + n = n <<< 1 := by rw [Nat.shiftLeft_eq]; omega
  rw [h, h, h, Nat.shiftLeft_xor_distrib]
theorem xt_xor (a b : Nat) : xt (a ^^^ b) = xt a ^^^ xt b := by
  unfold xt
  rw [dbl_xor, Nat.testBit_xor, pick_xl, xor_mid]
theorem gmN_xr (k : Nat) : ∀ a b c : Nat, gmN k a (b ^^^ c) = gmN k a b ^^^ gmN k a c := by
  induction k with
  | zero => intro a b c; exact (Nat.xor_self 0).symm
  | succ k ih =>
    intro a b c
    show pick ((b ^^^ c).testBit 0) a ^^^ gmN k (xt a) ((b ^^^ c) / 2) = (pick (b.testBit 0) a ^^^ gmN k (xt a) (b / 2)) ^^^ (pick (c.testBit 0) a ^^^ gmN k (xt a) (c / 2))
    rw [Nat.testBit_xor, pick_xl, Nat.xor_div_two, ih, xor_mid]
theorem gmN_xl (k : Nat) : ∀ a b c : Nat, gmN k (a ^^^ b) c = gmN k a c ^^^ gmN k b c := by
  induction k with
  | zero => intro a b c; exact (Nat.xor_self 0).symm
  | succ k ih =>
    intro a b c
    show pick (c.testBit 0) (a ^^^ b) ^^^ gmN k (xt (a ^^^ b)) (c / 2) = (pick (c.testBit 0) a ^^^ gmN k (xt a) (c / 2)) ^^^ (pick (c.testBit 0) b ^^^ gmN k (xt b) (c / 2))
    rw [pick_xr, xt_xor, ih, xor_mid]
theorem gm_xr (a b c : Nat) : gm a (b ^^^ c) = gm a b ^^^ gm a c := gmN_xr 8 a b c
theorem gm_xl (a b c : Nat) : gm (a ^^^ b) c = gm a c ^^^ gm b c := gmN_xl 8 a b c
theorem gm_zr (a : Nat) : gm a 0 = 0 := by
  have h := gm_xr a 0 0
  rw [Nat.xor_self, Nat.xor_self] at h
  exact h
theorem gm_zl (a : Nat) : gm 0 a = 0 := by
  have h := gm_xl 0 0 a
  rw [Nat.xor_self, Nat.xor_self] at h
  exact h

theorem split_top : ∀ k : Fin 8, ∀ a : Fin 256, 2 ^ k.val ≤ a.val → a.val < 2 ^ (k.val + 1) → 2 ^ k.val ^^^ (a.val - 2 ^ k.val) = a.val := by decide +kernel
/-- What holds of 0, of the eight powers of two, and of a sum of two of which it holds, holds of every byte. -/
theorem basis {P : Nat → Prop} (h0 : P 0) (hb : ∀ i : Fin 8, P (2 ^ i.val)) (hx : ∀ a b, a < 256 → b < 256 → P a → P b → P (a ^^^ b)) : ∀ a, a < 256 → P a := by
  have key : ∀ k, k ≤ 8 → ∀ a, a < 2 ^ k → P a := by
    intro k
    induction k with
    | zero => intro _ a ha; have : a = 0 := by simpa using ha
              subst this; exact h0
    | succ k ih =>
      intro hk a ha
      have hp : 2 ^ (k + 1) ≤ 2 ^ 8 := Nat.pow_le_pow_right (by omega) hk
      have hq : 2 ^ (k + 1) = 2 ^ k + 2 ^ k := by rw [Nat.pow_succ]; omega
      by_cases h : a < 2 ^ k
      · exact ih (by omega) a h
      · have e := split_top ⟨k, by omega⟩ ⟨a, by omega⟩ (by simpa using Nat.le_of_not_lt h) (by simpa using ha)
        simp only at e
        rw [← e]
        exact hx _ _ (by omega) (by omega) (hb ⟨k, by omega⟩) (ih (by omega) _ (by omega))
  intro a ha
  exact key 8 (Nat.le_refl _) a (by simpa using ha)

theorem pick_lt {c : Bool} {a : Nat} (ha : a < 256) : pick c a < 256 := by cases c <;> simp [pick, ha]
theorem xt_lt_all : ∀ a : Fin 256, xt a.val < 256 := by decide +kernel
theorem xt_lt {a : Nat} (ha : a < 256) : xt a < 256 := xt_lt_all ⟨a, ha⟩
theorem gmN_lt (k : Nat) : ∀ {a : Nat} (b : Nat), a < 256 → gmN k a b < 256 := by
  induction k with
  | zero => intro a b _; exact (by decide : (0 : Nat) < 256)
  | succ k ih => intro a b ha; exact xor_lt (pick_lt ha) (ih _ (xt_lt ha))
theorem gm_lt {a : Nat} (b : Nat) (ha : a < 256) : gm a b < 256 := gmN_lt 8 b ha

theorem comm_all : ∀ i : Fin 8, ∀ j : Fin 8, gm (2 ^ i.val) (2 ^ j.val) = gm (2 ^ j.val) (2 ^ i.val) := by decide +kernel
theorem gm_comm {a b : Nat} (ha : a < 256) (hb : b < 256) : gm a b = gm b a := by
  refine basis (P := fun a => ∀ b, b < 256 → gm a b = gm b a) ?_ ?_ ?_ a ha b hb
  · intro b _; rw [gm_zl, gm_zr]
  · intro i
    refine basis ?_ ?_ ?_
    · rw [gm_zl, gm_zr]
    · intro j; exact comm_all i j
    · intro x y _ _ hx hy; rw [gm_xl, gm_xr, hx, hy]
  · intro x y _ _ hx hy b hb; rw [gm_xl, gm_xr, hx b hb, hy b hb]
theorem assoc_all : ∀ i : Fin 8, ∀ j : Fin 8, ∀ k : Fin 8, gm (gm (2 ^ i.val) (2 ^ j.val)) (2 ^ k.val) = gm (2 ^ i.val) (gm (2 ^ j.val) (2 ^ k.val)) := by decide +kernel
theorem gm_assoc {a b c : Nat} (ha : a < 256) (hb : b < 256) (hc : c < 256) : gm (gm a b) c = gm a (gm b c) := by
  refine basis (P := fun a => ∀ b, b < 256 → ∀ c, c < 256 → gm (gm a b) c = gm a (gm b c)) ?_ ?_ ?_ a ha b hb c hc
  · intro b _ c _; rw [gm_zl, gm_zl, gm_zl]
  · intro i
    refine basis ?_ ?_ ?_
    · intro c _; rw [gm_zr, gm_zl, gm_zr]
    · intro j
      refine basis ?_ ?_ ?_
      · rw [gm_zr, gm_zr, gm_zr]
      · intro k; exact assoc_all i j k
      · intro x y _ _ hx hy; rw [gm_xr, gm_xr, gm_xr, hx, hy]
    · intro x y _ _ hx hy c hc; rw [gm_xr, gm_xl, gm_xl, gm_xr, hx c hc, hy c hc]
  · intro x y _ _ hx hy b hb c hc; rw [gm_xl, gm_xl, gm_xl, hx b hb c hc, hy b hb c hc]

theorem one_all : ∀ a : Fin 256, gm a.val 1 = a.val := by decide +kernel
theorem gm_one {a : Nat} (ha : a < 256) : gm a 1 = a := one_all ⟨a, ha⟩
theorem gm_one' {a : Nat} (ha : a < 256) : gm 1 a = a := by rw [gm_comm (by omega) ha, gm_one ha]
theorem inv_all : ∀ a : Fin 256, ginv a.val < 256 ∧ (a.val ≠ 0 → gm a.val (ginv a.val) = 1) := by decide +kernel
theorem ginv_lt {a : Nat} (ha : a < 256) : ginv a < 256 := (inv_all ⟨a, ha⟩).1
theorem gm_inv {a : Nat} (ha : a < 256) (h : a ≠ 0) : gm a (ginv a) = 1 := (inv_all ⟨a, ha⟩).2 h
/-- The inverse is the one element with the product 1. -/
theorem inv_iff {a b : Nat} (ha : a < 256) (hb : b < 256) : gm a b = 1 ↔ a ≠ 0 ∧ b = ginv a := by
  constructor
  · intro h
    have h0 : a ≠ 0 := by rintro rfl; rw [gm_zl] at h; cases h
    refine ⟨h0, ?_⟩
    have e := gm_assoc (ginv_lt ha) ha hb
    rw [h, gm_one (ginv_lt ha), gm_comm (ginv_lt ha) ha, gm_inv ha h0, gm_one' hb] at e
    exact e
  · rintro ⟨h0, rfl⟩
    exact gm_inv ha h0
/-- a's power n. -/
def gpow (a : Nat) : Nat → Nat
  | 0 => 1
  | n + 1 => gm (gpow a n) a
theorem gpow_lt {a : Nat} (n : Nat) : gpow a n < 256 := by
  induction n with
  | zero => exact (by decide : (1 : Nat) < 256)
  | succ n ih => exact gm_lt a ih
theorem gpow_one {a : Nat} (ha : a < 256) : gpow a 1 = a := gm_one' ha
theorem gpow_add {a : Nat} (ha : a < 256) (m n : Nat) : gpow a (m + n) = gm (gpow a m) (gpow a n) := by
  induction n with
  | zero => exact (gm_one (gpow_lt m)).symm
  | succ n ih =>
    show gm (gpow a (m + n)) a = gm (gpow a m) (gm (gpow a n) a)
    rw [ih, gm_assoc (gpow_lt m) (gpow_lt n) ha]
theorem gpow_mul {a : Nat} (ha : a < 256) (m n : Nat) : gpow a (m * n) = gpow (gpow a m) n := by
  induction n with
  | zero => rfl
  | succ n ih => rw [Nat.mul_succ, gpow_add ha, ih]; rfl
theorem gpow_ones (n : Nat) : gpow 1 n = 1 := by
  induction n with
  | zero => rfl
  | succ n ih => show gm (gpow 1 n) 1 = 1; rw [ih]; rfl
theorem gpow_zero {n : Nat} (h : n ≠ 0) : gpow 0 n = 0 := by
  cases n with
  | zero => exact absurd rfl h
  | succ n => exact gm_zr _
theorem pow_step : ∀ i : Fin 254, gm (powT.getD i.val 0) 3 = powT.getD (i.val + 1) 0 := by decide +kernel
theorem pow3 : ∀ i, i < 255 → gpow 3 i = powT.getD i 0 := by
  intro i
  induction i with
  | zero => intro _; rfl
  | succ i ih =>
    intro h
    show gm (gpow 3 i) 3 = _
    rw [ih (by omega)]
    exact pow_step ⟨i, by omega⟩
theorem pow3_255 : gpow 3 255 = 1 := by
  show gm (gpow 3 254) 3 = 1
  rw [pow3 254 (by omega)]
  decide +kernel
theorem log_all : ∀ a : Fin 256, logT.getD a.val 0 < 255 ∧ (a.val ≠ 0 → powT.getD (logT.getD a.val 0) 0 = a.val) := by decide +kernel
/-- Every element but 0 is a power of 3. -/
theorem is_pow3 {a : Nat} (ha : a < 256) (h : a ≠ 0) : ∃ k, k < 255 ∧ a = gpow 3 k := by
  have e := log_all ⟨a, ha⟩
  exact ⟨_, e.1, by rw [pow3 _ e.1]; exact (e.2 h).symm⟩
theorem gpow_255 {a : Nat} (ha : a < 256) (h : a ≠ 0) : gpow a 255 = 1 := by
  obtain ⟨k, _, rfl⟩ := is_pow3 ha h
  rw [← gpow_mul (by omega), Nat.mul_comm, gpow_mul (by omega), pow3_255, gpow_ones]
theorem ginv_pow {a : Nat} (ha : a < 256) (h : a ≠ 0) : ginv a = gpow a 254 := by
  refine (((inv_iff ha (gpow_lt 254)).1 ?_).2).symm
  rw [gm_comm ha (gpow_lt 254)]
  exact gpow_255 ha h
theorem sub_all : ∀ a : Fin 256, gsub a.val < 256 ∧ guns a.val < 256 ∧ guns (gsub a.val) = a.val ∧ gsub (guns a.val) = a.val ∧ gsub a.val ≠ a.val ∧ gsub a.val ≠ 255 - a.val := by decide +kernel
/-- Row k of the mixing with the factors f. -/
def mixk (f c : Nat → Nat) (k : Nat) : Nat := gm (f ((0 + 4 - k) % 4)) (c 0) ^^^ gm (f ((1 + 4 - k) % 4)) (c 1) ^^^ gm (f ((2 + 4 - k) % 4)) (c 2) ^^^ gm (f ((3 + 4 - k) % 4)) (c 3)
def fwd : Nat → Nat := fun i => [2, 3, 1, 1].getD i 0
theorem mixk_lt {f : Nat → Nat} (hf : ∀ i, i < 4 → f i < 256) (c : Nat → Nat) (k : Nat) : mixk f c k < 256 := by
  have h (i : Nat) : f (i % 4) < 256 := hf _ (Nat.mod_lt _ (by omega))
  exact xor_lt (xor_lt (xor_lt (gm_lt _ (h _)) (gm_lt _ (h _))) (gm_lt _ (h _))) (gm_lt _ (h _))
end Go.Proofs.YteekoabgbjbabaaGreatDoor.Gf8
