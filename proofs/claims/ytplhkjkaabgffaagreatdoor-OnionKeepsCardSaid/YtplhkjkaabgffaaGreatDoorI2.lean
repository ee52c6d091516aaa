import Derived.Test.YtplhkjkaabgffaaGreatDoorJ0
namespace Go.Proofs.YtplhkjkaabgffaaGreatDoor.Aes
open Gf8
/- The published example, by tables. -/

def exKT : List Nat := [0, 1, 2, 3, 4, 5, 6, 7, 8, 9, 10, 11, 12, 13, 14, 15, 214, 170, 116, 253, 210, 175, 114, 250, 218, 166, 120, 241, 214, 171, 118, 254, 182, 146, 207, 11, 100, 61, 189, 241, 190, 155, 197, 0, 104, 48, 179, 254, 182, 255, 116, 78, 210, 194, 201, 191, 108, 89, 12, 191, 4, 105, 191, 65, 71, 247, 247, 188, 149, 53, 62, 3, 249, 108, 50, 188, 253, 5, 141, 253, 60, 170, 163, 232, 169, 159, 157, 235, 80, 243, 175, 87, 173, 246, 34, 170, 94, 57, 15, 125, 247, 166, 146, 150, 167, 85, 61, 193, 10, 163, 31, 107, 20, 249, 112, 26, 227, 95, 226, 140, 68, 10, 223, 77, 78, 169, 192, 38, 71, 67, 135, 53, 164, 28, 101, 185, 224, 22, 186, 244, 174, 191, 122, 210, 84, 153, 50, 209, 240, 133, 87, 104, 16, 147, 237, 156, 190, 44, 151, 78, 19, 17, 29, 127, 227, 148, 74, 23, 243, 7, 167, 139, 77, 43, 48, 197]
def exK : Nat → Nat := fun i => exKT.getD i 0
def exST : List (List Nat) := [[0, 16, 32, 48, 64, 80, 96, 112, 128, 144, 160, 176, 192, 208, 224, 240], [137, 216, 16, 232, 133, 90, 206, 104, 45, 24, 67, 216, 203, 18, 143, 228], [73, 21, 89, 143, 85, 229, 215, 160, 218, 202, 148, 250, 31, 10, 99, 247], [250, 99, 106, 40, 37, 179, 57, 201, 64, 102, 138, 49, 87, 36, 77, 23], [36, 114, 64, 35, 105, 102, 179, 250, 110, 210, 117, 50, 136, 66, 91, 108], [200, 22, 119, 188, 155, 122, 201, 59, 37, 2, 121, 146, 176, 38, 25, 150], [198, 47, 225, 9, 247, 94, 237, 195, 204, 121, 57, 93, 132, 249, 207, 93], [209, 135, 108, 15, 121, 196, 48, 10, 180, 85, 148, 173, 214, 111, 244, 31], [253, 227, 186, 210, 5, 229, 208, 215, 53, 71, 150, 78, 241, 254, 55, 241], [189, 110, 124, 61, 242, 181, 119, 158, 11, 97, 33, 110, 139, 16, 182, 137], [105, 196, 224, 216, 106, 123, 4, 48, 216, 205, 183, 128, 112, 180, 197, 90]]
def exS (n : Nat) : Nat → Nat := fun j => (exST.getD n []).getD j 0
def exKey : Nat → Nat := fun i => i * 1 % 256
def exB : Nat → Nat := fun i => i * 17 % 256
theorem exK_low : ∀ i : Fin 16, exK i.val = exKey i.val := by decide +kernel
theorem exK_turn : ∀ i : Fin 176, 16 ≤ i.val → i.val % 16 < 4 → exK i.val = exK (i.val - 16) ^^^ (gsub (exK (i.val / 4 * 4 - 4 + (i.val + 1) % 4)) ^^^ (if i.val % 16 = 0 then rcon (i.val / 16 - 1) else 0)) := by decide +kernel
theorem exK_plain : ∀ i : Fin 176, 16 ≤ i.val → ¬ i.val % 16 < 4 → exK i.val = exK (i.val - 16) ^^^ exK (i.val - 4) := by decide +kernel
theorem exK_kw : ∀ i, i < 176 → kw exKey i = exK i := by
  intro i
  induction i using Nat.strongRecOn with
  | ind i ih =>
    intro hi
    by_cases h : i < 16
    · rw [kw_low _ h]; exact (exK_low ⟨i, h⟩).symm
    · by_cases h4 : i % 16 < 4
      · rw [kw_turn _ (by omega) h4, ih _ (by omega) (by omega), ih _ (by omega) (by omega)]
        exact (exK_turn ⟨i, hi⟩ (by simpa using Nat.le_of_not_lt h) h4).symm
      · rw [kw_plain _ (by omega) h4, ih _ (by omega) (by omega), ih _ (by omega) (by omega)]
        exact (exK_plain ⟨i, hi⟩ (by simpa using Nat.le_of_not_lt h) h4).symm
theorem exS_zero : ∀ j : Fin 16, addR exK exB 0 j.val = exS 0 j.val := by decide +kernel
theorem exS_mid : ∀ n : Fin 9, ∀ j : Fin 16, addR exK (mixB fwd (subS (exS n.val))) (n.val + 1) j.val = exS (n.val + 1) j.val := by decide +kernel
theorem exS_last : ∀ j : Fin 16, addR exK (subS (exS 9)) 10 j.val = exS 10 j.val := by decide +kernel
theorem exS_enc : ∀ n, n ≤ 9 → Eq16 (encN exK exB n) (exS n)
  | 0, _ => fun j hj => exS_zero ⟨j, hj⟩
  | n + 1, h => by
    rw [encN_mid _ _ (by omega)]
    exact (addR_congr (mixB_congr (subS_congr (exS_enc n (by omega)))) _).trans fun j hj => exS_mid ⟨n, by omega⟩ ⟨j, hj⟩
theorem ex_enc : Eq16 (enc (kw exKey) exB) (exS 10) := by
  unfold enc
  refine (encN_keys exK_kw 10 (Nat.le_refl _)).trans ?_
  rw [encN_last]
  exact (addR_congr (subS_congr (exS_enc 9 (Nat.le_refl _))) _).trans fun j hj => exS_last ⟨j, hj⟩
theorem ex_first : enc (kw exKey) exB 0 = 105 := (ex_enc 0 (by omega)).trans (by decide)
theorem ex_final : enc (kw exKey) exB 15 = 90 := (ex_enc 15 (by omega)).trans (by decide)
end Go.Proofs.YtplhkjkaabgffaaGreatDoor.Aes
