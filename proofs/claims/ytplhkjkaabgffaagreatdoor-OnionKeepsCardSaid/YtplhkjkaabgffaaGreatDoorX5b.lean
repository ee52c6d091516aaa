import Derived.Test.YtplhkjkaabgffaaGreatDoorJ0
namespace Go.Proofs.YtplhkjkaabgffaaGreatDoor.Oni
open Gf8 Aes
/- One block of the box's key stream of the onion of alive: by tables. -/

def kT : List Nat := [242, 228, 185, 95, 164, 139, 142, 169, 101, 20, 48, 239, 80, 215, 46, 245, 253, 213, 95, 12, 89, 94, 209, 165, 60, 74, 225, 74, 108, 157, 207, 191, 161, 95, 87, 92, 248, 1, 134, 249, 196, 75, 103, 179, 168, 214, 168, 12, 83, 157, 169, 158, 171, 156, 47, 103, 111, 215, 72, 212, 199, 1, 224, 216, 39, 124, 200, 88, 140, 224, 231, 63, 227, 55, 175, 235, 36, 54, 79, 51, 50, 248, 11, 110, 190, 24, 236, 81, 93, 47, 67, 186, 121, 25, 12, 137, 198, 6, 172, 216, 120, 30, 64, 137, 37, 49, 3, 51, 92, 40, 15, 186, 178, 112, 88, 146, 202, 110, 24, 27, 239, 95, 27, 40, 179, 119, 20, 146, 199, 138, 23, 255, 13, 228, 15, 228, 226, 187, 20, 204, 81, 204, 0, 94, 151, 233, 79, 46, 154, 13, 64, 202, 120, 182, 84, 6, 41, 122, 84, 88, 123, 201, 37, 139, 225, 196, 101, 65, 153, 114, 49, 71, 176, 8, 101, 31]
def kf : Nat → Nat := fun i => kT.getD i 0
def sT : List (List Nat) := [[242, 228, 185, 95, 164, 139, 142, 169, 101, 20, 48, 239, 80, 215, 46, 246], [245, 104, 37, 49, 32, 100, 74, 48, 49, 50, 96, 120, 183, 232, 189, 159], [184, 143, 63, 83, 85, 185, 180, 247, 220, 228, 73, 77, 68, 40, 44, 28], [214, 140, 90, 100, 111, 204, 116, 161, 57, 206, 168, 212, 10, 147, 183, 214], [57, 183, 235, 39, 171, 230, 72, 120, 52, 109, 80, 219, 156, 124, 171, 252], [124, 168, 250, 254, 144, 104, 57, 42, 8, 139, 93, 8, 213, 193, 15, 98], [207, 226, 132, 174, 50, 37, 39, 15, 5, 99, 37, 231, 37, 178, 186, 15], [181, 179, 9, 251, 138, 67, 4, 162, 73, 205, 99, 17, 38, 184, 151, 180], [46, 240, 185, 123, 170, 119, 214, 77, 27, 97, 15, 152, 99, 110, 248, 220], [1, 53, 246, 233, 147, 134, 226, 201, 50, 37, 246, 248, 251, 197, 30, 184], [7, 141, 103, 231, 61, 251, 23, 95, 186, 212, 115, 154, 191, 158, 253, 94]]
def sf (n : Nat) : Nat → Nat := fun j => (sT.getD n []).getD j 0
theorem kf_turn : ∀ i : Fin 176, 16 ≤ i.val → i.val % 16 < 4 → kf i.val = kf (i.val - 16) ^^^ (gsub (kf (i.val / 4 * 4 - 4 + (i.val + 1) % 4)) ^^^ (if i.val % 16 = 0 then rcon (i.val / 16 - 1) else 0)) := by decide +kernel
theorem kf_plain : ∀ i : Fin 176, 16 ≤ i.val → ¬ i.val % 16 < 4 → kf i.val = kf (i.val - 16) ^^^ kf (i.val - 4) := by decide +kernel
theorem kf_kw {key : Nat → Nat} (hk : ∀ i, i < 16 → key i = kf i) : ∀ i, i < 176 → kw key i = kf i := by
  intro i
  induction i using Nat.strongRecOn with
  | ind i ih =>
    intro hi
    by_cases h : i < 16
    · rw [kw_low _ h]; exact hk i h
    · by_cases h4 : i % 16 < 4
      · rw [kw_turn _ (by omega) h4, ih _ (by omega) (by omega), ih _ (by omega) (by omega)]
        exact (kf_turn ⟨i, hi⟩ (by simpa using Nat.le_of_not_lt h) h4).symm
      · rw [kw_plain _ (by omega) h4, ih _ (by omega) (by omega), ih _ (by omega) (by omega)]
        exact (kf_plain ⟨i, hi⟩ (by simpa using Nat.le_of_not_lt h) h4).symm
theorem sf_zero : ∀ j : Fin 16, addR kf (be 3) 0 j.val = sf 0 j.val := by decide +kernel
theorem sf_mid : ∀ n : Fin 9, ∀ j : Fin 16, addR kf (mixB fwd (subS (sf n.val))) (n.val + 1) j.val = sf (n.val + 1) j.val := by decide +kernel
theorem sf_last : ∀ j : Fin 16, addR kf (subS (sf 9)) 10 j.val = sf 10 j.val := by decide +kernel
theorem sf_enc : ∀ n, n ≤ 9 → Eq16 (encN kf (be 3) n) (sf n)
  | 0, _ => fun j hj => sf_zero ⟨j, hj⟩
  | n + 1, h => by
    rw [encN_mid _ _ (by omega)]
    exact (addR_congr (mixB_congr (subS_congr (sf_enc n (by omega)))) _).trans fun j hj => sf_mid ⟨n, by omega⟩ ⟨j, hj⟩
theorem ks_eval {key : Nat → Nat} (hk : ∀ i, i < 16 → key i = kf i) : enc (kw key) (be 3) 2 = 103 := by
  have h : Eq16 (enc (kw key) (be 3)) (sf 10) := by
    unfold enc
    refine (encN_keys (kf_kw hk) 10 (Nat.le_refl _)).trans ?_
    rw [encN_last]
    exact (addR_congr (subS_congr (sf_enc 9 (Nat.le_refl _))) _).trans fun j hj => sf_last ⟨j, hj⟩
  exact (h 2 (by omega)).trans (by decide)
end Go.Proofs.YtplhkjkaabgffaaGreatDoor.Oni
