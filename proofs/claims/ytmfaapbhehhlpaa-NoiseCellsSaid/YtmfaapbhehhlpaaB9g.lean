import Derived.Test.YtmfaapbhehhlpaaJ0
namespace Go.Proofs.Ytmfaapbhehhlpaa.Noi
open Gf8 Aes
/- The first byte of the stream of the key of noughts: by tables. Written by tools/mkB9g.py. -/

def kT : List Nat := [0, 0, 0, 0, 0, 0, 0, 0, 0, 0, 0, 0, 0, 0, 0, 0, 98, 99, 99, 99, 98, 99, 99, 99, 98, 99, 99, 99, 98, 99, 99, 99, 155, 152, 152, 201, 249, 251, 251, 170, 155, 152, 152, 201, 249, 251, 251, 170, 144, 151, 52, 80, 105, 108, 207, 250, 242, 244, 87, 51, 11, 15, 172, 153, 238, 6, 218, 123, 135, 106, 21, 129, 117, 158, 66, 178, 126, 145, 238, 43, 127, 46, 43, 136, 248, 68, 62, 9, 141, 218, 124, 187, 243, 75, 146, 144, 236, 97, 75, 133, 20, 37, 117, 140, 153, 255, 9, 55, 106, 180, 155, 167, 33, 117, 23, 135, 53, 80, 98, 11, 172, 175, 107, 60, 198, 27, 240, 155, 14, 249, 3, 51, 59, 169, 97, 56, 151, 6, 10, 4, 81, 29, 250, 159, 177, 212, 216, 226, 138, 125, 185, 218, 29, 123, 179, 222, 76, 102, 73, 65, 180, 239, 91, 203, 62, 146, 226, 17, 35, 233, 81, 207, 111, 143, 24, 142]
def kf : Nat → Nat := fun i => kT.getD i 0
def sT : List (List Nat) := [[0, 0, 0, 0, 0, 0, 0, 0, 0, 0, 0, 0, 0, 0, 0, 0], [1, 0, 0, 0, 1, 0, 0, 0, 1, 0, 0, 0, 1, 0, 0, 0], [198, 228, 228, 139, 164, 135, 135, 232, 198, 228, 228, 139, 164, 135, 135, 232], [40, 45, 243, 196, 106, 243, 134, 37, 74, 78, 144, 167, 8, 144, 229, 70], [171, 210, 205, 254, 55, 90, 181, 73, 80, 160, 175, 192, 117, 154, 106, 95], [212, 111, 79, 108, 85, 184, 150, 51, 126, 5, 187, 61, 121, 121, 222, 35], [4, 242, 202, 151, 7, 120, 40, 69, 226, 47, 1, 150, 73, 197, 215, 16], [183, 170, 228, 197, 29, 37, 45, 79, 108, 146, 15, 129, 148, 229, 129, 80], [35, 231, 140, 60, 19, 33, 99, 219, 170, 192, 198, 87, 46, 3, 203, 149], [127, 254, 14, 149, 81, 165, 102, 53, 14, 52, 124, 71, 41, 41, 236, 203], [102, 233, 75, 212, 239, 138, 44, 59, 136, 76, 250, 89, 202, 52, 43, 46]]
def sf (n : Nat) : Nat → Nat := fun j => (sT.getD n []).getD j 0
theorem kf_turn : ∀ i : Fin 176, 16 ≤ i.val → i.val % 16 < 4 → kf i.val = kf (i.val - 16) ^^^ (gsub (kf (i.val / 4 * 4 - 4 + (i.val + 1) % 4)) ^^^ (if i.val % 16 = 0 then rcon (i.val / 16 - 1) else 0)) := by decide +kernel
theorem kf_plain : ∀ i : Fin 176, 16 ≤ i.val → ¬ i.val % 16 < 4 → kf i.val = kf (i.val - 16) ^^^ kf (i.val - 4) := by decide +kernel
theorem kf_kw {key : Nat → Nat} (hk : ∀ i, i < 16 → key i = kf i) : ∀ i, i < 176 → kw key i = kf i := by
  intro i
  induction i using Nat.strongRecOn with
  | ind i ih =>
    intro hi
    by_cases h : i < 16
    · rw [kw_low _ h]; exact hk i h
    · by_cases h4 : i % 16 < 4
      · rw [kw_turn _ (by omega) h4, ih _ (by omega) (by omega), ih _ (by omega) (by omega)]
        exact (kf_turn ⟨i, hi⟩ (by simpa using Nat.le_of_not_lt h) h4).symm
      · rw [kw_plain _ (by omega) h4, ih _ (by omega) (by omega), ih _ (by omega) (by omega)]
        exact (kf_plain ⟨i, hi⟩ (by simpa using Nat.le_of_not_lt h) h4).symm
theorem sf_zero : ∀ j : Fin 16, addR kf (be 0) 0 j.val = sf 0 j.val := by decide +kernel
theorem sf_mid : ∀ n : Fin 9, ∀ j : Fin 16, addR kf (mixB fwd (subS (sf n.val))) (n.val + 1) j.val = sf (n.val + 1) j.val := by decide +kernel
theorem sf_last : ∀ j : Fin 16, addR kf (subS (sf 9)) 10 j.val = sf 10 j.val := by decide +kernel
theorem sf_enc : ∀ n, n ≤ 9 → Eq16 (encN kf (be 0) n) (sf n)
  | 0, _ => fun j hj => sf_zero ⟨j, hj⟩
  | n + 1, h => by
    rw [encN_mid _ _ (by omega)]
    exact (addR_congr (mixB_congr (subS_congr (sf_enc n (by omega)))) _).trans fun j hj => sf_mid ⟨n, by omega⟩ ⟨j, hj⟩
theorem ks_eval {key : Nat → Nat} (hk : ∀ i, i < 16 → key i = kf i) : enc (kw key) (be 0) 0 = 102 := by
  have h : Eq16 (enc (kw key) (be 0)) (sf 10) := by
    unfold enc
    refine (encN_keys (kf_kw hk) 10 (Nat.le_refl _)).trans ?_
    rw [encN_last]
    exact (addR_congr (subS_congr (sf_enc 9 (Nat.le_refl _))) _).trans fun j hj => sf_last ⟨j, hj⟩
  exact (h 0 (by omega)).trans (by decide)
end Go.Proofs.Ytmfaapbhehhlpaa.Noi
