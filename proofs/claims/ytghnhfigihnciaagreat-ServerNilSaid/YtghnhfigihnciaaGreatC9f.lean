import Derived.Test.YtghnhfigihnciaaGreatC9d
namespace Go.Proofs.YtghnhfigihnciaaGreat.Win
open Go.RowKit Gf8 Aes By8 Cel Cf
/- Rows of tags; the reference's all. Written by tools/mkC9f.py. -/

/-- The cells of a row of tags. -/
def tgV (t : Nat → Nat → Nat) : Nat → List Value
  | 0 => []
  | n + 1 => tgV t n ++ bytesL 16 (t n)
theorem tgV_len (t : Nat → Nat → Nat) : ∀ n, (tgV t n).length = n * 16
  | 0 => rfl
  | n + 1 => by rw [tgV, List.length_append, tgV_len t n, bytesL_len]; omega
theorem tgV_at (t : Nat → Nat → Nat) : ∀ n j i, j < n → i < 16 → (tgV t n)[j * 16 + i]? = some (.int .u8 ((t j i : Nat) : Int))
  | 0, _, _, h, _ => by omega
  | n + 1, j, i, h, hi => by
    rw [tgV]
    by_cases q : j < n
    · rw [List.getElem?_append_left (by rw [tgV_len]; omega)]
      exact tgV_at t n j i q hi
    · obtain rfl : j = n := by omega
      rw [List.getElem?_append_right (by rw [tgV_len]; omega), tgV_len, Nat.add_sub_cancel_left]
      exact bytesL_at 16 _ hi
section
variable {W W' : World} {B n : Nat} {v : Value} {t : Nat → Nat → Nat}
theorem own_tgs (h : W.ownsRow B 74 16 v n (tgV t n)) (hb : ∀ j, j < n → ∀ i, i < 16 → t j i < 256) : Tgs W v n t := by
  rcases h.2 with ⟨rfl, rfl⟩ | ⟨g, cap, cur, rfl, _, hg, q1, q2, q3, q4⟩
  · exact ⟨⟨none, 0, rfl, Nat.le_refl _, by omega, fun h => absurd h (Nat.lt_irrefl _)⟩, hb, fun l c e => by injection e with _ _ e3; exact e3.symm⟩
  · have hm : maxLen < 9223372036854775808 := by decide
    refine ⟨⟨_, _, rfl, q1, by omega, fun _ => ⟨g, 0, rfl, (Array.getElem?_eq_some_iff.1 hg).1, fun j hj i hi => ?_⟩⟩, hb, fun l c e => by cases e⟩
    rw [cell_of_row _ _ _ _ _ _ hg, Nat.zero_add, ← Array.getElem?_toList]
    have h5 : (cur.toList.take (n * 16))[j * 16 + i]? = some (.int .u8 ((t j i : Nat) : Int)) := by rw [q4]; exact tgV_at t n j i hj hi
    rw [List.getElem?_take_of_lt (by omega)] at h5
    exact h5
end
end Go.Proofs.YtghnhfigihnciaaGreat.Win
