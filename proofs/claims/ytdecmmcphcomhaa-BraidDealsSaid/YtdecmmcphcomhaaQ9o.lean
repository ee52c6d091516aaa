import Derived.Test.YtdecmmcphcomhaaQ9m
namespace Go.Proofs.Ytdecmmcphcomhaa.Brd
open Go.RowKit Gf8 Aes By8 Cel Cf Tap Drw Prm
/- Package braid as it landed: Draws. Written by tools/mkQ9n.py. -/

def n3 (n J t : Nat) : Nat := if t = 0 then n else J
end Go.Proofs.Ytdecmmcphcomhaa.Brd

namespace Go.Proofs.Ytdecmmcphcomhaa.Brd
open Go.RowKit Gf8 Aes By8 Cel Cf Tap Drw Prm
/- Stage 12: Pattern and Draws take back one another; offsets are carried over (over Nat and Int). -/

theorem plC_lt {C : Nat → Nat} {j v : Nat} : ∀ {n}, 0 < n → plC C j v n < n
  | 0, h => absurd h (Nat.not_lt_zero _)
  | n + 1, _ => by
    unfold plC
    by_cases q : C n = j ∧ cntC C j n = v
    · rw [if_pos q]; omega
    · rw [if_neg q]
      cases n with
      | zero => exact Nat.zero_lt_succ _
      | succ n => exact Nat.lt_succ_of_lt (plC_lt (Nat.zero_lt_succ _))
section
variable {sf f g : Nat → Int} {J m : Nat}
end
/-- The numbers fit. -/
theorem pj_le (r : Nat → Nat) (d : Nat) : ∀ J, pj r d J ≤ J
  | 0 => Nat.le_refl _
  | J + 1 => by
    have := pj_le r d J
    unfold pj
    by_cases q : d < sumN r J
    · rw [if_pos q]; omega
    · rw [if_neg q]; omega
section
variable {sf df : Nat → Int} {J m : Nat}
theorem pc_fits {N : Nat} (hJ : J ≤ 17592186044416) : ∀ j, j < N → -9223372036854775808 ≤ pcF sf J df j ∧ pcF sf J df j < 9223372036854775808 := fun j _ => by
  have := pj_le (lfD (gN sf) J (gN df) j) (gN df j) J
  show _ ≤ ((pj _ _ J : Nat) : Int) ∧ ((pj _ _ J : Nat) : Int) < _
  omega
theorem zl_le (E n : Nat) : zl E n ≤ n := by
  unfold zl
  split <;> omega
theorem po_fits {E : Nat} (hd : ∀ j, j < m → -9223372036854775808 ≤ df j ∧ df j < 9223372036854775808) : ∀ j, j < zl E m → -9223372036854775808 ≤ poF sf J df m j ∧ poF sf J df m j < 9223372036854775808 := fun j hj => by
  have h0 := zl_le E m
  obtain ⟨p, ep⟩ : ∃ p, plC (chD (gN sf) J (gN df)) (pj (gN sf) j J) (j - sumN (gN sf) (pj (gN sf) j J)) m = p := ⟨_, rfl⟩
  have hp : p < m := by rw [← ep]; exact plC_lt (by omega)
  have h1 := hd p hp
  have h2 : ofD (gN sf) J (gN df) p ≤ (df p).toNat := Nat.sub_le _ _
  show _ ≤ ((ofD (gN sf) J (gN df) (plC _ _ _ m) : Nat) : Int) ∧ ((ofD (gN sf) J (gN df) (plC _ _ _ m) : Nat) : Int) < _
  rw [ep]
  omega
end
end Go.Proofs.Ytdecmmcphcomhaa.Brd
