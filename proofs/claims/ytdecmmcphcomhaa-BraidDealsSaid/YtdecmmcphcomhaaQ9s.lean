import Derived.Test.YtdecmmcphcomhaaQ9p
namespace Go.Proofs.Ytdecmmcphcomhaa.Brd
open Go.RowKit Gf8 Aes By8 Cel Cf Tap Drw Prm
/- Stage 12's BraidBack. Written by tools/mkQ9q.py. -/

section
variable {W : World} {g : Nat} {a b c d : Value} {t : TypeId}
end
section
variable {o : Oper} {a : Act} {w : World}
end
theorem open_sl {W : World} {v : Value} {n : Nat} {f : Nat → Int} (h : SliceI W v n f) (hn : 0 < n) : ∃ b o c, v = .slice (some ⟨b, o, none⟩) n c ∧ b < W.heap.size ∧ ∀ j, j < n → W.cell? ⟨b, o + j, none⟩ = some (.int .i64 (f j)) := by
  obtain ⟨a, c, rfl, _, _, hs⟩ := h.shape
  obtain ⟨b, o, rfl, h1, h2⟩ := hs hn
  exact ⟨b, o, c, rfl, h1, h2⟩
end Go.Proofs.Ytdecmmcphcomhaa.Brd

namespace Go.Proofs.Ytdecmmcphcomhaa.Brd
open Go.RowKit Gf8 Aes By8 Cel Cf Tap Drw Prm
/- Stage 12's BraidSizes. Written by tools/mkQ9s.py. -/

theorem bd_len (k : Int) : bdN k ≤ 256 := by
  unfold bdN
  split <;> omega
theorem sz_fits {k c : Int} : ∀ j, j < zl (szE k c) c.toNat → -9223372036854775808 ≤ (fun j => (szF k.toNat c.toNat j : Int)) j ∧ (fun j => (szF k.toNat c.toNat j : Int)) j < 9223372036854775808 := fun j hj => by
  have h : 0 ≤ k ∧ k ≤ 256 ∧ 1 ≤ c ∧ c ≤ 64 := by
    by_cases h : 0 ≤ k ∧ k ≤ 256 ∧ 1 ≤ c ∧ c ≤ 64
    · exact h
    · have e : szE k c = 2 := if_neg h
      rw [e, zl_no (by decide)] at hj
      omega
  have h1 : k.toNat / c.toNat ≤ k.toNat := Nat.div_le_self _ _
  have h2 : szF k.toNat c.toNat j ≤ k.toNat / c.toNat + 1 := by
    unfold szF
    split <;> omega
  show _ ≤ ((szF k.toNat c.toNat j : Nat) : Int) ∧ ((szF k.toNat c.toNat j : Nat) : Int) < _
  omega
theorem bd_fits {k : Int} : ∀ j, j < bdN k → -9223372036854775808 ≤ (fun j : Nat => k - (j : Int)) j ∧ (fun j : Nat => k - (j : Int)) j < 9223372036854775808 := fun j hj => by
  have h1 := bd_len k
  have h2 : k ≤ 256 ∧ (j : Int) < k := by
    unfold bdN at hj
    by_cases h : k ≤ 256
    · rw [if_pos h] at hj
      omega
    · rw [if_neg h] at hj
      omega
  show _ ≤ k - (j : Int) ∧ k - (j : Int) < _
  omega
section
variable {o : Oper} {a : Act} {w : World}
end
end Go.Proofs.Ytdecmmcphcomhaa.Brd
