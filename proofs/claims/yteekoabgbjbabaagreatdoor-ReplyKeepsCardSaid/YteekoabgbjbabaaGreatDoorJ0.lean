import Derived.Test.YteekoabgbjbabaaGreatDoorR0
namespace Go.Proofs.YteekoabgbjbabaaGreatDoor.Aes
open Gf8
/- AES-128 over Nat: pure, it names nothing of a program. A block is a function of the places 0 .. 15. -/

/-- The round's constant: x's power. -/
def rcon : Nat → Nat
  | 0 => 1
  | n + 1 => xt (rcon n)
theorem rcon_lt (n : Nat) : rcon n < 256 := by
  induction n with
  | zero => exact (by decide : (1 : Nat) < 256)
  | succ n ih => exact xt_lt ih
/-- The bytes of the round keys. -/
def kwG (key : Nat → Nat) : Nat → Nat → Nat
  | 0, _ => 0
  | f + 1, i => if i < 16 then key i else kwG key f (i - 16) ^^^ (if i % 16 < 4 then gsub (kwG key f (i / 4 * 4 - 4 + (i + 1) % 4)) ^^^ (if i % 16 = 0 then rcon (i / 16 - 1) else 0) else kwG key f (i - 4))
def kw (key : Nat → Nat) (i : Nat) : Nat := kwG key (i + 1) i
theorem kwG_eq (key : Nat → Nat) (f : Nat) : ∀ g i, i < f → i < g → kwG key f i = kwG key g i := by
  induction f with
  | zero => exact fun g i h => absurd h (Nat.not_lt_zero i)
  | succ f ih =>
    intro g i h1 h2
    cases g with
    | zero => exact absurd h2 (Nat.not_lt_zero i)
    | succ g =>
      by_cases h : i < 16
      · rw [kwG, kwG, if_pos h, if_pos h]
      · rw [kwG, kwG, if_neg h, if_neg h, ih g (i - 16) (by omega) (by omega)]
        by_cases h4 : i % 16 < 4
        · rw [if_pos h4, if_pos h4, ih g (i / 4 * 4 - 4 + (i + 1) % 4) (by omega) (by omega)]
        · rw [if_neg h4, if_neg h4, ih g (i - 4) (by omega) (by omega)]
theorem kw_low (key : Nat → Nat) {i : Nat} (h : i < 16) : kw key i = key i := by rw [kw, kwG, if_pos h]
theorem kw_turn (key : Nat → Nat) {i : Nat} (h : 16 ≤ i) (h4 : i % 16 < 4) : kw key i = kw key (i - 16) ^^^ (gsub (kw key (i / 4 * 4 - 4 + (i + 1) % 4)) ^^^ (if i % 16 = 0 then rcon (i / 16 - 1) else 0)) := by
  rw [kw, kwG, if_neg (by omega), if_pos h4, kwG_eq key i (i - 16 + 1) (i - 16) (by omega) (by omega), kwG_eq key i (i / 4 * 4 - 4 + (i + 1) % 4 + 1) (i / 4 * 4 - 4 + (i + 1) % 4) (by omega) (by omega)]
  rfl
theorem kw_plain (key : Nat → Nat) {i : Nat} (h : 16 ≤ i) (h4 : ¬ i % 16 < 4) : kw key i = kw key (i - 16) ^^^ kw key (i - 4) := by
  rw [kw, kwG, if_neg (by omega), if_neg h4, kwG_eq key i (i - 16 + 1) (i - 16) (by omega) (by omega), kwG_eq key i (i - 4 + 1) (i - 4) (by omega) (by omega)]
  rfl
theorem gsub_lt {a : Nat} (ha : a < 256) : gsub a < 256 := (sub_all ⟨a, ha⟩).1
theorem kw_lt {key : Nat → Nat} (hk : ∀ i, i < 16 → key i < 256) : ∀ i, kw key i < 256 := by
  intro i
  induction i using Nat.strongRecOn with
  | ind i ih =>
    by_cases h : i < 16
    · rw [kw_low key h]; exact hk i h
    · by_cases h4 : i % 16 < 4
      · rw [kw_turn key (by omega) h4]
        refine xor_lt (ih _ (by omega)) (xor_lt (gsub_lt (ih _ (by omega))) ?_)
        split
        · exact rcon_lt _
        · omega
      · rw [kw_plain key (by omega) h4]
        exact xor_lt (ih _ (by omega)) (ih _ (by omega))

/-- Round key number i laid over a block. -/
def addR (w b : Nat → Nat) (i : Nat) : Nat → Nat := fun j => b j ^^^ w (16 * i + j)
/-- Each byte substituted, each row turned to the left. -/
def subS (b : Nat → Nat) : Nat → Nat := fun j => gsub (b ((j + 4 * (j % 4)) % 16))
/-- The columns mixed, and the way back. -/
def mixB (f b : Nat → Nat) : Nat → Nat := fun j => mixk f (fun r => b (j / 4 * 4 + r)) (j % 4)
/-- What lies behind i rounds of encrypting. -/
def encN (w b : Nat → Nat) : Nat → (Nat → Nat)
  | 0 => addR w b 0
  | i + 1 => addR w (if i + 1 < 10 then mixB fwd (subS (encN w b i)) else subS (encN w b i)) (i + 1)
def enc (w b : Nat → Nat) : Nat → Nat := encN w b 10
theorem encN_mid (w b : Nat → Nat) {i : Nat} (h : i + 1 < 10) : encN w b (i + 1) = addR w (mixB fwd (subS (encN w b i))) (i + 1) := by
  show addR w (if i + 1 < 10 then mixB fwd (subS (encN w b i)) else subS (encN w b i)) (i + 1) = _
  rw [if_pos h]
theorem encN_last (w b : Nat → Nat) : encN w b 10 = addR w (subS (encN w b 9)) 10 := rfl
/-- Two blocks are one. -/
def Eq16 (a b : Nat → Nat) : Prop := ∀ j, j < 16 → a j = b j
/-- All bytes. -/
def By (b : Nat → Nat) : Prop := ∀ j, j < 16 → b j < 256
theorem Eq16.refl (a : Nat → Nat) : Eq16 a a := fun _ _ => rfl
theorem Eq16.trans {a b c : Nat → Nat} (h : Eq16 a b) (g : Eq16 b c) : Eq16 a c := fun j hj => (h j hj).trans (g j hj)
theorem Eq16.symm {a b : Nat → Nat} (h : Eq16 a b) : Eq16 b a := fun j hj => (h j hj).symm
theorem addR_by {w b : Nat → Nat} (hw : ∀ i, i < 176 → w i < 256) (hb : By b) {i : Nat} (hi : i < 11) : By (addR w b i) := fun j hj => xor_lt (hb j hj) (hw _ (by omega))
theorem subS_by {b : Nat → Nat} (hb : By b) : By (subS b) := fun j _ => gsub_lt (hb _ (Nat.mod_lt _ (by omega)))
theorem fwd_by : ∀ i, i < 4 → fwd i < 256 := by
  intro i hi
  have : i = 0 ∨ i = 1 ∨ i = 2 ∨ i = 3 := by omega
  rcases this with rfl | rfl | rfl | rfl <;> decide
theorem mixF_by (b : Nat → Nat) : By (mixB fwd b) := fun _ _ => mixk_lt fwd_by _ _
theorem encN_by {w b : Nat → Nat} (hw : ∀ i, i < 176 → w i < 256) (hb : By b) : ∀ i, i ≤ 10 → By (encN w b i)
  | 0, _ => addR_by hw hb (by omega)
  | i + 1, h => by
    show By (addR w _ (i + 1))
    refine addR_by hw ?_ (by omega)
    split
    · exact mixF_by _
    · exact subS_by (encN_by hw hb i (by omega))
theorem enc_by {w b : Nat → Nat} (hw : ∀ i, i < 176 → w i < 256) (hb : By b) : By (enc w b) := encN_by hw hb 10 (Nat.le_refl _)
def three (c : Nat → Nat) : Nat → Nat := mixk fwd (mixk fwd (mixk fwd c))
/-- A block as one number, big-endian, and back. -/
def be (n : Nat) : Nat → Nat := fun j => n / 256 ^ (15 - j) % 256
theorem be_by (n : Nat) : By (be n) := fun _ _ => Nat.mod_lt _ (by omega)
/-- The next number: a byte turns only where all behind it were 255. -/
theorem be_next (n j : Nat) : be (n + 1) j = if 256 ^ (15 - j) ∣ n + 1 then (be n j + 1) % 256 else be n j := by
  unfold be
  rw [Nat.succ_div]
  split
  · omega
  · rfl
theorem carry_more (n m : Nat) (h : 256 ^ m ∣ n + 1) : 256 ^ (m + 1) ∣ n + 1 ↔ (n + 1) / 256 ^ m % 256 = 0 := by
  obtain ⟨q, hq⟩ := h
  have p : 0 < 256 ^ m := Nat.pow_pos (by omega)
  rw [hq, Nat.mul_div_cancel_left _ p, Nat.pow_succ]
  rw [Nat.mul_dvd_mul_iff_left p]
  exact Nat.dvd_iff_mod_eq_zero
theorem carry_less {n m k : Nat} (h : ¬ 256 ^ m ∣ n + 1) (hk : m ≤ k) : ¬ 256 ^ k ∣ n + 1 := fun e => h (Nat.dvd_trans (Nat.pow_dvd_pow 256 hk) e)
end Go.Proofs.YteekoabgbjbabaaGreatDoor.Aes
