import Derived.Test.YtmlealepeoefpaaG9a
namespace Go.Proofs.Ytmlealepeoefpaa.Drw
open Go.RowKit Gf8 Aes By8 Cel Cf Tap
/- The tapes of one byte, counted. -/

/-- How many of the bytes below v draw x. -/
def cnt (b : Nat) : Nat → Nat → Nat
  | 0, _ => 0
  | v + 1, x => cnt b v x + if v / b < 256 / b ∧ v % b = x then 1 else 0
/-- How many of them are passed over. -/
def outs (b : Nat) : Nat → Nat
  | 0 => 0
  | v + 1 => outs b v + if v / b < 256 / b then 0 else 1
theorem div_blk {q b r : Nat} (hr : r < b) : (q * b + r) / b = q := by
  rw [Nat.mul_comm, Nat.mul_add_div (by omega), Nat.div_eq_of_lt hr, Nat.add_zero]
theorem mod_blk {q b r : Nat} (hr : r < b) : (q * b + r) % b = r := by
  rw [Nat.mul_comm, Nat.mul_add_mod, Nat.mod_eq_of_lt hr]
theorem cnt_in {b q x : Nat} (hq : q < 256 / b) : ∀ r, r ≤ b → cnt b (q * b + r) x = cnt b (q * b) x + if x < r then 1 else 0
  | 0, _ => by rw [if_neg (by omega)]; rfl
  | r + 1, hr => by
    show cnt b (q * b + r) x + (if (q * b + r) / b < 256 / b ∧ (q * b + r) % b = x then 1 else 0) = _
    rw [cnt_in hq r (by omega), div_blk (by omega), mod_blk (by omega)]
    by_cases h : r = x
    · subst h
      rw [if_neg (by omega), if_pos ⟨hq, rfl⟩, if_pos (by omega)]
    · rw [if_neg (show ¬ (q < 256 / b ∧ r = x) from fun e => h e.2)]
      by_cases h2 : x < r
      · rw [if_pos h2, if_pos (by omega)]
      · rw [if_neg h2, if_neg (by omega)]
theorem cnt_blk {b x : Nat} (hx : x < b) : ∀ q, q ≤ 256 / b → cnt b (q * b) x = q
  | 0, _ => by rw [Nat.zero_mul]; rfl
  | q + 1, hq => by
    rw [Nat.succ_mul, cnt_in (by omega) b (Nat.le_refl _), cnt_blk hx q (by omega), if_pos hx]
theorem cnt_end {b x : Nat} (hb : 0 < b) : ∀ d, cnt b (256 / b * b + d) x = cnt b (256 / b * b) x
  | 0 => rfl
  | d + 1 => by
    show cnt b (256 / b * b + d) x + _ = _
    rw [cnt_end hb d, if_neg, Nat.add_zero]
    rintro ⟨h, -⟩
    have h2 : 256 / b * b + d < 256 / b * b := (Nat.div_lt_iff_lt_mul hb).1 h
    omega
theorem cnt_all {b x : Nat} (hx : x < b) : cnt b 256 x = 256 / b := by
  have h1 : 256 / b * b ≤ 256 := Nat.div_mul_le_self _ _
  obtain ⟨d, e⟩ : ∃ d, 256 = 256 / b * b + d := ⟨256 - 256 / b * b, by omega⟩
  rw [show cnt b 256 x = cnt b (256 / b * b + d) x from congrArg (cnt b · x) e, cnt_end (by omega), cnt_blk hx _ (Nat.le_refl _)]
theorem outs_lo {b : Nat} (hb : 0 < b) : ∀ v, v ≤ 256 / b * b → outs b v = 0
  | 0, _ => rfl
  | v + 1, h => by
    show outs b v + _ = _
    rw [outs_lo hb v (by omega), if_pos ((Nat.div_lt_iff_lt_mul hb).2 (by omega))]
theorem outs_hi {b : Nat} (hb : 0 < b) : ∀ d, outs b (256 / b * b + d) = d
  | 0 => outs_lo hb _ (Nat.le_refl _)
  | d + 1 => by
    show outs b (256 / b * b + d) + _ = _
    rw [outs_hi hb d, if_neg]
    intro h
    have h2 : 256 / b * b + d < 256 / b * b := (Nat.div_lt_iff_lt_mul hb).1 h
    omega
theorem outs_all {b : Nat} (hb : 0 < b) : outs b 256 < b ∧ outs b 256 + b * (256 / b) = 256 := by
  have h1 : 256 / b * b ≤ 256 := Nat.div_mul_le_self _ _
  obtain ⟨d, e⟩ : ∃ d, 256 = 256 / b * b + d := ⟨256 - 256 / b * b, by omega⟩
  have h2 : outs b 256 = d := (congrArg (outs b ·) e).trans (outs_hi hb d)
  have h3 := Nat.div_add_mod 256 b
  have h4 := Nat.mod_lt 256 hb
  rw [h2]
  rw [Nat.mul_comm] at h3
  rw [Nat.mul_comm b]
  omega
theorem cnt_le (b x : Nat) : ∀ v, cnt b v x ≤ v
  | 0 => Nat.le_refl _
  | v + 1 => by
    have := cnt_le b x v
    show cnt b v x + _ ≤ _
    by_cases h : v / b < 256 / b ∧ v % b = x
    · rw [if_pos h]; omega
    · rw [if_neg h]; omega
theorem outs_le (b : Nat) : ∀ v, outs b v ≤ v
  | 0 => Nat.le_refl _
  | v + 1 => by
    have := outs_le b v
    show outs b v + _ ≤ _
    by_cases h : v / b < 256 / b
    · rw [if_pos h]; omega
    · rw [if_neg h]; omega
/-- A tape of one byte. -/
theorem one_S (v b : Nat) : dS (fun _ => v) 1 0 (b : Int) = if v / b < 256 / b then 0 else 1 := by
  unfold dS
  show scan (fun _ => v) b 1 0 = _
  unfold scan
  by_cases h : v / b < 256 / b
  · rw [if_pos h, if_pos h]
  · rw [if_neg h, if_neg h]; rfl
theorem one_E {v b : Nat} (h1 : 1 ≤ b) (h2 : b ≤ 256) (hv : v < 256) : dE (fun _ => v) 1 0 (b : Int) = if v / b < 256 / b then 0 else 3 := by
  unfold dE
  rw [if_neg (by omega)]
  by_cases h3 : b = 1
  · subst h3
    rw [if_pos (show ((1 : Nat) : Int) = 1 from rfl), if_pos (by omega)]
  · rw [if_neg (by omega), one_S]
    by_cases h : v / b < 256 / b
    · rw [if_pos h, if_pos (by omega), if_pos h]
    · rw [if_neg h, if_neg (by omega), if_neg h]
theorem one_V {v b : Nat} (h1 : 1 ≤ b) (h2 : b ≤ 256) (hv : v < 256) (h : v / b < 256 / b) : dV (fun _ => v) 1 0 (b : Int) = v % b := by
  unfold dV
  by_cases h3 : b = 1
  · subst h3
    rw [if_neg (by simp), Nat.mod_one]
  · rw [if_pos ⟨by rw [one_E h1 h2 hv, if_pos h], by omega⟩]
    rfl
theorem one_N {v b : Nat} (h1 : 1 ≤ b) (h2 : b ≤ 256) (hv : v < 256) (h : v / b < 256 / b) : dN (fun _ => v) 1 0 (b : Int) = if b = 1 then 0 else 1 := by
  unfold dN
  rw [if_pos (by rw [one_E h1 h2 hv, if_pos h]), one_S, if_pos h]
  by_cases h3 : b = 1
  · subst h3; rw [if_pos (show ((1 : Nat) : Int) = 1 from rfl), if_pos rfl]
  · rw [if_neg (by omega), if_neg h3]
end Go.Proofs.Ytmlealepeoefpaa.Drw
