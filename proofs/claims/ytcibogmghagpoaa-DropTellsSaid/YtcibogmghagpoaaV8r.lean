import Derived.Test.YtcibogmghagpoaaV8q
namespace Go.Proofs.Ytcibogmghagpoaa.Dro
open Go.RowKit Gf8 Aes By8 Cel Cf Tap Drw
/- Stage 28: DropExchanges. Written by tools/mkV8r.py. -/

theorem CpI.base {lo hi B n : Nat} {W : World} {v : Value} {g cp ln : Nat → Nat} {c : Nat → Nat → Nat} (h : CpI lo hi W v n g cp ln c) (hB : B ≤ lo) : CpI B hi W v n g cp ln c := ⟨ownD_base h.own hB, fam_base h.fam hB, h.byt, h.len, h.hv, h.hr⟩
/-- The copies written over, so far. -/
def xoF (c : Nat → Nat → Nat) (i k t j : Nat) : Nat := if t < i ∨ (t = i ∧ j < k) then c t j ^^^ 255 else c t j
section
variable {c : Nat → Nat → Nat} {i k t j l : Nat}
theorem xo_0 : c t j = xoF c 0 0 t j := (if_neg (by omega)).symm
theorem xo_at : xoF c i k i k = c i k := if_neg (by omega)
theorem xo_set : (if t = i then (fun l => if l = k then c i k ^^^ 255 else xoF c i k i l) else xoF c i k t) l = xoF c i (k + 1) t l := by
  by_cases e : t = i
  · subst e
    rw [if_pos rfl]
    show (if l = k then c t k ^^^ 255 else xoF c t k t l) = _
    unfold xoF
    by_cases e2 : l = k
    · subst e2; rw [if_pos rfl, if_pos (by omega)]
    · rw [if_neg e2]
      by_cases e3 : l < k
      · rw [if_pos (by omega), if_pos (by omega)]
      · rw [if_neg (by omega), if_neg (by omega)]
  · rw [if_neg e]
    unfold xoF
    by_cases e3 : t < i
    · rw [if_pos (by omega), if_pos (by omega)]
    · rw [if_neg (by omega), if_neg (by omega)]
theorem xo_next {ln : Nat → Nat} (hj : j < ln t) : xoF c i (ln i) t j = xoF c (i + 1) 0 t j := by
  unfold xoF
  by_cases e : t < i
  · rw [if_pos (by omega), if_pos (by omega)]
  · by_cases e2 : t = i
    · subst e2; rw [if_pos (by omega), if_pos (by omega)]
    · rw [if_neg (by omega), if_neg (by omega)]
theorem xor_lt {x : Nat} (h : x < 256) : x ^^^ 255 < 256 := Nat.xor_lt_two_pow (n := 8) h (by decide)
end
theorem execXor28 {o : Oper} {a : Act} {w : World} {x : Operand} {p : Nat} (ho : o.op = .binOp .xor 5 x (.const (.int .u8 255)) 5) (hx : a.eval x = .int .u8 ((p : Nat) : Int)) (hp : p < 256) : (execOp a.eval o).run Try.prog w = .ok (.value (.int .u8 ((p ^^^ 255 : Nat) : Int))) w := execXor5 ho hx rfl hp (by decide)
end Go.Proofs.Ytcibogmghagpoaa.Dro
