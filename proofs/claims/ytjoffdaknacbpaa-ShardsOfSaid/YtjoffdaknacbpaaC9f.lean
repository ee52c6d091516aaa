import Derived.Test.YtjoffdaknacbpaaC9d
namespace Go.Proofs.Ytjoffdaknacbpaa.Win
open Go.RowKit Gf8 Aes By8 Cel Cf
/- Rows of tags; the reference's all. Written by tools/mkC9f.py. -/

/-- One behind the other. -/
def catT (n : Nat) (t s : Nat → Nat → Nat) (k : Nat) : Nat → Nat := if k < n then t k else s (k - n)
theorem cat_hi {n k : Nat} {t s : Nat → Nat → Nat} : catT n t s (n + k) = s k := by
  unfold catT
  rw [if_neg (by omega), Nat.add_sub_cancel_left]
section
variable {W W' : World} {B n : Nat} {v : Value} {t : Nat → Nat → Nat}
end
end Go.Proofs.Ytjoffdaknacbpaa.Win
