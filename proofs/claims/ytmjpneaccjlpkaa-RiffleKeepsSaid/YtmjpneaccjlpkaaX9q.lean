import Derived.Test.YtmjpneaccjlpkaaF9c
import Derived.Test.YtmjpneaccjlpkaaX9j
import Derived.Test.YtmjpneaccjlpkaaX9p
namespace Go.Proofs.Ytmjpneaccjlpkaa.Rif
open Go.RowKit Gf8 Aes By8 Cel Cf Tap Drw Prm Brd
/- Stage 13's RiffleOrders. Written by tools/mkX9q.py. -/
theorem zl_256 {L:Nat} {n ch:Int} {p:Nat->Nat}:zl (riE L n ch p) n.toNat<=256:=by
 by_cases h:riE L n ch p=0
 ·rw [h,zl_ok]
  have:=(ri_ok h).le
  exact this
 ·rw [zl_no h]
  omega
section
variable {o:Oper} {a:Act} {w:World}
end
end Go.Proofs.Ytmjpneaccjlpkaa.Rif
