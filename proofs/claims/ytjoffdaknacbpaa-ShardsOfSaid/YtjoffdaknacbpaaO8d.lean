import Derived.Test.YtjoffdaknacbpaaO8c
import Derived.Test.YtjoffdaknacbpaaC9i
namespace Go.Proofs.Ytjoffdaknacbpaa.Sha
open Go.RowKit Gf8 Aes By8 Cel Cf Win
open Go.ChangeMaps Go.MapKept
/- The program's find, size, offer. Written by tools/mkO8d.py. -/

theorem mp_ne {W : World} {b sb : Nat} {S : List Off} {c : Array Value} {t : TypeId} (h : MP W b S) (hs : W.heap[sb]? = some (.cells c t)) : b ≠ sb := by
  obtain ⟨es, clock, hb, -⟩ := h.map
  rintro rfl
  rw [hs] at hb
  cases hb
section
variable {o : Oper} {a : Act} {w : World}
end
end Go.Proofs.Ytjoffdaknacbpaa.Sha
