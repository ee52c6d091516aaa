import Derived.Test.YtghnhfigihnciaaGreatJ9b
import Derived.Test.YtghnhfigihnciaaGreatC9d
import Derived.Test.YtghnhfigihnciaaGreatC9n
import Derived.Test.YtghnhfigihnciaaGreatC9q
import Derived.Lib.BytesEntry
import Derived.Sort.Grow
namespace Go.Proofs.YtghnhfigihnciaaGreat.Win
open Go.RowKit Gf8 Aes By8 Cel Cf
open Go.ChangeMaps Go.MapKept
/- The program's tagsRise, held, right, Check. Written by tools/mkJ9e.py. -/

section
variable {W X : World} {b g B : Nat} {S : List (Nat → Nat)} {o : Obj} {c : Array Value} {t : TypeId}
theorem MS.lt (h : MS W b S) : b < W.heap.size := by
  obtain ⟨es, clock, hb, -⟩ := h.map
  exact (Array.getElem?_eq_some_iff.1 hb).1
theorem MS.on (h : MS W b S) (hb : Below W.heap.size W X) : MS X b S := by
  obtain ⟨es, clock, q, r⟩ := h.map
  exact ⟨⟨es, clock, by rw [hb.block b h.lt]; exact q, r⟩, h.byt, h.nod⟩
end
section
variable {o : Oper} {a : Act} {w : World}
end
end Go.Proofs.YtghnhfigihnciaaGreat.Win
