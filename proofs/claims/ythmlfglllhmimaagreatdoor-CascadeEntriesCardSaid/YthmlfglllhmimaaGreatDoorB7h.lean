import Derived.Test.YthmlfglllhmimaaGreatDoorB7f
import Derived.Test.YthmlfglllhmimaaGreatDoorB7c
import Derived.Test.YthmlfglllhmimaaGreatDoorX5c
import Derived.Test.YthmlfglllhmimaaGreatDoorC6
import Derived.Test.YthmlfglllhmimaaGreatDoorZ1
import Derived.Test.YthmlfglllhmimaaGreatDoorI3
import Derived.Test.YthmlfglllhmimaaGreatDoorI2
import Derived.Test.YthmlfglllhmimaaGreatDoorY3
import Derived.Test.YthmlfglllhmimaaGreatDoorX7f
import Derived.Lib.Bytes
import Derived.Deep.RegionWith
namespace Go.Proofs.YthmlfglllhmimaaGreatDoor.Rou
open Go.RowKit Gf8 Aes By8 Cel Oni
/- awake. Written by tools/mkB7h.py. -/

section
variable {o : Oper} {a : Act} {w : World}
theorem execBsL {x : Operand} {r : Value} (ho : o.op = .buildSlice 24 1 #[(0, x)]) (hx : a.eval x = r) (hr : ∃ g n c, r = .slice g n c) : (execOp a.eval o).run Tryz.prog w = .ok (.value (.slice (some ⟨w.heap.size, 0, none⟩) 1 1)) (w.alloc (.cells #[r] 25)) := by
  obtain ⟨g, n, c, rfl⟩ := hr
  unfold execOp
  simp only [ho, List.map_toArray, List.map_cons, List.map_nil, hx]
  simp [go_sem]
end
end Go.Proofs.YthmlfglllhmimaaGreatDoor.Rou
