import Derived.Test.YthmlfglllhmimaaGreatDoorC8g
import Derived.Test.YthmlfglllhmimaaGreatDoorC8h
import Derived.Test.YthmlfglllhmimaaGreatDoorC8e
import Derived.Test.YthmlfglllhmimaaGreatDoorD5b
namespace Go.Proofs.YthmlfglllhmimaaGreatDoor.Cas
open Go.RowKit Gf8 Aes By8 Cel Cf Tap Drw Dro Oni Rou
/- The landed cascade: all that it keeps. -/

theorem paE0 : paE (fun _ => 0) 0 ≠ 0 := by decide +kernel
theorem sl_none (V : World) : SliceN V (.slice none 0 0) 0 (fun _ => 0) := ⟨⟨none, 0, rfl, Nat.le_refl _, by omega, fun h => absurd h (Nat.lt_irrefl 0)⟩, fun j hj => absurd hj (Nat.not_lt_zero j)⟩
theorem aw : Aw All3.Gl := ⟨pnew0, pround25 0 _ _ _, fun V hG => (ppay25 (fun _ => 0) 0 _ V (sl_none V) (by omega) hG.2).mono fun _ _ ⟨⟨r, _, he, _⟩, hb⟩ => ⟨⟨r, _, he, paE0⟩, hb⟩, psub0⟩
theorem implE : ImplE All3.Gl := { aw with
  entry := fun rd ep lf n cv xv ln c V hG hc hn => pentry25 rd ep lf n cv xv ln c V hc hn hG.2
  payloads := fun p len v V hG hv _ hl => ppay25 p len v V hv hl hG.2 }
end Go.Proofs.YthmlfglllhmimaaGreatDoor.Cas
