import Derived.Test.YtjckkdjldnobmaaGreatDoorC8i
import Derived.Test.YtjckkdjldnobmaaGreatDoorC8m
namespace Go.Proofs.YtjckkdjldnobmaaGreatDoor.Cas
open Go.RowKit Gf8 Aes By8 Cel Cf Tap Drw Dro Oni Rou
/- The landed cascade: what CascadeMemory asks of it. -/
theorem implM:ImplM All3.Gl:={ impl with
 entry:=fun rd ep lf n cv xv ln c V hG hc hn=>pentry25 rd ep lf n cv xv ln c V hc hn hG.2
 pays:=fun p len v V hG hv hl=>ppayF p len v V hv hl hG.2 }
end Go.Proofs.YtjckkdjldnobmaaGreatDoor.Cas
