import Derived.Test.YtjckkdjldnobmaaGreatDoorD2k
namespace Go.Proofs.YtjckkdjldnobmaaGreatDoor.Frm
open Go.RowKit Gf8 Aes By8 Cel
/- The reference's Pack, of a right header. -/
theorem own_nil {W:World} {B n:Nat} {v:Value} {xs:List Value} (h:W.ownsRow B 5 1 v n xs):∀ l c,v=.slice none l c->c=0:=by
 intro l c e
 rcases h.2 with ⟨rfl,_⟩ | ⟨g,cap,cur,rfl,_⟩
 ·injection e with _ _ e3
  exact e3.symm
 ·injection e with e1
  cases e1
end Go.Proofs.YtjckkdjldnobmaaGreatDoor.Frm
