import Derived.Test.YtjckkdjldnobmaaGreatDoorC8g
import Derived.Test.YtjckkdjldnobmaaGreatDoorC8e
import Derived.Test.YtjckkdjldnobmaaGreatDoorD5b
namespace Go.Proofs.YtjckkdjldnobmaaGreatDoor.Cas
open Go.RowKit Gf8 Aes By8 Cel Cf Tap Drw Dro Oni Rou
/- The landed cascade: all that it keeps. -/
theorem paE0:paE (fun _=>0) 0 ≠ 0:=by decide +kernel
theorem sl_none (V:World):SliceN V (.slice none 0 0) 0 (fun _=>0):=⟨⟨none,0,rfl,Nat.le_refl _,by omega,fun h=>absurd h (Nat.lt_irrefl 0)⟩,fun j hj=>absurd hj (Nat.not_lt_zero j)⟩
theorem aw:Aw All3.Gl:=⟨pnew0,pround25 0 _ _ _,fun V hG=>(ppay25 (fun _=>0) 0 _ V (sl_none V) (by omega) hG.2).mono fun _ _ ⟨⟨r,_,he,_⟩,hb⟩=>⟨⟨r,_,he,paE0⟩,hb⟩,psub0⟩
theorem impl:Impl All3.Gl:={ aw with
 submit:=fun h hn n ep mv nv pv xv lk mk q p V hG hL hq hp hb1 hb2 hb3=>psubH h hn n ep mv nv pv xv lk mk q p V hL hb1
  (fun i hi X b=>pkey_any (mk i) (lk i) ep (xv i) X (hG.1.below b hG.1.sz) ((hL.on b).cell i hi))
  (fun u y X b hc=>rwrap8_any u nv pv h hn n y (fun _=>32) _ q p X (hG.1.below b hG.1.sz) hc (hq.on b) (hp.on b) (by omega) hb2 hb3) }
end Go.Proofs.YtjckkdjldnobmaaGreatDoor.Cas
