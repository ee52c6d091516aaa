import Derived.Test.YtjckkdjldnobmaaGreatDoorP3
import Derived.Test.YtjckkdjldnobmaaGreatDoorO0
import Derived.Test.YtjckkdjldnobmaaGreatDoorI1
import Derived.Test.YtjckkdjldnobmaaGreatDoorJ0
namespace Go.Proofs.YtjckkdjldnobmaaGreatDoor.Oni
open Go.RowKit Gf8 Aes By8 Cel
/- Layer 7 (onion) over Nat. -/
def ci (p:Nat->Nat):Nat->Int:=fun i=>(p i:Int)
def chF:Nat->Nat:=fun j=>[99,104,117,114,110].getD j 0
def dk (key nonce:Nat->Nat):Nat->Nat:=fun j=>(ebK (exK (ci key) 32 (ci nonce) 16) 32 (ci chF) 5 j).toNat
theorem dk_lt (key nonce:Nat->Nat) (j:Nat):dk key nonce j < 256:=by
 have:=eb_bd (inS (exK (ci key) 32 (ci nonce) 16) 32) (outS (exK (ci key) 32 (ci nonce) 16) 32) (ci chF) 5 j
 unfold dk ebK
 omega
theorem dk_ci (key nonce:Nat->Nat):ci (dk key nonce)=ebK (exK (ci key) 32 (ci nonce) 16) 32 (ci chF) 5:=by
 funext j
 have:=eb_bd (inS (exK (ci key) 32 (ci nonce) 16) 32) (outS (exK (ci key) 32 (ci nonce) 16) 32) (ci chF) 5 j
 exact Int.toNat_of_nonneg this.1
def sz (left:Int):Nat:=if 1<=left/\left<=8 then 48+34 * left.toNat else 0
theorem sz_le (left:Int):sz left<=320:=by unfold sz; split <;> omega
theorem sz_pos {left:Int} (h:sz left ≠ 0):1<=left/\left<=8/\sz left=48+34 * left.toNat/\82<=sz left:=by
 unfold sz at h ⊢
 split at h
 ·rename_i q
  rw [if_pos q]
  omega
 ·exact absurd rfl h
def mcK (d:Nat->Nat):Nat->Nat:=fun j=>d (16+j)
def hfF (key m:Nat->Nat) (l:Nat):Nat->Nat:=fun j=>(tagV (ci key) 32 (ci m) l j).toNat
theorem hfF_bd (key m:Nat->Nat) (l j:Nat):0<=tagV (ci key) 32 (ci m) l j/\tagV (ci key) 32 (ci m) l j < 256:=by unfold tagV tagD; exact sumD_bd _ j
theorem hfF_lt (key m:Nat->Nat) (l j:Nat):hfF key m l j < 256:=by
 have:=hfF_bd key m l j
 unfold hfF
 omega
theorem hfF_ci (key m:Nat->Nat) (l:Nat):ci (hfF key m l)=tagV (ci key) 32 (ci m) l:=by
 funext j
 exact Int.toNat_of_nonneg (hfF_bd key m l j).1
def tmF (left:Nat) (nonce box:Nat->Nat):Nat->Nat:=fun j=>if j=0 then left else if j < 17 then nonce (j - 1) else box (j - 17)
def tgF (d:Nat->Nat) (left:Nat) (nonce box:Nat->Nat) (bl:Nat):Nat->Nat:=hfF (mcK d) (tmF left nonce box) (17+bl)
def hd2 (n:Nat):Nat->Nat:=fun j=>if j=0 then n / 256 else n % 256
def pbF (n:Nat) (inner:Nat->Nat):Nat->Nat:=cellF 2 (hd2 n) n inner
theorem pbF_lt {n:Nat} {inner:Nat->Nat} (hn:n < 65536) (h:∀ j,j < n->inner j < 256) (j:Nat):pbF n inner j < 256:=by
 refine cellF_lt (fun i _=>?_) h j
 unfold hd2
 split <;> omega
def bxF (d p:Nat->Nat):Nat->Nat:=maskF (kw d) 0 p
def onB (nonce tg box:Nat->Nat):Nat->Nat:=fun j=>if j < 16 then nonce j else if j < 32 then tg (j - 16) else box (j - 32)
def wrF (key nonce:Nat->Nat) (left n:Nat) (inner:Nat->Nat):Nat->Nat:=
 onB nonce (tgF (dk key nonce) left nonce (bxF (dk key nonce) (pbF n inner)) (sz left - 32)) (bxF (dk key nonce) (pbF n inner))
def wrE (lk:Nat) (left:Int) (n:Nat):Nat:=if lk ≠ 32\/sz left=0 then 2 else if sz left - 34 < n then 1 else 0
def wrN (lk:Nat) (left:Int) (n:Nat):Nat:=if wrE lk left n=0 then sz left else 0
end Go.Proofs.YtjckkdjldnobmaaGreatDoor.Oni
