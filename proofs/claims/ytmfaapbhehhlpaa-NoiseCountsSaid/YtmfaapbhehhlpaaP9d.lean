import Derived.Test.YtmfaapbhehhlpaaF9c
import Derived.Test.YtmfaapbhehhlpaaF9b
import Derived.Test.YtmfaapbhehhlpaaF9a
import Derived.Test.YtmfaapbhehhlpaaZ9a
import Derived.Test.YtmfaapbhehhlpaaP9b
import Derived.Test.YtmfaapbhehhlpaaV9o
namespace Go.Proofs.Ytmfaapbhehhlpaa.Prm
open Go.RowKit Gf8 Aes By8 Cel Cf Tap Drw
/- Stage 11's reference: Inverse, Compose, Apply, Fit, From. Written by tools/mkP9d.py. -/

/-- A length beside an error: none. -/
def zl (E L : Nat) : Nat := if E = 0 then L else 0
theorem zl_ok {L : Nat} : zl 0 L = L := rfl
theorem zl_no {E L : Nat} (h : E ≠ 0) : zl E L = 0 := if_neg h
theorem shpO {W : World} {B n : Nat} {t : TypeId} {v : Value} {xs : List Value} (h : W.ownsRow B t 1 v n xs) : ∃ g c, v = .slice g n c := by
  rcases h.2 with ⟨rfl, rfl⟩ | ⟨g, cap, cur, rfl, _⟩
  · exact ⟨_, _, rfl⟩
  · exact ⟨_, _, rfl⟩
end Go.Proofs.Ytmfaapbhehhlpaa.Prm
