import Derived.Test.YtgmomkkhlcigbaaS9a
import Derived.Test.YtgmomkkhlcigbaaF9b
import Derived.Test.YtgmomkkhlcigbaaF9a
namespace Go.Proofs.Ytgmomkkhlcigbaa.Brd
open Go.RowKit Gf8 Aes By8 Cel Cf Tap Drw Prm
/- Stage 12's BraidBack. Written by tools/mkQ9q.py. -/
section
variable {W : World} {g : Nat} {a b c d : Value} {t : TypeId}
end
section
variable {o : Oper} {a : Act} {w : World}
end
theorem open_sl {W : World} {v : Value} {n : Nat} {f : Nat → Int} (h : SliceI W v n f) (hn : 0 < n) : ∃ b o c, v = .slice (some ⟨b, o, none⟩) n c ∧ b < W.heap.size ∧ ∀ j, j < n → W.cell? ⟨b, o + j, none⟩ = some (.int .i64 (f j)) := by
 obtain ⟨a, c, rfl, _, _, hs⟩ := h.shape
 obtain ⟨b, o, rfl, h1, h2⟩ := hs hn
 exact ⟨b, o, c, rfl, h1, h2⟩
end Go.Proofs.Ytgmomkkhlcigbaa.Brd

namespace Go.Proofs.Ytgmomkkhlcigbaa.Brd
open Go.RowKit Gf8 Aes By8 Cel Cf Tap Drw Prm
/- Stage 12's reference: Draws. Written by tools/mkQ9t.py. -/
section
variable {B k : Nat} {x : Nat → Value} {nn : Nat → Nat} {ff : Nat → Nat → Int} {W : World}
theorem FmI.app1 {t : Nat} {z : Int} (h : FmI B k x (updD nn t 1) (updG ff t (catI (nn t) (ff t) (fun _ => z))) W) (ez : z = ff t (nn t)) : FmI B k x (updD nn t 1) ff W := by
 refine FmI.cgF h fun s hs j hj => ?_
 by_cases e : s = t
 ·subst e
  have hj2 : j < nn s + 1 := by
   have : updD nn s 1 s = nn s + 1 := if_pos rfl
   omega
  show (if s = s then catI (nn s) (ff s) (fun _ => z) else ff s) j = ff s j
  rw [if_pos rfl]
  unfold catI
  by_cases q : j < nn s
  ·rw [if_pos q]
  ·rw [if_neg q, ez, show j = nn s by omega]
 ·show (if s = t then catI (nn t) (ff t) (fun _ => z) else ff s) j = ff s j
  rw [if_neg e]
end
end Go.Proofs.Ytgmomkkhlcigbaa.Brd

namespace Go.Proofs.Ytgmomkkhlcigbaa.Brd
open Go.RowKit Gf8 Aes By8 Cel Cf Tap Drw Prm
/- Stage 12's reference: Pattern. Written by tools/mkQ9u.py. -/
theorem FmI.offT {B k g o : Nat} {x : Nat → Value} {nn : Nat → Nat} {ff : Nat → Nat → Int} {W : World} {c : Array Value} {u : TypeId} {z : Value} (h : FmI B k x nn ff W) (hg : W.heap[g]? = some (.cells c u)) (hu : u ≠ 3) : FmI B k x nn ff (W.setCell ⟨g, o, none⟩ z) := ⟨fun t ht => own_offT (h.rows t ht) hg hu, h.dis⟩
section
variable (sf : Nat → Int) (J : Nat) (df : Nat → Int) (m : Nat)
end
end Go.Proofs.Ytgmomkkhlcigbaa.Brd
