import Derived.Test.YtmjpneaccjlpkaaS9a
import Derived.Test.YtmjpneaccjlpkaaF9b
namespace Go.Proofs.Ytmjpneaccjlpkaa.Brd
open Go.RowKit Gf8 Aes By8 Cel Cf Tap Drw Prm
/- Stage 12's BraidBack. Written by tools/mkQ9q.py. -/
def akC (a b c d : Value) : Array Value := #[a, b, c, d]
section
variable {W : World} {g : Nat} {a b c d : Value} {t : TypeId}
theorem ak_at0 (h : W.heap[g]? = some (.cells (akC a b c d) t)) : W.cell? ⟨g, 0, none⟩ = some a := by rw [cell_of_row _ _ _ _ _ _ h]; rfl
theorem ak_at1 (h : W.heap[g]? = some (.cells (akC a b c d) t)) : W.cell? ⟨g, 1, none⟩ = some b := by rw [cell_of_row _ _ _ _ _ _ h]; rfl
theorem ak_at2 (h : W.heap[g]? = some (.cells (akC a b c d) t)) : W.cell? ⟨g, 2, none⟩ = some c := by rw [cell_of_row _ _ _ _ _ _ h]; rfl
theorem ak_at3 (h : W.heap[g]? = some (.cells (akC a b c d) t)) : W.cell? ⟨g, 3, none⟩ = some d := by rw [cell_of_row _ _ _ _ _ _ h]; rfl
end
section
variable {o : Oper} {a : Act} {w : World}
end
theorem open_sl {W : World} {v : Value} {n : Nat} {f : Nat → Int} (h : SliceI W v n f) (hn : 0 < n) : ∃ b o c, v = .slice (some ⟨b, o, none⟩) n c ∧ b < W.heap.size ∧ ∀ j, j < n → W.cell? ⟨b, o + j, none⟩ = some (.int .i64 (f j)) := by
 obtain ⟨a, c, rfl, _, _, hs⟩ := h.shape
 obtain ⟨b, o, rfl, h1, h2⟩ := hs hn
 exact ⟨b, o, c, rfl, h1, h2⟩
end Go.Proofs.Ytmjpneaccjlpkaa.Brd

namespace Go.Proofs.Ytmjpneaccjlpkaa.Brd
open Go.RowKit Gf8 Aes By8 Cel Cf Tap Drw Prm
/- Stage 12's reference: Draws. Written by tools/mkQ9t.py. -/
theorem lit_sl {W : World} {g : Nat} {z : Int} (h : W.heap[g]? = some (.cells #[.int .i64 z] 3)) (hz : -9223372036854775808 ≤ z ∧ z < 9223372036854775808) : SliceI W (.slice (some ⟨g, 0, none⟩) 1 1) 1 (fun _ => z) := by
 refine ⟨⟨_, _, rfl, Nat.le_refl _, by unfold maxLen; omega, fun _ => ⟨g, 0, rfl, (Array.getElem?_eq_some_iff.1 h).1, fun j hj => ?_⟩⟩, fun j _ => hz⟩
 rw [cell_of_row _ _ _ _ _ _ h, show j = 0 by omega]
 rfl
section
variable {B k : Nat} {x : Nat → Value} {nn : Nat → Nat} {ff : Nat → Nat → Int} {W : World}
theorem FmI.app1 {t : Nat} {z : Int} (h : FmI B k x (updD nn t 1) (updG ff t (catI (nn t) (ff t) (fun _ => z))) W) (ez : z = ff t (nn t)) : FmI B k x (updD nn t 1) ff W := by
 refine FmI.cgF h fun s hs j hj => ?_
 by_cases e : s = t
 ·subst e
  have hj2 : j < nn s + 1 := by
   have : updD nn s 1 s = nn s + 1 := if_pos rfl
   omega
  show (if s = s then catI (nn s) (ff s) (fun _ => z) else ff s) j = ff s j
  rw [if_pos rfl]
  unfold catI
  by_cases q : j < nn s
  ·rw [if_pos q]
  ·rw [if_neg q, ez, show j = nn s by omega]
 ·show (if s = t then catI (nn t) (ff t) (fun _ => z) else ff s) j = ff s j
  rw [if_neg e]
end
end Go.Proofs.Ytmjpneaccjlpkaa.Brd
