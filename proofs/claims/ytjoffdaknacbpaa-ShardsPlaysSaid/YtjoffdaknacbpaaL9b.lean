import Derived.Test.YtjoffdaknacbpaaC9t
import Derived.Laws.Cover3
namespace Go.Proofs.Ytjoffdaknacbpaa.Win
open Go.RowKit Gf8 Aes By8 Cel Cf
/- WindowKeeps: the law's copied. Written by tools/mkL9a.py. -/

/-- Two marks behind a list. -/
def two2 (k : Nat) : Nat → Nat := if k = 0 then (fun _ => 33) else (fun _ => 63)
def mk2 (n : Nat) (t : Nat → Nat → Nat) : Nat → Nat → Nat := catT n t two2
/-- A list of tags in a row of its own that bears two marks behind it. -/
def Mkd (B : Nat) (W : World) (u : Value) (m : Nat) (s : Nat → Nat → Nat) : Prop := ∃ g c, u = .slice (some ⟨g, 0, none⟩) m c ∧ W.ownsRow B 31 16 (.slice (some ⟨g, 0, none⟩) (m + 2) c) (m + 2) (tgV (mk2 m s) (m + 2))
section
variable {B n : Nat} {W W' : World} {v : Value} {nu : Nat → Int} {tw : Nat → Value} {ln : Nat → Nat} {t : Nat → Nat → Nat → Nat}
theorem Mkd.on {u : Value} {m : Nat} {s : Nat → Nat → Nat} (h : Mkd B W u m s) (hb : Below W.heap.size W W') : Mkd B W' u m s := by
  obtain ⟨g, c, e, q⟩ := h
  exact ⟨g, c, e, ownE_below q hb⟩
theorem Mkd.base {C : Nat} {u : Value} {m : Nat} {s : Nat → Nat → Nat} (h : Mkd B W u m s) (hC : C ≤ B) : Mkd C W u m s := by
  obtain ⟨g, c, e, q⟩ := h
  exact ⟨g, c, e, ownE_base q hC⟩
theorem Mkd.lt {u : Value} {m : Nat} {s : Nat → Nat → Nat} (h : Mkd B W u m s) : ∀ b, u.ownBlock = some b → B ≤ b ∧ b < W.heap.size := by
  obtain ⟨g, c, rfl, q⟩ := h
  intro b hb
  exact q.lt b hb
end
section
variable {o : Oper} {a : Act} {w : World}
end
end Go.Proofs.Ytjoffdaknacbpaa.Win

namespace Go.Proofs.Ytjoffdaknacbpaa.Win
open Go.RowKit Gf8 Aes By8 Cel Cf
/- WindowKeeps: the law's whole. Written by tools/mkL9b.py. -/

theorem own_cap {W : World} {B n g c s : Nat} {ty : TypeId} {xs : List Value} (h : W.ownsRow B ty s (.slice (some ⟨g, 0, none⟩) n c) n xs) : n ≤ c ∧ c ≤ maxLen ∧ g < W.heap.size := by
  rcases h.2 with ⟨e, _⟩ | ⟨g', cap, cur, e, _, hg, q1, q2, q3, q4⟩
  · cases e
  · injection e with e1 _ e3
    injection e1 with e1
    injection e1 with e1 _ _
    subst e1
    subst e3
    exact ⟨q1, q2, (Array.getElem?_eq_some_iff.1 hg).1⟩
end Go.Proofs.Ytjoffdaknacbpaa.Win
