import Derived.Test.YtgklhjnojmpmlaaGreatDoorD2k
import Derived.Test.YtgklhjnojmpmlaaGreatDoorX7f
import Derived.Deep.RegionWith
namespace Go.Proofs.YtgklhjnojmpmlaaGreatDoor.Frm
open Go.RowKit Gf8 Aes By8 Cel
/- The closure of packed; packed. -/

/-- What lies in packed: the batch in block A, the list's variable in block R. -/
structure Pk (A R : Nat) (b : Array Value) (p : Nat → Nat) (m : Nat) (v : Value) (V W : World) : Prop where
  b : W.heap[A]? = some (.cells b 57)
  o : W.heap[R]? = some (.cells #[v] 24)
  own : W.ownsRow (A + 1) 5 1 v m (bytesL m p)
  bel : Below A V W
  lt : A < R
theorem Pk.rules {A R m : Nat} {b : Array Value} {p : Nat → Nat} {v : Value} {V W : World} (h : Pk A R b p m v V W) (g : Rules V) (hA : 0 < A) : Rules W := g.on h.bel hA
theorem Pk.on {A R m : Nat} {b : Array Value} {p : Nat → Nat} {v : Value} {V W W' : World} (h : Pk A R b p m v V W) (hb : Below W.heap.size W W') : Pk A R b p m v V W' := by
  have l1 := (Array.getElem?_eq_some_iff.1 h.b).1
  have l2 := (Array.getElem?_eq_some_iff.1 h.o).1
  exact ⟨by rw [hb.block _ l1]; exact h.b, by rw [hb.block _ l2]; exact h.o, ownsRow_below h.own hb, h.bel.trans (hb.mono (by omega)), h.lt⟩
section
variable {o : Oper} {a : Act} {w : World}
end
theorem Pk.cell {A R m : Nat} {b : Array Value} {p : Nat → Nat} {v : Value} {V W : World} (h : Pk A R b p m v V W) : W.cell? ⟨R, 0, none⟩ = some v := by
  rw [cell_of_row _ _ _ _ _ _ h.o]
  rfl
end Go.Proofs.YtgklhjnojmpmlaaGreatDoor.Frm

namespace Go.Proofs.YtgklhjnojmpmlaaGreatDoor.Frm
open Go.RowKit Gf8 Aes By8 Cel
/- same, sameCells, alike, where they are the same. -/

theorem own_nonnil {W : World} {B n t : Nat} {v : Value} {xs : List Value} (h : W.ownsRow B t 1 v n xs) (hn : 0 < n) : ∀ l c, v = .slice none l c → c = 0 := by
  intro l c e
  rcases h.2 with ⟨_, e0⟩ | ⟨g, cap, cur, rfl, _⟩
  · omega
  · cases e
/-- A list of new cells is a list of cells. -/
theorem CL.cells {B k : Nat} {x : Nat → Value} {p : Nat → Nat} {cv : Value} {W : World} (h : CL B k x p cv W) (hb : ∀ i j, i < k → j < 320 → cellB p i j < 256) (hk : k ≤ 1000) : Cells W cv k x (fun _ => 320) (cellB p) := by
  refine ⟨?_, fun i hi => own_slice (h.fam.rows i hi) fun j hj => hb i j hi hj, fun i hi => own_nonnil (h.fam.rows i hi) (by omega), fun i _ => by omega⟩
  by_cases h0 : 0 < k
  · obtain ⟨g, cap, rfl, hB, hg, hc⟩ := ownL_cells h.own h0
    have : k ≤ cap ∧ cap < 9223372036854775808 := by
      rcases h.own.2 with ⟨e, _⟩ | ⟨g', cap', cur, e, _, _, h1, h2, _⟩
      · cases e
      · injection e with _ _ e3
        unfold maxLen at h2
        omega
    exact ⟨_, cap, rfl, this.1, this.2, fun _ => ⟨g, 0, rfl, hg, fun i hi => by rw [Nat.zero_add]; have := hc i hi; rw [Nat.zero_add] at this; exact this⟩⟩
  · obtain ⟨ao, cap, rfl⟩ := ownL_shape h.own
    have : k ≤ cap ∧ cap < 9223372036854775808 := by
      rcases h.own.2 with ⟨e, _⟩ | ⟨g', cap', cur, e, _, _, h1, h2, _⟩
      · injection e with _ _ e3
        omega
      · injection e with _ _ e3
        unfold maxLen at h2
        omega
    exact ⟨ao, cap, rfl, this.1, this.2, fun q => absurd q h0⟩
section
variable {o : Oper} {a : Act} {w : World}
end
end Go.Proofs.YtgklhjnojmpmlaaGreatDoor.Frm
