import Derived.Test.YtcibogmghagpoaaX7b
import Derived.Test.YtcibogmghagpoaaX7f
import Derived.Test.YtcibogmghagpoaaE9a
import Derived.Test.YtcibogmghagpoaaY6
import Derived.Laws.IdiomStrings
import Derived.Laws.Strings2
namespace Go.Proofs.Ytcibogmghagpoaa.Tap
open Go.RowKit Gf8 Aes By8 Cel Cf
/- Strings of bytes: one of them, a piece, and back to a list; rows that bear a conversion's mark. -/

section
variable {o : Oper} {a : Act} {w : World}
end
/-- A row of bytes of one's own; it may bear a mark behind its cells. -/
def OwnM (W : World) (B : Nat) (v : Value) (n : Nat) (p : Nat → Nat) : Prop :=
  ∃ g cap cur fz, v = .slice (some ⟨g, 0, none⟩) n cap ∧ B ≤ g ∧ W.heap[g]? = some (.cells cur 5 fz) ∧ n ≤ cap ∧ cap ≤ maxLen ∧ cur.size = cap ∧ (∀ j, j < n → cur[j]? = some (.int .u8 (p j : Nat))) ∧ (∀ j, j < n → p j < 256) ∧ (cap ≤ fz.1 ∨ fz.2 = 0)
theorem OwnM.slice {W : World} {B n : Nat} {v : Value} {p : Nat → Nat} (h : OwnM W B v n p) : SliceN W v n p := by
  obtain ⟨g, cap, cur, fz, rfl, hB, hg, h1, h2, h3, h4, h5, h6⟩ := h
  refine ⟨⟨_, _, rfl, h1, by unfold maxLen at h2; omega, fun _ => ⟨g, 0, rfl, (Array.getElem?_eq_some_iff.1 hg).1, fun j hj => ?_⟩⟩, h5⟩
  rw [cell_of_row _ _ _ _ _ _ hg, Nat.zero_add]
  exact h4 j hj
theorem OwnM.on {W W' : World} {B n : Nat} {v : Value} {p : Nat → Nat} (h : OwnM W B v n p) (hb : Below W.heap.size W W') : OwnM W' B v n p := by
  obtain ⟨g, cap, cur, fz, rfl, hB, hg, hr⟩ := h
  exact ⟨g, cap, cur, fz, rfl, hB, by rw [hb.block _ (Array.getElem?_eq_some_iff.1 hg).1]; exact hg, hr⟩
theorem OwnM.base {W : World} {B C n : Nat} {v : Value} {p : Nat → Nat} (h : OwnM W C v n p) (hB : B ≤ C) : OwnM W B v n p := by
  obtain ⟨g, cap, cur, fz, e, h1, hr⟩ := h
  exact ⟨g, cap, cur, fz, e, Nat.le_trans hB h1, hr⟩
end Go.Proofs.Ytcibogmghagpoaa.Tap

namespace Go.Proofs.Ytcibogmghagpoaa.Tap
open Go.RowKit Gf8 Aes By8 Cel Cf
/- The program's Tape: New, Left, Used, behind. -/

theorem results_cell9 {P : Program} {fn : Func} {p : Tmp} {ty : TypeId} (h : fn.results = #[.cell p ty]) (tmps : Array Value) (w : World) (g : Nat) (t : TypeId) (cs : Array Value) (fr : Nat × Nat) (d : TypeDesc)
    (hp : tmps.getD p undef = .pointer (some ⟨g, 0, none⟩)) (hg : w.heap[g]? = some (.cells cs t fr))
    (hu : P.underlying ty = some d) (hd : (match d with | .struct _ | .array _ _ => true | _ => false) = true) (hi : (P.info? ty).map (·.size) = some cs.size) :
    (results fn tmps).run P w = .ok (.agg cs) w := by
  have hp' : tmps[p]?.getD undef = .pointer (some ⟨g, 0, none⟩) := by simpa using hp
  simp [results, h, hp', asAddr, run_loadVar_row w g t ty cs fr d hg hu hd hi]
theorem two9 (W : World) (o q : Obj) : ((W.alloc o).alloc q).heap[W.heap.size]? = some o ∧ ((W.alloc o).alloc q).heap[W.heap.size + 1]? = some q := by
  have h2 := heapNew (W.alloc o) q
  have e : (W.alloc o).heap.size = W.heap.size + 1 := by simp
  refine ⟨?_, ?_⟩
  · rw [(belNew (W.alloc o) q).block _ (by omega)]
    exact heapNew W o
  · rw [e] at h2
    exact h2
section
variable {o : Oper} {a : Act} {w : World}
theorem execLd3 {x : Operand} {b f : Nat} {v : Int} (ho : o.op = .load 3 x) (hx : a.eval x = .pointer (some ⟨b, f, none⟩)) (hc : w.cell? ⟨b, f, none⟩ = some (.int .i64 v)) : (execOp a.eval o).run Try.prog w = .ok (.value (.int .i64 v)) w := by
  unfold execOp
  simp only [ho, hx]
  simp [go_sem, hc]
end
end Go.Proofs.Ytcibogmghagpoaa.Tap
