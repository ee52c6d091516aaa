import Derived.Test.YtejhbfbnljioeaaGreatDoorX7b
import Derived.Test.YtejhbfbnljioeaaGreatDoorX7f
import Derived.Test.YtejhbfbnljioeaaGreatDoorF9b
import Derived.Laws.IdiomStrings
import Derived.Laws.Strings2
import Derived.Lib.Bytes
namespace Go.Proofs.YtejhbfbnljioeaaGreatDoor.Tap
open Go.RowKit Gf8 Aes By8 Cel Cf
/- Strings of bytes: one of them, a piece, and back to a list; rows that bear a conversion's mark. -/

section
variable {o : Oper} {a : Act} {w : World}
end
/-- A row of bytes of one's own; it may bear a mark behind its cells. -/
def OwnM (W : World) (B : Nat) (v : Value) (n : Nat) (p : Nat → Nat) : Prop :=
  ∃ g cap cur fz, v = .slice (some ⟨g, 0, none⟩) n cap ∧ B ≤ g ∧ W.heap[g]? = some (.cells cur 5 fz) ∧ n ≤ cap ∧ cap ≤ maxLen ∧ cur.size = cap ∧ (∀ j, j < n → cur[j]? = some (.int .u8 (p j : Nat))) ∧ (∀ j, j < n → p j < 256) ∧ (cap ≤ fz.1 ∨ fz.2 = 0)
theorem OwnM.slice {W : World} {B n : Nat} {v : Value} {p : Nat → Nat} (h : OwnM W B v n p) : SliceN W v n p := by
  obtain ⟨g, cap, cur, fz, rfl, hB, hg, h1, h2, h3, h4, h5, h6⟩ := h
  refine ⟨⟨_, _, rfl, h1, by unfold maxLen at h2; omega, fun _ => ⟨g, 0, rfl, (Array.getElem?_eq_some_iff.1 hg).1, fun j hj => ?_⟩⟩, h5⟩
  rw [cell_of_row _ _ _ _ _ _ hg, Nat.zero_add]
  exact h4 j hj
theorem OwnM.on {W W' : World} {B n : Nat} {v : Value} {p : Nat → Nat} (h : OwnM W B v n p) (hb : Below W.heap.size W W') : OwnM W' B v n p := by
  obtain ⟨g, cap, cur, fz, rfl, hB, hg, hr⟩ := h
  exact ⟨g, cap, cur, fz, rfl, hB, by rw [hb.block _ (Array.getElem?_eq_some_iff.1 hg).1]; exact hg, hr⟩
theorem OwnM.base {W : World} {B C n : Nat} {v : Value} {p : Nat → Nat} (h : OwnM W C v n p) (hB : B ≤ C) : OwnM W B v n p := by
  obtain ⟨g, cap, cur, fz, e, h1, hr⟩ := h
  exact ⟨g, cap, cur, fz, e, Nat.le_trans hB h1, hr⟩
end Go.Proofs.YtejhbfbnljioeaaGreatDoor.Tap

namespace Go.Proofs.YtejhbfbnljioeaaGreatDoor.Tap
open Go.RowKit Gf8 Aes By8 Cel Cf
/- The program's Byte and Take. Written by tools/mkV9l.py. -/

section
variable {o : Oper} {a : Act} {w : World}
end
theorem OwnM.set {X : World} {B n g : Nat} {v : Value} {q : Nat → Nat} {cur c : Array Value} {t : TypeId} (h : OwnM X B v n q) (hg : X.heap[g]? = some (.cells cur t)) (ht : t ≠ 5) : OwnM (X.setRow g c) B v n q := by
  obtain ⟨g1, cap, cu, fz, e, hB, h1, hr⟩ := h
  refine ⟨g1, cap, cu, fz, e, hB, ?_, hr⟩
  rw [setRow_other _ _ _ _ (fun q => ?_)]
  · exact h1
  · subst q
    rw [h1] at hg
    injection hg with hg
    injection hg with _ hg _
    exact ht hg.symm
/-- What Take answers: nothing, or a row of its own. -/
def TkA (W : World) (B : Nat) (v : Value) (k : Nat) (q : Nat → Nat) : Prop := (v = .slice none 0 0 ∧ k = 0) ∨ OwnM W B v k q
theorem TkA.slice {W : World} {B n : Nat} {v : Value} {p : Nat → Nat} (h : TkA W B v n p) : SliceN W v n p := by
  rcases h with ⟨rfl, rfl⟩ | h
  · exact ⟨⟨_, _, rfl, Nat.le_refl _, by omega, fun h => by omega⟩, fun j hj => by omega⟩
  · exact h.slice
theorem TkA.on {W W' : World} {B n : Nat} {v : Value} {p : Nat → Nat} (h : TkA W B v n p) (hb : Below W.heap.size W W') : TkA W' B v n p := h.imp id (·.on hb)
theorem TkA.base {W : World} {B C n : Nat} {v : Value} {p : Nat → Nat} (h : TkA W C v n p) (hB : B ≤ C) : TkA W B v n p := h.imp id (·.base hB)
theorem TkA.set {X : World} {B n g : Nat} {v : Value} {q : Nat → Nat} {cur c : Array Value} {t : TypeId} (h : TkA X B v n q) (hg : X.heap[g]? = some (.cells cur t)) (ht : t ≠ 5) : TkA (X.setRow g c) B v n q := h.imp id (·.set hg ht)
end Go.Proofs.YtejhbfbnljioeaaGreatDoor.Tap

namespace Go.Proofs.YtejhbfbnljioeaaGreatDoor.Tap
open Go.RowKit Gf8 Aes By8 Cel Cf
/- append to a row that may bear a mark behind its cells. -/

theorem OwnM.some {W : World} {B n : Nat} {v : Value} {p : Nat → Nat} (h : OwnM W B v n p) : ∀ l c, v ≠ .slice none l c := by
  obtain ⟨g, cap, cur, fz, rfl, _⟩ := h
  intro l c e
  cases e
/-- A row of bytes that lies higher than what was written into. -/
theorem OwnM.over {W W' : World} {B b n : Nat} {v : Value} {p : Nat → Nat} {row : Option Nat} (h : OwnM W B v n p) (hg : W.grownBy W' row) (hr : ∀ k, row = Option.some k → k < b) (hb : b ≤ B) : OwnM W' B v n p := by
  obtain ⟨g, cap, cur, fz, e, hB, h1, hrest⟩ := h
  refine ⟨g, cap, cur, fz, e, hB, ?_, hrest⟩
  rw [hg.block g (Array.getElem?_eq_some_iff.1 h1).1 (fun q => ?_)]
  · exact h1
  · have := hr g q.symm
    omega
theorem OwnM.row {W : World} {B n : Nat} {v : Value} {p : Nat → Nat} (h : OwnM W B v n p) : ∀ k, v.ownBlock = Option.some k → B ≤ k ∧ k < W.heap.size := by
  obtain ⟨g, cap, cur, fz, rfl, hB, h1, _⟩ := h
  intro k hk
  obtain rfl : g = k := by simpa [Value.ownBlock] using hk
  exact ⟨hB, (Array.getElem?_eq_some_iff.1 h1).1⟩
section
variable {o : Oper} {a : Act} {w : World}
end
end Go.Proofs.YtejhbfbnljioeaaGreatDoor.Tap

namespace Go.Proofs.YtejhbfbnljioeaaGreatDoor.Drw
/- Draws over Nat. -/

/-- The place of the byte that is taken, or where the bytes end. -/
def scan (p : Nat → Nat) (b : Nat) : Nat → Nat → Nat
  | 0, at' => at'
  | k + 1, at' => if p at' / b < 256 / b then at' else scan p b k (at' + 1)
/-- Below: the error, the draw, the place behind. -/
def dS (p : Nat → Nat) (l at' : Nat) (b : Int) : Nat := scan p b.toNat (l - at') at'
def dE (p : Nat → Nat) (l at' : Nat) (b : Int) : Nat := if b < 1 ∨ 256 < b then 2 else if b = 1 then 0 else if dS p l at' b < l then 0 else 3
def dN (p : Nat → Nat) (l at' : Nat) (b : Int) : Nat := if dE p l at' b = 0 then (if b = 1 then at' else dS p l at' b + 1) else 0
/-- All: the places behind the draws, and the draws. -/
def plA (p : Nat → Nat) (l : Nat) (bs : Nat → Int) : Nat → Nat
  | 0 => 0
  | i + 1 => dN p l (plA p l bs i) (bs i)
/-- The draws up to n come off. -/
def okA (p : Nat → Nat) (l : Nat) (bs : Nat → Int) (n : Nat) : Prop := ∀ i, i < n → dE p l (plA p l bs i) (bs i) = 0
end Go.Proofs.YtejhbfbnljioeaaGreatDoor.Drw

namespace Go.Proofs.YtejhbfbnljioeaaGreatDoor.Drw
/- A tape that is turned. -/

section
variable {p : Nat → Nat} {l : Nat} {bs ws : Nat → Int} {n : Nat}
theorem turned (v b w : Nat) (hw : w < b) : (v - v % b + w) / b = v / b ∧ (v - v % b + w) % b = w := by
  have hb : 0 < b := by omega
  have e : v - v % b = b * (v / b) := by have := Nat.div_add_mod v b; omega
  rw [e]
  refine ⟨?_, ?_⟩
  · rw [Nat.mul_add_div hb, Nat.div_eq_of_lt hw, Nat.add_zero]
  · rw [Nat.mul_add_mod, Nat.mod_eq_of_lt hw]
end
end Go.Proofs.YtejhbfbnljioeaaGreatDoor.Drw

namespace Go.Proofs.YtejhbfbnljioeaaGreatDoor.Drw
open Go.RowKit Gf8 Aes By8 Cel Cf Tap
/- Lists of ints. -/

/-- A []int. -/
structure SliceI (w : World) (v : Value) (len : Nat) (f : Nat → Int) : Prop where
  shape : ∃ a cap, v = .slice a len cap ∧ len ≤ cap ∧ cap ≤ maxLen ∧ (0 < len → ∃ b off, a = some ⟨b, off, none⟩ ∧ b < w.heap.size ∧ ∀ j, j < len → w.cell? ⟨b, off + j, none⟩ = some (.int .i64 (f j)))
  fits : ∀ j, j < len → -9223372036854775808 ≤ f j ∧ f j < 9223372036854775808
theorem SliceI.on {w w' : World} {v : Value} {len : Nat} {f : Nat → Int} (h : SliceI w v len f) (hb : Below w.heap.size w w') : SliceI w' v len f := by
  obtain ⟨⟨a, cap, e, h1, h2, h3⟩, hp⟩ := h
  refine ⟨⟨a, cap, e, h1, h2, fun h0 => ?_⟩, hp⟩
  obtain ⟨b, off, e1, e2, e3⟩ := h3 h0
  exact ⟨b, off, e1, Nat.lt_of_lt_of_le e2 hb.size, fun j hj => by rw [cell_below hb e2]; exact e3 j hj⟩
theorem SliceI.cg {w : World} {v : Value} {len : Nat} {f g : Nat → Int} (h : SliceI w v len f) (e : ∀ j, j < len → f j = g j) : SliceI w v len g := by
  obtain ⟨⟨a, cap, q, h1, h2, h3⟩, hp⟩ := h
  refine ⟨⟨a, cap, q, h1, h2, fun h0 => ?_⟩, fun j hj => by rw [← e j hj]; exact hp j hj⟩
  obtain ⟨b, off, e1, e2, e3⟩ := h3 h0
  exact ⟨b, off, e1, e2, fun j hj => by rw [e3 j hj, e j hj]⟩
theorem SliceI.shp {w : World} {v : Value} {len : Nat} {f : Nat → Int} (h : SliceI w v len f) : ∃ a c, v = .slice a len c := by
  obtain ⟨a, c, e, _⟩ := h.shape
  exact ⟨a, c, e⟩
/-- The cells of a list of ints. -/
def intsL (n : Nat) (f : Nat → Int) : List Value := (List.range n).map fun j => .int .i64 (f j)
theorem intsL_succ (n : Nat) (f : Nat → Int) : intsL (n + 1) f = intsL n f ++ [.int .i64 (f n)] := by simp [intsL, List.range_succ]
section
variable {o : Oper} {a : Act} {w : World}
theorem execLenI {x : Operand} {v : Value} {len : Nat} (ho : o.op = .call { callee := .builtin .len, args := #[x], argTypes := #[59] }) (hx : a.eval x = v) (hv : ∃ ao c, v = .slice ao len c) : (execOp a.eval o).run Tryz.prog w = .ok (.value (.int .i64 (len : Int))) w := by
  obtain ⟨ao, c, rfl⟩ := hv
  unfold execOp
  simp only [ho, resolve, invoke, builtin, Sem.run_bind, Sem.run_pure, Result.andThen_ok, List.map_toArray, List.map_cons, List.map_nil, hx]
  simp [go_sem]
theorem execIdxN {x i : Operand} {g off n cap k : Nat} (ho : o.op = .indexAddr 59 x i) (hx : a.eval x = .slice (some ⟨g, off, none⟩) n cap) (hi : a.eval i = .int .i64 (k : Int)) (hk : k < n) : (execOp a.eval o).run Tryz.prog w = .ok (.value (.pointer (some ⟨g, off + k, none⟩))) w := by
  have h1 : (k : Int) < n := by omega
  unfold execOp
  simp only [ho, hx, hi]
  simp [go_sem, h1]
set_option maxRecDepth 100000 in
theorem execBsI {x : Operand} {z : Int} (ho : o.op = .buildSlice 59 1 #[(0, x)]) (hx : a.eval x = .int .i64 z) : (execOp a.eval o).run Tryz.prog w = .ok (.value (.slice (some ⟨w.heap.size, 0, none⟩) 1 1)) (w.alloc (.cells #[.int .i64 z] 3)) := by
  unfold execOp
  simp only [ho, List.map_toArray, List.map_cons, List.map_nil, hx]
  simp [go_sem]
end
set_option maxRecDepth 100000 in
theorem infoI : ∃ i, Tryz.prog.info? 3 = some i ∧ i.zero = some (.int .i64 0) ∧ i.size = 1 ∧ i.bytes = 8 := ⟨_, rfl, by kernel_rfl, by kernel_rfl, by kernel_rfl⟩
/-- append of one int. -/
theorem stepAppI {ops : Array Oper} {Q : Exit → Act → World → Prop} {K : Act → World → Prop} {j : Nat} {o : Oper} {a : Act} {W : World} {s x : Operand} {B n g : Nat} {v : Value} {f : Nat → Int} (hos : ops[j]? = some o) (hgd : Region.wanted o (yielded ops a.tmps) = true)
    (ho : o.op = .call { callee := .builtin .append, args := #[s, x], argTypes := #[59, 59] }) (hs : a.eval s = v) (hx : a.eval x = .slice (some ⟨g, 0, none⟩) 1 1) (hown : W.ownsRow B 3 1 v n (intsL n f)) (hg : W.heap[g]? = some (.cells #[.int .i64 (f n)] 3)) (hn : n + 1 ≤ 17592186044416) (hB : B ≤ W.heap.size)
    (hK : ∀ v' W', W'.ownsRow B 3 1 v' (n + 1) (intsL (n + 1) f) → W.grownBy W' v.ownBlock → K (a.put o.dst v') W') : wpOp Tryz.prog ops Q j K a W := by
  obtain ⟨i, i1, i2, i3, i4⟩ := infoI
  obtain ⟨v', W', run, q1, q2⟩ := execAppO (W := W) (news := [.int .i64 (f n)]) ho Tryz.underlying59 i1 i2 i3 i4 rfl (by decide) hs hown hx rfl (fun j u hu => by
    rw [Go.WideShapes.add_plain, cell_of_row _ _ _ _ _ _ hg, Nat.zero_add, ← Array.getElem?_toList]
    exact hu) (fun u hu => by
    obtain rfl := List.mem_singleton.1 hu
    rfl) (by unfold maxLen; omega) (by omega) hB
  rw [← intsL_succ] at q1
  exact stepV hos hgd run (hK v' W' q1 q2)
end Go.Proofs.YtejhbfbnljioeaaGreatDoor.Drw
