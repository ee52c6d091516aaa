import Derived.Test.YtaiiomoajjhliaaDoorV9l
import Derived.Lib.Bytes
import Derived.Test.YtaiiomoajjhliaaDoorF9b
import Derived.Test.YtaiiomoajjhliaaDoorF9c
namespace Go.Proofs.YtaiiomoajjhliaaDoor.Tap
open Go.RowKit Gf8 Aes By8 Cel Cf
/- append to a row that may bear a mark behind its cells. -/

theorem OwnM.some {W : World} {B n : Nat} {v : Value} {p : Nat → Nat} (h : OwnM W B v n p) : ∀ l c, v ≠ .slice none l c := by
  obtain ⟨g, cap, cur, fz, rfl, _⟩ := h
  intro l c e
  cases e
/-- A row of bytes that lies higher than what was written into. -/
theorem OwnM.over {W W' : World} {B b n : Nat} {v : Value} {p : Nat → Nat} {row : Option Nat} (h : OwnM W B v n p) (hg : W.grownBy W' row) (hr : ∀ k, row = Option.some k → k < b) (hb : b ≤ B) : OwnM W' B v n p := by
  obtain ⟨g, cap, cur, fz, e, hB, h1, hrest⟩ := h
  refine ⟨g, cap, cur, fz, e, hB, ?_, hrest⟩
  rw [hg.block g (Array.getElem?_eq_some_iff.1 h1).1 (fun q => ?_)]
  · exact h1
  · have := hr g q.symm
    omega
theorem OwnM.row {W : World} {B n : Nat} {v : Value} {p : Nat → Nat} (h : OwnM W B v n p) : ∀ k, v.ownBlock = Option.some k → B ≤ k ∧ k < W.heap.size := by
  obtain ⟨g, cap, cur, fz, rfl, hB, h1, _⟩ := h
  intro k hk
  obtain rfl : g = k := by simpa [Value.ownBlock] using hk
  exact ⟨hB, (Array.getElem?_eq_some_iff.1 h1).1⟩
section
variable {o : Oper} {a : Act} {w : World}
theorem execLeN {x y : Operand} {p q : Nat} (ho : o.op = .binOp .leq 3 x y 3) (hx : a.eval x = .int .i64 (p : Int)) (hy : a.eval y = .int .i64 (q : Int)) : (execOp a.eval o).run Tryd.prog w = .ok (.value (.bool (decide (p ≤ q)))) w := by
  unfold execOp
  simp only [ho, hx, hy]
  by_cases h : p ≤ q
  · simp [go_sem, h]
  · simp [go_sem, h]
end
end Go.Proofs.YtaiiomoajjhliaaDoor.Tap

namespace Go.Proofs.YtaiiomoajjhliaaDoor.Drw
/- Draws over Nat. -/

/-- The place of the byte that is taken, or where the bytes end. -/
def scan (p : Nat → Nat) (b : Nat) : Nat → Nat → Nat
  | 0, at' => at'
  | k + 1, at' => if p at' / b < 256 / b then at' else scan p b k (at' + 1)
/-- Below: the error, the draw, the place behind. -/
def dS (p : Nat → Nat) (l at' : Nat) (b : Int) : Nat := scan p b.toNat (l - at') at'
def dE (p : Nat → Nat) (l at' : Nat) (b : Int) : Nat := if b < 1 ∨ 256 < b then 2 else if b = 1 then 0 else if dS p l at' b < l then 0 else 3
def dN (p : Nat → Nat) (l at' : Nat) (b : Int) : Nat := if dE p l at' b = 0 then (if b = 1 then at' else dS p l at' b + 1) else 0
/-- All: the places behind the draws, and the draws. -/
def plA (p : Nat → Nat) (l : Nat) (bs : Nat → Int) : Nat → Nat
  | 0 => 0
  | i + 1 => dN p l (plA p l bs i) (bs i)
/-- The draws up to n come off. -/
def okA (p : Nat → Nat) (l : Nat) (bs : Nat → Int) (n : Nat) : Prop := ∀ i, i < n → dE p l (plA p l bs i) (bs i) = 0
end Go.Proofs.YtaiiomoajjhliaaDoor.Drw

namespace Go.Proofs.YtaiiomoajjhliaaDoor.Drw
/- A tape that is turned. -/

section
variable {p : Nat → Nat} {l : Nat} {bs ws : Nat → Int} {n : Nat}
theorem turned (v b w : Nat) (hw : w < b) : (v - v % b + w) / b = v / b ∧ (v - v % b + w) % b = w := by
  have hb : 0 < b := by omega
  have e : v - v % b = b * (v / b) := by have := Nat.div_add_mod v b; omega
  rw [e]
  refine ⟨?_, ?_⟩
  · rw [Nat.mul_add_div hb, Nat.div_eq_of_lt hw, Nat.add_zero]
  · rw [Nat.mul_add_mod, Nat.mod_eq_of_lt hw]
end
end Go.Proofs.YtaiiomoajjhliaaDoor.Drw

namespace Go.Proofs.YtaiiomoajjhliaaDoor.Drw
open Go.RowKit Gf8 Aes By8 Cel Cf Tap
/- Lists of ints. -/

/-- A []int. -/
structure SliceI (w : World) (v : Value) (len : Nat) (f : Nat → Int) : Prop where
  shape : ∃ a cap, v = .slice a len cap ∧ len ≤ cap ∧ cap ≤ maxLen ∧ (0 < len → ∃ b off, a = some ⟨b, off, none⟩ ∧ b < w.heap.size ∧ ∀ j, j < len → w.cell? ⟨b, off + j, none⟩ = some (.int .i64 (f j)))
  fits : ∀ j, j < len → -9223372036854775808 ≤ f j ∧ f j < 9223372036854775808
theorem SliceI.on {w w' : World} {v : Value} {len : Nat} {f : Nat → Int} (h : SliceI w v len f) (hb : Below w.heap.size w w') : SliceI w' v len f := by
  obtain ⟨⟨a, cap, e, h1, h2, h3⟩, hp⟩ := h
  refine ⟨⟨a, cap, e, h1, h2, fun h0 => ?_⟩, hp⟩
  obtain ⟨b, off, e1, e2, e3⟩ := h3 h0
  exact ⟨b, off, e1, Nat.lt_of_lt_of_le e2 hb.size, fun j hj => by rw [cell_below hb e2]; exact e3 j hj⟩
theorem SliceI.cg {w : World} {v : Value} {len : Nat} {f g : Nat → Int} (h : SliceI w v len f) (e : ∀ j, j < len → f j = g j) : SliceI w v len g := by
  obtain ⟨⟨a, cap, q, h1, h2, h3⟩, hp⟩ := h
  refine ⟨⟨a, cap, q, h1, h2, fun h0 => ?_⟩, fun j hj => by rw [← e j hj]; exact hp j hj⟩
  obtain ⟨b, off, e1, e2, e3⟩ := h3 h0
  exact ⟨b, off, e1, e2, fun j hj => by rw [e3 j hj, e j hj]⟩
theorem SliceI.shp {w : World} {v : Value} {len : Nat} {f : Nat → Int} (h : SliceI w v len f) : ∃ a c, v = .slice a len c := by
  obtain ⟨a, c, e, _⟩ := h.shape
  exact ⟨a, c, e⟩
section
variable {o : Oper} {a : Act} {w : World}
end
end Go.Proofs.YtaiiomoajjhliaaDoor.Drw

namespace Go.Proofs.YtaiiomoajjhliaaDoor.Tap
open Go.RowKit Gf8 Aes By8 Cel Cf
/- The law's awake, TapeJoins. Written by tools/mkV9o.py. -/

theorem execDec {o : Oper} {a : Act} {P : Program} {w w' : World} {b c : Bool} (h : (execOp a.eval o).run P w = .ok (.value (.bool b)) w') (e : b = c) : (execOp a.eval o).run P w = .ok (.value (.bool c)) w' := by rw [h, e]
end Go.Proofs.YtaiiomoajjhliaaDoor.Tap

namespace Go.Proofs.YtaiiomoajjhliaaDoor.Drw
open Go.RowKit Gf8 Aes By8 Cel Cf Tap
/- Lists of ints: rows of one's own, what stays, append, make; pieces of code. General: it lies at any seat with []int and []uint8. -/

theorem ownD_below {W W' : World} {B n : Nat} {v : Value} {xs : List Value} {t : TypeId} {s : Nat} (h : W.ownsRow B t s v n xs) (hb : Below W.heap.size W W') : W'.ownsRow B t s v n xs := by
  refine ⟨h.1, ?_⟩
  rcases h.2 with h | ⟨g, cap, cur, e, hB, hg, hr⟩
  · exact Or.inl h
  · exact Or.inr ⟨g, cap, cur, e, hB, on9 hg hb, hr⟩
theorem results_tmp2 {fn : Func} {t u : Tmp} (h : fn.results = #[.tmp t, .tmp u]) (tmps : Array Value) (P : Program) (w : World) : (results fn tmps).run P w = .ok (.tuple #[tmps.getD t undef, tmps.getD u undef]) w := by
  simp [results, h]
theorem own_nilI {W : World} {B n : Nat} {t : TypeId} {v : Value} {xs : List Value} (h : W.ownsRow B t 1 v n xs) : ∀ l c, v = .slice none l c → c = 0 := by
  intro l c e
  rcases h.2 with ⟨rfl, _⟩ | ⟨g, cap, cur, rfl, _⟩
  · injection e with _ _ e3; exact e3.symm
  · injection e with e1; cases e1
end Go.Proofs.YtaiiomoajjhliaaDoor.Drw

namespace Go.Proofs.YtaiiomoajjhliaaDoor.Dro
open Go.RowKit Gf8 Aes By8 Cel Cf Tap Drw
/- Lists of bytes and lists of these, read by their values alone (no block is named). -/

/-- Block and offset of a slice. -/
def adB : Value → Nat
  | .slice (some ⟨b, _, _⟩) _ _ => b
  | _ => 0
def adO : Value → Nat
  | .slice (some ⟨_, o, _⟩) _ _ => o
  | _ => 0
/-- A [][]byte: n lists, the i-th of ln i bytes c i. -/
structure Ls (W : World) (cv : Value) (n : Nat) (xv : Nat → Value) (ln : Nat → Nat) (c : Nat → Nat → Nat) : Prop where
  shape : ∃ a cap, cv = .slice a n cap ∧ n ≤ cap ∧ cap < 9223372036854775808 ∧ (0 < n → ∃ b off, a = some ⟨b, off, none⟩ ∧ b < W.heap.size ∧ ∀ i, i < n → W.cell? ⟨b, off + i, none⟩ = some (xv i))
  cell : ∀ i, i < n → SliceN W (xv i) (ln i) (c i)
  nil : ∀ i, i < n → ∀ l cc, xv i = .slice none l cc → cc = 0
  lens : ∀ i, i < n → ln i ≤ 140737488351232
section
variable {W W' : World} {cv v : Value} {n m k : Nat} {xv : Nat → Value} {ln : Nat → Nat} {c : Nat → Nat → Nat} {p : Nat → Nat}
theorem Ls.on (h : Ls W cv n xv ln c) (hb : Below W.heap.size W W') : Ls W' cv n xv ln c := by
  obtain ⟨a, cap, e, h1, h2, h3⟩ := h.shape
  refine ⟨⟨a, cap, e, h1, h2, fun h0 => ?_⟩, fun i hi => (h.cell i hi).on hb, h.nil, h.lens⟩
  obtain ⟨b, off, e2, hl, hc⟩ := h3 h0
  exact ⟨b, off, e2, Nat.lt_of_lt_of_le hl hb.size, fun i hi => by rw [cell_below hb hl]; exact hc i hi⟩
theorem Ls.shp (h : Ls W cv n xv ln c) : ∃ a cap, cv = .slice a n cap := by
  obtain ⟨a, cap, e, _⟩ := h.shape
  exact ⟨a, cap, e⟩
theorem shp (h : SliceN W v n p) : ∃ a cap, v = .slice a n cap := by
  obtain ⟨a, cap, e, _⟩ := h.shape
  exact ⟨a, cap, e⟩
theorem slice_cg {q : Nat → Nat} (h : SliceN W v n p) (e : ∀ j, j < n → p j = q j) : SliceN W v n q := sliceN_cg h e
variable {o : Oper} {a : Act} {x y z : Operand}
theorem execLenLL (ho : o.op = .call { callee := .builtin .len, args := #[x], argTypes := #[22] }) (hx : a.eval x = cv) (h : ∃ ad cap, cv = .slice ad n cap) : (execOp a.eval o).run Tryd.prog W = .ok (.value (.int .i64 (n : Int))) W := by
  obtain ⟨ad, cap, rfl⟩ := h
  exact execLenL ho hx
theorem execIdxLs (h : Ls W cv n xv ln c) (ho : o.op = .indexAddr 22 x y) (hx : a.eval x = cv) (hy : a.eval y = .int .i64 (k : Int)) (hk : k < n) : (execOp a.eval o).run Tryd.prog W = .ok (.value (.pointer (some ⟨adB cv, adO cv + k, none⟩))) W := by
  obtain ⟨ad, cap, rfl, _, _, q⟩ := h.shape
  obtain ⟨b, off, rfl, _⟩ := q (by omega)
  exact Cf.execIdxL ho hx hy hk
theorem execLdLs (h : Ls W cv n xv ln c) (ho : o.op = .load 24 x) (hx : a.eval x = .pointer (some ⟨adB cv, adO cv + k, none⟩)) (hk : k < n) : (execOp a.eval o).run Tryd.prog W = .ok (.value (xv k)) W := by
  obtain ⟨ad, cap, rfl, _, _, q⟩ := h.shape
  obtain ⟨b, off, rfl, _, hc⟩ := q (by omega)
  exact execLdL ho hx (hc k hk)
end
end Go.Proofs.YtaiiomoajjhliaaDoor.Dro
