import Derived.Test.YtnjmcknanlbpdaaGreatDoorX7b
import Derived.Test.YtnjmcknanlbpdaaGreatDoorX7f
import Derived.Test.YtnjmcknanlbpdaaGreatDoorO0
import Derived.Deep.RegionHeld
import Derived.Laws.IdiomStrings
import Derived.Laws.Strings2
namespace Go.Proofs.YtnjmcknanlbpdaaGreatDoor.Cf
open Go.RowKit Gf8 Aes By8 Cel
/- Closed frames: operations of bytes, ints, lists of bytes and lists of these. Gathered by tools/mkE9a.py. -/

section
variable {o : Oper} {a : Act} {w W : World}
theorem execAsgB {P : Program} {o : Oper} {a : Act} {w : World} {x : Operand} {v : Value} (ho : o.op = .assign x) (hx : a.eval x = v) : (execOp a.eval o).run P w = .ok (.value v) w := by
  unfold execOp
  simp only [ho, hx]
  rfl
theorem execExtT {x : Operand} {k : Nat} {arr : Array Value} {v : Value} (ho : o.op = .extract x k) (hx : a.eval x = .tuple arr) (hk : arr[k]? = some v) : (execOp a.eval o).run Tryz.prog w = .ok (.value v) w := by
  unfold execOp
  simp only [ho, hx]
  simp [go_sem, hk]
theorem execIdxL {x i : Operand} {b off n cap k : Nat} (ho : o.op = .indexAddr 35 x i) (hx : a.eval x = .slice (some ⟨b, off, none⟩) n cap) (hi : a.eval i = .int .i64 (k : Int)) (hk : k < n) : (execOp a.eval o).run Tryz.prog w = .ok (.value (.pointer (some ⟨b, off + k, none⟩))) w := by
  have h1 : (k : Int) < n := by omega
  unfold execOp
  simp only [ho, hx, hi]
  simp [go_sem, h1, Addr.add_mid]
/-- A list whose bytes lie elsewhere, by its cells. -/
theorem lit_slice {W : World} {b N : Nat} {C : Array Value} {f : Nat → Nat} {t : TypeId} {fr : Nat × Nat} (hg : W.heap[b]? = some (.cells C t fr)) (hC : ∀ j, j < N → C[j]? = some (.int .u8 (f j))) (hf : ∀ j, j < N → f j < 256) (hN : N ≤ 1000) : SliceN W (.slice (some ⟨b, 0, none⟩) N N) N f := by
  refine ⟨⟨_, _, rfl, Nat.le_refl _, by omega, fun _ => ⟨b, 0, rfl, (Array.getElem?_eq_some_iff.1 hg).1, fun j hj => ?_⟩⟩, hf⟩
  rw [cell_of_row _ _ _ _ _ _ hg, Nat.zero_add]
  exact hC j hj
theorem execBsL {x : Operand} {r : Value} (ho : o.op = .buildSlice 35 1 #[(0, x)]) (hx : a.eval x = r) (hr : ∃ g n c, r = .slice g n c) : (execOp a.eval o).run Tryz.prog w = .ok (.value (.slice (some ⟨w.heap.size, 0, none⟩) 1 1)) (w.alloc (.cells #[r] 22)) := by
  obtain ⟨g, n, c, rfl⟩ := hr
  unfold execOp
  simp only [ho, List.map_toArray, List.map_cons, List.map_nil, hx]
  simp [go_sem]
theorem execLenL {x : Operand} {ao : Option Addr} {c len : Nat} (ho : o.op = .call { callee := .builtin .len, args := #[x], argTypes := #[35] }) (hx : a.eval x = .slice ao len c) : (execOp a.eval o).run Tryz.prog w = .ok (.value (.int .i64 (len : Int))) w := by
  unfold execOp
  simp only [ho, resolve, invoke, builtin, Sem.run_bind, Sem.run_pure, Result.andThen_ok, List.map_toArray, List.map_cons, List.map_nil, hx]
  simp [go_sem]
theorem execLtW {x y : Operand} {p q : Nat} (ho : o.op = .binOp .lss 3 x y 3) (hx : a.eval x = .int .i64 (p : Int)) (hy : a.eval y = .int .i64 (q : Int)) : (execOp a.eval o).run Tryz.prog w = .ok (.value (.bool (decide (p < q)))) w := by
  unfold execOp
  simp only [ho, hx, hy]
  simp [go_sem]
theorem execAd8 {x y : Operand} {p q : Nat} (ho : o.op = .binOp .add 3 x y 3) (hx : a.eval x = .int .i64 (p : Int)) (hy : a.eval y = .int .i64 (q : Int)) (h : p + q < 9223372036854775808) : (execOp a.eval o).run Tryz.prog w = .ok (.value (.int .i64 ((p + q : Nat) : Int))) w := by
  have e : IntKind.i64.wrap ((p : Int) + (q : Int)) = ((p + q : Nat) : Int) := by rw [← Int.natCast_add]; exact wrap_i64_nat h
  unfold execOp
  simp only [ho, hx, hy]
  simp [go_sem, e]
theorem execNot8 {x : Operand} {b : Bool} (ho : o.op = .unOp .not 4 x) (hx : a.eval x = .bool b) : (execOp a.eval o).run Tryz.prog w = .ok (.value (.bool (!b))) w := by
  unfold execOp
  simp only [ho, hx]
  simp [go_sem]
theorem execBsU2 {y z : Int} (ho : o.op = .buildSlice 22 2 #[(0, .const (.int .u8 y)), (1, .const (.int .u8 z))]) : (execOp a.eval o).run Tryz.prog w = .ok (.value (.slice (some ⟨w.heap.size, 0, none⟩) 2 2)) (w.alloc (.cells #[.int .u8 y, .int .u8 z] 5)) := by
  unfold execOp
  simp only [ho, List.map_toArray, List.map_cons, List.map_nil, Act.eval]
  simp [go_sem]
end
theorem ret_then {K : Act → World → Prop} {Q : Exit → Act → World → Prop} {a : Act} {w : World} (h : Q .ret a w) : Exit.then K Q .ret a w := h
theorem ret_in {id : Nat} {Q : Exit → Act → World → Prop} {a : Act} {w : World} (h : Q .ret a w) : Exit.inBlock id Q .ret a w := h
theorem ownQ_shape {W : World} {B n s : Nat} {t : TypeId} {v : Value} {xs : List Value} (h : W.ownsRow B t s v n xs) : ∃ a c, v = .slice a n c := by
  rcases h.2 with ⟨rfl, rfl⟩ | ⟨g, cap, cur, rfl, _⟩
  · exact ⟨_, _, rfl⟩
  · exact ⟨_, _, rfl⟩
section
variable {o : Oper} {a : Act} {w W : World}
/-- pick where the value that is not taken does not matter. -/
theorem execPickT {x y z : Operand} {v : Value} (ho : o.op = .pick x y z) (hx : a.eval x = .bool true) (hy : a.eval y = v) : (execOp a.eval o).run Tryz.prog w = .ok (.value v) w := by
  unfold execOp
  simp only [ho, hx, hy]
  simp [go_sem]
theorem execPickF {x y z : Operand} {v : Value} (ho : o.op = .pick x y z) (hx : a.eval x = .bool false) (hz : a.eval z = v) : (execOp a.eval o).run Tryz.prog w = .ok (.value v) w := by
  unfold execOp
  simp only [ho, hx, hz]
  simp [go_sem]
end
end Go.Proofs.YtnjmcknanlbpdaaGreatDoor.Cf

namespace Go.Proofs.YtnjmcknanlbpdaaGreatDoor.Tap
open Go.RowKit Gf8 Aes By8 Cel Cf
/- What goes through the law's apart: lists of any lengths. -/

/-- The blocks of m lists. -/
def Gx (m : Nat) (x : Nat → Value) (k : Nat) : Prop := ∃ t, t < m ∧ (x t).ownBlock = some k
theorem apn_cg {B m : Nat} {nn : Nat → Nat} {x : Nat → Value} {ff : Nat → Nat → Nat} {zz : Nat → Nat} {gv : Nat → Value} {gl gl' : Nat → Nat} {W : World} (h : ApN B m nn x ff zz gv gl W) (e : ∀ t, t < m → gl t = gl' t) : ApN B m nn x ff zz gv gl' W :=
  ⟨h.fam, fun t ht => by rw [← e t ht]; exact h.grown t ht, fun t ht => by rw [← e t ht]; exact h.le t ht, h.at', h.dis⟩
structure MoN (B m : Nat) (nn : Nat → Nat) (x gv : Nat → Value) (gl : Nat → Nat) (mo : Nat → Value) (R : Nat) (V W : World) : Prop where
  ap : ApN B m nn x (fun t _ => t % 256) (fun t => (t + 140) % 256) gv gl W
  sv : Saved (Gx m x) V W
  row : ∃ c, W.heap[R]? = some (.cells c 22) ∧ c.size = m ∧ ∀ t, t < m → c[t]? = some (mo t)
  new : V.heap.size ≤ R
  pl : ∀ t, t < m → ∀ k, (gv t).ownBlock = some k → V.heap.size ≤ k ∨ Gx m x k
section
variable {B m : Nat} {nn : Nat → Nat} {x gv : Nat → Value} {gl : Nat → Nat} {mo : Nat → Value} {R : Nat} {V W W' : World}
theorem MoN.cg {gl' : Nat → Nat} {mo' : Nat → Value} (h : MoN B m nn x gv gl mo R V W) (e : ∀ t, t < m → gl t = gl' t) (e' : ∀ t, t < m → mo t = mo' t) : MoN B m nn x gv gl' mo' R V W :=
  ⟨apn_cg h.ap e, h.sv, by obtain ⟨c, h1, h2, h3⟩ := h.row; exact ⟨c, h1, h2, fun t ht => by rw [← e' t ht]; exact h3 t ht⟩, h.new, h.pl⟩
theorem MoN.on (h : MoN B m nn x gv gl mo R V W) (hb : Below W.heap.size W W') : MoN B m nn x gv gl mo R V W' :=
  ⟨h.ap.on hb, h.sv.below hb h.sv.size, by obtain ⟨c, h1, h2, h3⟩ := h.row; exact ⟨c, by rw [hb.block _ (Array.getElem?_eq_some_iff.1 h1).1]; exact h1, h2, h3⟩, h.new, h.pl⟩
/-- A list that has been grown is laid into the list of lists. -/
theorem MoN.put (h : MoN B m nn x gv gl mo R V W) (i : Nat) (u : Value) : MoN B m nn x gv gl (updX mo i u) R V (W.setCell ⟨R, i, none⟩ u) := by
  obtain ⟨c, h1, h2, h3⟩ := h.row
  refine ⟨h.ap.cell h1, h.sv.cell _ (Or.inl h.new), ⟨c.setIfInBounds i u, heap4 _ h1, by rw [Array.size_setIfInBounds]; exact h2, fun t ht => ?_⟩, h.new, h.pl⟩
  rw [Array.getElem?_setIfInBounds]
  unfold updX
  by_cases e : i = t
  · subst e
    rw [if_pos rfl, if_pos rfl, if_pos (by omega)]
  · rw [if_neg e, if_neg (fun q => e q.symm)]
    exact h3 t ht
theorem MoN.at (h : MoN B m nn x gv gl mo R V W) {i : Nat} (hi : i < m) : W.cell? ⟨R, i, none⟩ = some (mo i) ∧ W.frozen? ⟨R, i, none⟩ = false := by
  obtain ⟨c, h1, h2, h3⟩ := h.row
  exact ⟨by rw [cell_of_row _ _ _ _ _ _ h1]; exact h3 i hi, frozen4 h1⟩
end
end Go.Proofs.YtnjmcknanlbpdaaGreatDoor.Tap

namespace Go.Proofs.YtnjmcknanlbpdaaGreatDoor.Tap
open Go.RowKit Gf8 Aes By8 Cel Cf
/- The law's apart: lists that are grown. -/

/-- All ahead of i are grown by hi bytes, the others by lo; what lies in the list of lists. -/
structure GSt (B m : Nat) (nn : Nat → Nat) (x : Nat → Value) (R : Nat) (V W : World) (lo hi : Nat) (pre : Prop) (i : Nat) (gv : Nat → Value) (gl : Nat → Nat) (mo : Nat → Value) : Prop where
  mn : MoN B m nn x gv gl mo R V W
  len : ∀ t, t < m → gl t = nn t + (if t < i then hi else lo)
  done : ∀ t, t < m → t < i → mo t = gv t
  todo : ∀ t, t < m → i ≤ t → (pre → mo t = gv t) ∧ (¬ pre → gv t = x t)
/-- The i-th is being grown: v, of n' bytes. -/
structure GI (B m : Nat) (nn : Nat → Nat) (x : Nat → Value) (R : Nat) (V W : World) (lo hi : Nat) (pre : Prop) (i n' : Nat) (v : Value) (gv : Nat → Value) (gl : Nat → Nat) (mo : Nat → Value) : Prop where
  mn : MoN B m nn x gv gl mo R V W
  v_ : gv i = v
  n_ : gl i = n'
  len : ∀ t, t < m → t ≠ i → gl t = nn t + (if t < i then hi else lo)
  done : ∀ t, t < m → t < i → mo t = gv t
  todo : ∀ t, t < m → i < t → (pre → mo t = gv t) ∧ (¬ pre → gv t = x t)
section
variable {B m : Nat} {nn : Nat → Nat} {x : Nat → Value} {R : Nat} {V W W' : World} {lo hi : Nat} {pre : Prop} {i n' : Nat} {v : Value} {gv : Nat → Value} {gl : Nat → Nat} {mo : Nat → Value}
theorem GSt.start (h : GSt B m nn x R V W lo hi pre i gv gl mo) (hi' : i < m) : GI B m nn x R V W lo hi pre i (nn i + lo) (gv i) gv gl mo :=
  ⟨h.mn, rfl, by rw [h.len i hi', if_neg (by omega)], fun t ht _ => h.len t ht, h.done, fun t ht hl => h.todo t ht (by omega)⟩
theorem GI.on (h : GI B m nn x R V W lo hi pre i n' v gv gl mo) (hb : Below W.heap.size W W') : GI B m nn x R V W' lo hi pre i n' v gv gl mo := ⟨h.mn.on hb, h.v_, h.n_, h.len, h.done, h.todo⟩
theorem GI.own (h : GI B m nn x R V W lo hi pre i n' v gv gl mo) (hi' : i < m) : W.ownsRow B 5 1 v n' (bytesL n' (gM (fun _ => i % 256) (nn i) ((i + 140) % 256))) := by
  have := h.mn.ap.grown i hi'
  rw [h.v_, h.n_] at this
  exact this
theorem GI.put (h : GI B m nn x R V W lo hi pre i (nn i + hi) v gv gl mo) : GSt B m nn x R V (W.setCell ⟨R, 0 + i, none⟩ v) lo hi pre (i + 1) gv gl (updX mo i v) := by
  rw [Nat.zero_add]
  refine ⟨h.mn.put i v, fun t ht => ?_, fun t ht hl => ?_, fun t ht hl => ?_⟩
  · by_cases e : t = i
    · rw [e, h.n_, if_pos (by omega)]
    · rw [h.len t ht e]
      by_cases q : t < i
      · rw [if_pos q, if_pos (by omega)]
      · rw [if_neg q, if_neg (by omega)]
  · by_cases e : t = i
    · rw [e, updX_at, h.v_]
    · unfold updX
      rw [if_neg e]
      exact h.done t ht (by omega)
  · have e : t ≠ i := by omega
    unfold updX
    rw [if_neg e]
    exact h.todo t ht (by omega)
end
end Go.Proofs.YtnjmcknanlbpdaaGreatDoor.Tap

namespace Go.Proofs.YtnjmcknanlbpdaaGreatDoor.Tap
open Go.RowKit Gf8 Aes By8 Cel Cf
/- The law's apart: the lists are grown. Written by tools/mkV9e.py. -/

theorem GSt.again {B m : Nat} {nn : Nat → Nat} {x : Nat → Value} {R : Nat} {V W : World} {gv : Nat → Value} {gl : Nat → Nat} {mo : Nat → Value} (h : GSt B m nn x R V W 0 8 False m gv gl mo) : GSt B m nn x R V W 8 128 True 0 gv gl mo :=
  ⟨h.mn, fun t ht => by rw [h.len t ht, if_pos ht, if_neg (by omega)], fun t _ q => by omega, fun t ht _ => ⟨fun _ => h.done t ht ht, fun q => absurd trivial q⟩⟩
end Go.Proofs.YtnjmcknanlbpdaaGreatDoor.Tap

namespace Go.Proofs.YtnjmcknanlbpdaaGreatDoor.Tap
open Go.RowKit Gf8 Aes By8 Cel Cf
/- Strings of bytes: one of them, a piece, and back to a list; rows that bear a conversion's mark. -/

section
variable {o : Oper} {a : Act} {w : World}
end
/-- A row of bytes of one's own; it may bear a mark behind its cells. -/
def OwnM (W : World) (B : Nat) (v : Value) (n : Nat) (p : Nat → Nat) : Prop :=
  ∃ g cap cur fz, v = .slice (some ⟨g, 0, none⟩) n cap ∧ B ≤ g ∧ W.heap[g]? = some (.cells cur 5 fz) ∧ n ≤ cap ∧ cap ≤ maxLen ∧ cur.size = cap ∧ (∀ j, j < n → cur[j]? = some (.int .u8 (p j : Nat))) ∧ (∀ j, j < n → p j < 256) ∧ (cap ≤ fz.1 ∨ fz.2 = 0)
theorem OwnM.slice {W : World} {B n : Nat} {v : Value} {p : Nat → Nat} (h : OwnM W B v n p) : SliceN W v n p := by
  obtain ⟨g, cap, cur, fz, rfl, hB, hg, h1, h2, h3, h4, h5, h6⟩ := h
  refine ⟨⟨_, _, rfl, h1, by unfold maxLen at h2; omega, fun _ => ⟨g, 0, rfl, (Array.getElem?_eq_some_iff.1 hg).1, fun j hj => ?_⟩⟩, h5⟩
  rw [cell_of_row _ _ _ _ _ _ hg, Nat.zero_add]
  exact h4 j hj
theorem OwnM.on {W W' : World} {B n : Nat} {v : Value} {p : Nat → Nat} (h : OwnM W B v n p) (hb : Below W.heap.size W W') : OwnM W' B v n p := by
  obtain ⟨g, cap, cur, fz, rfl, hB, hg, hr⟩ := h
  exact ⟨g, cap, cur, fz, rfl, hB, by rw [hb.block _ (Array.getElem?_eq_some_iff.1 hg).1]; exact hg, hr⟩
theorem OwnM.base {W : World} {B C n : Nat} {v : Value} {p : Nat → Nat} (h : OwnM W C v n p) (hB : B ≤ C) : OwnM W B v n p := by
  obtain ⟨g, cap, cur, fz, e, h1, hr⟩ := h
  exact ⟨g, cap, cur, fz, e, Nat.le_trans hB h1, hr⟩
end Go.Proofs.YtnjmcknanlbpdaaGreatDoor.Tap

namespace Go.Proofs.YtnjmcknanlbpdaaGreatDoor.Tap
open Go.RowKit Gf8 Aes By8 Cel Cf
/- The program's Byte and Take. Written by tools/mkV9l.py. -/

theorem on9 {W X : World} {g : Nat} {c : Obj} (h : W.heap[g]? = some c) (b : Below W.heap.size W X) : X.heap[g]? = some c := by rw [b.block _ (Array.getElem?_eq_some_iff.1 h).1]; exact h
section
variable {o : Oper} {a : Act} {w : World}
theorem execEqN {x y : Operand} {p q : Nat} (ho : o.op = .binOp .eql 3 x y 3) (hx : a.eval x = .int .i64 (p : Int)) (hy : a.eval y = .int .i64 (q : Int)) : (execOp a.eval o).run Tryz.prog w = .ok (.value (.bool (decide (p = q)))) w := by
  unfold execOp
  simp only [ho, hx, hy]
  by_cases h : p = q
  · subst h
    simp [go_sem]
  · have h2 : ¬ (p : Int) = q := by omega
    simp [go_sem, h, h2]
theorem execEqE {x y : Operand} {p q : Nat} (ho : o.op = .binOp .eql 29 x y 29) (hx : a.eval x = .int .i64 (p : Int)) (hy : a.eval y = .int .i64 (q : Int)) : (execOp a.eval o).run Tryz.prog w = .ok (.value (.bool (decide (p = q)))) w := by
  unfold execOp
  simp only [ho, hx, hy]
  by_cases h : p = q
  · subst h
    simp [go_sem]
  · have h2 : ¬ (p : Int) = q := by omega
    simp [go_sem, h, h2]
theorem execNeN {x y : Operand} {p q : Nat} (ho : o.op = .binOp .neq 3 x y 3) (hx : a.eval x = .int .i64 (p : Int)) (hy : a.eval y = .int .i64 (q : Int)) : (execOp a.eval o).run Tryz.prog w = .ok (.value (.bool (decide (p ≠ q)))) w := by
  unfold execOp
  simp only [ho, hx, hy]
  by_cases h : p = q
  · subst h
    simp [go_sem]
  · have h2 : ¬ (p : Int) = q := by omega
    simp [go_sem, h, h2]
theorem execNeE {x y : Operand} {p q : Nat} (ho : o.op = .binOp .neq 29 x y 29) (hx : a.eval x = .int .i64 (p : Int)) (hy : a.eval y = .int .i64 (q : Int)) : (execOp a.eval o).run Tryz.prog w = .ok (.value (.bool (decide (p ≠ q)))) w := by
  unfold execOp
  simp only [ho, hx, hy]
  by_cases h : p = q
  · subst h
    simp [go_sem]
  · have h2 : ¬ (p : Int) = q := by omega
    simp [go_sem, h, h2]
theorem execGtN {x y : Operand} {p q : Nat} (ho : o.op = .binOp .gtr 3 x y 3) (hx : a.eval x = .int .i64 (p : Int)) (hy : a.eval y = .int .i64 (q : Int)) : (execOp a.eval o).run Tryz.prog w = .ok (.value (.bool (decide (q < p)))) w := by
  unfold execOp
  simp only [ho, hx, hy]
  by_cases h : q < p
  · simp [go_sem, h]
  · simp [go_sem, h]
end
theorem OwnM.set {X : World} {B n g : Nat} {v : Value} {q : Nat → Nat} {cur c : Array Value} {t : TypeId} (h : OwnM X B v n q) (hg : X.heap[g]? = some (.cells cur t)) (ht : t ≠ 5) : OwnM (X.setRow g c) B v n q := by
  obtain ⟨g1, cap, cu, fz, e, hB, h1, hr⟩ := h
  refine ⟨g1, cap, cu, fz, e, hB, ?_, hr⟩
  rw [setRow_other _ _ _ _ (fun q => ?_)]
  · exact h1
  · subst q
    rw [h1] at hg
    injection hg with hg
    injection hg with _ hg _
    exact ht hg.symm
/-- What Take answers: nothing, or a row of its own. -/
def TkA (W : World) (B : Nat) (v : Value) (k : Nat) (q : Nat → Nat) : Prop := (v = .slice none 0 0 ∧ k = 0) ∨ OwnM W B v k q
theorem TkA.slice {W : World} {B n : Nat} {v : Value} {p : Nat → Nat} (h : TkA W B v n p) : SliceN W v n p := by
  rcases h with ⟨rfl, rfl⟩ | h
  · exact ⟨⟨_, _, rfl, Nat.le_refl _, by omega, fun h => by omega⟩, fun j hj => by omega⟩
  · exact h.slice
theorem TkA.on {W W' : World} {B n : Nat} {v : Value} {p : Nat → Nat} (h : TkA W B v n p) (hb : Below W.heap.size W W') : TkA W' B v n p := h.imp id (·.on hb)
theorem TkA.base {W : World} {B C n : Nat} {v : Value} {p : Nat → Nat} (h : TkA W C v n p) (hB : B ≤ C) : TkA W B v n p := h.imp id (·.base hB)
theorem TkA.set {X : World} {B n g : Nat} {v : Value} {q : Nat → Nat} {cur c : Array Value} {t : TypeId} (h : TkA X B v n q) (hg : X.heap[g]? = some (.cells cur t)) (ht : t ≠ 5) : TkA (X.setRow g c) B v n q := h.imp id (·.set hg ht)
end Go.Proofs.YtnjmcknanlbpdaaGreatDoor.Tap

namespace Go.Proofs.YtnjmcknanlbpdaaGreatDoor.Cf
open Go.RowKit Gf8 Aes By8 Cel
/- A region in its order of which only the operations that do something are walked: moves, assignments, picks, extracts, what isn't wanted are reckoned. -/

def lk (E : Nat → Value) : List (Nat × Value) → Nat → Value
  | [], d => E d
  | p :: l, d => bif Nat.beq d p.1 then p.2 else lk E l d
def evO (f : Nat → Value) : Operand → Value
  | .tmp d => f d
  | .const v => v
  | .global g => .pointer (some ⟨g, 0, none⟩)
  | .func g => .func (.func g) #[] #[]
theorem evO_eval {a : Act} {f : Nat → Value} (h : ∀ d, a.eval (.tmp d) = f d) : ∀ x, a.eval x = evO f x
  | .tmp d => h d
  | .const _ => rfl
  | .global _ => rfl
  | .func _ => rfl
/-- Whether it is wanted, where that can be told. -/
def wnt (ops : Array Oper) (f : Nat → Value) (o : Oper) : Option Bool :=
  match o.guard with
  | none => some true
  | some (k, b) =>
    match (ops[k]?).bind (·.dst) with
    | none => none
    | some d =>
      match f d with
      | .bool c => some (c == b)
      | .tuple ⟨[]⟩ => some false
      | _ => none
/-- What an operation yields that does nothing else. -/
def eas (ops : Array Oper) (f : Nat → Value) (o : Oper) : Option Value :=
  match wnt ops f o with
  | none => none
  | some false => some undef
  | some true =>
    match o.op with
    | .move x => some (evO f x)
    | .assign x => some (evO f x)
    | .pick c x y =>
      match evO f c with
      | .bool true => some (evO f x)
      | .bool false => some (evO f y)
      | _ => none
    | .extract x k =>
      match evO f x with
      | .tuple arr => arr[k]?
      | _ => none
    | _ => none
def acc (ops : Array Oper) (E v : Nat → Value) : Nat → List (Nat × Value)
  | 0 => []
  | k + 1 =>
    match ops[k]? with
    | none => acc ops E v k
    | some o =>
      match o.dst with
      | none => acc ops E v k
      | some d => (d, (eas ops (lk E (acc ops E v k)) o).getD (v k)) :: acc ops E v k
/-- What operation k yields. -/
def vl (ops : Array Oper) (E v : Nat → Value) (k : Nat) : Value :=
  match ops[k]? with
  | none => undef
  | some o => (eas ops (lk E (acc ops E v k)) o).getD (v k)
def hrd (ops : Array Oper) (E v : Nat → Value) (k : Nat) : Bool :=
  match ops[k]? with
  | none => false
  | some o => (eas ops (lk E (acc ops E v k)) o).isNone
def AllL (P : Nat → Prop) : List Nat → Prop
  | [] => True
  | j :: l => P j ∧ AllL P l
theorem AllL.get {P : Nat → Prop} : ∀ {l : List Nat}, AllL P l → ∀ {j}, j ∈ l → P j
  | [], _, _, h => by cases h
  | i :: l, h, j, hj => by
    rcases List.mem_cons.1 hj with e | e
    · rw [e]; exact h.1
    · exact AllL.get h.2 e
def ent (a : Act) (d : Nat) : Value := a.eval (.tmp d)
def okD (N : Nat) (ops : Array Oper) : Bool := decide ((dsOf ops).map (·.2)).Nodup && (dsOf ops).all (fun p => decide (p.2 < N))
theorem acc_cg {ops : Array Oper} {E u v : Nat → Value} : ∀ {k : Nat}, (∀ i, i < k → hrd ops E v i = true → u i = v i) → acc ops E u k = acc ops E v k
  | 0, _ => rfl
  | k + 1, h => by
    have ih := acc_cg (k := k) fun i hi => h i (by omega)
    have hk := h k (by omega)
    unfold hrd at hk
    unfold acc
    cases ho : ops[k]? with
    | none => exact ih
    | some o =>
      simp only [ho] at hk ⊢
      cases o.dst with
      | none => exact ih
      | some d =>
        simp only [ih]
        congr 2
        cases he : eas ops (lk E (acc ops E v k)) o with
        | none => rw [he] at hk; exact hk rfl
        | some x => rfl
theorem wnt_is {ops : Array Oper} {a : Act} {f : Nat → Value} {o : Oper} {b : Bool} (h : ∀ d, a.eval (.tmp d) = f d) (hw : wnt ops f o = some b) : Region.wanted o (yielded ops a.tmps) = b := by
  unfold wnt at hw
  cases hg : o.guard with
  | none =>
    simp only [hg] at hw
    injection hw with hw
    subst hw
    simp [Region.wanted, hg]
  | some p =>
    obtain ⟨k, c⟩ := p
    simp only [hg] at hw
    cases hq : ops[k]? with
    | none => simp [hq] at hw
    | some q =>
      cases hd : q.dst with
      | none => simp [hq, hd] at hw
      | some d =>
        simp only [hq, hd, Option.bind_some] at hw
        cases hf : f d with
        | bool x =>
          rw [hf] at hw
          injection hw with hw
          subst hw
          have hy := yieldedAt hq hd ((h d).trans hf)
          simp only [Region.wanted, hg, hy]
          cases x <;> cases c <;> rfl
        | tuple arr =>
          rw [hf] at hw
          obtain ⟨l⟩ := arr
          cases l with
          | nil =>
            injection hw with hw
            subst hw
            exact unwantedNo hg (yieldedNo hq hd ((h d).trans hf))
          | cons _ _ => cases hw
        | _ => rw [hf] at hw; cases hw
theorem eas_step {ops : Array Oper} {Q : Exit → Act → World → Prop} {K : Act → World → Prop} {j : Nat} {o : Oper} {a : Act} {w : World} {f : Nat → Value} {x : Value} (ho : ops[j]? = some o) (h : ∀ d, a.eval (.tmp d) = f d) (he : eas ops f o = some x) (hK : K (a.put o.dst x) w) : wpOp Tryz.prog ops Q j K a w := by
  have ev := evO_eval h
  unfold eas at he
  cases hw : wnt ops f o with
  | none => simp [hw] at he
  | some b =>
    have hw2 := wnt_is h hw
    cases b with
    | false =>
      simp only [hw] at he
      injection he with he
      subst he
      exact stepU ho hw2 hK
    | true =>
      simp only [hw] at he
      cases hop : o.op with
      | move y =>
        simp only [hop] at he
        injection he with he
        exact stepV ho hw2 (execMvB hop ((ev y).trans he)) hK
      | assign y =>
        simp only [hop] at he
        injection he with he
        exact stepV ho hw2 (execAsgB hop ((ev y).trans he)) hK
      | pick c y z =>
        simp only [hop] at he
        cases hc : evO f c with
        | bool t =>
          rw [hc] at he
          cases t with
          | true =>
            injection he with he
            exact stepV ho hw2 (execPickT hop ((ev c).trans hc) ((ev y).trans he)) hK
          | false =>
            injection he with he
            exact stepV ho hw2 (execPickF hop ((ev c).trans hc) ((ev z).trans he)) hK
        | _ => rw [hc] at he; cases he
      | extract y k =>
        simp only [hop] at he
        cases hc : evO f y with
        | tuple arr =>
          rw [hc] at he
          exact stepV ho hw2 (execExtT hop ((ev y).trans hc) he) hK
        | _ => rw [hc] at he; cases he
      | _ => simp [hop] at he
/-- What a slot held stays. -/
theorem kt {a a0 : Act} {f : Operand → Value} {d : Nat} {v : Value} (e : ∀ x, a.eval x = f x) (t : a0.eval (.tmp d) = v) (h : f (.tmp d) = a0.eval (.tmp d) := by rfl) : a.eval (.tmp d) = v := (e _).trans (h.trans t)
/-- An operation that yields a value. -/
theorem qV {ops : Array Oper} {Q : Exit → Act → World → Prop} {j : Nat} {o : Oper} {a : Act} {w w' : World} {σ : Type} {s : σ} {x : Value} {S : σ → World → Prop} {v : σ → Nat → Value} {hl : List Nat} (ho : ops[j]? = some o) (hw : Region.wanted o (yielded ops a.tmps) = true) (hr : (execOp a.eval o).run Tryz.prog w = .ok (.value x) w') (hx : v s j = x) (hS : S s w') : wpOp Tryz.prog ops Q j (fun a' w' => ∃ s', (∃ o, ops[j]? = some o ∧ a' = a.put o.dst (v s' j)) ∧ S s' w' ∧ AllL (fun i => i < j → v s' i = v s i) hl) a w := by
  refine stepV ho hw hr ⟨s, ⟨o, ho, by rw [hx]⟩, hS, ?_⟩
  clear ho hw hr hx hS
  induction hl with
  | nil => trivial
  | cons i l ih => exact ⟨fun _ => rfl, ih⟩
end Go.Proofs.YtnjmcknanlbpdaaGreatDoor.Cf

namespace Go.Proofs.YtnjmcknanlbpdaaGreatDoor.Cf
open Go.RowKit Gf8 Aes By8 Cel
/- A region in its order, walked from one operation that does something to the next; the slots that are known are a list, and all that only moves values is reckoned. -/

def vL (l : List (Nat × Value)) : Nat → Value := lk (fun _ => undef) l
/-- What slots hold, one by one. -/
def Hd (a : Act) : List (Nat × Value) → Prop
  | [] => True
  | (d, v) :: l => a.eval (.tmp d) = v ∧ Hd a l
/-- The slots that are known. -/
def Fr (a : Act) (l : List (Nat × Value)) : Prop := ∀ d, a.eval (.tmp d) = lk (ent a) l d
theorem f0 {a : Act} : Fr a [] := fun _ => rfl
theorem fc {a : Act} {d : Nat} {v : Value} {l : List (Nat × Value)} (t : a.eval (.tmp d) = v) (h : Fr a l) : Fr a ((d, v) :: l) := fun e => by
  unfold lk
  cases hb : Nat.beq e d with
  | true =>
    rw [Nat.eq_of_beq_eq_true hb]
    exact t
  | false => exact h e
theorem Hd.fr {a : Act} : ∀ {l : List (Nat × Value)}, Hd a l → Fr a l
  | [], _ => f0
  | (_, _) :: _, h => fc h.1 (Hd.fr h.2)
theorem hd_of {a : Act} {f : Nat → Value} (h : ∀ d, a.eval (.tmp d) = f d) : ∀ (l : List (Nat × Value)), l.map (fun p => f p.1) = l.map (·.2) → Hd a l
  | [], _ => trivial
  | (d, _) :: l, e => by
    injection e with e1 e2
    exact ⟨(h d).trans e1, hd_of h l e2⟩
def opA (ops : Array Oper) (k : Nat) : Oper := (ops[k]?).getD default
/-- All operations from j on, so many, are reckoned. -/
def eaR (ops : Array Oper) (E v : Nat → Value) (j : Nat) : Nat → Bool
  | 0 => true
  | m + 1 => (eas ops (lk E (acc ops E v j)) (opA ops j)).isSome && eaR ops E v (j + 1) m
def skp (ops : Array Oper) (E v : Nat → Value) (j k : Nat) : Bool := Nat.ble j k && Nat.blt k ops.size && eaR ops E v j (k - j) && (eas ops (lk E (acc ops E v k)) (opA ops k)).isNone
def okN (N : Nat) (ops : Array Oper) : Bool := ops.all fun o => match o.dst with | none => true | some d => Nat.blt d N
/-- What is left of a region from operation j on. -/
def Rest (ops : Array Oper) (Q : Exit → Act → World → Prop) (N : Nat) (D : List Deferred) (E : Nat → Value) (j : Nat) (vs : List (Nat × Value)) (W : World) : Prop :=
  okN N ops = true → ∀ a : Act, (a.tmps.size = N ∧ a.defers = D) → (∀ d, a.eval (.tmp d) = lk E (acc ops E (vL vs) j) d) → wpList Tryz.prog ops Q (ops.toList.drop j) a W
section
variable {ops : Array Oper} {Q : Exit → Act → World → Prop} {N : Nat} {D : List Deferred} {E : Nat → Value} {j : Nat} {vs : List (Nat × Value)} {W : World} {id : Nat}
theorem opA_of {k : Nat} (h : k < ops.size) : ops[k]? = some (opA ops k) := by
  unfold opA
  rw [Array.getElem?_eq_getElem h]
  rfl
theorem drop_at {k : Nat} {o : Oper} (h : ops[k]? = some o) : ops.toList.drop k = o :: ops.toList.drop (k + 1) := by
  obtain ⟨hl, rfl⟩ := Array.getElem?_eq_some_iff.1 h
  have h2 : k < ops.toList.length := by simpa using hl
  rw [List.drop_eq_getElem_cons h2]
  simp
theorem okN_at {k d : Nat} {o : Oper} (h : okN N ops = true) (ho : ops[k]? = some o) (hd : o.dst = some d) : d < N := by
  obtain ⟨hl, rfl⟩ := Array.getElem?_eq_some_iff.1 ho
  have h1 := (Array.all_eq_true.1 h) k hl
  rw [hd] at h1
  exact Nat.le_of_ble_eq_true h1
/-- One operation on. -/
theorem put_on {a : Act} {k : Nat} {o : Oper} {v v' : Nat → Value} {x : Value} (hN : okN N ops = true) (A : a.tmps.size = N ∧ a.defers = D) (ho : ops[k]? = some o) (h : ∀ d, a.eval (.tmp d) = lk E (acc ops E v k) d) (hc : acc ops E v' k = acc ops E v k) (hx : (eas ops (lk E (acc ops E v k)) o).getD (v' k) = x) :
    ((a.put o.dst x).tmps.size = N ∧ (a.put o.dst x).defers = D) ∧ ∀ d, (a.put o.dst x).eval (.tmp d) = lk E (acc ops E v' (k + 1)) d := by
  refine ⟨⟨by rw [put_size]; exact A.1, ?_⟩, fun d => ?_⟩
  · rw [← A.2]
    cases o.dst <;> rfl
  · unfold acc
    rw [ho]
    simp only
    cases hd : o.dst with
    | none =>
      simp only [hc]
      exact h d
    | some e =>
      simp only [hc, hx]
      unfold lk
      cases hb : Nat.beq d e with
      | true =>
        rw [Nat.eq_of_beq_eq_true hb, put_same _ _ (by rw [A.1]; exact okN_at hN ho hd)]
        rfl
      | false =>
        rw [put_other _ _ (fun q => by rw [q, Nat.beq_refl] at hb; cases hb)]
        exact h d
theorem rest_on {m : Nat} (e : eaR ops E (vL vs) j m = true) (hk : j + m ≤ ops.size) (h : Rest ops Q N D E (j + m) vs W) : Rest ops Q N D E j vs W := by
  induction m generalizing j with
  | zero => exact h
  | succ m ih =>
    unfold eaR at e
    rw [Bool.and_eq_true] at e
    have h2 := ih (j := j + 1) e.2 (by omega) (by rw [show j + 1 + m = j + (m + 1) by omega]; exact h)
    intro hN a A hv
    have ho := opA_of (ops := ops) (k := j) (by omega)
    rw [drop_at ho]
    obtain ⟨x, hx⟩ := Option.isSome_iff_exists.1 e.1
    refine wpList_of_op ho (eas_step ho hv hx ?_)
    obtain ⟨A', hv'⟩ := put_on (x := x) (v' := vL vs) hN A ho hv rfl (by rw [hx]; rfl)
    exact h2 hN _ A' hv'
/-- An operation that does something. -/
theorem rs_ (k : Nat) (h : ∀ a : Act, (∀ x, a.eval x = evO (lk E (acc ops E (vL vs) k)) x) → wpOp Tryz.prog ops Q k (fun a' w' => ∃ v, (∃ o, ops[k]? = some o ∧ a' = a.put o.dst v) ∧ ∀ X, X = w' → Rest ops Q N D E (k + 1) ((k, v) :: vs) X) a W) (hk : skp ops E (vL vs) j k = true := by kernel_rfl) : Rest ops Q N D E j vs W := by
  unfold skp at hk
  simp only [Bool.and_eq_true] at hk
  obtain ⟨⟨⟨h1, h2⟩, h3⟩, h4⟩ := hk
  have h1' := Nat.le_of_ble_eq_true h1
  have h2' : k < ops.size := Nat.le_of_ble_eq_true h2
  refine rest_on h3 (by omega) ?_
  rw [show j + (k - j) = k by omega]
  intro hN a A hv
  have ho := opA_of h2'
  rw [drop_at ho]
  refine wpList_of_op ho (wpOp_mono ?_ (h a (evO_eval hv)))
  rintro a' w' ⟨v, ⟨o, ho', rfl⟩, hR⟩
  rw [ho] at ho'
  cases ho'
  have hcg : acc ops E (vL ((k, v) :: vs)) k = acc ops E (vL vs) k := acc_cg fun i hi _ => by
    show lk (fun _ => undef) ((k, v) :: vs) i = _
    unfold lk
    rw [show Nat.beq i k = false from by
      cases hb : Nat.beq i k with
      | false => rfl
      | true => have := Nat.eq_of_beq_eq_true hb; omega]
    rfl
  have hkk : vL ((k, v) :: vs) k = v := by
    show lk (fun _ => undef) ((k, v) :: vs) k = v
    unfold lk
    rw [Nat.beq_refl]
    rfl
  obtain ⟨A', hv'⟩ := put_on (x := v) (v' := vL ((k, v) :: vs)) hN A ho hv hcg (by rw [Option.isNone_iff_eq_none.1 h4, Option.getD_none, hkk])
  exact hR _ rfl hN _ A' hv'
/-- An operation that yields a value and leaves the world. -/
theorem rv_ (k : Nat) (v : Value) (h : ∀ a : Act, (∀ x, a.eval x = evO (lk E (acc ops E (vL vs) k)) x) → (execOp a.eval (opA ops k)).run Tryz.prog W = .ok (.value v) W) (n : Rest ops Q N D E (k + 1) ((k, v) :: vs) W) (hk : skp ops E (vL vs) j k = true := by kernel_rfl) (hw : wnt ops (lk E (acc ops E (vL vs) k)) (opA ops k) = some true := by kernel_rfl) : Rest ops Q N D E j vs W := by
  refine rs_ k (fun a e => ?_) hk
  unfold skp at hk
  simp only [Bool.and_eq_true] at hk
  have ho := opA_of (ops := ops) (k := k) (Nat.le_of_ble_eq_true hk.1.1.2)
  exact stepV ho (wnt_is (fun d => e (.tmp d)) hw) (h a e) ⟨v, ⟨_, ho, rfl⟩, fun X eX => by rw [eX]; exact n⟩
def fnA (ops : Array Oper) (k : Nat) : FuncId :=
  match (opA ops k).op with
  | .call c => match c.callee with
    | .value (.func f) => f
    | _ => 0
  | _ => 0
def agA (ops : Array Oper) (f : Nat → Value) (k : Nat) : Array Value :=
  match (opA ops k).op with
  | .call c => ⟨c.args.toList.map (evO f)⟩
  | _ => #[]
def clA (P : Program) (ops : Array Oper) (k : Nat) : Bool :=
  match (opA ops k).op with
  | .call c => match c.callee with
    | .value (.func f) => match P.funcs[f]? with
      | some fn => !(fn.name == "runtime.NumGoroutine") && fn.body.isSome
      | none => false
    | _ => false
  | _ => false
/-- A call, by its contract. -/
theorem rc_ (k : Nat) {post : Ending → World → Prop} (c : Calls Tryz.prog (fnA ops k) (agA ops (lk E (acc ops E (vL vs) k)) k) W post) (n : ∀ e w', post e w' → ∃ v, e = .returned v ∧ Rest ops Q N D E (k + 1) ((k, v) :: vs) w') (hk : skp ops E (vL vs) j k = true := by kernel_rfl) (hw : wnt ops (lk E (acc ops E (vL vs) k)) (opA ops k) = some true := by kernel_rfl) (hc : clA Tryz.prog ops k = true := by kernel_rfl) : Rest ops Q N D E j vs W := by
  refine rs_ k (fun a e => ?_) hk
  unfold skp at hk
  simp only [Bool.and_eq_true] at hk
  have ho := opA_of (ops := ops) (k := k) (Nat.le_of_ble_eq_true hk.1.1.2)
  unfold clA at hc
  unfold fnA agA at c
  cases hop : (opA ops k).op with
  | call cl =>
    simp only [hop] at hc c
    obtain ⟨cal, xs, ts⟩ := cl
    simp only at hc c
    cases cal with
    | value x =>
      cases x with
      | func f =>
        simp only at hc c
        cases hf : Tryz.prog.funcs[f]? with
        | none => simp [hf] at hc
        | some fn =>
          simp only [hf, Bool.and_eq_true, Bool.not_eq_true'] at hc
          have hr := execCall (a := a) (w := W) hop hf hc.1 hc.2
          have he : xs.map a.eval = ⟨xs.toList.map (evO (lk E (acc ops E (vL vs) k)))⟩ := by
            apply Array.ext'
            simp only [Array.toList_map]
            exact List.map_congr_left fun x _ => e x
          rw [he] at hr
          refine stepC ho (wnt_is (fun d => e (.tmp d)) hw) hr c fun e' w' hp => ?_
          obtain ⟨v, rfl, hR⟩ := n e' w' hp
          exact ⟨v, rfl, v, ⟨_, ho, rfl⟩, fun X eX => by rw [eX]; exact hR⟩
      | _ => simp at hc
    | _ => simp at hc
  | _ => simp [hop] at hc
theorem cb_ {v : Value} {R : Value → World → Prop} (h : ∀ X, Below W.heap.size W X → R v X) : ∀ (e : Ending) w', (e = .returned v ∧ Below W.heap.size W w') → ∃ v', e = .returned v' ∧ R v' w' := fun _ _ ⟨h1, h2⟩ => ⟨v, h1, h _ h2⟩
/-- The region's end: what is new, what stays. -/
theorem rf_ {a0 : Act} {l : List (Nat × Value)} (new : List (Nat × Value)) (_old : Hd a0 l) (h : ∀ a : Act, (a.tmps.size = N ∧ a.defers = D) → Hd a new → Hd a l → Q .normal a W) (hk : (Nat.ble j ops.size && eaR ops E (vL vs) j (ops.size - j)) = true := by kernel_rfl)
    (h1 : new.map (fun p => lk E (acc ops E (vL vs) ops.size) p.1) = new.map (·.2) := by kernel_rfl) (h2 : l.map (fun p => lk E (acc ops E (vL vs) ops.size) p.1) = l.map (·.2) := by kernel_rfl) : Rest ops Q N D E j vs W := by
  rw [Bool.and_eq_true] at hk
  have hj := Nat.le_of_ble_eq_true hk.1
  refine rest_on hk.2 (by omega) ?_
  rw [show j + (ops.size - j) = ops.size by omega]
  intro hN a A hv
  rw [List.drop_eq_nil_of_le (by simp)]
  exact h a A (hd_of hv new h1) (hd_of hv l h2)
theorem rg_ (new : List (Nat × Value)) (h : ∀ a : Act, (a.tmps.size = N ∧ a.defers = D) → Hd a new → Q .normal a W) (hk : (Nat.ble j ops.size && eaR ops E (vL vs) j (ops.size - j)) = true := by kernel_rfl)
    (h1 : new.map (fun p => lk E (acc ops E (vL vs) ops.size) p.1) = new.map (·.2) := by kernel_rfl) : Rest ops Q N D E j vs W := by
  rw [Bool.and_eq_true] at hk
  have hj := Nat.le_of_ble_eq_true hk.1
  refine rest_on hk.2 (by omega) ?_
  rw [show j + (ops.size - j) = ops.size by omega]
  intro hN a A hv
  rw [List.drop_eq_nil_of_le (by simp)]
  exact h a A (hd_of hv new h1)
/-- A region in its order. -/
theorem wi_ {a0 : Act} {l : List (Nat × Value)} (A : a0.tmps.size = N ∧ a0.defers = D) (F : Hd a0 l) (h : Rest ops Q N D (lk (ent a0) l) 0 [] W) (hN : okN N ops = true := by kernel_rfl) : (Code.region id ops false).wp Tryz.prog Q a0 W :=
  wp_region_list (h hN a0 A F.fr)
/-- The frame closed at the entry. -/
theorem wo_ {c : Code} {a0 : Act} (N : Nat) (l : List (Nat × Value)) (h : ∀ a : Act, (a.tmps.size = N ∧ a.defers = []) → Hd a l → c.wp Tryz.prog Q a W) (h1 : a0.tmps.size = N := by rfl) (h2 : a0.defers = [] := by rfl) (h3 : l.map (fun p => a0.eval (.tmp p.1)) = l.map (·.2) := by rfl) : c.wp Tryz.prog Q a0 W :=
  h a0 ⟨h1, h2⟩ (hd_of (f := fun d => a0.eval (.tmp d)) (fun _ => rfl) l h3)
end
section
variable {a : Act} {d1 d2 d3 d4 d5 d6 d7 d8 d9 d10 d11 d12 d13 d14 d15 d16 : Nat} {v1 v2 v3 v4 v5 v6 v7 v8 v9 v10 v11 v12 v13 v14 v15 v16 : Value}
theorem h0_ : Hd a [] := trivial
theorem h1_ (t1 : a.eval (.tmp d1) = v1) : Hd a [(d1, v1)] := ⟨t1, trivial⟩
theorem h2_ (t1 : a.eval (.tmp d1) = v1) (t2 : a.eval (.tmp d2) = v2) : Hd a [(d1, v1), (d2, v2)] := ⟨t1, t2, trivial⟩
theorem h3_ (t1 : a.eval (.tmp d1) = v1) (t2 : a.eval (.tmp d2) = v2) (t3 : a.eval (.tmp d3) = v3) : Hd a [(d1, v1), (d2, v2), (d3, v3)] := ⟨t1, t2, t3, trivial⟩
theorem h4_ (t1 : a.eval (.tmp d1) = v1) (t2 : a.eval (.tmp d2) = v2) (t3 : a.eval (.tmp d3) = v3) (t4 : a.eval (.tmp d4) = v4) : Hd a [(d1, v1), (d2, v2), (d3, v3), (d4, v4)] := ⟨t1, t2, t3, t4, trivial⟩
theorem h5_ (t1 : a.eval (.tmp d1) = v1) (t2 : a.eval (.tmp d2) = v2) (t3 : a.eval (.tmp d3) = v3) (t4 : a.eval (.tmp d4) = v4) (t5 : a.eval (.tmp d5) = v5) : Hd a [(d1, v1), (d2, v2), (d3, v3), (d4, v4), (d5, v5)] := ⟨t1, t2, t3, t4, t5, trivial⟩
theorem h6_ (t1 : a.eval (.tmp d1) = v1) (t2 : a.eval (.tmp d2) = v2) (t3 : a.eval (.tmp d3) = v3) (t4 : a.eval (.tmp d4) = v4) (t5 : a.eval (.tmp d5) = v5) (t6 : a.eval (.tmp d6) = v6) : Hd a [(d1, v1), (d2, v2), (d3, v3), (d4, v4), (d5, v5), (d6, v6)] := ⟨t1, t2, t3, t4, t5, t6, trivial⟩
theorem h7_ (t1 : a.eval (.tmp d1) = v1) (t2 : a.eval (.tmp d2) = v2) (t3 : a.eval (.tmp d3) = v3) (t4 : a.eval (.tmp d4) = v4) (t5 : a.eval (.tmp d5) = v5) (t6 : a.eval (.tmp d6) = v6) (t7 : a.eval (.tmp d7) = v7) : Hd a [(d1, v1), (d2, v2), (d3, v3), (d4, v4), (d5, v5), (d6, v6), (d7, v7)] := ⟨t1, t2, t3, t4, t5, t6, t7, trivial⟩
theorem h8_ (t1 : a.eval (.tmp d1) = v1) (t2 : a.eval (.tmp d2) = v2) (t3 : a.eval (.tmp d3) = v3) (t4 : a.eval (.tmp d4) = v4) (t5 : a.eval (.tmp d5) = v5) (t6 : a.eval (.tmp d6) = v6) (t7 : a.eval (.tmp d7) = v7) (t8 : a.eval (.tmp d8) = v8) : Hd a [(d1, v1), (d2, v2), (d3, v3), (d4, v4), (d5, v5), (d6, v6), (d7, v7), (d8, v8)] := ⟨t1, t2, t3, t4, t5, t6, t7, t8, trivial⟩
theorem h9_ (t1 : a.eval (.tmp d1) = v1) (t2 : a.eval (.tmp d2) = v2) (t3 : a.eval (.tmp d3) = v3) (t4 : a.eval (.tmp d4) = v4) (t5 : a.eval (.tmp d5) = v5) (t6 : a.eval (.tmp d6) = v6) (t7 : a.eval (.tmp d7) = v7) (t8 : a.eval (.tmp d8) = v8) (t9 : a.eval (.tmp d9) = v9) : Hd a [(d1, v1), (d2, v2), (d3, v3), (d4, v4), (d5, v5), (d6, v6), (d7, v7), (d8, v8), (d9, v9)] := ⟨t1, t2, t3, t4, t5, t6, t7, t8, t9, trivial⟩
end
end Go.Proofs.YtnjmcknanlbpdaaGreatDoor.Cf
