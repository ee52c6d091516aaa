import Derived.Test.YtialghojibjknaaL9c
import Derived.Test.YtialghojibjknaaZ9a
import Derived.Test.YtialghojibjknaaF9c
import Derived.Test.YtialghojibjknaaC9i
namespace Go.Proofs.Ytialghojibjknaa.Duc
open Go.RowKit Gf8 Aes By8 Cel Cf Win Drw
/- Stage 18 (duct): a book in memory; what a package of ducts keeps (DImpl). -/

/-- The cells of a book. -/
def dC (r : Value) (k : Int) (c : Bool) : Array Value := #[r, .int .i64 k, .bool c]
theorem dC_at {W : World} {g : Nat} {r : Value} {k : Int} {c : Bool} {t : TypeId} (h : W.heap[g]? = some (.cells (dC r k c) t)) : W.cell? ⟨g, 0, none⟩ = some r ∧ W.cell? ⟨g, 0 + 1, none⟩ = some (.int .i64 k) ∧ W.cell? ⟨g, 0 + 2, none⟩ = some (.bool c) :=
  ⟨by rw [cell_of_row _ _ _ _ _ _ h]; rfl, by rw [cell_of_row _ _ _ _ _ _ h]; rfl, by rw [cell_of_row _ _ _ _ _ _ h]; rfl⟩
section
variable {P : Program} {fn : Func} {p u v x : Tmp} {ty : TypeId} (tmps : Array Value) (w : World) (g : Nat) (t : TypeId) (cs : Array Value) (fr : Nat × Nat) (d : TypeDesc)
theorem res_c1 (h : fn.results = #[.cell p ty, .tmp u]) (hp : tmps.getD p undef = .pointer (some ⟨g, 0, none⟩)) (hg : w.heap[g]? = some (.cells cs t fr)) (hu : P.underlying ty = some d) (hd : (match d with | .struct _ | .array _ _ => true | _ => false) = true) (hi : (P.info? ty).map (·.size) = some cs.size) :
    (results fn tmps).run P w = .ok (.tuple #[.agg cs, tmps.getD u undef]) w := by
  have hp' : tmps[p]?.getD undef = .pointer (some ⟨g, 0, none⟩) := by simpa using hp
  simp [results, h, hp', asAddr, run_loadVar_row w g t ty cs fr d hg hu hd hi]
theorem res_c2 (h : fn.results = #[.cell p ty, .tmp u, .tmp v]) (hp : tmps.getD p undef = .pointer (some ⟨g, 0, none⟩)) (hg : w.heap[g]? = some (.cells cs t fr)) (hu : P.underlying ty = some d) (hd : (match d with | .struct _ | .array _ _ => true | _ => false) = true) (hi : (P.info? ty).map (·.size) = some cs.size) :
    (results fn tmps).run P w = .ok (.tuple #[.agg cs, tmps.getD u undef, tmps.getD v undef]) w := by
  have hp' : tmps[p]?.getD undef = .pointer (some ⟨g, 0, none⟩) := by simpa using hp
  simp [results, h, hp', asAddr, run_loadVar_row w g t ty cs fr d hg hu hd hi]
theorem res_c3 (h : fn.results = #[.cell p ty, .tmp u, .tmp v, .tmp x]) (hp : tmps.getD p undef = .pointer (some ⟨g, 0, none⟩)) (hg : w.heap[g]? = some (.cells cs t fr)) (hu : P.underlying ty = some d) (hd : (match d with | .struct _ | .array _ _ => true | _ => false) = true) (hi : (P.info? ty).map (·.size) = some cs.size) :
    (results fn tmps).run P w = .ok (.tuple #[.agg cs, tmps.getD u undef, tmps.getD v undef, tmps.getD x undef]) w := by
  have hp' : tmps[p]?.getD undef = .pointer (some ⟨g, 0, none⟩) := by simpa using hp
  simp [results, h, hp', asAddr, run_loadVar_row w g t ty cs fr d hg hu hd hi]
end
theorem sizeD (r : Value) (k : Int) (c : Bool) : (Try.prog.info? 32).map (·.size) = some (dC r k c).size := by
  show _ = some 3
  kernel_rfl
theorem oneD {r : Value} (k : Int) (c : Bool) (h : ∃ g n q, r = Value.slice g n q) : (dC r k c).all (·.oneCell') = true := by
  obtain ⟨g, n, q, rfl⟩ := h
  simp [dC, Value.oneCell']
theorem grR18 {W : World} {g : Nat} {c : Array Value} : W.grownBy (W.setRow g c) (some g) := by
  have hb : Below g W (W.setRow g c) := below4 (Below.refl _ _) (Nat.le_refl _) c
  refine ⟨hb.os, hb.tape, hb.output, hb.size, fun b hbs hne => ?_⟩
  rw [setRow_other _ _ _ _ (fun e => hne (by rw [e]))]
/-- A block of another type outlives what a row grows by. -/
theorem keep_over {W X : World} {B n g s : Nat} {v : Value} {xs : List Value} {t u : TypeId} {c : Array Value} (hg : W.heap[g]? = some (.cells c t)) (own : W.ownsRow B u s v n xs) (gr : W.grownBy X v.ownBlock) (ht : t ≠ u) : X.heap[g]? = some (.cells c t) := by
  rw [gr.block g (Array.getElem?_eq_some_iff.1 hg).1 (fun e => ?_)]
  · exact hg
  · rcases own.2 with ⟨e1, _⟩ | ⟨k, cap, cur, e1, _, hk, _⟩
    · rw [e1] at e; cases e
    · rw [e1] at e
      cases e
      rw [hg] at hk
      cases hk
      exact ht rfl
section
variable {o : Oper} {a : Act} {w : World}
theorem execFd0 {x : Operand} {b k : Nat} (ho : o.op = .fieldAddr 32 x 0) (hx : a.eval x = .pointer (some ⟨b, k, none⟩)) : (execOp a.eval o).run Try.prog w = .ok (.value (.pointer (some ⟨b, k, none⟩))) w := by
  unfold execOp
  simp only [ho, hx]
  simp [go_sem]
theorem execFd1 {x : Operand} {b k : Nat} (ho : o.op = .fieldAddr 32 x 1) (hx : a.eval x = .pointer (some ⟨b, k, none⟩)) : (execOp a.eval o).run Try.prog w = .ok (.value (.pointer (some ⟨b, k + 1, none⟩))) w := by
  unfold execOp
  simp only [ho, hx]
  simp [go_sem]
theorem execFd2 {x : Operand} {b k : Nat} (ho : o.op = .fieldAddr 32 x 2) (hx : a.eval x = .pointer (some ⟨b, k, none⟩)) : (execOp a.eval o).run Try.prog w = .ok (.value (.pointer (some ⟨b, k + 2, none⟩))) w := by
  unfold execOp
  simp only [ho, hx]
  simp [go_sem]
theorem execLd1 {t : TypeId} {x : Operand} {b k : Nat} {v : Value} (ho : o.op = .load t x) (ht : t = 30 ∨ t = 3 ∨ t = 4) (hx : a.eval x = .pointer (some ⟨b, k, none⟩)) (hc : w.cell? ⟨b, k, none⟩ = some v) : (execOp a.eval o).run Try.prog w = .ok (.value v) w := by
  unfold execOp
  rcases ht with rfl | rfl | rfl <;> (simp only [ho, hx]; simp [go_sem, hc])
theorem execLdD {x : Operand} {g : Nat} {r : Value} {k : Int} {c : Bool} (ho : o.op = .load 32 x) (hx : a.eval x = .pointer (some ⟨g, 0, none⟩)) (hg : w.heap[g]? = some (.cells (dC r k c) 32)) : (execOp a.eval o).run Try.prog w = .ok (.value (.agg (dC r k c))) w := by
  obtain ⟨h0, h1, h2⟩ := dC_at hg
  have h := execLoadMid (P := Try.prog) (cs := (dC r k c).toList) ho hx (fun j v hv => by
    match j, hv with
    | 0, hv => exact h0.trans hv
    | 1, hv => exact h1.trans hv
    | 2, hv => exact h2.trans hv
    | j + 3, hv => cases hv) Try.underlying32 rfl (by show _ = some 3; kernel_rfl)
  exact h
theorem execBxD {x : Operand} {r : Value} {k : Int} {c : Bool} (ho : o.op = .box 32 x) (hx : a.eval x = .agg (dC r k c)) (hr : ∃ g n q, r = Value.slice g n q) : (execOp a.eval o).run Try.prog w = .ok (.value (.pointer (some ⟨w.heap.size, 0, none⟩))) (w.alloc (.cells (dC r k c) 32)) := by
  obtain ⟨g, n, q, rfl⟩ := hr
  unfold execOp
  simp only [ho, hx]
  simp [go_sem]
theorem execAlD (ho : o.op = .alloc 32) : (execOp a.eval o).run Try.prog w = .ok (.value (.pointer (some ⟨w.heap.size, 0, none⟩))) (w.alloc (.cells (dC (.slice none 0 0) 0 false) 32)) := by
  unfold execOp
  simp only [ho]
  simp [go_sem, dC]
theorem execStD {x y : Operand} {g : Nat} {r r0 : Value} {k k0 : Int} {c c0 : Bool} (ho : o.op = .store 32 x y) (hx : a.eval x = .pointer (some ⟨g, 0, none⟩)) (hy : a.eval y = .agg (dC r k c)) (hg : w.heap[g]? = some (.cells (dC r0 k0 c0) 32)) (hr : ∃ g n q, r = Value.slice g n q) : (execOp a.eval o).run Try.prog w = .ok .skip (w.setRow g (dC r k c)) := by
  have h := execStMid (P := Try.prog) ho hx hy hg (Nat.le_refl _) (sizeD r k c) (oneD k c hr)
  exact h
theorem execStR {x y : Operand} {g : Nat} {r v : Value} {k : Int} {c : Bool} (ho : o.op = .store 30 x y) (hx : a.eval x = .pointer (some ⟨g, 0, none⟩)) (hy : a.eval y = v) (hg : w.heap[g]? = some (.cells (dC r k c) 32)) (hv : ∃ g n q, v = Value.slice g n q) : (execOp a.eval o).run Try.prog w = .ok .skip (w.setCell ⟨g, 0, none⟩ v) := by
  obtain ⟨g1, n1, q1, rfl⟩ := hv
  have h1 := (dC_at hg).1
  have h2 := frozen4 (o := 0) hg
  unfold execOp
  simp only [ho, hx, hy]
  simp [go_sem, h1, h2]
theorem execStC {x y : Operand} {g : Nat} {r : Value} {k : Int} {c : Bool} (ho : o.op = .store 4 x y) (hx : a.eval x = .pointer (some ⟨g, 0 + 2, none⟩)) (hy : a.eval y = .bool true) (hg : w.heap[g]? = some (.cells (dC r k c) 32)) : (execOp a.eval o).run Try.prog w = .ok .skip (w.setCell ⟨g, 0 + 2, none⟩ (.bool true)) := by
  have h1 := (dC_at hg).2.2
  have h2 := frozen4 (o := 0 + 2) hg
  unfold execOp
  simp only [ho, hx, hy]
  simp [go_sem] at h1 h2
  simp [go_sem, h1, h2]
theorem execEqBB {x y : Operand} {b : Bool} (ho : o.op = .binOp .eql 4 x y 4) (hx : a.eval x = .bool b) (hy : a.eval y = .bool b) : (execOp a.eval o).run Try.prog w = .ok (.value (.bool true)) w := by
  unfold execOp
  simp only [ho, hx, hy]
  simp [go_sem]
theorem execNeBB18 {x y : Operand} {b : Bool} (ho : o.op = .binOp .neq 4 x y 4) (hx : a.eval x = .bool b) (hy : a.eval y = .bool b) : (execOp a.eval o).run Try.prog w = .ok (.value (.bool false)) w := by
  unfold execOp
  simp only [ho, hx, hy]
  simp [go_sem]
theorem execBsZ {x : Operand} {z : Int} (ho : o.op = .buildSlice 30 1 #[(0, x)]) (hx : a.eval x = .int .i64 z) : (execOp a.eval o).run Try.prog w = .ok (.value (.slice (some ⟨w.heap.size, 0, none⟩) 1 1)) (w.alloc (.cells #[.int .i64 z] 3)) := by
  unfold execOp
  simp only [ho, List.map_toArray, List.map_cons, List.map_nil, hx]
  simp [go_sem]
end
theorem dC_set0 {W : World} {g : Nat} {r u : Value} {k : Int} {c : Bool} {t : TypeId} (h : W.heap[g]? = some (.cells (dC r k c) t)) : (W.setCell ⟨g, 0, none⟩ u).heap[g]? = some (.cells (dC u k c) t) := heap4 _ h
theorem dC_set2 {W : World} {g : Nat} {r : Value} {k : Int} {c b : Bool} {t : TypeId} (h : W.heap[g]? = some (.cells (dC r k c) t)) : (W.setCell ⟨g, 0 + 2, none⟩ (.bool b)).heap[g]? = some (.cells (dC r k b) t) := heap4 _ h
/-- What a package of ducts keeps: R W F v x n cap cl: the duct v holds x 0 .. x (n - 1), its memory is the blocks F. -/
structure DImpl (El : Value → Prop) (zv : Value) (fN fP fT fC fL fK fD fU fE : FuncId) where
  R : World → (Nat → Prop) → Value → (Nat → Value) → Nat → Nat → Bool → Prop
  nil : ∀ W x, R W (fun _ => False) (.pointer none) x 0 0 true
  frame : ∀ {W X F v x n k c}, R W F v x n k c → (∀ b, F b → X.heap[b]? = W.heap[b]?) → W.heap.size ≤ X.heap.size → R X F v x n k c
  lt : ∀ {W F v x n k c}, R W F v x n k c → ∀ b, F b → b < W.heap.size
  cg : ∀ {W F v x y n k c}, R W F v x n k c → (∀ j, j < n → x j = y j) → R W F v y n k c
  le : ∀ {W F v x n k c}, R W F v x n k c → n ≤ k ∧ k ≤ 1024
  ptr : ∀ {W F v x n k c}, R W F v x n k c → ∃ p, v = .pointer p
  new : ∀ (s : Int) (V : World) (x : Nat → Value), Calls Try.prog fN #[.int .i64 s] V fun e w' => ((0 ≤ s ∧ s ≤ 1024 → ∃ b F, e = .returned (.tuple #[.pointer (some ⟨b, 0, none⟩), .int .i64 ((0 : Nat) : Int)]) ∧ R w' F (.pointer (some ⟨b, 0, none⟩)) x 0 s.toNat false ∧ ∀ q, F q → V.heap.size ≤ q) ∧ (¬ (0 ≤ s ∧ s ≤ 1024) → e = .returned (.tuple #[.pointer none, .int .i64 ((2 : Nat) : Int)]))) ∧ Below V.heap.size V w'
  put : ∀ {V F v x n k c u}, R V F v x n k c → El u → Calls Try.prog fP #[v, u] V fun e w' => ∃ F', e = .returned (.tuple #[.bool (decide (c = false ∧ n < k)), .int .i64 (((if c then 180 else 0 : Nat) : Nat) : Int)]) ∧ R w' F' v (up x n u) (if c = false ∧ n < k then n + 1 else n) k c ∧ Saved F V w' ∧ ∀ q, F' q → F q ∨ V.heap.size ≤ q
  take : ∀ {V F v x n k c}, R V F v x n k c → Calls Try.prog fT #[v] V fun e w' => ∃ F', e = .returned (.tuple #[if 0 < n then x 0 else zv, .bool (decide (0 < n)), .int .i64 (((if n = 0 ∧ c = true then 180 else 0 : Nat) : Nat) : Int)]) ∧ R w' F' v (fun j => x (j + 1)) (n - 1) k c ∧ Saved F V w' ∧ ∀ q, F' q → F q ∨ V.heap.size ≤ q
  close : ∀ {V F v x n k c}, R V F v x n k c → Calls Try.prog fC #[v] V fun e w' => ∃ F', e = .returned (.int .i64 (((if c then 180 else 0 : Nat) : Nat) : Int)) ∧ R w' F' v x n k true ∧ Saved F V w' ∧ ∀ q, F' q → F q ∨ V.heap.size ≤ q
  len : ∀ {V F v x n k c}, R V F v x n k c → Calls Try.prog fL #[v] V fun e w' => e = .returned (.int .i64 ((n : Nat) : Int)) ∧ Below V.heap.size V w'
  cap : ∀ {V F v x n k c}, R V F v x n k c → Calls Try.prog fK #[v] V fun e w' => e = .returned (.int .i64 ((k : Nat) : Int)) ∧ Below V.heap.size V w'
  closed : ∀ {V F v x n k c}, R V F v x n k c → Calls Try.prog fD #[v] V fun e w' => e = .returned (.bool c) ∧ Below V.heap.size V w'
  canPut : ∀ {V F v x n k c}, R V F v x n k c → Calls Try.prog fU #[v] V fun e w' => e = .returned (.bool (decide (c = false ∧ n < k))) ∧ Below V.heap.size V w'
  canTake : ∀ {V F v x n k c}, R V F v x n k c → Calls Try.prog fE #[v] V fun e w' => e = .returned (.bool (decide (0 < n))) ∧ Below V.heap.size V w'
abbrev ElI (v : Value) : Prop := ∃ z : Int, v = .int .i64 z ∧ I64 z
abbrev ElS (v : Value) : Prop := ∃ s, v = .string s
abbrev ImplI := DImpl ElI (.int .i64 0) 6 20 21 25 22 29 30 27 28
abbrev ImplS := DImpl ElS (.string ⟨#[]⟩) 11 18 17 19 13 12 14 16 15
end Go.Proofs.Ytialghojibjknaa.Duc
