import Derived.Test.YtepdejnholphcaaGreatC9b
import Derived.Test.YtepdejnholphcaaGreatF9c
namespace Go.Proofs.YtepdejnholphcaaGreat.Win
open Go.RowKit Gf8 Aes By8 Cel Cf
/- Windows, epochs and tags in memory; the reference's less, Len, Has. Written by tools/mkC9c.py. -/

abbrev I64 (z : Int) : Prop := -9223372036854775808 ≤ z ∧ z < 9223372036854775808
/-- A window's cells. -/
def wC (nw : Int) (v : Value) : Array Value := #[.int .i64 nw, v]
/-- A list of tags. -/
structure Tgs (W : World) (v : Value) (n : Nat) (t : Nat → Nat → Nat) : Prop where
  shape : ∃ a c, v = .slice a n c ∧ n ≤ c ∧ c < 9223372036854775808 ∧ (0 < n → ∃ b o, a = some ⟨b, o, none⟩ ∧ b < W.heap.size ∧ ∀ j, j < n → ∀ i, i < 16 → W.cell? ⟨b, o + j * 16 + i, none⟩ = some (.int .u8 ((t j i : Nat) : Int)))
  byt : ∀ j, j < n → ∀ i, i < 16 → t j i < 256
  nil : ∀ l c, v = .slice none l c → c = 0
/-- A list of epochs. -/
structure Eps (W : World) (v : Value) (n : Nat) (nu : Nat → Int) (tv : Nat → Value) (ln : Nat → Nat) (t : Nat → Nat → Nat → Nat) : Prop where
  shape : ∃ a c, v = .slice a n c ∧ n ≤ c ∧ c < 9223372036854775808 ∧ (0 < n → ∃ b o, a = some ⟨b, o, none⟩ ∧ b < W.heap.size ∧ ∀ j, j < n → W.cell? ⟨b, o + j * 2 + 0, none⟩ = some (.int .i64 (nu j)) ∧ W.cell? ⟨b, o + j * 2 + 1, none⟩ = some (tv j))
  lists : ∀ j, j < n → Tgs W (tv j) (ln j) (t j)
  nums : ∀ j, j < n → I64 (nu j)
section
variable {W W' : World} {v : Value} {n : Nat} {t : Nat → Nat → Nat}
theorem Tgs.on (h : Tgs W v n t) (hb : Below W.heap.size W W') : Tgs W' v n t := by
  obtain ⟨⟨a, c, e, h1, h2, h3⟩, hp, hz⟩ := h
  refine ⟨⟨a, c, e, h1, h2, fun h0 => ?_⟩, hp, hz⟩
  obtain ⟨b, o, e1, e2, e3⟩ := h3 h0
  exact ⟨b, o, e1, Nat.lt_of_lt_of_le e2 hb.size, fun j hj i hi => by rw [cell_below hb e2]; exact e3 j hj i hi⟩
theorem Tgs.shp (h : Tgs W v n t) : ∃ a c, v = .slice a n c := by
  obtain ⟨a, c, e, _⟩ := h.shape
  exact ⟨a, c, e⟩
theorem Tgs.at (h : Tgs W v n t) (h0 : 0 < n) : ∃ b o c, v = .slice (some ⟨b, o, none⟩) n c ∧ b < W.heap.size ∧ ∀ j, j < n → ∀ i, i < 16 → W.cell? ⟨b, o + j * 16 + i, none⟩ = some (.int .u8 ((t j i : Nat) : Int)) := by
  obtain ⟨a, c, e, _, _, h3⟩ := h.shape
  obtain ⟨b, o, e1, e2, e3⟩ := h3 h0
  exact ⟨b, o, c, by rw [e, e1], e2, e3⟩
end
section
variable {W W' : World} {v : Value} {n : Nat} {nu : Nat → Int} {tv : Nat → Value} {ln : Nat → Nat} {t : Nat → Nat → Nat → Nat}
theorem Eps.on (h : Eps W v n nu tv ln t) (hb : Below W.heap.size W W') : Eps W' v n nu tv ln t := by
  obtain ⟨⟨a, c, e, h1, h2, h3⟩, hl, hn⟩ := h
  refine ⟨⟨a, c, e, h1, h2, fun h0 => ?_⟩, fun j hj => (hl j hj).on hb, hn⟩
  obtain ⟨b, o, e1, e2, e3⟩ := h3 h0
  exact ⟨b, o, e1, Nat.lt_of_lt_of_le e2 hb.size, fun j hj => ⟨by rw [cell_below hb e2]; exact (e3 j hj).1, by rw [cell_below hb e2]; exact (e3 j hj).2⟩⟩
theorem Eps.shp (h : Eps W v n nu tv ln t) : ∃ a c, v = .slice a n c := by
  obtain ⟨a, c, e, _⟩ := h.shape
  exact ⟨a, c, e⟩
theorem Eps.at (h : Eps W v n nu tv ln t) (h0 : 0 < n) : ∃ b o c, v = .slice (some ⟨b, o, none⟩) n c ∧ b < W.heap.size ∧ ∀ j, j < n → W.cell? ⟨b, o + j * 2 + 0, none⟩ = some (.int .i64 (nu j)) ∧ W.cell? ⟨b, o + j * 2 + 1, none⟩ = some (tv j) := by
  obtain ⟨a, c, e, _, _, h3⟩ := h.shape
  obtain ⟨b, o, e1, e2, e3⟩ := h3 h0
  exact ⟨b, o, c, by rw [e, e1], e2, e3⟩
end
theorem on9 {W X : World} {g : Nat} {c : Obj} (h : W.heap[g]? = some c) (b : Below W.heap.size W X) : X.heap[g]? = some c := by rw [b.block _ (Array.getElem?_eq_some_iff.1 h).1]; exact h
theorem execDec {o : Oper} {a : Act} {P : Program} {w w' : World} {b c : Bool} (h : (execOp a.eval o).run P w = .ok (.value (.bool b)) w') (e : b = c) : (execOp a.eval o).run P w = .ok (.value (.bool c)) w' := by rw [h, e]
section
variable {o : Oper} {a : Act} {w : World} {x y : Operand} {p q : Nat}
theorem execEqN (ho : o.op = .binOp .eql 3 x y 3) (hx : a.eval x = .int .i64 (p : Int)) (hy : a.eval y = .int .i64 (q : Int)) : (execOp a.eval o).run Tryz.prog w = .ok (.value (.bool (decide (p = q)))) w := by
  unfold execOp
  simp only [ho, hx, hy]
  by_cases h : p = q
  · subst h
    simp [go_sem]
  · have h2 : ¬ (p : Int) = q := by omega
    simp [go_sem, h, h2]
theorem execNeN (ho : o.op = .binOp .neq 3 x y 3) (hx : a.eval x = .int .i64 (p : Int)) (hy : a.eval y = .int .i64 (q : Int)) : (execOp a.eval o).run Tryz.prog w = .ok (.value (.bool (decide (p ≠ q)))) w := by
  unfold execOp
  simp only [ho, hx, hy]
  by_cases h : p = q
  · subst h
    simp [go_sem]
  · have h2 : ¬ (p : Int) = q := by omega
    simp [go_sem, h, h2]
end
theorem at16 {W : World} {g j : Nat} {f : Nat → Nat} {t : TypeId} (h : W.heap[g]? = some (.cells (bA 16 f) t)) (hj : j < 16) : W.cell? ⟨g, 0 + j, none⟩ = some (.int .u8 ((f j : Nat) : Int)) := by
  rw [cell_of_row _ _ _ _ _ _ h, Nat.zero_add]
  exact bA_at 16 f hj
theorem wC_0 {W : World} {g : Nat} {nw : Int} {v : Value} {t : TypeId} (h : W.heap[g]? = some (.cells (wC nw v) t)) : W.cell? ⟨g, 0, none⟩ = some (.int .i64 nw) := by rw [cell_of_row _ _ _ _ _ _ h]; rfl
theorem wC_1 {W : World} {g : Nat} {nw : Int} {v : Value} {t : TypeId} (h : W.heap[g]? = some (.cells (wC nw v) t)) : W.cell? ⟨g, 1, none⟩ = some v := by rw [cell_of_row _ _ _ _ _ _ h]; rfl
section
variable {o : Oper} {a : Act} {w : World}
theorem execBox16 {x : Operand} {f : Nat → Nat} (ho : o.op = .box 66 x) (hx : a.eval x = .agg (bA 16 f)) : (execOp a.eval o).run Tryz.prog w = .ok (.value (.pointer (some ⟨w.heap.size, 0, none⟩))) (w.alloc (.cells (bA 16 f) 66)) := by
  unfold execOp
  simp only [ho, hx]
  simp [go_sem]
theorem execBoxW {x : Operand} {nw : Int} {v : Value} (ho : o.op = .box 27 x) (hx : a.eval x = .agg (wC nw v)) : (execOp a.eval o).run Tryz.prog w = .ok (.value (.pointer (some ⟨w.heap.size, 0, none⟩))) (w.alloc (.cells (wC nw v) 27)) := by
  unfold execOp
  simp only [ho, hx]
  simp [go_sem, wC]
theorem execFldW0 {x : Operand} {b : Nat} (ho : o.op = .fieldAddr 27 x 0) (hx : a.eval x = .pointer (some ⟨b, 0, none⟩)) : (execOp a.eval o).run Tryz.prog w = .ok (.value (.pointer (some ⟨b, 0, none⟩))) w := by
  unfold execOp
  simp only [ho, hx]
  simp [go_sem]
theorem execFldW1 {x : Operand} {b : Nat} (ho : o.op = .fieldAddr 27 x 1) (hx : a.eval x = .pointer (some ⟨b, 0, none⟩)) : (execOp a.eval o).run Tryz.prog w = .ok (.value (.pointer (some ⟨b, 1, none⟩))) w := by
  unfold execOp
  simp only [ho, hx]
  simp [go_sem]
theorem execFldE0 {x : Operand} {b k : Nat} (ho : o.op = .fieldAddr 57 x 0) (hx : a.eval x = .pointer (some ⟨b, k, none⟩)) : (execOp a.eval o).run Tryz.prog w = .ok (.value (.pointer (some ⟨b, k + 0, none⟩))) w := by
  unfold execOp
  simp only [ho, hx]
  simp [go_sem]
theorem execFldE1 {x : Operand} {b k : Nat} (ho : o.op = .fieldAddr 57 x 1) (hx : a.eval x = .pointer (some ⟨b, k, none⟩)) : (execOp a.eval o).run Tryz.prog w = .ok (.value (.pointer (some ⟨b, k + 1, none⟩))) w := by
  unfold execOp
  simp only [ho, hx]
  simp [go_sem]
theorem execIdxT {x i : Operand} {g k : Nat} (ho : o.op = .indexAddr 66 x i) (hx : a.eval x = .pointer (some ⟨g, 0, none⟩)) (hi : a.eval i = .int .i64 ((k : Nat) : Int)) (hk : k < 16) : (execOp a.eval o).run Tryz.prog w = .ok (.value (.pointer (some ⟨g, k, none⟩))) w := by
  have h : ((k : Nat) : Int) < 16 := by omega
  unfold execOp
  simp only [ho, hx, hi]
  simp [go_sem, h]
theorem execIdxEs {x i : Operand} {b off n cap k : Nat} (ho : o.op = .indexAddr 25 x i) (hx : a.eval x = .slice (some ⟨b, off, none⟩) n cap) (hi : a.eval i = .int .i64 ((k : Nat) : Int)) (hk : k < n) : (execOp a.eval o).run Tryz.prog w = .ok (.value (.pointer (some ⟨b, off + k * 2, none⟩))) w := by
  unfold execOp
  simp only [ho, hx, hi]
  simp [go_sem, hk]
theorem execIdxTs {x i : Operand} {b off n cap k : Nat} (ho : o.op = .indexAddr 55 x i) (hx : a.eval x = .slice (some ⟨b, off, none⟩) n cap) (hi : a.eval i = .int .i64 ((k : Nat) : Int)) (hk : k < n) : (execOp a.eval o).run Tryz.prog w = .ok (.value (.pointer (some ⟨b, off + k * 16, none⟩))) w := by
  unfold execOp
  simp only [ho, hx, hi]
  simp [go_sem, hk]
theorem execLenEs {x : Operand} {v : Value} {len : Nat} (ho : o.op = .call { callee := .builtin .len, args := #[x], argTypes := #[25] }) (hx : a.eval x = v) (hv : ∃ ao c, v = .slice ao len c) : (execOp a.eval o).run Tryz.prog w = .ok (.value (.int .i64 (len : Int))) w := by
  obtain ⟨g, c, rfl⟩ := hv
  unfold execOp
  simp only [ho, resolve, invoke, builtin, List.map_toArray, List.map_cons, List.map_nil, hx]
  simp [go_sem]
theorem execLenTs {x : Operand} {v : Value} {len : Nat} (ho : o.op = .call { callee := .builtin .len, args := #[x], argTypes := #[55] }) (hx : a.eval x = v) (hv : ∃ ao c, v = .slice ao len c) : (execOp a.eval o).run Tryz.prog w = .ok (.value (.int .i64 (len : Int))) w := by
  obtain ⟨g, c, rfl⟩ := hv
  unfold execOp
  simp only [ho, resolve, invoke, builtin, List.map_toArray, List.map_cons, List.map_nil, hx]
  simp [go_sem]
theorem execLdEs {x : Operand} {b k : Nat} {v : Value} (ho : o.op = .load 25 x) (hx : a.eval x = .pointer (some ⟨b, k, none⟩)) (hc : w.cell? ⟨b, k, none⟩ = some v) : (execOp a.eval o).run Tryz.prog w = .ok (.value v) w := by
  unfold execOp
  simp only [ho, hx]
  simp [go_sem, hc]
theorem execLdTs {x : Operand} {b k : Nat} {v : Value} (ho : o.op = .load 55 x) (hx : a.eval x = .pointer (some ⟨b, k, none⟩)) (hc : w.cell? ⟨b, k, none⟩ = some v) : (execOp a.eval o).run Tryz.prog w = .ok (.value v) w := by
  unfold execOp
  simp only [ho, hx]
  simp [go_sem, hc]
theorem execLd2 {x : Operand} {b k : Nat} {v : Value} (ho : o.op = .load 2 x) (hx : a.eval x = .pointer (some ⟨b, k, none⟩)) (hc : w.cell? ⟨b, k, none⟩ = some v) : (execOp a.eval o).run Tryz.prog w = .ok (.value v) w := by
  unfold execOp
  simp only [ho, hx]
  simp [go_sem, hc]
theorem neq5 {x y : Operand} {p q : Nat} (ho : o.op = .binOp .neq 5 x y 5) (hx : a.eval x = .int .u8 ((p : Nat) : Int)) (hy : a.eval y = .int .u8 ((q : Nat) : Int)) : (execOp a.eval o).run Tryz.prog w = .ok (.value (.bool (decide (p ≠ q)))) w := by
  unfold execOp
  simp only [ho, hx, hy]
  by_cases h : p = q
  · subst h; simp [go_sem]
  · have h2 : ¬ ((p : Nat) : Int) = ((q : Nat) : Int) := by omega
    simp [go_sem, h, h2]
theorem execneq5t {x y : Operand} {p q : Nat} (ho : o.op = .binOp .neq 5 x y 5) (hx : a.eval x = .int .u8 ((p : Nat) : Int)) (hy : a.eval y = .int .u8 ((q : Nat) : Int)) (h : p ≠ q) : (execOp a.eval o).run Tryz.prog w = .ok (.value (.bool true)) w := by
  rw [← decide_eq_true h]; exact neq5 ho hx hy
theorem execneq5f {x y : Operand} {p q : Nat} (ho : o.op = .binOp .neq 5 x y 5) (hx : a.eval x = .int .u8 ((p : Nat) : Int)) (hy : a.eval y = .int .u8 ((q : Nat) : Int)) (h : ¬ p ≠ q) : (execOp a.eval o).run Tryz.prog w = .ok (.value (.bool false)) w := by
  rw [← decide_eq_false h]; exact neq5 ho hx hy
theorem execLs5 {x y : Operand} {p q : Nat} (ho : o.op = .binOp .lss 5 x y 5) (hx : a.eval x = .int .u8 ((p : Nat) : Int)) (hy : a.eval y = .int .u8 ((q : Nat) : Int)) : (execOp a.eval o).run Tryz.prog w = .ok (.value (.bool (decide (p < q)))) w := by
  unfold execOp
  simp only [ho, hx, hy]
  simp [go_sem]
end
theorem tv_at {f g : Nat → Nat} {i : Nat} (hf : ∀ i, i < 16 → f i < 256) (hg : ∀ i, i < 16 → g i < 256) (hi : i < 16) (he : ∀ j, j < i → f j = g j) (hn : f i ≠ g i) : decide (f i < g i) = decide (tv f 16 < tv g 16) := by
  by_cases h : f i < g i
  · rw [decide_eq_true h, decide_eq_true (tv_lt hf 16 i hi (Nat.le_refl _) he h)]
  · have h2 := tv_lt (b := g) (c := f) hg 16 i hi (Nat.le_refl _) (fun j hj => (he j hj).symm) (by omega)
    rw [decide_eq_false h, decide_eq_false (by omega)]
theorem ld16 {W : World} {g j : Nat} {f : Nat → Nat} {t : TypeId} (h : W.heap[g]? = some (.cells (bA 16 f) t)) (hj : j < 16) : W.cell? ⟨g, j, none⟩ = some (.int .u8 ((f j : Nat) : Int)) := by
  rw [cell_of_row _ _ _ _ _ _ h]
  exact bA_at 16 f hj
set_option maxRecDepth 100000 in
set_option maxHeartbeats 4000000 in
/-- The reference's less. -/
theorem rless (f g : Nat → Nat) (V : World) (hf : ∀ i, i < 16 → f i < 256) (hg : ∀ i, i < 16 → g i < 256) :
    Calls Tryz.prog 26 #[.agg (bA 16 f), .agg (bA 16 g)] V fun e w' => e = .returned (.bool (decide (tv f 16 < tv g 16))) ∧ Below V.heap.size V w' := by
  go_enter Tryz.func26, Tryz.ntmps26
  refine wo_ 24 [(0, .agg (bA 16 f)), (1, .agg (bA 16 g))] ?_
  rintro a A ⟨t0, t1, -⟩
  have BW : Below V.heap.size V V := Below.refl _ _
  refine wp_seq ?_
  obtain ⟨g2, egg2⟩ : ∃ z_ : Nat, V.heap.size = z_ := ⟨_, rfl⟩
  refine wi_ A (h2_ t0 t1) (rs_ 0 (fun a ee => ?_))
  refine stepV rfl rfl (execBox16 rfl (ee _)) ⟨.pointer (some ⟨g2, 0, none⟩), ⟨_, rfl, by subst egg2; rfl⟩, fun X0_1 hX => ?_⟩
  have bQ : Below V.heap.size V X0_1 := by subst hX egg2; exact (belNew V _)
  have Fg2 : (X0_1.heap[g2]? = some (.cells (bA 16 f) 66)) := by subst hX egg2; exact heapNew V _
  have bX := bQ
  clear bQ hX egg2 ee a
  obtain ⟨g3, egg3⟩ : ∃ z_ : Nat, X0_1.heap.size = z_ := ⟨_, rfl⟩
  refine rs_ 1 (fun a ee => ?_)
  refine stepV rfl rfl (execBox16 rfl (ee _)) ⟨.pointer (some ⟨g3, 0, none⟩), ⟨_, rfl, by subst egg3; rfl⟩, fun X0 hX => ?_⟩
  have bQ : Below X0_1.heap.size X0_1 X0 := by subst hX egg3; exact (belNew X0_1 _)
  have Fg3 : (X0.heap[g3]? = some (.cells (bA 16 g) 66)) := by subst hX egg3; exact heapNew X0_1 _
  replace Fg2 := (on9 Fg2 bQ)
  replace bX := bX.trans (bQ.mono bX.size)
  clear bQ hX egg3 ee a
  refine rg_ [(2, .pointer (some ⟨g2, 0, none⟩)), (3, .pointer (some ⟨g3, 0, none⟩))] ?_
  rintro a A ⟨t2, t3, -⟩
  have ZX0 := bX.size
  replace BW := BW.trans (bX.mono BW.size)
  clear bX
  have BB : Below X0.heap.size X0 X0 := Below.refl _ _
  refine wp_seq ?_
  refine wp_seq ?_
  refine wi_ A (h2_ t2 t3) (rf_ [(5, .int .i64 ((0 : Nat) : Int))] (h2_ t2 t3) ?_)
  rintro a A ⟨t5, -⟩ ⟨t2, t3, -⟩
  refine wp_block ?_
  refine wp_loop (fun a W => ∃ (i : Nat), i ≤ 16 ∧ (∀ j, j < i → f j = g j) ∧ (a.tmps.size = 24 ∧ a.defers = []) ∧ a.eval (.tmp 2) = .pointer (some ⟨g2, 0, none⟩) ∧ a.eval (.tmp 3) = .pointer (some ⟨g3, 0, none⟩) ∧ a.eval (.tmp 5) = .int .i64 ((i : Nat) : Int) ∧ Below X0.heap.size X0 W) (fun a _ => 16 - (intOf (a.eval (.tmp 5))).toNat) ⟨0, Nat.zero_le _, fun j h => absurd h (Nat.not_lt_zero j), A, t2, t3, t5, BB⟩ ?_
  clear A t2 t3 t5 BB a
  rintro a XL2 ⟨i, hi, heq, A, t2, t3, t5, BB⟩
  have esi := t5
  refine wp_seq ?_
  refine wp_seq ?_
  refine wi_ A (h3_ t2 t3 t5) (rv_ 1 (.bool (decide (i < 16))) (fun a ee => execLtW (p := i) (q := 16) rfl (ee _) rfl) (rf_ [(7, .bool (decide (i < 16)))] (h3_ t2 t3 t5) ?_))
  rintro a A ⟨t7, -⟩ ⟨t2, t3, t5, -⟩
  by_cases lti : i < 16
  · rw [decide_eq_true lti] at t7
    refine wp_cond_true t7 ?_
    refine wp_skip ?_
    clear t7
    refine wp_seq ?_
    refine wp_block ?_
    by_cases hne : f i ≠ g i
    · refine wp_seq ?_
      refine wj_ [0, 1, 2, 3, 4, 5, 6] [] [2, 5] [] A (h3_ t2 t3 t5) (fun X4 bD => ?_)
      refine dw_ 1 (.pointer (some ⟨g2, i, none⟩)) (fun a X ee => execIdxT (k := i) rfl (ee _) (ee _) lti) (dv_ 2 (.int .u8 ((f i : Nat) : Int)) (fun a X ee hb => execLdB rfl (ee _) (ld16 (on9 Fg2 (BB.trans (hb.mono BB.size))) lti)) (dw_ 4 (.pointer (some ⟨g3, i, none⟩)) (fun a X ee => execIdxT (k := i) rfl (ee _) (ee _) lti) (dv_ 5 (.int .u8 ((g i : Nat) : Int)) (fun a X ee hb => execLdB rfl (ee _) (ld16 (on9 Fg3 (BB.trans (hb.mono BB.size))) lti)) (dw_ 6 (.bool true) (fun a X ee => execneq5t (p := f i) (q := g i) rfl (ee _) (ee _) hne) (dz_ [(16, .bool true)] (h3_ t2 t3 t5) ?_)))))
      rintro a A ⟨t16, -⟩ ⟨t2, t3, t5, -⟩
      replace BB := BB.trans (bD.mono BB.size)
      clear bD
      refine wp_cond_true t16 ?_
      clear t16
      refine wp_seq ?_
      refine wj_ [0, 1, 2, 3, 4, 5, 6, 7] [] [2, 5] [] A (h3_ t2 t3 t5) (fun X5 bD => ?_)
      refine dw_ 1 (.pointer (some ⟨g2, i, none⟩)) (fun a X ee => execIdxT (k := i) rfl (ee _) (ee _) lti) (dv_ 2 (.int .u8 ((f i : Nat) : Int)) (fun a X ee hb => execLdB rfl (ee _) (ld16 (on9 Fg2 (BB.trans (hb.mono BB.size))) lti)) (dw_ 4 (.pointer (some ⟨g3, i, none⟩)) (fun a X ee => execIdxT (k := i) rfl (ee _) (ee _) lti) (dv_ 5 (.int .u8 ((g i : Nat) : Int)) (fun a X ee hb => execLdB rfl (ee _) (ld16 (on9 Fg3 (BB.trans (hb.mono BB.size))) lti)) (dw_ 6 (.bool (decide (f i < g i))) (fun a X ee => execLs5 (p := f i) (q := g i) rfl (ee _) (ee _)) (dy_ [(4, .bool (decide (f i < g i)))] ?_)))))
      rintro a A ⟨t4, -⟩
      replace BB := BB.trans (bD.mono BB.size)
      clear bD
      have BW2 := BW.trans (BB.mono BW.size)
      refine wp_ret ?_
      repeat (first | with_reducible refine ret_in ?_ | with_reducible refine ret_then ?_)
      refine bodyPost_ret (results_tmp rfl _ _ _) A.2 ⟨?_, BW2⟩
      show Ending.returned (a.eval (.tmp 4)) = _
      rw [t4]
      rw [tv_at hf hg lti heq hne]
    · refine wp_seq ?_
      refine wj_ [0, 1, 2, 3, 4, 5, 6] [] [2, 5] [] A (h3_ t2 t3 t5) (fun X4 bD => ?_)
      refine dw_ 1 (.pointer (some ⟨g2, i, none⟩)) (fun a X ee => execIdxT (k := i) rfl (ee _) (ee _) lti) (dv_ 2 (.int .u8 ((f i : Nat) : Int)) (fun a X ee hb => execLdB rfl (ee _) (ld16 (on9 Fg2 (BB.trans (hb.mono BB.size))) lti)) (dw_ 4 (.pointer (some ⟨g3, i, none⟩)) (fun a X ee => execIdxT (k := i) rfl (ee _) (ee _) lti) (dv_ 5 (.int .u8 ((g i : Nat) : Int)) (fun a X ee hb => execLdB rfl (ee _) (ld16 (on9 Fg3 (BB.trans (hb.mono BB.size))) lti)) (dw_ 6 (.bool false) (fun a X ee => execneq5f (p := f i) (q := g i) rfl (ee _) (ee _) hne) (dz_ [(16, .bool false)] (h3_ t2 t3 t5) ?_)))))
      rintro a A ⟨t16, -⟩ ⟨t2, t3, t5, -⟩
      replace BB := BB.trans (bD.mono BB.size)
      clear bD
      refine wp_cond_false t16 ?_
      refine wp_skip ?_
      clear t16
      refine wi_ A (h3_ t2 t3 t5) (rv_ 1 (.int .i64 ((i + 1 : Nat) : Int)) (fun a ee => execAd8 (p := i) (q := 1) rfl (ee _) rfl (by omega)) (rf_ [(5, .int .i64 ((i + 1 : Nat) : Int))] (h2_ t2 t3) ?_))
      rintro a A ⟨t5, -⟩ ⟨t2, t3, -⟩
      exact ⟨⟨i + 1, lti, fun j hj => by rcases Nat.lt_or_eq_of_le (Nat.le_of_lt_succ hj) with h_ | h_; exact heq j h_; exact h_ ▸ Classical.not_not.1 hne, A, t2, t3, t5, BB⟩, by show 16 - (intOf (a.eval (.tmp 5))).toNat < 16 - (intOf (Act.eval _ (.tmp 5))).toNat; rw [t5, esi]; show 16 - (i + 1) < 16 - i; omega⟩
  · rw [decide_eq_false lti] at t7
    refine wp_cond_false t7 ?_
    refine wp_exit ?_
    first | with_reducible refine exit_in ?_ | with_reducible refine exit_then (exit_in ?_) | with_reducible refine exit_then (exit_then (exit_in ?_)) | refine exit_in ?_ | refine exit_then (exit_in ?_) | refine exit_then (exit_then (exit_in ?_))
    clear t7 esi
    obtain rfl : i = 16 := by omega
    have BW2 := BW.trans (BB.mono BW.size)
    refine wp_seq ?_
    refine wi_ A (h3_ t2 t3 t5) (rg_ [(4, .bool false)] ?_)
    rintro a A ⟨t4, -⟩
    refine wp_ret ?_
    refine bodyPost_ret (results_tmp rfl _ _ _) A.2 ⟨?_, BW2⟩
    show Ending.returned (a.eval (.tmp 4)) = _
    rw [t4]
    rw [tv_eq heq]
    simp
end Go.Proofs.YtepdejnholphcaaGreat.Win
