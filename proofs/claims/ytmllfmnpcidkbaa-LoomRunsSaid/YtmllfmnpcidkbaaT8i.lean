import Derived.Test.YtmllfmnpcidkbaaT8h
namespace Go.Proofs.Ytmllfmnpcidkbaa.Loo
open Go.RowKit Gf8 Aes By8 Cel Cf Win Drw Prm
/- LoomRuns: logs that are new, the shams cut, what played leaves. -/

set_option maxRecDepth 100000 in
theorem infSm : ∃ i, Try.prog.info? 45 = some i ∧ i.size = 4 := ⟨_, rfl, by kernel_rfl⟩
set_option maxRecDepth 100000 in
theorem infI19 : ∃ i, Try.prog.info? 3 = some i ∧ i.zero = some (.int .i64 0) ∧ i.size = 1 ∧ i.bytes = 8 := ⟨_, rfl, by kernel_rfl, by kernel_rfl, by kernel_rfl⟩
section
variable {o : Oper} {a : Act} {w : World}
theorem execMkI2 {x y : Operand} {n : Nat} (ho : o.op = .makeSlice 22 x y) (hx : a.eval x = .int .i64 ((n : Nat) : Int)) (hy : a.eval y = .int .i64 ((n : Nat) : Int)) (hn : n ≤ 1024) : (execOp a.eval o).run Try.prog w = .ok (.value (.slice (some ⟨w.heap.size, 0, none⟩) n n)) (w.alloc (.cells (madeCells #[.int .i64 0] n) 3)) := by
  obtain ⟨i, h1, h2, h3, h4⟩ := infI19
  have h := run_make (P := Try.prog) w 22 3 i (.int .i64 0) Try.underlying22 h1 h2 .i64 .i64 (n : Int) (n : Int) (by omega) (by omega) (by rw [h4]; omega) (by omega)
  rw [h3, Int.toNat_natCast, Nat.mul_one] at h
  unfold execOp
  simp only [ho, hx, hy, Sem.run_bind, h, Result.andThen_ok, Sem.run_pure]
  rfl
theorem execBg {x y : Operand} {b c n k l j : Nat} (ho : o.op = .build 40 #[(1, x), (2, y)]) (hx : a.eval x = .slice (some ⟨b, 0, none⟩) n k) (hy : a.eval y = .slice (some ⟨c, 0, none⟩) l j) : (execOp a.eval o).run Try.prog w = .ok (.value (.agg (gC (.slice none 0 0) (.slice (some ⟨b, 0, none⟩) n k) (.slice (some ⟨c, 0, none⟩) l j)))) w := by
  unfold execOp
  simp only [ho, List.map_toArray, List.map_cons, List.map_nil, hx, hy]
  kernel_rfl
theorem execBxG {x : Operand} {b c n k l j : Nat} (ho : o.op = .box 40 x) (hx : a.eval x = .agg (gC (.slice none 0 0) (.slice (some ⟨b, 0, none⟩) n k) (.slice (some ⟨c, 0, none⟩) l j))) : (execOp a.eval o).run Try.prog w = .ok (.value (.pointer (some ⟨w.heap.size, 0, none⟩))) (w.alloc (.cells (gC (.slice none 0 0) (.slice (some ⟨b, 0, none⟩) n k) (.slice (some ⟨c, 0, none⟩) l j)) 40)) := by
  unfold execOp
  simp only [ho, hx, gC]
  simp [go_sem]
theorem execBxM {x : Operand} {v : Value} (ho : o.op = .box 37 x) (hx : a.eval x = v) (hv : ∃ a n c, v = .slice a n c) : (execOp a.eval o).run Try.prog w = .ok (.value (.pointer (some ⟨w.heap.size, 0, none⟩))) (w.alloc (.cells #[v] 37)) := by
  obtain ⟨_, _, _, rfl⟩ := hv
  unfold execOp
  simp only [ho, hx]
  simp [go_sem]
theorem execAlG (ho : o.op = .alloc 38) : (execOp a.eval o).run Try.prog w = .ok (.value (.pointer (some ⟨w.heap.size, 0, none⟩))) (w.alloc (.cells #[.pointer none] 38)) := by
  unfold execOp
  simp only [ho]
  simp [go_sem]
theorem execMinZ {x y : Operand} {p : Int} (ho : o.op = .call { callee := .builtin .min, args := #[x, y], argTypes := #[3, 3] }) (hx : a.eval x = .int .i64 p) (hy : a.eval y = .int .i64 500) : (execOp a.eval o).run Try.prog w = .ok (.value (.int .i64 (min p 500))) w := by
  unfold execOp
  simp only [ho]
  simp [go_sem] at hx hy ⊢
  simp [hx, hy, go_sem]
  split <;> omega
theorem execSl200 {x : Operand} {b off n c : Nat} (ho : o.op = .slice 37 x none (some (.const (.int .i64 200))) none) (hx : a.eval x = .slice (some ⟨b, off, none⟩) n c) (hc : 200 ≤ c) : (execOp a.eval o).run Try.prog w = .ok (.value (.slice (some ⟨b, off, none⟩) 200 c)) w := by
  obtain ⟨i, i1, i2⟩ := infSm
  have e1 : (200 : Int) ≤ c := by omega
  have h : (Instr.sliceAt 37 (.slice (some ⟨b, off, none⟩) n c) none (some (.int .i64 200)) none).run Try.prog w = .ok (.slice (some ⟨b, off, none⟩) 200 c) w := by
    simp [Instr.sliceAt, Instr.slice, run_underlying Try.underlying37, Instr.sliceBounds, run_sliceBound, e1, sizeOf, typeInfo, i1, Addr.add_mid]
  have ec : a.eval (.const (.int .i64 200)) = .int .i64 200 := rfl
  unfold execOp
  simp only [ho, hx, Option.map_none, Option.map_some, ec, Sem.run_bind, h, Result.andThen_ok, Sem.run_pure]
end
theorem ShL.take {w : World} {v : Value} {D : Sd} (h : ShL w v D) (h2 : 200 < D.n) : ∃ b off c, v = .slice (some ⟨b, off, none⟩) D.n c ∧ ∀ k, ShL w (.slice (some ⟨b, off, none⟩) 200 k) { D with n := 200 } := by
  obtain ⟨b, off, c, y, e, hb, hy, hc⟩ := h.at (by omega)
  exact ⟨b, off, c, e, fun k => ⟨_, _, rfl, y, fun t ht => hy t (Nat.lt_trans ht h2), fun _ => ⟨b, off, rfl, hb, fun t ht => hc t (Nat.lt_trans ht h2)⟩⟩⟩
theorem own_made {W : World} {B g n : Nat} (h : W.heap[g]? = some (.cells (madeCells #[.int .i64 0] n) 3)) (hB : B ≤ g) (hn : n ≤ 1024) : W.ownsRow B 3 1 (.slice (some ⟨g, 0, none⟩) n n) n (intsL n (natF fun _ => 0)) := by
  refine ⟨by rw [intsL_len, Nat.mul_one], Or.inr ⟨g, n, _, rfl, hB, h, Nat.le_refl _, by unfold maxLen; omega, by simp [madeCells], ?_⟩⟩
  apply List.ext_getElem?
  intro j
  by_cases hj : j < n
  · rw [List.getElem?_take_of_lt (by omega), intsL_get hj, Array.getElem?_toList]
    simp [madeCells, hj, Nat.mod_one]
  · rw [List.getElem?_eq_none (by simp [madeCells]; omega), List.getElem?_eq_none (by rw [intsL_len]; omega)]
/-- A log that is new. -/
abbrev Lf0 (g p q n : Nat) : Nat → Prop := Lf g (.slice none 0 0) (.slice (some ⟨p, 0, none⟩) n n) (.slice (some ⟨q, 0, none⟩) n n)
theorem lg_new {W : World} {B g p q n : Nat} (h1 : W.heap[p]? = some (.cells (madeCells #[.int .i64 0] n) 3)) (h2 : W.heap[q]? = some (.cells (madeCells #[.int .i64 0] n) 3)) (h3 : W.heap[g]? = some (.cells (gC (.slice none 0 0) (.slice (some ⟨p, 0, none⟩) n n) (.slice (some ⟨q, 0, none⟩) n n)) 40)) (hp : B ≤ p) (hq : B ≤ q) (hg : B ≤ g) (hpq : p ≠ q) (hn : n ≤ 1024) : LgR B W (Lf0 g p q n) g n lg0 := by
  refine ⟨_, _, _, ⟨h3, hg, World.ownsRow_nil _ _ _ _, own_made h1 hp hn, own_made h2 hq hn, fun b e => (by cases e), fun b e => (by cases e), fun b e w => ?_⟩, fun b => Iff.rfl⟩
  cases e
  cases w
  exact hpq rfl
/-- Behind played. -/
structure RnM (V W : World) (g3 g8 ga gb : Nat) (sv pk : Value) (D : Sd) (xa : Lg) (pl : List Nat) (Fa Fb : Nat → Prop) : Prop where
  bel : Below V.heap.size V W
  h3 : W.heap[g3]? = some (.cells #[sv] 37)
  h8 : W.heap[g8]? = some (.cells #[.pointer (some ⟨gb, 0, none⟩)] 38)
  la : LgR V.heap.size W Fa ga D.n xa
  lb : LgR V.heap.size W Fb gb D.n lg0
  op : W.ownsRow V.heap.size 3 1 pk pl.length (intsL pl.length (caF pl))
  ab : ∀ b, Fa b → ¬ Fb b
  pa : ∀ b, pk.ownBlock = some b → ¬ Fb b
  o3 : ¬ Fa g3 ∧ ¬ Fb g3
  o8 : ¬ Fa g8 ∧ ¬ Fb g8
  ge : V.heap.size ≤ g3 ∧ V.heap.size ≤ g8
section
variable {V W X : World} {g3 g8 g9 ga gb : Nat} {sv pk cv : Value} {D : Sd} {xa : Lg} {pl : List Nat} {en st : Bool} {Fa Fb : Nat → Prop} {m : Nat} {sc : Nat → Int} {most : Int}
theorem RnM.fin (h : RnM V W g3 g8 ga gb sv pk D xa pl Fa Fb) (b : Below W.heap.size W X) (h9 : X.heap[g9]? = some (.cells (hC pk 0 en st 0 (.slice none 0 0)) 29)) (hg : W.heap.size ≤ g9) : Rn V X g3 g8 g9 ga gb sv pk D xa pl en st Fa Fb :=
  ⟨h.bel.trans (b.mono h.bel.size), on9 h.h3 b, on9 h.h8 b, h9, h.la.on b, h.lb.on b, ownD_below h.op b, h.ab, h.pa, h.o3, h.o8, fun w => Nat.not_lt.2 hg (h.lb.lt _ w), h.ge⟩
theorem runs_played (hb : Below V.heap.size V W) (h3 : W.heap[g3]? = some (.cells #[sv] 37)) (h8 : W.heap[g8]? = some (.cells #[.pointer (some ⟨gb, 0, none⟩)] 38)) (la : LgR V.heap.size W Fa ga D.n lg0) (lb : LgR V.heap.size W Fb gb D.n lg0) (ab : ∀ b, Fa b → ¬ Fb b) (o3 : ¬ Fa g3 ∧ ¬ Fb g3) (o8 : ¬ Fa g8 ∧ ¬ Fb g8) (ge : V.heap.size ≤ g3 ∧ V.heap.size ≤ g8) (hP : ShL V sv D) (hn : D.n ≤ 1000) (hS : SliceI V cv m sc) (hmo : most ≤ 1000) :
    Calls Try.prog 9 #[.pointer (some ⟨ga, 0, none⟩), sv, cv, .int .i64 most] W fun e w' => ∃ pk Fa2, e = .returned (.agg (hC pk 0 (gE D (gO V gb g8 g3 sv D hP hn m sc most)) (gS D (gO V gb g8 g3 sv D hP hn m sc most)) 0 (.slice none 0 0))) ∧ RnM V w' g3 g8 ga gb sv pk D (gO V gb g8 g3 sv D hP hn m sc most).2.2.1 (gO V gb g8 g3 sv D hP hn m sc most).1 Fa2 Fb := by
  refine Calls.mono (lplayed (shS V gb g8 g3 (fun _ => 0) sv D hP hn) ga D.n sv cv D m sc most lg0 Fa V W shS_is hb la hP hS rfl hn hmo ⟨rfl, fun _ => rfl, fun _ => rfl⟩) ?_
  rintro e w' ⟨pk, F2, he, ho, hl, hs, hf, hk, hB⟩
  have l3 := (Array.getElem?_eq_some_iff.1 h3).1
  have l8 := (Array.getElem?_eq_some_iff.1 h8).1
  refine ⟨pk, F2, he, hB, bk_sv19 h3 hs o3.1, bk_sv19 h8 hs o8.1, hl, lb.keep fun b w => hs.block b (lb.lt b w) (fun z => ab b z w), ho, fun b w z => ?_, fun b w z => ?_, ⟨fun w => ?_, o3.2⟩, ⟨fun w => ?_, o8.2⟩, ge⟩
  · rcases hf b w with w | w
    · exact ab b w z
    · exact Nat.not_lt.2 w (lb.lt b z)
  · exact Nat.not_lt.2 (hk b w).2 (lb.lt b z)
  · rcases hf _ w with w | w
    · exact o3.1 w
    · omega
  · rcases hf _ w with w | w
    · exact o8.1 w
    · omega
end
end Go.Proofs.Ytmllfmnpcidkbaa.Loo
