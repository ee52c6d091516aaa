import Derived.Test.YtmllfmnpcidkbaaE8k
import Derived.Test.YtmllfmnpcidkbaaL9c
import Derived.Maps.AppendAt
import Derived.WalkKit
namespace Go.Proofs.Ytmllfmnpcidkbaa.Loo
open Go.RowKit Gf8 Aes By8 Cel Cf Win Drw Prm
/- LoomRuns: tasks made of plain data (shams), and the log of their calls, in memory. -/

/-- Shams: how many, their answers, what comes behind them, which call of Step is the last, who has no Ready. -/
structure Sd where
  n : Nat
  na : Nat → Nat
  an : Nat → Nat → Bool
  th : Nat → Bool
  la : Nat → Int
  nr : Nat → Bool
/-- The log: calls, questions, steps. -/
structure Lg where
  ca : List Nat
  ak : Nat → Nat
  dn : Nat → Nat
def rdA (D : Sd) (x : Lg) (t : Nat) : Bool × Lg := (if x.ak t < D.na t then D.an t (x.ak t) else D.th t, { x with ca := x.ca ++ [2 * t], ak := upf x.ak t (x.ak t + 1) })
def stA (D : Sd) (x : Lg) (t : Nat) : Bool × Lg := (decide (((x.dn t + 1 : Nat) : Int) = D.la t), { x with ca := x.ca ++ [2 * t + 1], dn := upf x.dn t (x.dn t + 1) })
/-- A []bool. -/
def SliceBl (w : World) (v : Value) (n : Nat) (x : Nat → Bool) : Prop := SliceV w v n (fun j => .bool (x j))
/-- A []Sham. -/
def ShL (w : World) (v : Value) (D : Sd) : Prop := ∃ a cap, v = .slice a D.n cap ∧ ∃ y : Nat → Value, (∀ t, t < D.n → SliceBl w (y t) (D.na t) (D.an t)) ∧ (0 < D.n → ∃ b off, a = some ⟨b, off, none⟩ ∧ b < w.heap.size ∧ ∀ t, t < D.n → w.cell? ⟨b, off + t * 4, none⟩ = some (y t) ∧ w.cell? ⟨b, off + t * 4 + 1, none⟩ = some (.bool (D.th t)) ∧ w.cell? ⟨b, off + t * 4 + 2, none⟩ = some (.int .i64 (D.la t)) ∧ w.cell? ⟨b, off + t * 4 + 3, none⟩ = some (.bool (D.nr t)))
theorem ShL.on {w w' : World} {v : Value} {D : Sd} (h : ShL w v D) (hb : Below w.heap.size w w') : ShL w' v D := by
  obtain ⟨a, cap, e, y, h2, h3⟩ := h
  refine ⟨a, cap, e, y, fun t ht => (h2 t ht).on hb, fun h0 => ?_⟩
  obtain ⟨b, off, e1, e2, e3⟩ := h3 h0
  exact ⟨b, off, e1, Nat.lt_of_lt_of_le e2 hb.size, fun t ht => by rw [cell_below hb e2, cell_below hb e2, cell_below hb e2, cell_below hb e2]; exact e3 t ht⟩
theorem ShL.shp {w : World} {v : Value} {D : Sd} (h : ShL w v D) : ∃ a c, v = .slice a D.n c := by
  obtain ⟨a, c, e, _⟩ := h
  exact ⟨a, c, e⟩
theorem ShL.at {w : World} {v : Value} {D : Sd} (h : ShL w v D) (h0 : 0 < D.n) : ∃ (b off c : Nat) (y : Nat → Value), v = .slice (some ⟨b, off, none⟩) D.n c ∧ b < w.heap.size ∧ (∀ t, t < D.n → SliceBl w (y t) (D.na t) (D.an t)) ∧ ∀ t, t < D.n → w.cell? ⟨b, off + t * 4, none⟩ = some (y t) ∧ w.cell? ⟨b, off + t * 4 + 1, none⟩ = some (.bool (D.th t)) ∧ w.cell? ⟨b, off + t * 4 + 2, none⟩ = some (.int .i64 (D.la t)) ∧ w.cell? ⟨b, off + t * 4 + 3, none⟩ = some (.bool (D.nr t)) := by
  obtain ⟨a, cap, e, y, h2, h3⟩ := h
  obtain ⟨b, off, e1, e2, e3⟩ := h3 h0
  exact ⟨b, off, cap, y, by rw [e, e1], e2, h2, e3⟩
/-- The first so many of a world's blocks. -/
def cutW (V : World) (B : Nat) : World := { V with heap := V.heap.extract 0 B }
theorem cutW_size {V : World} {B : Nat} (h : B ≤ V.heap.size) : (cutW V B).heap.size = B := by simp [cutW, h]
theorem cutW_below {V : World} {B : Nat} (h : B ≤ V.heap.size) : Below (cutW V B).heap.size (cutW V B) V := by
  refine ⟨rfl, rfl, rfl, by rw [cutW_size h]; exact h, fun b hb => ?_⟩
  rw [cutW_size h] at hb
  simp [cutW, Array.getElem?_extract]
  omega
/-- The cells of a log. -/
def gC (cv av dv : Value) : Array Value := #[cv, av, dv]
theorem gC_at {W : World} {g : Nat} {cv av dv : Value} {t : TypeId} (h : W.heap[g]? = some (.cells (gC cv av dv) t)) : W.cell? ⟨g, 0, none⟩ = some cv ∧ W.cell? ⟨g, 1, none⟩ = some av ∧ W.cell? ⟨g, 2, none⟩ = some dv :=
  ⟨by rw [cell_of_row _ _ _ _ _ _ h]; rfl, by rw [cell_of_row _ _ _ _ _ _ h]; rfl, by rw [cell_of_row _ _ _ _ _ _ h]; rfl⟩
def Lf (g : Nat) (cv av dv : Value) (b : Nat) : Prop := b = g ∨ cv.ownBlock = some b ∨ av.ownBlock = some b ∨ dv.ownBlock = some b
def caF (l : List Nat) (i : Nat) : Int := ((l.getD i 0 : Nat) : Int)
abbrev natF (f : Nat → Nat) (i : Nat) : Int := ((f i : Nat) : Int)
/-- A log in memory: its lists are rows of their own, from block B on. -/
structure LgM (B : Nat) (W : World) (g : Nat) (cv av dv : Value) (n : Nat) (x : Lg) : Prop where
  hg : W.heap[g]? = some (.cells (gC cv av dv) 40)
  gB : B ≤ g
  oc : W.ownsRow B 3 1 cv x.ca.length (intsL x.ca.length (caF x.ca))
  oa : W.ownsRow B 3 1 av n (intsL n (natF x.ak))
  od : W.ownsRow B 3 1 dv n (intsL n (natF x.dn))
  ca : ∀ b, cv.ownBlock = some b → av.ownBlock ≠ some b
  cd : ∀ b, cv.ownBlock = some b → dv.ownBlock ≠ some b
  ad : ∀ b, av.ownBlock = some b → dv.ownBlock ≠ some b
def LgR (B : Nat) (W : World) (F : Nat → Prop) (g n : Nat) (x : Lg) : Prop := ∃ cv av dv, LgM B W g cv av dv n x ∧ ∀ b, F b ↔ Lf g cv av dv b
theorem own_keep {W X : World} {B t s n : Nat} {v : Value} {xs : List Value} (h : W.ownsRow B t s v n xs) (e : ∀ b, v.ownBlock = some b → X.heap[b]? = W.heap[b]?) : X.ownsRow B t s v n xs := by
  refine ⟨h.1, ?_⟩
  rcases h.2 with h2 | ⟨g, cap, cur, e1, h1, hg, h3⟩
  · exact Or.inl h2
  · exact Or.inr ⟨g, cap, cur, e1, h1, by rw [e g (by rw [e1]; rfl)]; exact hg, h3⟩
section
variable {B : Nat} {W X : World} {F : Nat → Prop} {g n : Nat} {x : Lg} {cv av dv : Value}
theorem LgM.keep (h : LgM B W g cv av dv n x) (e : ∀ b, Lf g cv av dv b → X.heap[b]? = W.heap[b]?) : LgM B X g cv av dv n x :=
  ⟨by rw [e g (Or.inl rfl)]; exact h.hg, h.gB, own_keep h.oc fun b q => e b (Or.inr (Or.inl q)), own_keep h.oa fun b q => e b (Or.inr (Or.inr (Or.inl q))), own_keep h.od fun b q => e b (Or.inr (Or.inr (Or.inr q))), h.ca, h.cd, h.ad⟩
theorem LgM.lt (h : LgM B W g cv av dv n x) : ∀ b, Lf g cv av dv b → b < W.heap.size := by
  rintro b (rfl | q | q | q)
  · exact (Array.getElem?_eq_some_iff.1 h.hg).1
  · exact (h.oc.lt b q).2
  · exact (h.oa.lt b q).2
  · exact (h.od.lt b q).2
theorem LgM.ge (h : LgM B W g cv av dv n x) : ∀ b, Lf g cv av dv b → B ≤ b := by
  rintro b (rfl | q | q | q)
  · exact h.gB
  · exact (h.oc.lt b q).1
  · exact (h.oa.lt b q).1
  · exact (h.od.lt b q).1
theorem LgM.on (h : LgM B W g cv av dv n x) (hb : Below W.heap.size W X) : LgM B X g cv av dv n x := h.keep fun b q => hb.block b (h.lt b q)
theorem LgR.keep (h : LgR B W F g n x) (e : ∀ b, F b → X.heap[b]? = W.heap[b]?) : LgR B X F g n x := by
  obtain ⟨cv, av, dv, h1, h2⟩ := h
  exact ⟨cv, av, dv, h1.keep fun b q => e b ((h2 b).2 q), h2⟩
theorem LgR.lt (h : LgR B W F g n x) : ∀ b, F b → b < W.heap.size := by
  obtain ⟨cv, av, dv, h1, h2⟩ := h
  exact fun b q => h1.lt b ((h2 b).1 q)
theorem LgR.ge (h : LgR B W F g n x) : ∀ b, F b → B ≤ b := by
  obtain ⟨cv, av, dv, h1, h2⟩ := h
  exact fun b q => h1.ge b ((h2 b).1 q)
theorem LgR.on (h : LgR B W F g n x) (hb : Below W.heap.size W X) : LgR B X F g n x := h.keep fun b q => hb.block b (h.lt b q)
end
set_option maxRecDepth 100000 in
/-- append of one int to a row of one's own, with the place of the answer. -/
theorem stepAppIP {ops : Array Oper} {Q : Exit → Act → World → Prop} {K : Act → World → Prop} {k : Nat} {o : Oper} {a : Act} {W : World} {s x : Operand} {B n g : Nat} {v : Value} {f : Nat → Int} {z : Int} (hos : ops[k]? = some o) (hgd : Region.wanted o (yielded ops a.tmps) = true)
    (ho : o.op = .call { callee := .builtin .append, args := #[s, x], argTypes := #[22, 22] }) (hs : a.eval s = v) (hx : a.eval x = .slice (some ⟨g, 0, none⟩) 1 1)
    (hown : W.ownsRow B 3 1 v n (intsL n f)) (hg : W.heap[g]? = some (.cells #[.int .i64 z] 3)) (hn : n + 1 ≤ 8796093022208) (hB : B ≤ W.heap.size)
    (hK : ∀ v' W', W'.ownsRow B 3 1 v' (n + 1) (intsL (n + 1) (up f n z)) → W.grownBy W' v.ownBlock → (∀ b, v'.ownBlock = some b → v.ownBlock = some b ∨ W.heap.size ≤ b) → K (a.put o.dst v') W') : wpOp Try.prog ops Q k K a W := by
  obtain ⟨i, i1, i2, i3, i4⟩ := infoI
  obtain ⟨v', W', run, q1, q2, -, q4⟩ := run_append_own_at (P := Try.prog) W B 22 o.type 3 i _ 1 8 Try.underlying22 i1 i2 i3 i4 rfl (by decide) v n _ hown ⟨g, 0, none⟩ 1 1 [.int .i64 z] rfl (fun j u hu => by
    rw [Go.WideShapes.add_plain, cell_of_row _ _ _ _ _ _ hg, Nat.zero_add]
    exact (List.getElem?_toArray ..).trans hu) (fun u hu => by
      simp only [List.mem_cons, List.not_mem_nil, or_false] at hu
      rw [hu]; rfl) (by unfold maxLen; omega) (by omega) hB
  have e : intsL n f ++ [.int .i64 z] = intsL (n + 1) (up f n z) := by
    rw [intsL_congr (fun j hj => (up_ne f z (Nat.ne_of_lt hj)).symm)]
    unfold intsL
    rw [List.range_succ, List.map_append]
    simp [up_at]
  rw [e] at q1
  refine stepV hos hgd ?_ (hK v' W' q1 q2 (fun b hb => q4.elim (fun e => Or.inl (e ▸ hb)) (fun e => Or.inr (by rw [e] at hb; cases hb; exact Nat.le_refl _))))
  unfold execOp
  simp only [ho, resolve, invoke, builtin, Sem.run_bind, Sem.run_pure, Result.andThen_ok, List.map_toArray, List.map_cons, List.map_nil, hs, hx, run]
section
variable {o : Oper} {a : Act} {w : World}
theorem execFg0 {x : Operand} {b : Nat} (ho : o.op = .fieldAddr 40 x 0) (hx : a.eval x = .pointer (some ⟨b, 0, none⟩)) : (execOp a.eval o).run Try.prog w = .ok (.value (.pointer (some ⟨b, 0, none⟩))) w := by
  unfold execOp
  simp only [ho, hx]
  simp [go_sem]
theorem execFg1 {x : Operand} {b : Nat} (ho : o.op = .fieldAddr 40 x 1) (hx : a.eval x = .pointer (some ⟨b, 0, none⟩)) : (execOp a.eval o).run Try.prog w = .ok (.value (.pointer (some ⟨b, 1, none⟩))) w := by
  unfold execOp
  simp only [ho, hx]
  simp [go_sem]
theorem execFg2 {x : Operand} {b : Nat} (ho : o.op = .fieldAddr 40 x 2) (hx : a.eval x = .pointer (some ⟨b, 0, none⟩)) : (execOp a.eval o).run Try.prog w = .ok (.value (.pointer (some ⟨b, 2, none⟩))) w := by
  unfold execOp
  simp only [ho, hx]
  simp [go_sem]
theorem execFm0 {x : Operand} {b k : Nat} (ho : o.op = .fieldAddr 45 x 0) (hx : a.eval x = .pointer (some ⟨b, k, none⟩)) : (execOp a.eval o).run Try.prog w = .ok (.value (.pointer (some ⟨b, k, none⟩))) w := by
  unfold execOp
  simp only [ho, hx]
  simp [go_sem]
theorem execFm1 {x : Operand} {b k : Nat} (ho : o.op = .fieldAddr 45 x 1) (hx : a.eval x = .pointer (some ⟨b, k, none⟩)) : (execOp a.eval o).run Try.prog w = .ok (.value (.pointer (some ⟨b, k + 1, none⟩))) w := by
  unfold execOp
  simp only [ho, hx]
  simp [go_sem]
theorem execFm2 {x : Operand} {b k : Nat} (ho : o.op = .fieldAddr 45 x 2) (hx : a.eval x = .pointer (some ⟨b, k, none⟩)) : (execOp a.eval o).run Try.prog w = .ok (.value (.pointer (some ⟨b, k + 2, none⟩))) w := by
  unfold execOp
  simp only [ho, hx]
  simp [go_sem]
theorem execFm3 {x : Operand} {b k : Nat} (ho : o.op = .fieldAddr 45 x 3) (hx : a.eval x = .pointer (some ⟨b, k, none⟩)) : (execOp a.eval o).run Try.prog w = .ok (.value (.pointer (some ⟨b, k + 3, none⟩))) w := by
  unfold execOp
  simp only [ho, hx]
  simp [go_sem]
theorem execIxM {x i : Operand} {b off n cap k : Nat} (ho : o.op = .indexAddr 37 x i) (hx : a.eval x = .slice (some ⟨b, off, none⟩) n cap) (hi : a.eval i = .int .i64 ((k : Nat) : Int)) (hk : k < n) : (execOp a.eval o).run Try.prog w = .ok (.value (.pointer (some ⟨b, off + k * 4, none⟩))) w := by
  unfold execOp
  simp only [ho, hx, hi]
  simp [go_sem, hk]
theorem execIxBo {x i : Operand} {b off n cap k : Nat} (ho : o.op = .indexAddr 43 x i) (hx : a.eval x = .slice (some ⟨b, off, none⟩) n cap) (hi : a.eval i = .int .i64 ((k : Nat) : Int)) (hk : k < n) : (execOp a.eval o).run Try.prog w = .ok (.value (.pointer (some ⟨b, off + k, none⟩))) w := by
  unfold execOp
  simp only [ho, hx, hi]
  simp [go_sem, hk]
theorem execLnM {t : TypeId} {x : Operand} {v : Value} {len : Nat} (ho : o.op = .call { callee := .builtin .len, args := #[x], argTypes := #[t] }) (ht : t = 37 ∨ t = 43) (hx : a.eval x = v) (hv : ∃ ao c, v = .slice ao len c) : (execOp a.eval o).run Try.prog w = .ok (.value (.int .i64 ((len : Nat) : Int))) w := by
  obtain ⟨ao, c, rfl⟩ := hv
  unfold execOp
  rcases ht with rfl | rfl <;> (simp only [ho, resolve, invoke, builtin, List.map_toArray, List.map_cons, List.map_nil, hx]; simp [go_sem])
theorem execLm {t : TypeId} {x : Operand} {b k : Nat} {v : Value} (ho : o.op = .load t x) (ht : t = 3 ∨ t = 4 ∨ t = 22 ∨ t = 43 ∨ t = 37 ∨ t = 38) (hx : a.eval x = .pointer (some ⟨b, k, none⟩)) (hc : w.cell? ⟨b, k, none⟩ = some v) : (execOp a.eval o).run Try.prog w = .ok (.value v) w := by
  unfold execOp
  rcases ht with rfl | rfl | rfl | rfl | rfl | rfl <;> (simp only [ho, hx]; simp [go_sem, hc])
theorem execSm {t : TypeId} {x y : Operand} {b k : Nat} {u old : Value} (ho : o.op = .store t x y) (ht : t = 3 ∨ t = 4 ∨ t = 22 ∨ t = 43 ∨ t = 37 ∨ t = 38) (hx : a.eval x = .pointer (some ⟨b, k, none⟩)) (hy : a.eval y = u) (hu : (∃ z, u = .int .i64 z) ∨ (∃ z, u = .bool z) ∨ (∃ q n c, u = .slice q n c) ∨ ∃ q, u = .pointer q) (hc : w.cell? ⟨b, k, none⟩ = some old) (hf : w.frozen? ⟨b, k, none⟩ = false) : (execOp a.eval o).run Try.prog w = .ok .skip (w.setCell ⟨b, k, none⟩ u) := by
  unfold execOp
  rcases hu with ⟨_, rfl⟩ | ⟨_, rfl⟩ | ⟨_, _, _, rfl⟩ | ⟨_, rfl⟩ <;> (rcases ht with rfl | rfl | rfl | rfl | rfl | rfl <;> (simp only [ho, hx, hy]; simp [go_sem, hc, hf]))
theorem execNlm {P : Program} {x : Operand} {ad : Addr} (ho : o.op = .nilCheck x) (hx : a.eval x = .pointer (some ad)) : (execOp a.eval o).run P w = .ok (.value (.pointer (some ad))) w := by
  unfold execOp
  simp only [ho, hx]
  simp [go_sem]
theorem execBs1 {x : Operand} {z : Int} (ho : o.op = .buildSlice 22 1 #[(0, x)]) (hx : a.eval x = .int .i64 z) : (execOp a.eval o).run Try.prog w = .ok (.value (.slice (some ⟨w.heap.size, 0, none⟩) 1 1)) (w.alloc (.cells #[.int .i64 z] 3)) := by
  unfold execOp
  simp only [ho, List.map_toArray, List.map_cons, List.map_nil, hx]
  simp [go_sem]
theorem execMul2 {x : Operand} {p : Nat} (ho : o.op = .binOp .mul 3 (.const (.int .i64 2)) x 3) (hx : a.eval x = .int .i64 ((p : Nat) : Int)) (h : p < 1000000) : (execOp a.eval o).run Try.prog w = .ok (.value (.int .i64 ((2 * p : Nat) : Int))) w := by
  have e : IntKind.i64.wrap (2 * (p : Int)) = 2 * (p : Int) := by simp [IntKind.wrap, IntKind.bits, IntKind.signed]; omega
  unfold execOp
  simp only [ho, hx]
  simp [go_sem, e]
end
theorem own_set19 {W : World} {B n g cap k t : Nat} {f : Nat → Int} (z : Int) (h : W.ownsRow B t 1 (.slice (some ⟨g, 0, none⟩) n cap) n (intsL n f)) : (W.setCell ⟨g, 0 + k, none⟩ (.int .i64 z)).ownsRow B t 1 (.slice (some ⟨g, 0, none⟩) n cap) n (intsL n (fun j => if j = k then z else f j)) := by
  rw [Nat.zero_add]
  refine ⟨by rw [intsL_len, Nat.mul_one], ?_⟩
  rcases h.2 with ⟨e, _⟩ | ⟨g', cap', cur, e, hB, hg, h1, h2, h3, h4⟩
  · cases e
  · injection e with e1 e2 e3
    injection e1 with e1
    injection e1 with e1 _ _
    subst e1
    subst e3
    refine Or.inr ⟨g, cap, cur.setIfInBounds k (.int .i64 z), rfl, hB, heap4 _ hg, h1, h2, by simpa using h3, ?_⟩
    apply List.ext_getElem?
    intro j
    have h5 : (cur.toList.take (n * 1))[j]? = (intsL n f)[j]? := by rw [h4]
    by_cases hj : j < n
    · rw [List.getElem?_take_of_lt (by omega), intsL_get hj] at h5
      rw [List.getElem?_take_of_lt (by omega), intsL_get hj, Array.getElem?_toList, Array.getElem?_setIfInBounds]
      by_cases hk : k = j
      · subst hk
        rw [if_pos rfl, if_pos rfl, if_pos (by simp at h3; omega)]
      · rw [if_neg hk, if_neg (fun q => hk q.symm), ← Array.getElem?_toList]
        exact h5
    · rw [List.getElem?_eq_none (by simp; omega), List.getElem?_eq_none (by rw [intsL_len]; omega)]
theorem sv_then3 {F G : Nat → Prop} {V X Y : World} (h : Saved G V X) (b : Saved F X Y) (hFG : ∀ q, F q → G q ∨ V.heap.size ≤ q) : Saved G V Y :=
  ⟨b.os.trans h.os, b.tape.trans h.tape, b.output.trans h.output, Nat.le_trans h.size b.size, fun k hk hG => by rw [b.block k (Nat.lt_of_lt_of_le hk h.size) (fun w => (hFG k w).elim hG (fun w => by omega)), h.block k hk hG]⟩
theorem sv_bel3 {F : Nat → Prop} {U X Y : World} (hb : Below U.heap.size U X) (hs : Saved F X Y) (hF : ∀ q, F q → U.heap.size ≤ q) : Below U.heap.size U Y := by
  refine hb.trans ⟨hs.os, hs.tape, hs.output, hs.size, fun k hk => ?_⟩
  exact hs.block k (Nat.lt_of_lt_of_le hk hb.size) (fun h => Nat.not_lt.2 (hF k h) hk)
end Go.Proofs.Ytmllfmnpcidkbaa.Loo
