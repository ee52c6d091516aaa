import Derived.Test.YtcgkelgncehekaaE8m
namespace Go.Proofs.Ytcgkelgncehekaa.Loo
open Go.RowKit Gf8 Aes By8 Cel Cf Win Drw Prm
/- LoomPipes: fit and plan. Written by tools/mkE8n.py. -/

def piC (a b c d e : Int) (s : Value) : Array Value := #[.int .i64 a, .int .i64 b, .int .i64 c, .int .i64 d, .int .i64 e, s]
theorem piC_at {W : World} {g : Nat} {a b c d e : Int} {s : Value} {t : TypeId} (h : W.heap[g]? = some (.cells (piC a b c d e s) t)) : W.cell? ⟨g, 0, none⟩ = some (.int .i64 a) ∧ W.cell? ⟨g, 1, none⟩ = some (.int .i64 b) ∧ W.cell? ⟨g, 2, none⟩ = some (.int .i64 c) ∧ W.cell? ⟨g, 3, none⟩ = some (.int .i64 d) ∧ W.cell? ⟨g, 4, none⟩ = some (.int .i64 e) ∧ W.cell? ⟨g, 5, none⟩ = some s :=
  ⟨by rw [cell_of_row _ _ _ _ _ _ h]; rfl, by rw [cell_of_row _ _ _ _ _ _ h]; rfl, by rw [cell_of_row _ _ _ _ _ _ h]; rfl, by rw [cell_of_row _ _ _ _ _ _ h]; rfl, by rw [cell_of_row _ _ _ _ _ _ h]; rfl, by rw [cell_of_row _ _ _ _ _ _ h]; rfl⟩
section
variable {o : Oper} {a : Act} {w : World}
theorem execPi0 {x : Operand} {b : Nat} (ho : o.op = .fieldAddr 61 x 0) (hx : a.eval x = .pointer (some ⟨b, 0, none⟩)) : (execOp a.eval o).run Try.prog w = .ok (.value (.pointer (some ⟨b, 0, none⟩))) w := by
  unfold execOp
  simp only [ho, hx]
  simp [go_sem]
theorem execPi1 {x : Operand} {b : Nat} (ho : o.op = .fieldAddr 61 x 1) (hx : a.eval x = .pointer (some ⟨b, 0, none⟩)) : (execOp a.eval o).run Try.prog w = .ok (.value (.pointer (some ⟨b, 1, none⟩))) w := by
  unfold execOp
  simp only [ho, hx]
  simp [go_sem]
theorem execPi2 {x : Operand} {b : Nat} (ho : o.op = .fieldAddr 61 x 2) (hx : a.eval x = .pointer (some ⟨b, 0, none⟩)) : (execOp a.eval o).run Try.prog w = .ok (.value (.pointer (some ⟨b, 2, none⟩))) w := by
  unfold execOp
  simp only [ho, hx]
  simp [go_sem]
theorem execPi3 {x : Operand} {b : Nat} (ho : o.op = .fieldAddr 61 x 3) (hx : a.eval x = .pointer (some ⟨b, 0, none⟩)) : (execOp a.eval o).run Try.prog w = .ok (.value (.pointer (some ⟨b, 3, none⟩))) w := by
  unfold execOp
  simp only [ho, hx]
  simp [go_sem]
theorem execPi4 {x : Operand} {b : Nat} (ho : o.op = .fieldAddr 61 x 4) (hx : a.eval x = .pointer (some ⟨b, 0, none⟩)) : (execOp a.eval o).run Try.prog w = .ok (.value (.pointer (some ⟨b, 4, none⟩))) w := by
  unfold execOp
  simp only [ho, hx]
  simp [go_sem]
theorem execPi5 {x : Operand} {b : Nat} (ho : o.op = .fieldAddr 61 x 5) (hx : a.eval x = .pointer (some ⟨b, 0, none⟩)) : (execOp a.eval o).run Try.prog w = .ok (.value (.pointer (some ⟨b, 5, none⟩))) w := by
  unfold execOp
  simp only [ho, hx]
  simp [go_sem]
theorem execBxPi {x : Operand} {p q r s t : Int} {u : Value} (ho : o.op = .box 61 x) (hx : a.eval x = .agg (piC p q r s t u)) (hu : ∃ a n c, u = .slice a n c) : (execOp a.eval o).run Try.prog w = .ok (.value (.pointer (some ⟨w.heap.size, 0, none⟩))) (w.alloc (.cells (piC p q r s t u) 61)) := by
  obtain ⟨x1, x2, x3, rfl⟩ := hu
  unfold execOp
  simp only [ho, hx]
  simp [go_sem]
theorem execAlPi (ho : o.op = .alloc 61) : (execOp a.eval o).run Try.prog w = .ok (.value (.pointer (some ⟨w.heap.size, 0, none⟩))) (w.alloc (.cells (piC 0 0 0 0 0 (.slice none 0 0)) 61)) := by
  unfold execOp
  simp only [ho]
  simp [go_sem, piC]
theorem execLdPi {x : Operand} {g : Nat} {p q r s t : Int} {u : Value} (ho : o.op = .load 61 x) (hx : a.eval x = .pointer (some ⟨g, 0, none⟩)) (hg : w.heap[g]? = some (.cells (piC p q r s t u) 61)) : (execOp a.eval o).run Try.prog w = .ok (.value (.agg (piC p q r s t u))) w := by
  obtain ⟨h0, h1, h2, h3, h4, h5⟩ := piC_at hg
  have h := execLoadMid (P := Try.prog) (cs := (piC p q r s t u).toList) ho hx (fun j v hv => by
    match j, hv with
    | 0, hv => exact h0.trans hv
    | 1, hv => exact h1.trans hv
    | 2, hv => exact h2.trans hv
    | 3, hv => exact h3.trans hv
    | 4, hv => exact h4.trans hv
    | 5, hv => exact h5.trans hv
    | j + 6, hv => cases hv) Try.underlying61 rfl (by show _ = some 6; kernel_rfl)
  exact h
theorem onePi {p q r s t : Int} {u : Value} (hu : ∃ a n c, u = .slice a n c) : (piC p q r s t u).all (·.oneCell') = true := by
  obtain ⟨x1, x2, x3, rfl⟩ := hu
  simp [piC, Value.oneCell']
theorem execStPi {x y : Operand} {g : Nat} {p q r s t p0 q0 r0 s0 t0 : Int} {u u0 : Value} (ho : o.op = .store 61 x y) (hx : a.eval x = .pointer (some ⟨g, 0, none⟩)) (hy : a.eval y = .agg (piC p q r s t u)) (hg : w.heap[g]? = some (.cells (piC p0 q0 r0 s0 t0 u0) 61)) (hu : ∃ a n c, u = .slice a n c) : (execOp a.eval o).run Try.prog w = .ok .skip (w.setRow g (piC p q r s t u)) := by
  have h := execStMid (P := Try.prog) ho hx hy hg (Nat.le_refl _) (by show _ = some 6; kernel_rfl) (onePi hu)
  exact h
theorem execStZ {x y : Operand} {g k : Nat} {z : Int} {c : Array Value} {t : TypeId} (ho : o.op = .store 3 x y) (hx : a.eval x = .pointer (some ⟨g, k, none⟩)) (hy : a.eval y = .int .i64 z) (hg : w.heap[g]? = some (.cells c t)) (hk : k < c.size) : (execOp a.eval o).run Try.prog w = .ok .skip (w.setRow g (c.setIfInBounds k (.int .i64 z))) := by
  have h1 : w.cell? ⟨g, k, none⟩ = some c[k] := by rw [cell_of_row _ _ _ _ _ _ hg, Array.getElem?_eq_getElem hk]
  have h2 := frozen4 (o := k) hg
  unfold execOp
  simp only [ho, hx, hy]
  simp [go_sem, h1, h2, setCell_eq_setRow w g k c t (0, 0) (.int .i64 z) hg]
end
theorem keep_over {W X : World} {B n g s : Nat} {v : Value} {xs : List Value} {t u : TypeId} {c : Array Value} (hg : W.heap[g]? = some (.cells c t)) (own : W.ownsRow B u s v n xs) (gr : W.grownBy X v.ownBlock) (ht : t ≠ u) : X.heap[g]? = some (.cells c t) := by
  rw [gr.block g (Array.getElem?_eq_some_iff.1 hg).1 (fun e => ?_)]
  · exact hg
  · rcases own.2 with ⟨e1, _⟩ | ⟨k, cap, cur, e1, _, hk, _⟩
    · rw [e1] at e; cases e
    · rw [e1] at e
      cases e
      rw [hg] at hk
      cases hk
      exact ht rfl
set_option maxRecDepth 100000 in
theorem infoOs : ∃ i, Try.prog.info? 36 = some i ∧ i.zero = some (.slice none 0 0) ∧ i.size = 1 ∧ i.bytes = 24 := by
  have h : (Try.prog.info? 36).map (fun i => (i.zero, i.size, i.bytes)) = some (some (.slice none 0 0), 1, 24) := by kernel_rfl
  cases hq : Try.prog.info? 36 with
  | none => rw [hq] at h; cases h
  | some i =>
    rw [hq] at h
    simp only [Option.map_some, Option.some.injEq, Prod.mk.injEq] at h
    exact ⟨i, rfl, h.1, h.2.1, h.2.2⟩
theorem lL_vR {x : Nat → Value} {m : Nat} : (vR m x).toList = lL x m := by
  apply List.ext_getElem?
  intro j
  show ((List.range m).map x)[j]? = _
  by_cases hj : j < m
  · rw [lL_get x m j hj]
    simp [hj]
  · rw [List.getElem?_eq_none (by simp; omega), List.getElem?_eq_none (by rw [lL_len]; omega)]
/-- A literal list is a row of its own. -/
theorem own_vR {W : World} {B g m : Nat} {t : TypeId} {x : Nat → Value} (h : W.heap[g]? = some (.cells (vR m x) t)) (hB : B ≤ g) (hm : m ≤ 1000) : W.ownsRow B t 1 (.slice (some ⟨g, 0, none⟩) m m) m (lL x m) :=
  ⟨by rw [lL_len, Nat.mul_one], Or.inr ⟨g, m, _, rfl, hB, h, Nat.le_refl _, by unfold maxLen; omega, by simp [vR], by rw [lL_vR, Nat.mul_one, List.take_of_length_le (by rw [lL_len]; exact Nat.le_refl _)]⟩⟩
theorem own_oR {W : World} {B g m : Nat} {q : Nat → Op3} (h : W.heap[g]? = some (.cells (oR m q) 35)) (hB : B ≤ g) (hm : m ≤ 1000) : W.ownsRow B 35 3 (.slice (some ⟨g, 0, none⟩) m m) m (opL m q) := by
  have hl : (oR m q).toList = opL m q := rfl
  refine ⟨opL_len q m, Or.inr ⟨g, m, _, rfl, hB, h, Nat.le_refl _, by unfold maxLen; omega, ?_, ?_⟩⟩
  · rw [← Array.length_toList, hl, opL_len]
  · rw [hl, List.take_of_length_le (by rw [opL_len]; exact Nat.le_refl _)]
theorem lL_push19 {y : Nat → Value} {n : Nat} {u : Value} : lL y n ++ [u] = lL (updX y n u) (n + 1) := by
  show _ = lL (updX y n u) n ++ [updX y n u n]
  rw [updX_at, lL_congr n (fun i hi => (updX_lt y u hi))]
/-- append of one list of operations. -/
theorem stepAppVO {ops : Array Oper} {Q : Exit → Act → World → Prop} {K : Act → World → Prop} {j : Nat} {o : Oper} {a : Act} {W : World} {s x : Operand} {B n g : Nat} {v u : Value} {y : Nat → Value} (hos : ops[j]? = some o) (hgd : Region.wanted o (yielded ops a.tmps) = true)
    (ho : o.op = .call { callee := .builtin .append, args := #[s, x], argTypes := #[30, 30] }) (hs : a.eval s = v) (hx : a.eval x = .slice (some ⟨g, 0, none⟩) 1 1) (hown : W.ownsRow B 36 1 v n (lL y n)) (hg : W.heap[g]? = some (.cells (vR 1 (fun _ => u)) 36)) (hu : ∃ a n c, u = .slice a n c) (hn : n + 1 ≤ 1000000) (hB : B ≤ W.heap.size)
    (hK : ∀ v' W', W'.ownsRow B 36 1 v' (n + 1) (lL (updX y n u) (n + 1)) → W.grownBy W' v.ownBlock → K (a.put o.dst v') W') : wpOp Try.prog ops Q j K a W := by
  obtain ⟨i, i1, i2, i3, i4⟩ := infoOs
  obtain ⟨u1, u2, u3, rfl⟩ := hu
  obtain ⟨v', W', run, q1, q2⟩ := execAppO (W := W) (m := 1) (c := 1) (news := [Value.slice u1 u2 u3]) ho Try.underlying30 i1 i2 i3 i4 (by simp [Value.cells]) (by decide) hs hown hx rfl (fun j u hu => by
    rw [Go.WideShapes.add_plain, cell_of_row _ _ _ _ _ _ hg, Nat.zero_add]
    exact (List.getElem?_toArray ..).trans hu) (fun u hu => by rw [List.mem_singleton.1 hu]; rfl) (by unfold maxLen; omega) (by omega) hB
  have e : lL y n ++ [Value.slice u1 u2 u3] = lL (updX y n (.slice u1 u2 u3)) (n + 1) := lL_push19
  rw [e] at q1
  exact stepV hos hgd run (hK v' W' q1 q2)
/-- append of some operations; where the answer lies. -/
theorem stepAppOpP {ops : Array Oper} {Q : Exit → Act → World → Prop} {K : Act → World → Prop} {j : Nat} {o : Oper} {a : Act} {W : World} {s x : Operand} {B n m g : Nat} {v : Value} {q : Nat → Op3} (hos : ops[j]? = some o) (hgd : Region.wanted o (yielded ops a.tmps) = true)
    (ho : o.op = .call { callee := .builtin .append, args := #[s, x], argTypes := #[36, 36] }) (hs : a.eval s = v) (hx : a.eval x = .slice (some ⟨g, 0, none⟩) m m) (hown : W.ownsRow B 35 3 v n (opL n q)) (hg : W.heap[g]? = some (.cells (oR m fun j => q (n + j)) 35)) (hm : 0 < m) (hn : n + m ≤ 1000000) (hB : B ≤ W.heap.size)
    (hK : ∀ v' W', W'.ownsRow B 35 3 v' (n + m) (opL (n + m) q) → ((∃ b c, v = .slice (some ⟨b, 0, none⟩) n c ∧ v' = .slice (some ⟨b, 0, none⟩) (n + m) c ∧ W.grownBy W' (some b)) ∨ (Below W.heap.size W W' ∧ ∀ k, v'.ownBlock = some k → W.heap.size ≤ k)) → K (a.put o.dst v') W') : wpOp Try.prog ops Q j K a W := by
  obtain ⟨i, i1, i2, i3, i4⟩ := infoOp
  obtain ⟨v', W', run, q1, q2⟩ := run_appG W 36 o.type 35 i (.agg (oC 0 0 0)) 3 24 Try.underlying36 i1 i2 i3 i4 (by simp [Value.cells, oC]) (by decide) B n m v (opL n q) (opL m (fun j => q (n + j))) hown ⟨g, 0, none⟩ m (opL_len _ m) (fun j u hu => by
    rw [Go.WideShapes.add_plain, cell_of_row _ _ _ _ _ _ hg, Nat.zero_add]
    exact (List.getElem?_toArray ..).trans hu) opL_one hm (by omega) (by omega) hB
  rw [opL_add] at q1
  have run' : (execOp a.eval o).run Try.prog W = .ok (.value v') W' := by
    unfold execOp
    simp only [ho, resolve, invoke, builtin, Sem.run_bind, Sem.run_pure, Result.andThen_ok, List.map_toArray, List.map_cons, List.map_nil, hs, hx, run]
  exact stepV hos hgd run' (hK v' W' q1 q2)
/-- Tasks laid so far (x), the list of them (tl), a further row under way (wv). -/
structure Plg (B : Nat) (W : World) (p : Pl) (n : Nat) (x : Nat → Value) (tl wv : Value) (wn : Nat) (wq : Nat → Op3) : Prop where
  rows : ∀ t, t < n → W.ownsRow B 35 3 (x t) (p.ln t) (opL (p.ln t) (p.op t))
  dis : ∀ t, t < n → ∀ b, (x t).ownBlock = some b → wv.ownBlock ≠ some b
  tl : W.ownsRow B 36 1 tl n (lL x n)
  wt : W.ownsRow B 35 3 wv wn (opL wn wq)
section
variable {B n wn : Nat} {W X : World} {p : Pl} {x : Nat → Value} {tl wv : Value} {wq : Nat → Op3}
theorem Plg.on (h : Plg B W p n x tl wv wn wq) (hb : Below W.heap.size W X) : Plg B X p n x tl wv wn wq :=
  ⟨fun t ht => ownD_below (h.rows t ht) hb, h.dis, ownD_below h.tl hb, ownD_below h.wt hb⟩
theorem Plg.wait (h : Plg B W p n x tl wv wn wq) {wv' : Value} {m : Nat} (own : X.ownsRow B 35 3 wv' m (opL m wq)) (pl : (∃ b c, wv = .slice (some ⟨b, 0, none⟩) wn c ∧ wv' = .slice (some ⟨b, 0, none⟩) m c ∧ W.grownBy X (some b)) ∨ (Below W.heap.size W X ∧ ∀ k, wv'.ownBlock = some k → W.heap.size ≤ k)) : Plg B X p n x tl wv' m wq := by
  rcases pl with ⟨b, c, e1, e2, gr⟩ | ⟨hb, hk⟩
  · have hne : ∀ t, t < n → (x t).ownBlock ≠ some b := fun t ht z => h.dis t ht b z (by rw [e1]; rfl)
    refine ⟨fun t ht => (h.rows t ht).kept gr (Or.inr (hne t ht)), fun t ht q hq z => ?_, own_overT h.tl h.wt (by rw [e1]; exact gr) (by decide), own⟩
    rw [e2] at z
    cases z
    exact hne t ht hq
  · refine ⟨fun t ht => ownD_below (h.rows t ht) hb, fun t ht q hq z => ?_, ownD_below h.tl hb, own⟩
    have h1 := hk q z
    have h2 := ((h.rows t ht).lt q hq).2
    omega
theorem app_gr {wv' : Value} {m : Nat} (pl : (∃ b c, wv = .slice (some ⟨b, 0, none⟩) wn c ∧ wv' = .slice (some ⟨b, 0, none⟩) m c ∧ W.grownBy X (some b)) ∨ (Below W.heap.size W X ∧ ∀ k, wv'.ownBlock = some k → W.heap.size ≤ k)) : W.grownBy X wv.ownBlock := by
  rcases pl with ⟨b, c, e1, e2, gr⟩ | ⟨hb, hk⟩
  · rw [e1]; exact gr
  · exact ⟨hb.os, hb.tape, hb.output, hb.size, fun b hlt _ => hb.block b hlt⟩
theorem Plg.add (h : Plg B W p n x tl wv wn wq) {u tl' : Value} (hu : W.ownsRow B 35 3 u (p.ln n) (opL (p.ln n) (p.op n))) (hd : ∀ b, u.ownBlock = some b → wv.ownBlock ≠ some b) (ho : X.ownsRow B 36 1 tl' (n + 1) (lL (updX x n u) (n + 1))) (gr : W.grownBy X tl.ownBlock) : Plg B X p (n + 1) (updX x n u) tl' wv wn wq := by
  refine ⟨fun t ht => ?_, fun t ht b hb => ?_, ho, own_overT h.wt h.tl gr (by decide)⟩
  · by_cases e : t = n
    · subst e
      rw [updX_at]
      exact own_overT hu h.tl gr (by decide)
    · rw [updX_lt _ _ (by omega)]
      exact own_overT (h.rows t (by omega)) h.tl gr (by decide)
  · by_cases e : t = n
    · subst e
      rw [updX_at] at hb
      exact hd b hb
    · rw [updX_lt _ _ (by omega)] at hb
      exact h.dis t (by omega) b hb
/-- The row under way becomes a task. -/
theorem Plg.join (h : Plg B W p n x tl wv wn wq) {tl' : Value} (e1 : p.ln n = wn) (e2 : ∀ j, j < wn → p.op n j = wq j) (ho : X.ownsRow B 36 1 tl' (n + 1) (lL (updX x n wv) (n + 1))) (gr : W.grownBy X tl.ownBlock) : Plg B X p (n + 1) (updX x n wv) tl' (.slice none 0 0) 0 wq := by
  refine ⟨fun t ht => ?_, fun t ht b hb z => (by cases z), ho, World.ownsRow_nil _ _ _ _⟩
  by_cases e : t = n
  · subst e
    rw [updX_at, e1, opL_cg e2]
    exact own_overT h.wt h.tl gr (by decide)
  · rw [updX_lt _ _ (by omega)]
    exact own_overT (h.rows t (by omega)) h.tl gr (by decide)
end
theorem Plg.keepP {B n wn g : Nat} {W X : World} {p : Pl} {x : Nat → Value} {tl wv : Value} {wq : Nat → Op3} {c : Array Value} (h : Plg B W p n x tl wv wn wq) (hg : W.heap[g]? = some (.cells c 32)) (gr : W.grownBy X (some g)) : Plg B X p n x tl wv wn wq :=
  ⟨fun t ht => ownG_T (h.rows t ht) hg (by decide) gr, h.dis, ownG_T h.tl hg (by decide) gr, ownG_T h.wt hg (by decide) gr⟩
def fdQ (j : Nat) : Op3 := if j % 2 = 0 then ⟨5, 1, 0⟩ else ⟨1, 0, 0⟩
def fdE (I j : Nat) : Op3 := if j = 2 * I then ⟨3, 0, 0⟩ else fdQ j
def wtQ (j : Nat) : Op3 := ⟨9, ((1 + j : Nat) : Int), 0⟩
def wtE (C j : Nat) : Op3 := if j = C then ⟨3, 1, 0⟩ else wtQ j
def carO (j : Nat) : Op3 := if j = 0 then ⟨2, 0, 3⟩ else if j = 1 then ⟨1, 1, 0⟩ else ⟨6, 0, 0⟩
def tkrO (j : Nat) : Op3 := if j = 0 then ⟨2, 1, 2⟩ else ⟨6, 0, 0⟩
theorem fdQ_two (i : Nat) : fdQ (2 * i + 0) = ⟨5, 1, 0⟩ ∧ fdQ (2 * i + 1) = ⟨1, 0, 0⟩ := ⟨if_pos (by omega), if_neg (by omega)⟩
section
variable {I C K c0 c1 : Nat}
theorem pip0_at : (pipP I C K c0 c1).ln 0 = 2 * I + 1 ∧ ∀ j, (pipP I C K c0 c1).op 0 j = fdE I j := ⟨rfl, fun _ => rfl⟩
theorem pipC_at {c : Nat} (h : c < C) : (pipP I C K c0 c1).ln (1 + c) = 3 ∧ ∀ j, (pipP I C K c0 c1).op (1 + c) j = carO j := by
  refine ⟨?_, fun j => ?_⟩
  · show (if 1 + c = 0 then 2 * I + 1 else if 1 + c < C + 1 then 3 else _) = _
    rw [if_neg (by omega), if_pos (by omega)]
  · simp only [pipP]
    rw [if_neg (by omega), if_pos (by omega)]
    rfl
theorem pipW_at : (pipP I C K c0 c1).ln (1 + C) = C + 1 ∧ ∀ j, (pipP I C K c0 c1).op (1 + C) j = wtE C j := by
  refine ⟨?_, fun j => ?_⟩
  · show (if 1 + C = 0 then 2 * I + 1 else if 1 + C < C + 1 then 3 else if 1 + C = C + 1 then C + 1 else 2) = _
    rw [if_neg (by omega), if_neg (by omega), if_pos (by omega)]
  · simp only [pipP]
    rw [if_neg (by omega), if_neg (by omega), if_pos (by omega)]
    rfl
theorem pipK_at {k : Nat} : (pipP I C K c0 c1).ln (C + 2 + k) = 2 ∧ ∀ j, (pipP I C K c0 c1).op (C + 2 + k) j = tkrO j := by
  refine ⟨?_, fun j => ?_⟩
  · show (if C + 2 + k = 0 then 2 * I + 1 else if C + 2 + k < C + 1 then 3 else if C + 2 + k = C + 1 then C + 1 else 2) = _
    rw [if_neg (by omega), if_neg (by omega), if_neg (by omega)]
  · simp only [pipP]
    rw [if_neg (by omega), if_neg (by omega), if_neg (by omega)]
    rfl
theorem pip_fit (hC : C ≤ 40) : ∀ t, t < C + 2 + K → ∀ j, j < (pipP I C K c0 c1).ln t → I64 ((pipP I C K c0 c1).op t j).k ∧ I64 ((pipP I C K c0 c1).op t j).a ∧ I64 ((pipP I C K c0 c1).op t j).b := by
  intro t ht j hj
  rcases who ht with rfl | ⟨c, hc, rfl⟩ | rfl | ⟨k, hk, rfl⟩
  · rw [pip0_at.2 j]
    unfold fdE fdQ
    split
    · decide
    · split <;> decide
  · rw [(pipC_at hc).2 j]
    unfold carO
    split
    · decide
    · split <;> decide
  · rw [Nat.add_comm C 1] at hj ⊢
    rw [pipW_at.1] at hj
    rw [pipW_at.2 j]
    unfold wtE wtQ
    split
    · decide
    · exact ⟨(by decide : I64 (9 : Int)), ⟨by show _ ≤ ((1 + j : Nat) : Int); omega, by show ((1 + j : Nat) : Int) < _; omega⟩, (by decide : I64 (0 : Int))⟩
  · rw [pipK_at.2 j]
    unfold tkrO
    split <;> decide
theorem pip_chk (hI : I ≤ 100) (hC : C ≤ 40) (hK : K ≤ 40) (h0 : c0 ≤ 1024) (h1 : c1 ≤ 1024) : chk (pipP I C K c0 c1) = 0 := by
  refine chk_ok (by show C + 2 + K ≤ 128; omega) (by show 2 ≤ 64; omega) (fun t ht => ?_) (fun i _ => ?_) (fun t ht j hj => ?_)
  · show (if t = 0 then 2 * I + 1 else if t < C + 1 then 3 else if t = C + 1 then C + 1 else 2) ≤ 256
    split
    · omega
    · split
      · omega
      · split <;> omega
  · show 0 ≤ (if i = 0 then ((c0 : Nat) : Int) else ((c1 : Nat) : Int)) ∧ (if i = 0 then ((c0 : Nat) : Int) else ((c1 : Nat) : Int)) ≤ 1024
    split <;> omega
  · rcases who ht with rfl | ⟨c, hc, rfl⟩ | rfl | ⟨k, hk, rfl⟩
    · rw [pip0_at.2 j]
      unfold fdE fdQ
      split
      · rfl
      · split <;> rfl
    · have hj' := hj
      rw [(pipC_at hc).1] at hj'
      rw [(pipC_at hc).2 j, (pipC_at hc).1]
      unfold carO
      split
      · rfl
      · split <;> rfl
    · rw [Nat.add_comm C 1] at hj ⊢
      have hj' := hj
      rw [pipW_at.1] at hj'
      rw [pipW_at.2 j]
      unfold wtE wtQ
      split
      · rfl
      · show inB (((1 + j : Nat) : Int)) 0 (((C + 2 + K : Nat) : Int) - 1) = true
        exact inB_of (by omega) (by omega)
    · rw [pipK_at.2 j, pipK_at.1]
      unfold tkrO
      split <;> rfl
theorem Plg.plan {B : Nat} {W : World} {x : Nat → Value} {tl wv : Value} {wn : Nat} {wq : Nat → Op3} {g : Nat} (hC : C ≤ 40) (h0 : c0 ≤ 1024) (h1 : c1 ≤ 1024) (h : Plg B W (pipP I C K c0 c1) (C + 2 + K) x tl wv wn wq) (hg : W.heap[g]? = some (.cells (iR 2 (fun i => if i = 0 then ((c0 : Nat) : Int) else ((c1 : Nat) : Int))) 3)) : PlA W (.agg #[.slice (some ⟨g, 0, none⟩) 2 2, tl]) (pipP I C K c0 c1) := by
  refine ⟨_, _, x, rfl, (iR_slice hg (by omega) (fun i _ => ?_)).cg (fun j _ => rfl), own_vals h.tl, fun t ht => own_ops (h.rows t ht) (pip_fit hC t ht)⟩
  split <;> exact ⟨by omega, by omega⟩
end
set_option maxRecDepth 100000 in
set_option maxHeartbeats 4000000 in
/-- A pipe's fit. -/
theorem fit19 (p0 p1 p2 p3 p4 : Int) (s : Value) (V : World) (hsl : ∃ a n c, s = .slice a n c) :
    Calls Try.prog 23 #[.agg (piC p0 p1 p2 p3 p4 s)] V fun e w' => e = .returned (.agg (piC (abt p0 0 100) (abt p1 1 40) (abt p2 1 40) (abt p3 0 1024) (abt p4 0 1024) s)) ∧ Below V.heap.size V w' := by
  go_enter Try.func23, Try.ntmps23
  refine wo_ 24 [(0, .agg (piC p0 p1 p2 p3 p4 s))] ?_
  rintro a A ⟨t0, -⟩
  have BW : Below V.heap.size V V := Below.refl _ _
  have BB : Below V.heap.size V V := Below.refl _ _
  refine wp_seq ?_
  obtain ⟨g1, egg1⟩ : ∃ z_ : Nat, V.heap.size = z_ := ⟨_, rfl⟩
  refine wi_ A (h1_ t0) (rs_ 0 (fun a ee => ?_))
  refine stepV rfl rfl (execBxPi rfl (ee _) hsl) ⟨.pointer (some ⟨g1, 0, none⟩), ⟨_, rfl, by subst egg1; rfl⟩, fun X0_1 hX => ?_⟩
  have bQ : Below V.heap.size V X0_1 := by subst hX egg1; exact (belNew V _)
  have Fg1 : (X0_1.heap[g1]? = some (.cells (piC p0 p1 p2 p3 p4 s) 61)) := by subst hX egg1; exact heapNew V _
  have Fgeg1 : (V.heap.size ≤ g1) := by subst hX egg1; exact (BB).size
  replace BB := BB.trans (bQ.mono BB.size)
  clear bQ hX egg1 ee a
  obtain ⟨g2, egg2⟩ : ∃ z_ : Nat, X0_1.heap.size = z_ := ⟨_, rfl⟩
  refine rs_ 1 (fun a ee => ?_)
  refine stepV rfl rfl (execAlPi rfl) ⟨.pointer (some ⟨g2, 0, none⟩), ⟨_, rfl, by subst egg2; rfl⟩, fun X0 hX => ?_⟩
  have bQ : Below X0_1.heap.size X0_1 X0 := by subst hX egg2; exact (belNew X0_1 _)
  have Fg2 : (X0.heap[g2]? = some (.cells (piC 0 0 0 0 0 (.slice none 0 0)) 61)) := by subst hX egg2; exact heapNew X0_1 _
  have Fgeg2 : (V.heap.size ≤ g2) := by subst hX egg2; exact (BB).size
  have Fneg2 : (g1 ≠ g2) := by subst hX egg2; exact Nat.ne_of_lt (Array.getElem?_eq_some_iff.1 Fg1).1
  replace Fg1 := (on9 Fg1 bQ)
  replace BB := BB.trans (bQ.mono BB.size)
  clear bQ hX egg2 ee a
  refine rg_ [(1, .pointer (some ⟨g1, 0, none⟩)), (2, .pointer (some ⟨g2, 0, none⟩))] ?_
  rintro a A ⟨t1, t2, -⟩
  refine wp_seq ?_
  refine wi_ A (h2_ t1 t2) (rv_ 0 (.pointer (some ⟨g1, 0, none⟩)) (fun a ee => execPi0 rfl (ee _)) (rv_ 1 (.int .i64 p0) (fun a ee => execLdG rfl (Or.inr (Or.inl rfl)) (ee _) (piC_at Fg1).1) (rc_ 2 (about19 p0 0 100 X0 (by omega) (by omega) (by omega)) (cb_ fun X1_1 bQ => ?_))))
  replace Fg1 := (on9 Fg1 bQ)
  replace Fg2 := (on9 Fg2 bQ)
  replace BB := BB.trans (bQ.mono BB.size)
  clear bQ
  refine rv_ 3 (.pointer (some ⟨g1, 0, none⟩)) (fun a ee => execPi0 rfl (ee _)) (rs_ 4 (fun a ee => ?_))
  refine stepS rfl rfl (execStZ rfl (ee _) (ee _) Fg1 (by show 0 < 6; omega)) ⟨_, ⟨_, rfl, rfl⟩, fun X1 hX => ?_⟩
  obtain ⟨BB, Fg2, Fg1_1⟩ : Below V.heap.size V X1 ∧ (X1.heap[g2]? = some (.cells (piC 0 0 0 0 0 (.slice none 0 0)) 61)) ∧ (X1.heap[g1]? = some (.cells (piC (abt p0 0 100) p1 p2 p3 p4 s) 61)) := by subst hX; exact ⟨below4 BB Fgeg1 _, (by rw [setRow_other _ _ _ _ (Ne.symm Fneg2)]; exact Fg2), setRow_heap _ _ _ _ _ _ Fg1⟩
  clear Fg1 hX ee a
  refine rf_ [] (h2_ t1 t2) ?_
  rintro a A - ⟨t1, t2, -⟩
  refine wp_seq ?_
  refine wi_ A (h2_ t1 t2) (rv_ 0 (.pointer (some ⟨g1, 1, none⟩)) (fun a ee => execPi1 rfl (ee _)) (rv_ 1 (.int .i64 p1) (fun a ee => execLdG rfl (Or.inr (Or.inl rfl)) (ee _) (piC_at Fg1_1).2.1) (rc_ 2 (about19 p1 1 40 X1 (by omega) (by omega) (by omega)) (cb_ fun X2_1 bQ => ?_))))
  replace Fg2 := (on9 Fg2 bQ)
  replace Fg1_1 := (on9 Fg1_1 bQ)
  replace BB := BB.trans (bQ.mono BB.size)
  clear bQ
  refine rv_ 3 (.pointer (some ⟨g1, 1, none⟩)) (fun a ee => execPi1 rfl (ee _)) (rs_ 4 (fun a ee => ?_))
  refine stepS rfl rfl (execStZ rfl (ee _) (ee _) Fg1_1 (by show 1 < 6; omega)) ⟨_, ⟨_, rfl, rfl⟩, fun X2 hX => ?_⟩
  obtain ⟨BB, Fg2, Fg1_2⟩ : Below V.heap.size V X2 ∧ (X2.heap[g2]? = some (.cells (piC 0 0 0 0 0 (.slice none 0 0)) 61)) ∧ (X2.heap[g1]? = some (.cells (piC (abt p0 0 100) (abt p1 1 40) p2 p3 p4 s) 61)) := by subst hX; exact ⟨below4 BB Fgeg1 _, (by rw [setRow_other _ _ _ _ (Ne.symm Fneg2)]; exact Fg2), setRow_heap _ _ _ _ _ _ Fg1_1⟩
  clear Fg1_1 hX ee a
  refine rf_ [] (h2_ t1 t2) ?_
  rintro a A - ⟨t1, t2, -⟩
  refine wp_seq ?_
  refine wi_ A (h2_ t1 t2) (rv_ 0 (.pointer (some ⟨g1, 2, none⟩)) (fun a ee => execPi2 rfl (ee _)) (rv_ 1 (.int .i64 p2) (fun a ee => execLdG rfl (Or.inr (Or.inl rfl)) (ee _) (piC_at Fg1_2).2.2.1) (rc_ 2 (about19 p2 1 40 X2 (by omega) (by omega) (by omega)) (cb_ fun X3_1 bQ => ?_))))
  replace Fg2 := (on9 Fg2 bQ)
  replace Fg1_2 := (on9 Fg1_2 bQ)
  replace BB := BB.trans (bQ.mono BB.size)
  clear bQ
  refine rv_ 3 (.pointer (some ⟨g1, 2, none⟩)) (fun a ee => execPi2 rfl (ee _)) (rs_ 4 (fun a ee => ?_))
  refine stepS rfl rfl (execStZ rfl (ee _) (ee _) Fg1_2 (by show 2 < 6; omega)) ⟨_, ⟨_, rfl, rfl⟩, fun X3 hX => ?_⟩
  obtain ⟨BB, Fg2, Fg1_3⟩ : Below V.heap.size V X3 ∧ (X3.heap[g2]? = some (.cells (piC 0 0 0 0 0 (.slice none 0 0)) 61)) ∧ (X3.heap[g1]? = some (.cells (piC (abt p0 0 100) (abt p1 1 40) (abt p2 1 40) p3 p4 s) 61)) := by subst hX; exact ⟨below4 BB Fgeg1 _, (by rw [setRow_other _ _ _ _ (Ne.symm Fneg2)]; exact Fg2), setRow_heap _ _ _ _ _ _ Fg1_2⟩
  clear Fg1_2 hX ee a
  refine rf_ [] (h2_ t1 t2) ?_
  rintro a A - ⟨t1, t2, -⟩
  refine wp_seq ?_
  refine wi_ A (h2_ t1 t2) (rv_ 0 (.pointer (some ⟨g1, 3, none⟩)) (fun a ee => execPi3 rfl (ee _)) (rv_ 1 (.int .i64 p3) (fun a ee => execLdG rfl (Or.inr (Or.inl rfl)) (ee _) (piC_at Fg1_3).2.2.2.1) (rc_ 2 (about19 p3 0 1024 X3 (by omega) (by omega) (by omega)) (cb_ fun X4_1 bQ => ?_))))
  replace Fg2 := (on9 Fg2 bQ)
  replace Fg1_3 := (on9 Fg1_3 bQ)
  replace BB := BB.trans (bQ.mono BB.size)
  clear bQ
  refine rv_ 3 (.pointer (some ⟨g1, 3, none⟩)) (fun a ee => execPi3 rfl (ee _)) (rs_ 4 (fun a ee => ?_))
  refine stepS rfl rfl (execStZ rfl (ee _) (ee _) Fg1_3 (by show 3 < 6; omega)) ⟨_, ⟨_, rfl, rfl⟩, fun X4 hX => ?_⟩
  obtain ⟨BB, Fg2, Fg1_4⟩ : Below V.heap.size V X4 ∧ (X4.heap[g2]? = some (.cells (piC 0 0 0 0 0 (.slice none 0 0)) 61)) ∧ (X4.heap[g1]? = some (.cells (piC (abt p0 0 100) (abt p1 1 40) (abt p2 1 40) (abt p3 0 1024) p4 s) 61)) := by subst hX; exact ⟨below4 BB Fgeg1 _, (by rw [setRow_other _ _ _ _ (Ne.symm Fneg2)]; exact Fg2), setRow_heap _ _ _ _ _ _ Fg1_3⟩
  clear Fg1_3 hX ee a
  refine rf_ [] (h2_ t1 t2) ?_
  rintro a A - ⟨t1, t2, -⟩
  refine wp_seq ?_
  refine wi_ A (h2_ t1 t2) (rv_ 0 (.pointer (some ⟨g1, 4, none⟩)) (fun a ee => execPi4 rfl (ee _)) (rv_ 1 (.int .i64 p4) (fun a ee => execLdG rfl (Or.inr (Or.inl rfl)) (ee _) (piC_at Fg1_4).2.2.2.2.1) (rc_ 2 (about19 p4 0 1024 X4 (by omega) (by omega) (by omega)) (cb_ fun X5_1 bQ => ?_))))
  replace Fg2 := (on9 Fg2 bQ)
  replace Fg1_4 := (on9 Fg1_4 bQ)
  replace BB := BB.trans (bQ.mono BB.size)
  clear bQ
  refine rv_ 3 (.pointer (some ⟨g1, 4, none⟩)) (fun a ee => execPi4 rfl (ee _)) (rs_ 4 (fun a ee => ?_))
  refine stepS rfl rfl (execStZ rfl (ee _) (ee _) Fg1_4 (by show 4 < 6; omega)) ⟨_, ⟨_, rfl, rfl⟩, fun X5 hX => ?_⟩
  obtain ⟨BB, Fg2, Fg1_5⟩ : Below V.heap.size V X5 ∧ (X5.heap[g2]? = some (.cells (piC 0 0 0 0 0 (.slice none 0 0)) 61)) ∧ (X5.heap[g1]? = some (.cells (piC (abt p0 0 100) (abt p1 1 40) (abt p2 1 40) (abt p3 0 1024) (abt p4 0 1024) s) 61)) := by subst hX; exact ⟨below4 BB Fgeg1 _, (by rw [setRow_other _ _ _ _ (Ne.symm Fneg2)]; exact Fg2), setRow_heap _ _ _ _ _ _ Fg1_4⟩
  clear Fg1_4 hX ee a
  refine rf_ [] (h2_ t1 t2) ?_
  rintro a A - ⟨t1, t2, -⟩
  refine wp_seq ?_
  refine wi_ A (h2_ t1 t2) (rv_ 0 (.agg (piC (abt p0 0 100) (abt p1 1 40) (abt p2 1 40) (abt p3 0 1024) (abt p4 0 1024) s)) (fun a ee => execLdPi rfl (ee _) Fg1_5) (rs_ 1 (fun a ee => ?_)))
  refine stepS rfl rfl (execStPi rfl (ee _) (ee _) Fg2 hsl) ⟨_, ⟨_, rfl, rfl⟩, fun X6 hX => ?_⟩
  obtain ⟨BB, Fres⟩ : Below V.heap.size V X6 ∧ (X6.heap[g2]? = some (.cells (piC (abt p0 0 100) (abt p1 1 40) (abt p2 1 40) (abt p3 0 1024) (abt p4 0 1024) s) 61)) := by subst hX; exact ⟨below4 BB Fgeg2 _, setRow_heap _ _ _ _ _ _ Fg2⟩
  clear Fg2 Fg1_5 hX ee a
  refine rf_ [] (h1_ t2) ?_
  rintro a A - ⟨t2, -⟩
  refine wp_ret ?_
  refine bodyPost_ret (res_c0 _ _ g2 61 _ (0, 0) _ Try.results23 t2 Fres Try.underlying61 rfl (by show _ = some 6; kernel_rfl)) A.2 ⟨rfl, BB⟩
set_option maxRecDepth 100000 in
set_option maxHeartbeats 4000000 in
/-- A pipe's plan. -/
theorem plan19 (I C K c0 c1 : Nat) (s : Value) (V : World) (hsl : ∃ a n c, s = .slice a n c) (hI : I ≤ 100) (hC : 0 < C ∧ C ≤ 40) (hK : 0 < K ∧ K ≤ 40) (h0 : c0 ≤ 1024) (h1 : c1 ≤ 1024) :
    Calls Try.prog 24 #[.agg (piC ((I : Nat) : Int) ((C : Nat) : Int) ((K : Nat) : Int) ((c0 : Nat) : Int) ((c1 : Nat) : Int) s)] V fun e w' => (∃ v, e = .returned v ∧ PlA w' v (pipP I C K c0 c1)) ∧ Below V.heap.size V w' := by
  go_enter Try.func24, Try.ntmps24
  refine wo_ 70 [(0, .agg (piC ((I : Nat) : Int) ((C : Nat) : Int) ((K : Nat) : Int) ((c0 : Nat) : Int) ((c1 : Nat) : Int) s))] ?_
  rintro a A ⟨t0, -⟩
  have BW : Below V.heap.size V V := Below.refl _ _
  have BB : Below V.heap.size V V := Below.refl _ _
  refine wp_seq ?_
  obtain ⟨g1, egg1⟩ : ∃ z_ : Nat, V.heap.size = z_ := ⟨_, rfl⟩
  refine wi_ A (h1_ t0) (rs_ 0 (fun a ee => ?_))
  refine stepV rfl rfl (execBxPi rfl (ee _) hsl) ⟨.pointer (some ⟨g1, 0, none⟩), ⟨_, rfl, by subst egg1; rfl⟩, fun X0_1 hX => ?_⟩
  have bQ : Below V.heap.size V X0_1 := by subst hX egg1; exact (belNew V _)
  have Fg1 : (X0_1.heap[g1]? = some (.cells (piC ((I : Nat) : Int) ((C : Nat) : Int) ((K : Nat) : Int) ((c0 : Nat) : Int) ((c1 : Nat) : Int) s) 61)) := by subst hX egg1; exact heapNew V _
  have Fgeg1 : (V.heap.size ≤ g1) := by subst hX egg1; exact (BB).size
  replace BB := BB.trans (bQ.mono BB.size)
  clear bQ hX egg1 ee a
  obtain ⟨g2, egg2⟩ : ∃ z_ : Nat, X0_1.heap.size = z_ := ⟨_, rfl⟩
  refine rs_ 1 (fun a ee => ?_)
  refine stepV rfl rfl (execAlP rfl) ⟨.pointer (some ⟨g2, 0, none⟩), ⟨_, rfl, by subst egg2; rfl⟩, fun X0 hX => ?_⟩
  have bQ : Below X0_1.heap.size X0_1 X0 := by subst hX egg2; exact (belNew X0_1 _)
  have Fg2 : (X0.heap[g2]? = some (.cells (#[.slice none 0 0, .slice none 0 0]) 32)) := by subst hX egg2; exact heapNew X0_1 _
  have Fgeg2 : (V.heap.size ≤ g2) := by subst hX egg2; exact (BB).size
  replace Fg1 := (on9 Fg1 bQ)
  replace BB := BB.trans (bQ.mono BB.size)
  clear bQ hX egg2 ee a
  refine rg_ [(1, .pointer (some ⟨g1, 0, none⟩)), (2, .pointer (some ⟨g2, 0, none⟩))] ?_
  rintro a A ⟨t1, t2, -⟩
  refine wp_seq ?_
  refine wi_ A (h2_ t1 t2) (rf_ [(3, .slice none 0 0)] (h2_ t1 t2) ?_)
  rintro a A ⟨t3, -⟩ ⟨t1, t2, -⟩
  refine wp_seq ?_
  refine wp_seq ?_
  refine wi_ A (h3_ t1 t2 t3) (rf_ [(4, .int .i64 ((0 : Nat) : Int))] (h3_ t1 t2 t3) ?_)
  rintro a A ⟨t4, -⟩ ⟨t1, t2, t3, -⟩
  have FO : X0.ownsRow V.heap.size 35 3 (.slice none 0 0) (2 * 0) (opL (2 * 0) fdQ) := World.ownsRow_nil _ _ _ _
  refine wp_block ?_
  refine wp_loop (fun a W => ∃ (i : Nat) (pv : Value), i ≤ I ∧ (a.tmps.size = 70 ∧ a.defers = []) ∧ a.eval (.tmp 1) = .pointer (some ⟨g1, 0, none⟩) ∧ a.eval (.tmp 2) = .pointer (some ⟨g2, 0, none⟩) ∧ a.eval (.tmp 3) = pv ∧ a.eval (.tmp 4) = .int .i64 ((i : Nat) : Int) ∧ Below V.heap.size V W ∧ (W.heap[g1]? = some (.cells (piC ((I : Nat) : Int) ((C : Nat) : Int) ((K : Nat) : Int) ((c0 : Nat) : Int) ((c1 : Nat) : Int) s) 61)) ∧ (W.heap[g2]? = some (.cells (#[.slice none 0 0, .slice none 0 0]) 32)) ∧ (W.ownsRow V.heap.size 35 3 pv (2 * i) (opL (2 * i) fdQ))) (fun a _ => I - (intOf (a.eval (.tmp 4))).toNat) ⟨0, _, Nat.zero_le _, A, t1, t2, t3, t4, BB, Fg1, Fg2, FO⟩ ?_
  clear A t1 t2 t3 t4 BB Fg1 Fg2 FO a
  rintro a XL3 ⟨i, pv, hi, A, t1, t2, t3, t4, BB, Fg1, Fg2, FO⟩
  have es := t4
  refine wp_seq ?_
  refine wp_seq ?_
  refine wi_ A (h4_ t1 t2 t3 t4) (rv_ 1 (.pointer (some ⟨g1, 0, none⟩)) (fun a ee => execPi0 rfl (ee _)) (rv_ 2 (.int .i64 ((I : Nat) : Int)) (fun a ee => execLdG rfl (Or.inr (Or.inl rfl)) (ee _) (piC_at Fg1).1) (rv_ 3 (.bool (decide (i < I))) (fun a ee => execLtW (p := i) (q := I) rfl (ee _) (ee _)) (rf_ [(12, .bool (decide (i < I)))] (h4_ t1 t2 t3 t4) ?_))))
  rintro a A ⟨t12, -⟩ ⟨t1, t2, t3, t4, -⟩
  by_cases hlt : i < I
  · rw [decide_eq_true hlt] at t12
    refine wp_cond_true t12 ?_
    refine wp_skip ?_
    clear t12
    refine wp_seq ?_
    refine wp_block ?_
    obtain ⟨q0, q1⟩ := fdQ_two i
    obtain ⟨g18, egg18⟩ : ∃ z_ : Nat, XL3.heap.size = z_ := ⟨_, rfl⟩
    refine wi_ A (h4_ t1 t2 t3 t4) (rv_ 1 (.agg (oC 5 1 0)) (fun a ee => execBo01 rfl rfl rfl) (rv_ 2 (.agg (oC 1 0 0)) (fun a ee => execBo0 rfl rfl) (rs_ 3 (fun a ee => ?_))))
    refine stepV rfl rfl (execBs2O (fun j => fdQ (2 * i + j)) rfl (by rw [q0]; exact (ee _)) (by rw [q1]; exact (ee _))) ⟨.slice (some ⟨g18, 0, none⟩) 2 2, ⟨_, rfl, by subst egg18; rfl⟩, fun X5_1 hX => ?_⟩
    have bQ : Below XL3.heap.size XL3 X5_1 := by subst hX egg18; exact (belNew XL3 _)
    have Fg18 : (X5_1.heap[g18]? = some (.cells (oR 2 (fun j => fdQ (2 * i + j))) 35)) := by subst hX egg18; exact heapNew XL3 _
    have Fgeg18 : (V.heap.size ≤ g18) := by subst hX egg18; exact (BB).size
    replace Fg1 := (on9 Fg1 bQ)
    replace Fg2 := (on9 Fg2 bQ)
    replace FO := (ownD_below FO bQ)
    replace BB := BB.trans (bQ.mono BB.size)
    clear bQ hX egg18 ee a
    refine rs_ 4 (fun a ee => ?_)
    refine stepAppOp (q := fdQ) rfl rfl rfl (ee _) (ee _) FO Fg18 (by omega) (BB).size fun p2 X5 own' gr => ⟨_, ⟨_, rfl, rfl⟩, eqw ?_⟩
    obtain ⟨BB, Fg1, Fg2, FO2⟩ : Below V.heap.size V X5 ∧ (X5.heap[g1]? = some (.cells (piC ((I : Nat) : Int) ((C : Nat) : Int) ((K : Nat) : Int) ((c0 : Nat) : Int) ((c1 : Nat) : Int) s) 61)) ∧ (X5.heap[g2]? = some (.cells (#[.slice none 0 0, .slice none 0 0]) 32)) ∧ (X5.ownsRow V.heap.size 35 3 p2 (2 * i + 2) (opL (2 * i + 2) fdQ)) := ⟨(BB).grown gr (BB).size (fun k hk => (FO.lt k hk).1), (keep_over Fg1 FO gr (by decide)), (keep_over Fg2 FO gr (by decide)), own'⟩
    clear FO Fg18 ee a
    refine rf_ [(3, p2)] (h3_ t1 t2 t4) ?_
    rintro a A ⟨t3, -⟩ ⟨t1, t2, t4, -⟩
    replace FO2 : (X5.ownsRow V.heap.size 35 3 p2 (2 * (i + 1)) (opL (2 * (i + 1)) fdQ)) := by rw [show 2 * (i + 1) = 2 * i + 2 by omega]; exact FO2
    refine wi_ A (h4_ t1 t2 t3 t4) (rv_ 1 (.int .i64 ((i + 1 : Nat) : Int)) (fun a ee => execAd8 (p := i) (q := 1) rfl (ee _) rfl (by omega)) (rf_ [(4, .int .i64 ((i + 1 : Nat) : Int))] (h3_ t1 t2 t3) ?_))
    rintro a A ⟨t4, -⟩ ⟨t1, t2, t3, -⟩
    exact ⟨⟨i + 1, _, hlt, A, t1, t2, t3, t4, BB, Fg1, Fg2, FO2⟩, by show I - (intOf (a.eval (.tmp 4))).toNat < I - (intOf (Act.eval _ (.tmp 4))).toNat; rw [t4, es]; show I - (i + 1) < I - i; omega⟩
  · rw [decide_eq_false hlt] at t12
    refine wp_cond_false t12 ?_
    refine wp_exit ?_
    first | with_reducible refine exit_in ?_ | with_reducible refine exit_then (exit_in ?_) | with_reducible refine exit_then (exit_then (exit_in ?_)) | refine exit_in ?_ | refine exit_then (exit_in ?_) | refine exit_then (exit_then (exit_in ?_))
    clear t12 es
    obtain rfl : I = i := by omega
    replace FO : XL3.ownsRow V.heap.size 35 3 pv (2 * I) (opL (2 * I) (fdE I)) := by rw [opL_cg (q := fdE I) (r := fdQ) (fun j hj => if_neg (by omega))]; exact FO
    refine wp_seq ?_
    obtain ⟨g22, egg22⟩ : ∃ z_ : Nat, XL3.heap.size = z_ := ⟨_, rfl⟩
    refine wi_ A (h3_ t1 t2 t3) (rv_ 1 (.agg (oC 3 0 0)) (fun a ee => execBo0 rfl rfl) (rs_ 2 (fun a ee => ?_)))
    refine stepV rfl rfl (execBs1O (fun j => fdE I (2 * I + j)) rfl (by rw [show fdE I (2 * I + 0) = ⟨3, 0, 0⟩ from if_pos rfl]; exact (ee _))) ⟨.slice (some ⟨g22, 0, none⟩) 1 1, ⟨_, rfl, by subst egg22; rfl⟩, fun X6_1 hX => ?_⟩
    have bQ : Below XL3.heap.size XL3 X6_1 := by subst hX egg22; exact (belNew XL3 _)
    have Fg22 : (X6_1.heap[g22]? = some (.cells (oR 1 (fun j => fdE I (2 * I + j))) 35)) := by subst hX egg22; exact heapNew XL3 _
    have Fgeg22 : (V.heap.size ≤ g22) := by subst hX egg22; exact (BB).size
    replace Fg1 := (on9 Fg1 bQ)
    replace Fg2 := (on9 Fg2 bQ)
    replace FO := (ownD_below FO bQ)
    replace BB := BB.trans (bQ.mono BB.size)
    clear bQ hX egg22 ee a
    refine rs_ 3 (fun a ee => ?_)
    refine stepAppOp (q := (fdE I)) rfl rfl rfl (ee _) (ee _) FO Fg22 (by omega) (BB).size fun p3 X6_2 own' gr => ⟨_, ⟨_, rfl, rfl⟩, eqw ?_⟩
    obtain ⟨BB, Fg1, Fg2, FO3⟩ : Below V.heap.size V X6_2 ∧ (X6_2.heap[g1]? = some (.cells (piC ((I : Nat) : Int) ((C : Nat) : Int) ((K : Nat) : Int) ((c0 : Nat) : Int) ((c1 : Nat) : Int) s) 61)) ∧ (X6_2.heap[g2]? = some (.cells (#[.slice none 0 0, .slice none 0 0]) 32)) ∧ (X6_2.ownsRow V.heap.size 35 3 p3 (2 * I + 1) (opL (2 * I + 1) (fdE I))) := ⟨(BB).grown gr (BB).size (fun k hk => (FO.lt k hk).1), (keep_over Fg1 FO gr (by decide)), (keep_over Fg2 FO gr (by decide)), own'⟩
    clear FO Fg22 ee a
    obtain ⟨g24, egg24⟩ : ∃ z_ : Nat, X6_2.heap.size = z_ := ⟨_, rfl⟩
    refine rs_ 4 (fun a ee => ?_)
    refine stepV rfl rfl (execBs1V (fun _ => p3) rfl (ee _) (fun i hi => own_slq2 FO3)) ⟨.slice (some ⟨g24, 0, none⟩) 1 1, ⟨_, rfl, by subst egg24; rfl⟩, fun X6 hX => ?_⟩
    have bQ : Below X6_2.heap.size X6_2 X6 := by subst hX egg24; exact (belNew X6_2 _)
    have Fg24 : (X6.heap[g24]? = some (.cells (vR 1 (fun _ => p3)) 36)) := by subst hX egg24; exact heapNew X6_2 _
    have Fgeg24 : (V.heap.size ≤ g24) := by subst hX egg24; exact (BB).size
    replace Fg1 := (on9 Fg1 bQ)
    replace Fg2 := (on9 Fg2 bQ)
    replace FO3 := (ownD_below FO3 bQ)
    replace BB := BB.trans (bQ.mono BB.size)
    clear bQ hX egg24 ee a
    refine rf_ [(5, .slice (some ⟨g24, 0, none⟩) 1 1)] (h2_ t1 t2) ?_
    rintro a A ⟨t5, -⟩ ⟨t1, t2, -⟩
    have FP : Plg V.heap.size X6 (pipP I C K c0 c1) (1 + 0) (fun _ => p3) (.slice (some ⟨g24, 0, none⟩) 1 1) (.slice none 0 0) 0 wtQ := ⟨fun t ht => (by obtain rfl : t = 0 := (by omega); exact FO3), fun t ht b hb z => (by cases z), own_vR Fg24 Fgeg24 (by omega), World.ownsRow_nil _ _ _ _⟩
    clear FO3 Fg24
    refine wp_seq ?_
    refine wi_ A (h3_ t1 t2 t5) (rf_ [(6, .slice none 0 0)] (h3_ t1 t2 t5) ?_)
    rintro a A ⟨t6, -⟩ ⟨t1, t2, t5, -⟩
    refine wp_seq ?_
    refine wp_seq ?_
    refine wi_ A (h4_ t1 t2 t5 t6) (rf_ [(7, .int .i64 ((0 : Nat) : Int))] (h4_ t1 t2 t5 t6) ?_)
    rintro a A ⟨t7, -⟩ ⟨t1, t2, t5, t6, -⟩
    refine wp_block ?_
    refine wp_loop (fun a W => ∃ (i : Nat) (x : Nat → Value) (tl : Value) (wv : Value), i ≤ C ∧ (a.tmps.size = 70 ∧ a.defers = []) ∧ a.eval (.tmp 1) = .pointer (some ⟨g1, 0, none⟩) ∧ a.eval (.tmp 2) = .pointer (some ⟨g2, 0, none⟩) ∧ a.eval (.tmp 5) = tl ∧ a.eval (.tmp 6) = wv ∧ a.eval (.tmp 7) = .int .i64 ((i : Nat) : Int) ∧ Below V.heap.size V W ∧ (W.heap[g1]? = some (.cells (piC ((I : Nat) : Int) ((C : Nat) : Int) ((K : Nat) : Int) ((c0 : Nat) : Int) ((c1 : Nat) : Int) s) 61)) ∧ (W.heap[g2]? = some (.cells (#[.slice none 0 0, .slice none 0 0]) 32)) ∧ (Plg V.heap.size W (pipP I C K c0 c1) (1 + i) x tl wv (i) wtQ)) (fun a _ => C - (intOf (a.eval (.tmp 7))).toNat) ⟨0, _, _, _, Nat.zero_le _, A, t1, t2, t5, t6, t7, BB, Fg1, Fg2, FP⟩ ?_
    clear A t1 t2 t5 t6 t7 BB Fg1 Fg2 FP a
    rintro a XL9 ⟨i, x, tl, wv, hi, A, t1, t2, t5, t6, t7, BB, Fg1, Fg2, FP⟩
    have es := t7
    refine wp_seq ?_
    refine wp_seq ?_
    refine wi_ A (h5_ t1 t2 t5 t6 t7) (rv_ 1 (.pointer (some ⟨g1, 1, none⟩)) (fun a ee => execPi1 rfl (ee _)) (rv_ 2 (.int .i64 ((C : Nat) : Int)) (fun a ee => execLdG rfl (Or.inr (Or.inl rfl)) (ee _) (piC_at Fg1).2.1) (rv_ 3 (.bool (decide (i < C))) (fun a ee => execLtW (p := i) (q := C) rfl (ee _) (ee _)) (rf_ [(28, .bool (decide (i < C)))] (h5_ t1 t2 t5 t6 t7) ?_))))
    rintro a A ⟨t28, -⟩ ⟨t1, t2, t5, t6, t7, -⟩
    by_cases hlt : i < C
    · rw [decide_eq_true hlt] at t28
      refine wp_cond_true t28 ?_
      refine wp_skip ?_
      clear t28
      refine wp_seq ?_
      refine wp_block ?_
      refine wp_seq ?_
      obtain ⟨g35, egg35⟩ : ∃ z_ : Nat, XL9.heap.size = z_ := ⟨_, rfl⟩
      refine wi_ A (h5_ t1 t2 t5 t6 t7) (rv_ 1 (.agg (oC 2 0 3)) (fun a ee => execBo02 rfl rfl rfl) (rv_ 2 (.agg (oC 1 1 0)) (fun a ee => execBo01 rfl rfl rfl) (rv_ 3 (.agg (oC 6 0 0)) (fun a ee => execBo0 rfl rfl) (rs_ 4 (fun a ee => ?_)))))
      refine stepV rfl rfl (execBs3O carO rfl (ee _) (ee _) (ee _)) ⟨.slice (some ⟨g35, 0, none⟩) 3 3, ⟨_, rfl, by subst egg35; rfl⟩, fun X11_1 hX => ?_⟩
      have bQ : Below XL9.heap.size XL9 X11_1 := by subst hX egg35; exact (belNew XL9 _)
      have Fg35 : (X11_1.heap[g35]? = some (.cells (oR 3 carO) 35)) := by subst hX egg35; exact heapNew XL9 _
      have Fgeg35 : (V.heap.size ≤ g35) := by subst hX egg35; exact (BB).size
      have Fdg35 : (∀ b, wv.ownBlock = some b → b ≠ g35) := by subst hX egg35; exact fun b_ e_ => Nat.ne_of_lt ((FP).wt.lt b_ e_).2
      replace Fg1 := (on9 Fg1 bQ)
      replace Fg2 := (on9 Fg2 bQ)
      replace FP := (FP.on bQ)
      replace BB := BB.trans (bQ.mono BB.size)
      clear bQ hX egg35 ee a
      obtain ⟨g36, egg36⟩ : ∃ z_ : Nat, X11_1.heap.size = z_ := ⟨_, rfl⟩
      refine rs_ 5 (fun a ee => ?_)
      refine stepV rfl rfl (execBs1V (fun _ => .slice (some ⟨g35, 0, none⟩) 3 3) rfl (ee _) (fun _ _ => ⟨_, _, _, rfl⟩)) ⟨.slice (some ⟨g36, 0, none⟩) 1 1, ⟨_, rfl, by subst egg36; rfl⟩, fun X11_2 hX => ?_⟩
      have bQ : Below X11_1.heap.size X11_1 X11_2 := by subst hX egg36; exact (belNew X11_1 _)
      have Fg36 : (X11_2.heap[g36]? = some (.cells (vR 1 (fun _ => .slice (some ⟨g35, 0, none⟩) 3 3)) 36)) := by subst hX egg36; exact heapNew X11_1 _
      have Fgeg36 : (V.heap.size ≤ g36) := by subst hX egg36; exact (BB).size
      replace Fg1 := (on9 Fg1 bQ)
      replace Fg2 := (on9 Fg2 bQ)
      replace FP := (FP.on bQ)
      replace Fg35 := (on9 Fg35 bQ)
      replace BB := BB.trans (bQ.mono BB.size)
      clear bQ hX egg36 ee a
      refine rs_ 6 (fun a ee => ?_)
      refine stepAppVO (u := .slice (some ⟨g35, 0, none⟩) 3 3) rfl rfl rfl (ee _) (ee _) FP.tl Fg36 ⟨_, _, _, rfl⟩ (by omega) (BB).size fun tl2 X11 own' gr => ⟨_, ⟨_, rfl, rfl⟩, eqw ?_⟩
      obtain ⟨BB, Fg1, Fg2, FP2⟩ : Below V.heap.size V X11 ∧ (X11.heap[g1]? = some (.cells (piC ((I : Nat) : Int) ((C : Nat) : Int) ((K : Nat) : Int) ((c0 : Nat) : Int) ((c1 : Nat) : Int) s) 61)) ∧ (X11.heap[g2]? = some (.cells (#[.slice none 0 0, .slice none 0 0]) 32)) ∧ (Plg V.heap.size X11 (pipP I C K c0 c1) (1 + (i + 1)) (updX x (1 + i) (.slice (some ⟨g35, 0, none⟩) 3 3)) tl2 wv (i) wtQ) := ⟨(BB).grown gr (BB).size (fun k hk => (FP.tl.lt k hk).1), (keep_over Fg1 FP.tl gr (by decide)), (keep_over Fg2 FP.tl gr (by decide)), (FP.add (by rw [(pipC_at hlt).1, opL_cg (fun j _ => (pipC_at hlt).2 j)]; exact own_oR Fg35 Fgeg35 (by omega)) (fun b_ e_ z_ => Fdg35 b_ z_ (by cases e_; rfl)) own' gr)⟩
      clear FP Fg35 Fg36 ee a
      refine rf_ [(5, tl2)] (h4_ t1 t2 t6 t7) ?_
      rintro a A ⟨t5, -⟩ ⟨t1, t2, t6, t7, -⟩
      obtain ⟨g42, egg42⟩ : ∃ z_ : Nat, X11.heap.size = z_ := ⟨_, rfl⟩
      refine wi_ A (h5_ t1 t2 t5 t6 t7) (rv_ 2 (.int .i64 ((1 + i : Nat) : Int)) (fun a ee => execAd8 (p := 1) (q := i) rfl rfl (ee _) (by omega)) (rv_ 3 (.agg (oC 9 ((1 + i : Nat) : Int) 0)) (fun a ee => execBo01 rfl rfl (ee _)) (rs_ 4 (fun a ee => ?_))))
      refine stepV rfl rfl (execBs1O (fun j => wtQ (i + j)) rfl (ee _)) ⟨.slice (some ⟨g42, 0, none⟩) 1 1, ⟨_, rfl, by subst egg42; rfl⟩, fun X12_1 hX => ?_⟩
      have bQ : Below X11.heap.size X11 X12_1 := by subst hX egg42; exact (belNew X11 _)
      have Fg42 : (X12_1.heap[g42]? = some (.cells (oR 1 (fun j => wtQ (i + j))) 35)) := by subst hX egg42; exact heapNew X11 _
      have Fgeg42 : (V.heap.size ≤ g42) := by subst hX egg42; exact (BB).size
      replace Fg1 := (on9 Fg1 bQ)
      replace Fg2 := (on9 Fg2 bQ)
      replace FP2 := (FP2.on bQ)
      replace BB := BB.trans (bQ.mono BB.size)
      clear bQ hX egg42 ee a
      refine rs_ 5 (fun a ee => ?_)
      refine stepAppOpP (q := wtQ) rfl rfl rfl (ee _) (ee _) FP2.wt Fg42 (by omega) (by omega) (BB).size fun wv2 X12 own' pl_ => ?_
      have gr := app_gr pl_
      refine ⟨_, ⟨_, rfl, rfl⟩, eqw ?_⟩
      obtain ⟨BB, Fg1, Fg2, FP3⟩ : Below V.heap.size V X12 ∧ (X12.heap[g1]? = some (.cells (piC ((I : Nat) : Int) ((C : Nat) : Int) ((K : Nat) : Int) ((c0 : Nat) : Int) ((c1 : Nat) : Int) s) 61)) ∧ (X12.heap[g2]? = some (.cells (#[.slice none 0 0, .slice none 0 0]) 32)) ∧ (Plg V.heap.size X12 (pipP I C K c0 c1) (1 + (i + 1)) (updX x (1 + i) (.slice (some ⟨g35, 0, none⟩) 3 3)) tl2 wv2 (i + 1) wtQ) := ⟨(BB).grown gr (BB).size (fun k hk => (FP2.wt.lt k hk).1), (keep_over Fg1 FP2.wt gr (by decide)), (keep_over Fg2 FP2.wt gr (by decide)), (FP2.wait own' pl_)⟩
      clear FP2 Fg42 ee a
      refine rf_ [(6, wv2)] (h4_ t1 t2 t5 t7) ?_
      rintro a A ⟨t6, -⟩ ⟨t1, t2, t5, t7, -⟩
      refine wi_ A (h5_ t1 t2 t5 t6 t7) (rv_ 1 (.int .i64 ((i + 1 : Nat) : Int)) (fun a ee => execAd8 (p := i) (q := 1) rfl (ee _) rfl (by omega)) (rf_ [(7, .int .i64 ((i + 1 : Nat) : Int))] (h4_ t1 t2 t5 t6) ?_))
      rintro a A ⟨t7, -⟩ ⟨t1, t2, t5, t6, -⟩
      exact ⟨⟨i + 1, _, _, _, hlt, A, t1, t2, t5, t6, t7, BB, Fg1, Fg2, FP3⟩, by show C - (intOf (a.eval (.tmp 7))).toNat < C - (intOf (Act.eval _ (.tmp 7))).toNat; rw [t7, es]; show C - (i + 1) < C - i; omega⟩
    · rw [decide_eq_false hlt] at t28
      refine wp_cond_false t28 ?_
      refine wp_exit ?_
      first | with_reducible refine exit_in ?_ | with_reducible refine exit_then (exit_in ?_) | with_reducible refine exit_then (exit_then (exit_in ?_)) | refine exit_in ?_ | refine exit_then (exit_in ?_) | refine exit_then (exit_then (exit_in ?_))
      clear t28 es
      obtain rfl : C = i := by omega
      replace FP : (Plg V.heap.size XL9 (pipP I C K c0 c1) (1 + C) x tl wv (C) (wtE C)) := ⟨FP.rows, FP.dis, FP.tl, by rw [opL_cg (q := wtE C) (r := wtQ) (fun j hj => if_neg (by omega))]; exact FP.wt⟩
      refine wp_seq ?_
      obtain ⟨g47, egg47⟩ : ∃ z_ : Nat, XL9.heap.size = z_ := ⟨_, rfl⟩
      refine wi_ A (h4_ t1 t2 t5 t6) (rv_ 2 (.agg (oC 3 1 0)) (fun a ee => execBo01 rfl rfl rfl) (rs_ 3 (fun a ee => ?_)))
      refine stepV rfl rfl (execBs1O (fun j => wtE C (C + j)) rfl (by rw [show wtE C (C + 0) = ⟨3, 1, 0⟩ from if_pos rfl]; exact (ee _))) ⟨.slice (some ⟨g47, 0, none⟩) 1 1, ⟨_, rfl, by subst egg47; rfl⟩, fun X13_1 hX => ?_⟩
      have bQ : Below XL9.heap.size XL9 X13_1 := by subst hX egg47; exact (belNew XL9 _)
      have Fg47 : (X13_1.heap[g47]? = some (.cells (oR 1 (fun j => wtE C (C + j))) 35)) := by subst hX egg47; exact heapNew XL9 _
      have Fgeg47 : (V.heap.size ≤ g47) := by subst hX egg47; exact (BB).size
      replace Fg1 := (on9 Fg1 bQ)
      replace Fg2 := (on9 Fg2 bQ)
      replace FP := (FP.on bQ)
      replace BB := BB.trans (bQ.mono BB.size)
      clear bQ hX egg47 ee a
      refine rs_ 4 (fun a ee => ?_)
      refine stepAppOpP (q := wtE C) rfl rfl rfl (ee _) (ee _) FP.wt Fg47 (by omega) (by omega) (BB).size fun wv2 X13_2 own' pl_ => ?_
      have gr := app_gr pl_
      refine ⟨_, ⟨_, rfl, rfl⟩, eqw ?_⟩
      obtain ⟨BB, Fg1, Fg2, FP3⟩ : Below V.heap.size V X13_2 ∧ (X13_2.heap[g1]? = some (.cells (piC ((I : Nat) : Int) ((C : Nat) : Int) ((K : Nat) : Int) ((c0 : Nat) : Int) ((c1 : Nat) : Int) s) 61)) ∧ (X13_2.heap[g2]? = some (.cells (#[.slice none 0 0, .slice none 0 0]) 32)) ∧ (Plg V.heap.size X13_2 (pipP I C K c0 c1) (1 + C) x tl wv2 (C + 1) (wtE C)) := ⟨(BB).grown gr (BB).size (fun k hk => (FP.wt.lt k hk).1), (keep_over Fg1 FP.wt gr (by decide)), (keep_over Fg2 FP.wt gr (by decide)), (FP.wait own' pl_)⟩
      clear FP Fg47 ee a
      obtain ⟨g49, egg49⟩ : ∃ z_ : Nat, X13_2.heap.size = z_ := ⟨_, rfl⟩
      refine rs_ 5 (fun a ee => ?_)
      refine stepV rfl rfl (execBs1V (fun _ => wv2) rfl (ee _) (fun _ _ => own_slq2 FP3.wt)) ⟨.slice (some ⟨g49, 0, none⟩) 1 1, ⟨_, rfl, by subst egg49; rfl⟩, fun X13_3 hX => ?_⟩
      have bQ : Below X13_2.heap.size X13_2 X13_3 := by subst hX egg49; exact (belNew X13_2 _)
      have Fg49 : (X13_3.heap[g49]? = some (.cells (vR 1 (fun _ => wv2)) 36)) := by subst hX egg49; exact heapNew X13_2 _
      have Fgeg49 : (V.heap.size ≤ g49) := by subst hX egg49; exact (BB).size
      replace Fg1 := (on9 Fg1 bQ)
      replace Fg2 := (on9 Fg2 bQ)
      replace FP3 := (FP3.on bQ)
      replace BB := BB.trans (bQ.mono BB.size)
      clear bQ hX egg49 ee a
      refine rs_ 6 (fun a ee => ?_)
      refine stepAppVO (u := wv2) rfl rfl rfl (ee _) (ee _) FP3.tl Fg49 (own_slq2 FP3.wt) (by omega) (BB).size fun tl2 X13 own' gr => ⟨_, ⟨_, rfl, rfl⟩, eqw ?_⟩
      obtain ⟨BB, Fg1, Fg2, FP4⟩ : Below V.heap.size V X13 ∧ (X13.heap[g1]? = some (.cells (piC ((I : Nat) : Int) ((C : Nat) : Int) ((K : Nat) : Int) ((c0 : Nat) : Int) ((c1 : Nat) : Int) s) 61)) ∧ (X13.heap[g2]? = some (.cells (#[.slice none 0 0, .slice none 0 0]) 32)) ∧ (Plg V.heap.size X13 (pipP I C K c0 c1) (C + 2 + 0) (updX x (1 + C) wv2) tl2 (.slice none 0 0) (0) (wtE C)) := ⟨(BB).grown gr (BB).size (fun k hk => (FP3.tl.lt k hk).1), (keep_over Fg1 FP3.tl gr (by decide)), (keep_over Fg2 FP3.tl gr (by decide)), (by rw [show C + 2 + 0 = 1 + C + 1 by omega]; exact FP3.join pipW_at.1 (fun j _ => pipW_at.2 j) own' gr)⟩
      clear FP3 Fg49 ee a
      refine rf_ [(5, tl2)] (h2_ t1 t2) ?_
      rintro a A ⟨t5, -⟩ ⟨t1, t2, -⟩
      have FP := FP4
      clear FP4
      refine wp_seq ?_
      refine wp_seq ?_
      refine wi_ A (h3_ t1 t2 t5) (rf_ [(8, .int .i64 ((0 : Nat) : Int))] (h3_ t1 t2 t5) ?_)
      rintro a A ⟨t8, -⟩ ⟨t1, t2, t5, -⟩
      refine wp_block ?_
      refine wp_loop (fun a W => ∃ (i : Nat) (x2 : Nat → Value) (tl4 : Value), i ≤ K ∧ (a.tmps.size = 70 ∧ a.defers = []) ∧ a.eval (.tmp 1) = .pointer (some ⟨g1, 0, none⟩) ∧ a.eval (.tmp 2) = .pointer (some ⟨g2, 0, none⟩) ∧ a.eval (.tmp 5) = tl4 ∧ a.eval (.tmp 8) = .int .i64 ((i : Nat) : Int) ∧ Below V.heap.size V W ∧ (W.heap[g1]? = some (.cells (piC ((I : Nat) : Int) ((C : Nat) : Int) ((K : Nat) : Int) ((c0 : Nat) : Int) ((c1 : Nat) : Int) s) 61)) ∧ (W.heap[g2]? = some (.cells (#[.slice none 0 0, .slice none 0 0]) 32)) ∧ (Plg V.heap.size W (pipP I C K c0 c1) (C + 2 + i) x2 tl4 (.slice none 0 0) (0) (wtE C))) (fun a _ => K - (intOf (a.eval (.tmp 8))).toNat) ⟨0, _, _, Nat.zero_le _, A, t1, t2, t5, t8, BB, Fg1, Fg2, FP⟩ ?_
      clear A t1 t2 t5 t8 BB Fg1 Fg2 FP a
      rintro a XL15 ⟨i, x2, tl4, hi, A, t1, t2, t5, t8, BB, Fg1, Fg2, FP⟩
      have es := t8
      refine wp_seq ?_
      refine wp_seq ?_
      refine wi_ A (h4_ t1 t2 t5 t8) (rv_ 1 (.pointer (some ⟨g1, 2, none⟩)) (fun a ee => execPi2 rfl (ee _)) (rv_ 2 (.int .i64 ((K : Nat) : Int)) (fun a ee => execLdG rfl (Or.inr (Or.inl rfl)) (ee _) (piC_at Fg1).2.2.1) (rv_ 3 (.bool (decide (i < K))) (fun a ee => execLtW (p := i) (q := K) rfl (ee _) (ee _)) (rf_ [(54, .bool (decide (i < K)))] (h4_ t1 t2 t5 t8) ?_))))
      rintro a A ⟨t54, -⟩ ⟨t1, t2, t5, t8, -⟩
      by_cases hlt : i < K
      · rw [decide_eq_true hlt] at t54
        refine wp_cond_true t54 ?_
        refine wp_skip ?_
        clear t54
        refine wp_seq ?_
        refine wp_block ?_
        obtain ⟨g60, egg60⟩ : ∃ z_ : Nat, XL15.heap.size = z_ := ⟨_, rfl⟩
        refine wi_ A (h4_ t1 t2 t5 t8) (rv_ 1 (.agg (oC 2 1 2)) (fun a ee => execBo012 rfl rfl rfl rfl) (rv_ 2 (.agg (oC 6 0 0)) (fun a ee => execBo0 rfl rfl) (rs_ 3 (fun a ee => ?_))))
        refine stepV rfl rfl (execBs2O tkrO rfl (ee _) (ee _)) ⟨.slice (some ⟨g60, 0, none⟩) 2 2, ⟨_, rfl, by subst egg60; rfl⟩, fun X17_1 hX => ?_⟩
        have bQ : Below XL15.heap.size XL15 X17_1 := by subst hX egg60; exact (belNew XL15 _)
        have Fg60 : (X17_1.heap[g60]? = some (.cells (oR 2 tkrO) 35)) := by subst hX egg60; exact heapNew XL15 _
        have Fgeg60 : (V.heap.size ≤ g60) := by subst hX egg60; exact (BB).size
        replace Fg1 := (on9 Fg1 bQ)
        replace Fg2 := (on9 Fg2 bQ)
        replace FP := (FP.on bQ)
        replace BB := BB.trans (bQ.mono BB.size)
        clear bQ hX egg60 ee a
        obtain ⟨g61, egg61⟩ : ∃ z_ : Nat, X17_1.heap.size = z_ := ⟨_, rfl⟩
        refine rs_ 4 (fun a ee => ?_)
        refine stepV rfl rfl (execBs1V (fun _ => .slice (some ⟨g60, 0, none⟩) 2 2) rfl (ee _) (fun _ _ => ⟨_, _, _, rfl⟩)) ⟨.slice (some ⟨g61, 0, none⟩) 1 1, ⟨_, rfl, by subst egg61; rfl⟩, fun X17_2 hX => ?_⟩
        have bQ : Below X17_1.heap.size X17_1 X17_2 := by subst hX egg61; exact (belNew X17_1 _)
        have Fg61 : (X17_2.heap[g61]? = some (.cells (vR 1 (fun _ => .slice (some ⟨g60, 0, none⟩) 2 2)) 36)) := by subst hX egg61; exact heapNew X17_1 _
        have Fgeg61 : (V.heap.size ≤ g61) := by subst hX egg61; exact (BB).size
        replace Fg1 := (on9 Fg1 bQ)
        replace Fg2 := (on9 Fg2 bQ)
        replace FP := (FP.on bQ)
        replace Fg60 := (on9 Fg60 bQ)
        replace BB := BB.trans (bQ.mono BB.size)
        clear bQ hX egg61 ee a
        refine rs_ 5 (fun a ee => ?_)
        refine stepAppVO (u := .slice (some ⟨g60, 0, none⟩) 2 2) rfl rfl rfl (ee _) (ee _) FP.tl Fg61 ⟨_, _, _, rfl⟩ (by omega) (BB).size fun tl3 X17 own' gr => ⟨_, ⟨_, rfl, rfl⟩, eqw ?_⟩
        obtain ⟨BB, Fg1, Fg2, FP2⟩ : Below V.heap.size V X17 ∧ (X17.heap[g1]? = some (.cells (piC ((I : Nat) : Int) ((C : Nat) : Int) ((K : Nat) : Int) ((c0 : Nat) : Int) ((c1 : Nat) : Int) s) 61)) ∧ (X17.heap[g2]? = some (.cells (#[.slice none 0 0, .slice none 0 0]) 32)) ∧ (Plg V.heap.size X17 (pipP I C K c0 c1) (C + 2 + (i + 1)) (updX x2 (C + 2 + i) (.slice (some ⟨g60, 0, none⟩) 2 2)) tl3 (.slice none 0 0) (0) (wtE C)) := ⟨(BB).grown gr (BB).size (fun k hk => (FP.tl.lt k hk).1), (keep_over Fg1 FP.tl gr (by decide)), (keep_over Fg2 FP.tl gr (by decide)), (FP.add (by rw [pipK_at.1, opL_cg (fun j _ => pipK_at.2 j)]; exact own_oR Fg60 Fgeg60 (by omega)) (fun b_ e_ z_ => by cases z_) own' gr)⟩
        clear FP Fg60 Fg61 ee a
        refine rf_ [(5, tl3)] (h3_ t1 t2 t8) ?_
        rintro a A ⟨t5, -⟩ ⟨t1, t2, t8, -⟩
        refine wi_ A (h4_ t1 t2 t5 t8) (rv_ 1 (.int .i64 ((i + 1 : Nat) : Int)) (fun a ee => execAd8 (p := i) (q := 1) rfl (ee _) rfl (by omega)) (rf_ [(8, .int .i64 ((i + 1 : Nat) : Int))] (h3_ t1 t2 t5) ?_))
        rintro a A ⟨t8, -⟩ ⟨t1, t2, t5, -⟩
        exact ⟨⟨i + 1, _, _, hlt, A, t1, t2, t5, t8, BB, Fg1, Fg2, FP2⟩, by show K - (intOf (a.eval (.tmp 8))).toNat < K - (intOf (Act.eval _ (.tmp 8))).toNat; rw [t8, es]; show K - (i + 1) < K - i; omega⟩
      · rw [decide_eq_false hlt] at t54
        refine wp_cond_false t54 ?_
        refine wp_exit ?_
        first | with_reducible refine exit_in ?_ | with_reducible refine exit_then (exit_in ?_) | with_reducible refine exit_then (exit_then (exit_in ?_)) | refine exit_in ?_ | refine exit_then (exit_in ?_) | refine exit_then (exit_then (exit_in ?_))
        clear t54 es
        obtain rfl : K = i := by omega
        refine wp_seq ?_
        obtain ⟨g67, egg67⟩ : ∃ z_ : Nat, XL15.heap.size = z_ := ⟨_, rfl⟩
        refine wi_ A (h3_ t1 t2 t5) (rv_ 0 (.pointer (some ⟨g1, 3, none⟩)) (fun a ee => execPi3 rfl (ee _)) (rv_ 1 (.int .i64 ((c0 : Nat) : Int)) (fun a ee => execLdG rfl (Or.inr (Or.inl rfl)) (ee _) (piC_at Fg1).2.2.2.1) (rv_ 2 (.pointer (some ⟨g1, 4, none⟩)) (fun a ee => execPi4 rfl (ee _)) (rv_ 3 (.int .i64 ((c1 : Nat) : Int)) (fun a ee => execLdG rfl (Or.inr (Or.inl rfl)) (ee _) (piC_at Fg1).2.2.2.2.1) (rs_ 4 (fun a ee => ?_))))))
        refine stepV rfl rfl (execBs2I (fun i => if i = 0 then ((c0 : Nat) : Int) else ((c1 : Nat) : Int)) rfl (ee _) (ee _)) ⟨.slice (some ⟨g67, 0, none⟩) 2 2, ⟨_, rfl, by subst egg67; rfl⟩, fun X18_1 hX => ?_⟩
        have bQ : Below XL15.heap.size XL15 X18_1 := by subst hX egg67; exact (belNew XL15 _)
        have Fg67 : (X18_1.heap[g67]? = some (.cells (iR 2 (fun i => if i = 0 then ((c0 : Nat) : Int) else ((c1 : Nat) : Int))) 3)) := by subst hX egg67; exact heapNew XL15 _
        have Fgeg67 : (V.heap.size ≤ g67) := by subst hX egg67; exact (BB).size
        replace Fg1 := (on9 Fg1 bQ)
        replace Fg2 := (on9 Fg2 bQ)
        replace FP := (FP.on bQ)
        replace BB := BB.trans (bQ.mono BB.size)
        clear bQ hX egg67 ee a
        refine rv_ 6 (.agg #[.slice (some ⟨g67, 0, none⟩) 2 2, tl4]) (fun a ee => execBp01 rfl (ee _) (ee _) ⟨_, _, _, rfl⟩ (own_slq2 FP.tl)) (rs_ 7 (fun a ee => ?_))
        refine stepS rfl rfl (execStP rfl (ee _) (ee _) Fg2 ⟨_, _, _, rfl⟩ (own_slq2 FP.tl)) ⟨_, ⟨_, rfl, rfl⟩, fun X18 hX => ?_⟩
        obtain ⟨BB, FP, Fg67, Fres⟩ : Below V.heap.size V X18 ∧ (Plg V.heap.size X18 (pipP I C K c0 c1) (C + 2 + K) x2 tl4 (.slice none 0 0) (0) (wtE C)) ∧ (X18.heap[g67]? = some (.cells (iR 2 (fun i => if i = 0 then ((c0 : Nat) : Int) else ((c1 : Nat) : Int))) 3)) ∧ (X18.heap[g2]? = some (.cells (#[.slice (some ⟨g67, 0, none⟩) 2 2, tl4]) 32)) := by subst hX; exact ⟨below4 BB Fgeg2 _, (FP.keepP Fg2 grR18), (keepT Fg67 Fg2 (by decide) grR18), setRow_heap _ _ _ _ _ _ Fg2⟩
        clear Fg1 Fg2 hX ee a
        refine rf_ [] (h1_ t2) ?_
        rintro a A - ⟨t2, -⟩
        refine wp_ret ?_
        refine bodyPost_ret (res_c0 _ _ g2 32 _ (0, 0) _ Try.results24 t2 Fres Try.underlying32 rfl (by show _ = some 2; kernel_rfl)) A.2 ⟨⟨_, rfl, FP.plan hC.2 h0 h1 Fg67⟩, BB⟩
end Go.Proofs.Ytcgkelgncehekaa.Loo
