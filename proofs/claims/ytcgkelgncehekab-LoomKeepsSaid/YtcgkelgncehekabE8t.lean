import Derived.Test.YtcgkelgncehekabE8x
namespace Go.Proofs.Ytcgkelgncehekab.Loo
open Go.RowKit Gf8 Aes By8 Cel Cf Win Drw Prm
/- LoomPipes: fit and plan. Written by tools/mkE8n.py. -/

section
variable {o : Oper} {a : Act} {w : World}
end
theorem keep_over {W X : World} {B n g s : Nat} {v : Value} {xs : List Value} {t u : TypeId} {c : Array Value} (hg : W.heap[g]? = some (.cells c t)) (own : W.ownsRow B u s v n xs) (gr : W.grownBy X v.ownBlock) (ht : t ≠ u) : X.heap[g]? = some (.cells c t) := by
  rw [gr.block g (Array.getElem?_eq_some_iff.1 hg).1 (fun e => ?_)]
  · exact hg
  · rcases own.2 with ⟨e1, _⟩ | ⟨k, cap, cur, e1, _, hk, _⟩
    · rw [e1] at e; cases e
    · rw [e1] at e
      cases e
      rw [hg] at hk
      cases hk
      exact ht rfl
set_option maxRecDepth 100000 in
theorem infoOs : ∃ i, Try.prog.info? 36 = some i ∧ i.zero = some (.slice none 0 0) ∧ i.size = 1 ∧ i.bytes = 24 := by
  have h : (Try.prog.info? 36).map (fun i => (i.zero, i.size, i.bytes)) = some (some (.slice none 0 0), 1, 24) := by kernel_rfl
  cases hq : Try.prog.info? 36 with
  | none => rw [hq] at h; cases h
  | some i =>
    rw [hq] at h
    simp only [Option.map_some, Option.some.injEq, Prod.mk.injEq] at h
    exact ⟨i, rfl, h.1, h.2.1, h.2.2⟩
theorem lL_push19 {y : Nat → Value} {n : Nat} {u : Value} : lL y n ++ [u] = lL (updX y n u) (n + 1) := by
  show _ = lL (updX y n u) n ++ [updX y n u n]
  rw [updX_at, lL_congr n (fun i hi => (updX_lt y u hi))]
/-- append of one list of operations. -/
theorem stepAppVO {ops : Array Oper} {Q : Exit → Act → World → Prop} {K : Act → World → Prop} {j : Nat} {o : Oper} {a : Act} {W : World} {s x : Operand} {B n g : Nat} {v u : Value} {y : Nat → Value} (hos : ops[j]? = some o) (hgd : Region.wanted o (yielded ops a.tmps) = true)
    (ho : o.op = .call { callee := .builtin .append, args := #[s, x], argTypes := #[23, 23] }) (hs : a.eval s = v) (hx : a.eval x = .slice (some ⟨g, 0, none⟩) 1 1) (hown : W.ownsRow B 36 1 v n (lL y n)) (hg : W.heap[g]? = some (.cells (vR 1 (fun _ => u)) 36)) (hu : ∃ a n c, u = .slice a n c) (hn : n + 1 ≤ 1000000) (hB : B ≤ W.heap.size)
    (hK : ∀ v' W', W'.ownsRow B 36 1 v' (n + 1) (lL (updX y n u) (n + 1)) → W.grownBy W' v.ownBlock → K (a.put o.dst v') W') : wpOp Try.prog ops Q j K a W := by
  obtain ⟨i, i1, i2, i3, i4⟩ := infoOs
  obtain ⟨u1, u2, u3, rfl⟩ := hu
  obtain ⟨v', W', run, q1, q2⟩ := execAppO (W := W) (m := 1) (c := 1) (news := [Value.slice u1 u2 u3]) ho Try.underlying23 i1 i2 i3 i4 (by simp [Value.cells]) (by decide) hs hown hx rfl (fun j u hu => by
    rw [Go.WideShapes.add_plain, cell_of_row _ _ _ _ _ _ hg, Nat.zero_add]
    exact (List.getElem?_toArray ..).trans hu) (fun u hu => by rw [List.mem_singleton.1 hu]; rfl) (by unfold maxLen; omega) (by omega) hB
  have e : lL y n ++ [Value.slice u1 u2 u3] = lL (updX y n (.slice u1 u2 u3)) (n + 1) := lL_push19
  rw [e] at q1
  exact stepV hos hgd run (hK v' W' q1 q2)
/-- Tasks laid so far (x), the list of them (tl), a further row under way (wv). -/
structure Plg (B : Nat) (W : World) (p : Pl) (n : Nat) (x : Nat → Value) (tl wv : Value) (wn : Nat) (wq : Nat → Op3) : Prop where
  rows : ∀ t, t < n → W.ownsRow B 38 3 (x t) (p.ln t) (opL (p.ln t) (p.op t))
  dis : ∀ t, t < n → ∀ b, (x t).ownBlock = some b → wv.ownBlock ≠ some b
  tl : W.ownsRow B 36 1 tl n (lL x n)
  wt : W.ownsRow B 38 3 wv wn (opL wn wq)
section
variable {B n wn : Nat} {W X : World} {p : Pl} {x : Nat → Value} {tl wv : Value} {wq : Nat → Op3}
theorem Plg.on (h : Plg B W p n x tl wv wn wq) (hb : Below W.heap.size W X) : Plg B X p n x tl wv wn wq :=
  ⟨fun t ht => ownD_below (h.rows t ht) hb, h.dis, ownD_below h.tl hb, ownD_below h.wt hb⟩
theorem Plg.wait (h : Plg B W p n x tl wv wn wq) {wv' : Value} {m : Nat} (own : X.ownsRow B 38 3 wv' m (opL m wq)) (pl : (∃ b c, wv = .slice (some ⟨b, 0, none⟩) wn c ∧ wv' = .slice (some ⟨b, 0, none⟩) m c ∧ W.grownBy X (some b)) ∨ (Below W.heap.size W X ∧ ∀ k, wv'.ownBlock = some k → W.heap.size ≤ k)) : Plg B X p n x tl wv' m wq := by
  rcases pl with ⟨b, c, e1, e2, gr⟩ | ⟨hb, hk⟩
  · have hne : ∀ t, t < n → (x t).ownBlock ≠ some b := fun t ht z => h.dis t ht b z (by rw [e1]; rfl)
    refine ⟨fun t ht => (h.rows t ht).kept gr (Or.inr (hne t ht)), fun t ht q hq z => ?_, own_overT h.tl h.wt (by rw [e1]; exact gr) (by decide), own⟩
    rw [e2] at z
    cases z
    exact hne t ht hq
  · refine ⟨fun t ht => ownD_below (h.rows t ht) hb, fun t ht q hq z => ?_, ownD_below h.tl hb, own⟩
    have h1 := hk q z
    have h2 := ((h.rows t ht).lt q hq).2
    omega
theorem Plg.add (h : Plg B W p n x tl wv wn wq) {u tl' : Value} (hu : W.ownsRow B 38 3 u (p.ln n) (opL (p.ln n) (p.op n))) (hd : ∀ b, u.ownBlock = some b → wv.ownBlock ≠ some b) (ho : X.ownsRow B 36 1 tl' (n + 1) (lL (updX x n u) (n + 1))) (gr : W.grownBy X tl.ownBlock) : Plg B X p (n + 1) (updX x n u) tl' wv wn wq := by
  refine ⟨fun t ht => ?_, fun t ht b hb => ?_, ho, own_overT h.wt h.tl gr (by decide)⟩
  · by_cases e : t = n
    · subst e
      rw [updX_at]
      exact own_overT hu h.tl gr (by decide)
    · rw [updX_lt _ _ (by omega)]
      exact own_overT (h.rows t (by omega)) h.tl gr (by decide)
  · by_cases e : t = n
    · subst e
      rw [updX_at] at hb
      exact hd b hb
    · rw [updX_lt _ _ (by omega)] at hb
      exact h.dis t (by omega) b hb
end
def fdQ (j : Nat) : Op3 := if j % 2 = 0 then ⟨5, 1, 0⟩ else ⟨1, 0, 0⟩
def fdE (I j : Nat) : Op3 := if j = 2 * I then ⟨3, 0, 0⟩ else fdQ j
def wtQ (j : Nat) : Op3 := ⟨9, ((1 + j : Nat) : Int), 0⟩
def wtE (C j : Nat) : Op3 := if j = C then ⟨3, 1, 0⟩ else wtQ j
def carO (j : Nat) : Op3 := if j = 0 then ⟨2, 0, 3⟩ else if j = 1 then ⟨1, 1, 0⟩ else ⟨6, 0, 0⟩
def tkrO (j : Nat) : Op3 := if j = 0 then ⟨2, 1, 2⟩ else ⟨6, 0, 0⟩
section
variable {I C K c0 c1 : Nat}
theorem pip0_at : (pipP I C K c0 c1).ln 0 = 2 * I + 1 ∧ ∀ j, (pipP I C K c0 c1).op 0 j = fdE I j := ⟨rfl, fun _ => rfl⟩
theorem pipC_at {c : Nat} (h : c < C) : (pipP I C K c0 c1).ln (1 + c) = 3 ∧ ∀ j, (pipP I C K c0 c1).op (1 + c) j = carO j := by
  refine ⟨?_, fun j => ?_⟩
  · show (if 1 + c = 0 then 2 * I + 1 else if 1 + c < C + 1 then 3 else _) = _
    rw [if_neg (by omega), if_pos (by omega)]
  · simp only [pipP]
    rw [if_neg (by omega), if_pos (by omega)]
    rfl
theorem pipW_at : (pipP I C K c0 c1).ln (1 + C) = C + 1 ∧ ∀ j, (pipP I C K c0 c1).op (1 + C) j = wtE C j := by
  refine ⟨?_, fun j => ?_⟩
  · show (if 1 + C = 0 then 2 * I + 1 else if 1 + C < C + 1 then 3 else if 1 + C = C + 1 then C + 1 else 2) = _
    rw [if_neg (by omega), if_neg (by omega), if_pos (by omega)]
  · simp only [pipP]
    rw [if_neg (by omega), if_neg (by omega), if_pos (by omega)]
    rfl
theorem pipK_at {k : Nat} : (pipP I C K c0 c1).ln (C + 2 + k) = 2 ∧ ∀ j, (pipP I C K c0 c1).op (C + 2 + k) j = tkrO j := by
  refine ⟨?_, fun j => ?_⟩
  · show (if C + 2 + k = 0 then 2 * I + 1 else if C + 2 + k < C + 1 then 3 else if C + 2 + k = C + 1 then C + 1 else 2) = _
    rw [if_neg (by omega), if_neg (by omega), if_neg (by omega)]
  · simp only [pipP]
    rw [if_neg (by omega), if_neg (by omega), if_neg (by omega)]
    rfl
theorem pip_fit (hC : C ≤ 40) : ∀ t, t < C + 2 + K → ∀ j, j < (pipP I C K c0 c1).ln t → I64 ((pipP I C K c0 c1).op t j).k ∧ I64 ((pipP I C K c0 c1).op t j).a ∧ I64 ((pipP I C K c0 c1).op t j).b := by
  intro t ht j hj
  rcases who ht with rfl | ⟨c, hc, rfl⟩ | rfl | ⟨k, hk, rfl⟩
  · rw [pip0_at.2 j]
    unfold fdE fdQ
    split
    · decide
    · split <;> decide
  · rw [(pipC_at hc).2 j]
    unfold carO
    split
    · decide
    · split <;> decide
  · rw [Nat.add_comm C 1] at hj ⊢
    rw [pipW_at.1] at hj
    rw [pipW_at.2 j]
    unfold wtE wtQ
    split
    · decide
    · exact ⟨(by decide : I64 (9 : Int)), ⟨by show _ ≤ ((1 + j : Nat) : Int); omega, by show ((1 + j : Nat) : Int) < _; omega⟩, (by decide : I64 (0 : Int))⟩
  · rw [pipK_at.2 j]
    unfold tkrO
    split <;> decide
theorem Plg.plan {B : Nat} {W : World} {x : Nat → Value} {tl wv : Value} {wn : Nat} {wq : Nat → Op3} {g : Nat} (hC : C ≤ 40) (h0 : c0 ≤ 1024) (h1 : c1 ≤ 1024) (h : Plg B W (pipP I C K c0 c1) (C + 2 + K) x tl wv wn wq) (hg : W.heap[g]? = some (.cells (iR 2 (fun i => if i = 0 then ((c0 : Nat) : Int) else ((c1 : Nat) : Int))) 3)) : PlA W (.agg #[.slice (some ⟨g, 0, none⟩) 2 2, tl]) (pipP I C K c0 c1) := by
  refine ⟨_, _, x, rfl, (iR_slice hg (by omega) (fun i _ => ?_)).cg (fun j _ => rfl), own_vals h.tl, fun t ht => own_ops (h.rows t ht) (pip_fit hC t ht)⟩
  split <;> exact ⟨by omega, by omega⟩
end
end Go.Proofs.Ytcgkelgncehekab.Loo

namespace Go.Proofs.Ytcgkelgncehekab.Loo
open Go.RowKit Gf8 Aes By8 Cel Cf Win Drw Prm
/- LoomPipes. Written by tools/mkE8p.py. -/

theorem SliceI.at {W : World} {v : Value} {f : Nat → Int} {n b off c j : Nat} (h : SliceI W v n f) (e : v = .slice (some ⟨b, off, none⟩) n c) (hj : j < n) : W.cell? ⟨b, off + j, none⟩ = some (.int .i64 (f j)) := by
  obtain ⟨a, cap, e1, _, _, h1⟩ := h.shape
  rw [e] at e1
  obtain ⟨b2, off2, e2, _, h3⟩ := h1 (by omega)
  rw [e2] at e1
  injection e1 with e3
  injection e3 with e3
  injection e3 with e4 e5 _
  rw [e4, e5]
  exact h3 j hj
theorem SliceV.sub {W : World} {v : Value} {x : Nat → Value} {n b off c lo hi c2 : Nat} (h : SliceV W v n x) (e : v = .slice (some ⟨b, off, none⟩) n c) (h1 : lo < hi) (h2 : hi ≤ n) : SliceV W (.slice (some ⟨b, off + lo, none⟩) (hi - lo) c2) (hi - lo) (fun t => x (lo + t)) := by
  have hb : b < W.heap.size := by
    obtain ⟨a, cap, e1, h3⟩ := h
    rw [e] at e1
    obtain ⟨b2, off2, e2, h4, _⟩ := h3 (by omega)
    rw [e2] at e1
    injection e1 with e3
    injection e3 with e3
    injection e3 with e4 e5 _
    rw [e4]
    exact h4
  refine ⟨_, _, rfl, fun _ => ⟨b, off + lo, rfl, hb, fun t ht => ?_⟩⟩
  rw [Nat.add_assoc]
  exact h.at e (by omega)
section
variable {o : Oper} {a : Act} {w : World}
end
theorem len0 {W : World} {v : Value} {l : List Int} {f : Nat → Int} (h : SliceI W v l.length f) (e : l = []) : ∃ a c, v = .slice a 0 c := by
  have h1 := h.shp
  rw [e] at h1
  exact h1
end Go.Proofs.Ytcgkelgncehekab.Loo

namespace Go.Proofs.Ytcgkelgncehekab.Loo
open Go.RowKit Gf8 Aes By8 Cel Cf Win Drw Prm
/- The reference's within, right, Check. Written by tools/mkE8t.py. -/

theorem oC_at {W : World} {g : Nat} {p q r : Int} {t : TypeId} (h : W.heap[g]? = some (.cells (oC p q r) t)) : W.cell? ⟨g, 0, none⟩ = some (.int .i64 p) ∧ W.cell? ⟨g, 1, none⟩ = some (.int .i64 q) ∧ W.cell? ⟨g, 2, none⟩ = some (.int .i64 r) :=
  ⟨by rw [cell_of_row _ _ _ _ _ _ h]; rfl, by rw [cell_of_row _ _ _ _ _ _ h]; rfl, by rw [cell_of_row _ _ _ _ _ _ h]; rfl⟩
theorem plB_at {W : World} {g : Nat} {u v : Value} {t : TypeId} (h : W.heap[g]? = some (.cells #[u, v] t)) : W.cell? ⟨g, 0, none⟩ = some u ∧ W.cell? ⟨g, 1, none⟩ = some v :=
  ⟨by rw [cell_of_row _ _ _ _ _ _ h]; rfl, by rw [cell_of_row _ _ _ _ _ _ h]; rfl⟩
section
variable {o : Oper} {a : Act} {w : World}
theorem execOf0 {x : Operand} {b : Nat} (ho : o.op = .fieldAddr 38 x 0) (hx : a.eval x = .pointer (some ⟨b, 0, none⟩)) : (execOp a.eval o).run Try.prog w = .ok (.value (.pointer (some ⟨b, 0, none⟩))) w := by
  unfold execOp
  simp only [ho, hx]
  simp [go_sem]
theorem execOf1 {x : Operand} {b : Nat} (ho : o.op = .fieldAddr 38 x 1) (hx : a.eval x = .pointer (some ⟨b, 0, none⟩)) : (execOp a.eval o).run Try.prog w = .ok (.value (.pointer (some ⟨b, 1, none⟩))) w := by
  unfold execOp
  simp only [ho, hx]
  simp [go_sem]
theorem execOf2 {x : Operand} {b : Nat} (ho : o.op = .fieldAddr 38 x 2) (hx : a.eval x = .pointer (some ⟨b, 0, none⟩)) : (execOp a.eval o).run Try.prog w = .ok (.value (.pointer (some ⟨b, 2, none⟩))) w := by
  unfold execOp
  simp only [ho, hx]
  simp [go_sem]
theorem execPf0 {x : Operand} {b : Nat} (ho : o.op = .fieldAddr 25 x 0) (hx : a.eval x = .pointer (some ⟨b, 0, none⟩)) : (execOp a.eval o).run Try.prog w = .ok (.value (.pointer (some ⟨b, 0, none⟩))) w := by
  unfold execOp
  simp only [ho, hx]
  simp [go_sem]
theorem execPf1 {x : Operand} {b : Nat} (ho : o.op = .fieldAddr 25 x 1) (hx : a.eval x = .pointer (some ⟨b, 0, none⟩)) : (execOp a.eval o).run Try.prog w = .ok (.value (.pointer (some ⟨b, 1, none⟩))) w := by
  unfold execOp
  simp only [ho, hx]
  simp [go_sem]
theorem execBxO {x : Operand} {p q r : Int} (ho : o.op = .box 38 x) (hx : a.eval x = .agg (oC p q r)) : (execOp a.eval o).run Try.prog w = .ok (.value (.pointer (some ⟨w.heap.size, 0, none⟩))) (w.alloc (.cells (oC p q r) 38)) := by
  unfold execOp
  simp only [ho, hx]
  simp [go_sem]
theorem execBxP {x : Operand} {u v : Value} (ho : o.op = .box 25 x) (hx : a.eval x = .agg #[u, v]) (hu : ∃ a n c, u = .slice a n c) (hv : ∃ a n c, v = .slice a n c) : (execOp a.eval o).run Try.prog w = .ok (.value (.pointer (some ⟨w.heap.size, 0, none⟩))) (w.alloc (.cells #[u, v] 25)) := by
  obtain ⟨a1, n1, c1, rfl⟩ := hu
  obtain ⟨a2, n2, c2, rfl⟩ := hv
  unfold execOp
  simp only [ho, hx]
  simp [go_sem]
theorem execLnOO {x : Operand} {v : Value} {len : Nat} (ho : o.op = .call { callee := .builtin .len, args := #[x], argTypes := #[23] }) (hx : a.eval x = v) (hv : ∃ ao c, v = .slice ao len c) : (execOp a.eval o).run Try.prog w = .ok (.value (.int .i64 ((len : Nat) : Int))) w := by
  obtain ⟨ao, c, rfl⟩ := hv
  unfold execOp
  simp only [ho, resolve, invoke, builtin, Sem.run_bind, Sem.run_pure, Result.andThen_ok, List.map_toArray, List.map_cons, List.map_nil, hx]
  simp [go_sem]
theorem execLnOs {x : Operand} {v : Value} {len : Nat} (ho : o.op = .call { callee := .builtin .len, args := #[x], argTypes := #[36] }) (hx : a.eval x = v) (hv : ∃ ao c, v = .slice ao len c) : (execOp a.eval o).run Try.prog w = .ok (.value (.int .i64 ((len : Nat) : Int))) w := by
  obtain ⟨ao, c, rfl⟩ := hv
  unfold execOp
  simp only [ho, resolve, invoke, builtin, Sem.run_bind, Sem.run_pure, Result.andThen_ok, List.map_toArray, List.map_cons, List.map_nil, hx]
  simp [go_sem]
theorem execIxOO {x i : Operand} {g off n cap k : Nat} (ho : o.op = .indexAddr 23 x i) (hx : a.eval x = .slice (some ⟨g, off, none⟩) n cap) (hi : a.eval i = .int .i64 (k : Int)) (hk : k < n) : (execOp a.eval o).run Try.prog w = .ok (.value (.pointer (some ⟨g, off + k, none⟩))) w := by
  have h1 : (k : Int) < n := by omega
  unfold execOp
  simp only [ho, hx, hi]
  simp [go_sem, h1]
theorem execIxOs {x i : Operand} {g off n cap k : Nat} (ho : o.op = .indexAddr 36 x i) (hx : a.eval x = .slice (some ⟨g, off, none⟩) n cap) (hi : a.eval i = .int .i64 (k : Int)) (hk : k < n) : (execOp a.eval o).run Try.prog w = .ok (.value (.pointer (some ⟨g, off + k * 3, none⟩))) w := by
  have h1 : (k : Int) < n := by omega
  unfold execOp
  simp only [ho, hx, hi]
  simp [go_sem, h1]
theorem execLdO {x : Operand} {g f : Nat} {q : Op3} (ho : o.op = .load 38 x) (hx : a.eval x = .pointer (some ⟨g, f, none⟩)) (h : w.cell? ⟨g, f, none⟩ = some (.int .i64 q.k) ∧ w.cell? ⟨g, f + 1, none⟩ = some (.int .i64 q.a) ∧ w.cell? ⟨g, f + 2, none⟩ = some (.int .i64 q.b)) : (execOp a.eval o).run Try.prog w = .ok (.value (.agg (oC q.k q.a q.b))) w := by
  have h := execLoadMid (P := Try.prog) (cs := (oC q.k q.a q.b).toList) ho hx (fun j v hv => by
    match j, hv with
    | 0, hv => exact h.1.trans hv
    | 1, hv => exact h.2.1.trans hv
    | 2, hv => exact h.2.2.trans hv
    | j + 3, hv => cases hv) Try.underlying38 rfl (by show _ = some 3; kernel_rfl)
  exact h
end
theorem SliceO.shp {W : World} {v : Value} {n : Nat} {q : Nat → Op3} (h : SliceO W v n q) : ∃ a c, v = .slice a n c := by
  obtain ⟨a, c, e, _⟩ := h.shape
  exact ⟨a, c, e⟩
theorem SliceO.open {W : World} {v : Value} {n : Nat} {q : Nat → Op3} (h : SliceO W v n q) (h0 : 0 < n) : ∃ b off c, v = .slice (some ⟨b, off, none⟩) n c := by
  obtain ⟨a, cap, e1, h1⟩ := h.shape
  obtain ⟨b, off, e2, _⟩ := h1 h0
  exact ⟨b, off, cap, by rw [e1, e2]⟩
theorem SliceO.at {W : World} {v : Value} {n b off c j : Nat} {q : Nat → Op3} (h : SliceO W v n q) (e : v = .slice (some ⟨b, off, none⟩) n c) (hj : j < n) : W.cell? ⟨b, off + j * 3, none⟩ = some (.int .i64 (q j).k) ∧ W.cell? ⟨b, off + j * 3 + 1, none⟩ = some (.int .i64 (q j).a) ∧ W.cell? ⟨b, off + j * 3 + 2, none⟩ = some (.int .i64 (q j).b) := by
  obtain ⟨a, cap, e1, h1⟩ := h.shape
  rw [e] at e1
  obtain ⟨b2, off2, e2, _, h3⟩ := h1 (by omega)
  rw [e2] at e1
  injection e1 with e3
  injection e3 with e3
  injection e3 with e4 e5 _
  rw [e4, e5]
  exact h3 j hj
end Go.Proofs.Ytcgkelgncehekab.Loo
