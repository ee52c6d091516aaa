import Derived.Test.YtcibogmghagpoaaV8h
namespace Go.Proofs.Ytcibogmghagpoaa.Dro
open Go.RowKit Gf8 Aes By8 Cel Cf Tap Drw
/- Stage 28: one drop among others; lists of lists cut and put together; a Pair. Written by tools/mkV8i.py. -/

/-- One request, others elsewhere, and behind them requests at the drop of the first. -/
structure Bk (q : Nat) (ln : Nat → Nat) (c : Nat → Nat → Nat) : Prop where
  pos : 0 < q
  r0 : rgt (ln 0) = true
  rq : ∀ k, q ≤ k → rgt (ln k) = true
  nq : ∀ k, q ≤ k → ∀ j, j < 8 → c k j = c 0 j
  far : ∀ k, 0 < k → k < q → ¬ (rgt (ln k) = true ∧ ∀ j, j < 8 → c k j = c 0 j)
section
variable {q : Nat} {ln : Nat → Nat} {c : Nat → Nat → Nat}
theorem Bk.no0 (h : Bk q ln c) {k : Nat} (hk : k < q) : otQ ln c 0 k = false := by
  cases e : otQ ln c 0 k
  · rfl
  · obtain ⟨e1, e2, e3⟩ := ot_iff.1 e
    exact absurd ⟨rgt_iff.2 e2, e3⟩ (h.far k (by omega) hk)
theorem Bk.yes0 (h : Bk q ln c) {k : Nat} (hk : q ≤ k) : otQ ln c 0 k = true := ot_D (by have := h.pos; omega) (h.rq k hk) (h.nq k hk)
theorem Bk.c0 (h : Bk q ln c) : cnt (otQ ln c 0) q = 0 := cnt_zero.2 fun _ hk => h.no0 hk
theorem Bk.c1 (h : Bk q ln c) : cnt (otQ ln c 0) (q + 1) = 1 := by rw [cnt_succ, h.c0, h.yes0 (Nat.le_refl _)]; rfl
theorem Bk.c2 (h : Bk q ln c) : cnt (otQ ln c 0) (q + 2) = 2 := by rw [cnt_succ, h.c1, h.yes0 (Nat.le_succ _)]; rfl
theorem Bk.k0 (h : Bk q ln c) : kdF q ln c 0 = 0 := by unfold kdF; rw [h.r0, h.c0]; rfl
theorem Bk.k1 (h : Bk q ln c) : kdF (q + 1) ln c 0 = 1 := by unfold kdF; rw [h.r0, h.c1]; rfl
theorem Bk.k2 (h : Bk q ln c) : kdF (q + 2) ln c 0 = 2 := by unfold kdF; rw [h.r0, h.c2]; rfl
theorem Bk.p1 (h : Bk q ln c) : paF (q + 1) ln c 0 = q := (cnt_one h.c1 (Nat.lt_succ_self _) (h.yes0 (Nat.le_refl _))).symm
theorem Bk.oq (h : Bk q ln c) {k : Nat} (hk : k < q) (h0 : 0 < k) : otQ ln c q k = false := by
  cases e : otQ ln c q k
  · rfl
  · obtain ⟨e1, e2, e3⟩ := ot_iff.1 e
    exact absurd ⟨rgt_iff.2 e2, fun j hj => (e3 j hj).trans (h.nq q (Nat.le_refl _) j hj)⟩ (h.far k h0 hk)
theorem Bk.oq0 (h : Bk q ln c) : otQ ln c q 0 = true := ot_D (by have := h.pos; omega) h.r0 (fun j hj => (h.nq q (Nat.le_refl _) j hj).symm)
theorem Bk.cq (h : Bk q ln c) : cnt (otQ ln c q) q = 1 := by
  refine cnt_uniq (i := 0) ?_ fun k hk e => ?_
  · rcases Nat.eq_zero_or_pos (cnt (otQ ln c q) q) with z | z
    · have := cnt_zero.1 z 0 h.pos; rw [h.oq0] at this; cases this
    · exact z
  · rcases Nat.eq_zero_or_pos k with z | z
    · exact z
    · rw [h.oq hk z] at e; cases e
theorem Bk.cq1 (h : Bk q ln c) : cnt (otQ ln c q) (q + 1) = 1 := by rw [cnt_succ, h.cq, ot_A rfl]; rfl
theorem Bk.cq2 (h : Bk q ln c) : cnt (otQ ln c q) (q + 2) = 2 := by
  have e : otQ ln c q (q + 1) = true := ot_D (by omega) (h.rq _ (Nat.le_succ _)) (fun j hj => (h.nq _ (Nat.le_succ _) j hj).trans (h.nq q (Nat.le_refl _) j hj).symm)
  rw [cnt_succ, h.cq1, e]
  rfl
theorem Bk.kq1 (h : Bk q ln c) : kdF (q + 1) ln c q = 1 := by unfold kdF; rw [h.rq q (Nat.le_refl _), h.cq1]; rfl
theorem Bk.kq2 (h : Bk q ln c) : kdF (q + 2) ln c q = 2 := by unfold kdF; rw [h.rq q (Nat.le_refl _), h.cq2]; rfl
theorem Bk.pq (h : Bk q ln c) : paF (q + 1) ln c q = 0 := (cnt_one h.cq1 (Nat.succ_pos _) h.oq0).symm
/-- One more elsewhere changes nothing. -/
theorem x_more {n i : Nat} (hr : rgt (ln i) = true → otQ ln c i n = false) : xL (n + 1) ln c i = xL n ln c i ∧ ∀ j, j < xL n ln c i → xF (n + 1) ln c i j = xF n ln c i j := by
  have ek : kdF (n + 1) ln c i = kdF n ln c i := by
    unfold kdF
    cases e : rgt (ln i)
    · rfl
    · rw [cnt_succ, hr e]; rfl
  have ep : kdF n ln c i = 1 → paF (n + 1) ln c i = paF n ln c i := fun z => fst_no (by rw [(met z).2.1]; exact Nat.one_pos)
  constructor
  · unfold xL
    rw [ek]
    by_cases z : kdF n ln c i = 1
    · rw [if_pos z, if_pos z, ep z]
    · rw [if_neg z, if_neg z]
  · intro j hj
    unfold xF
    by_cases z : j = 0
    · rw [if_pos z, if_pos z, ek]
    · rw [if_neg z, if_neg z]
      by_cases y : kdF n ln c i = 1
      · rw [ep y]
      · unfold xL at hj; rw [if_neg y] at hj; omega
theorem Bk.mid (h : Bk q ln c) {i k : Nat} (h0 : 0 < i) (hi : i < q) (hk : q ≤ k) : rgt (ln i) = true → otQ ln c i k = false := fun r => by
  cases e : otQ ln c i k
  · rfl
  · obtain ⟨_, _, e3⟩ := ot_iff.1 e
    exact absurd ⟨r, fun j hj => (e3 j hj).symm.trans (h.nq k hk j hj)⟩ (h.far i h0 hi)
theorem Bk.m1 (h : Bk q ln c) {i : Nat} (h0 : 0 < i) (hi : i < q) : xL q ln c i = xL (q + 1) ln c i ∧ ∀ j, j < xL q ln c i → xF q ln c i j = xF (q + 1) ln c i j := by
  obtain ⟨a, b⟩ := x_more (h.mid h0 hi (Nat.le_refl _))
  exact ⟨a.symm, fun j hj => (b j hj).symm⟩
theorem Bk.m2 (h : Bk q ln c) {i : Nat} (h0 : 0 < i) (hi : i < q) : xL q ln c i = xL (q + 2) ln c i ∧ ∀ j, j < xL q ln c i → xF q ln c i j = xF (q + 2) ln c i j := by
  obtain ⟨a, b⟩ := h.m1 h0 hi
  obtain ⟨a2, b2⟩ := x_more (h.mid h0 hi (Nat.le_succ q))
  exact ⟨a.trans a2.symm, fun j hj => (b j hj).trans (b2 j (by rw [← a]; exact hj)).symm⟩
end
/-- v[l:h] of a list of lists. -/
def cutLs : Value → Nat → Nat → Value
  | .slice a _ cap, l, h => sliced a l h cap 1
  | v, _, _ => v
section
variable {W : World} {v : Value} {n : Nat} {xv : Nat → Value} {ln : Nat → Nat} {c : Nat → Nat → Nat} {o : Oper} {a : Act} {x y z : Operand}
theorem Ls.cut (hv : Ls W v n xv ln c) (l h : Nat) (h1 : l ≤ h) (h2 : h ≤ n) : Ls W (cutLs v l h) (h - l) (fun i => xv (l + i)) (fun i => ln (l + i)) (fun i => c (l + i)) := by
  obtain ⟨a, cap, rfl, e1, e2, e3⟩ := hv.shape
  refine ⟨⟨_, cap - l, rfl, by omega, by omega, fun h0 => ?_⟩, fun i hi => hv.cell (l + i) (by omega), fun i hi => hv.nil (l + i) (by omega), fun i hi => hv.lens (l + i) (by omega)⟩
  obtain ⟨b, off, rfl, hb, hc⟩ := e3 (by omega)
  rw [if_neg (by omega)]
  refine ⟨b, off + l, ?_, hb, fun j hj => ?_⟩
  · simp [Addr.add]
  · rw [Nat.add_assoc]; exact hc (l + j) (by omega)
theorem Ls.cg {lm : Nat → Nat} {d : Nat → Nat → Nat} (h : Ls W v n xv ln c) (e : ∀ i, i < n → ln i = lm i ∧ c i = d i) : Ls W v n xv lm d := ⟨h.shape, fun i hi => by rw [← (e i hi).1, ← (e i hi).2]; exact h.cell i hi, h.nil, fun i hi => by rw [← (e i hi).1]; exact h.lens i hi⟩
theorem execCutLL {l h : Nat} (hv : Ls W v n xv ln c) (ho : o.op = .slice 29 x (some y) (some z) none) (hx : a.eval x = v) (hy : a.eval y = .int .i64 (l : Int)) (hz : a.eval z = .int .i64 (h : Int)) (h1 : l ≤ h) (h2 : h ≤ n) : (execOp a.eval o).run Try.prog W = .ok (.value (cutLs v l h)) W := by
  obtain ⟨ad, cap, rfl, e1, e2, _⟩ := hv.shape
  obtain ⟨i, i1, _, i3, _⟩ := infoL8
  have e4 : (l : Int) ≤ h := by omega
  have e5 : (h : Int) ≤ cap := by omega
  have hr : (Instr.sliceAt 29 (.slice ad n cap) (some (.int .i64 (l : Int))) (some (.int .i64 (h : Int))) none).run Try.prog W = .ok (sliced ad l h cap 1) W := by
    simp [Instr.sliceAt, Instr.slice, run_underlying Try.underlying29, Instr.sliceBounds, run_sliceBound, sliced, h1, show h ≤ cap by omega, sizeOf, typeInfo, i1, i3]
  unfold execOp
  simp only [ho, hx, hy, hz, Option.map_some, Option.map_none, Sem.run_bind, hr, Result.andThen_ok, Sem.run_pure, cutLs]
theorem execCutLh {l : Nat} (hv : Ls W v n xv ln c) (ho : o.op = .slice 29 x (some y) none none) (hx : a.eval x = v) (hy : a.eval y = .int .i64 (l : Int)) (h1 : l ≤ n) : (execOp a.eval o).run Try.prog W = .ok (.value (cutLs v l n)) W := by
  obtain ⟨ad, cap, rfl, e1, e2, _⟩ := hv.shape
  obtain ⟨i, i1, _, i3, _⟩ := infoL8
  have e4 : (l : Int) ≤ n := by omega
  have hr : (Instr.sliceAt 29 (.slice ad n cap) (some (.int .i64 (l : Int))) none none).run Try.prog W = .ok (sliced ad l n cap 1) W := by
    simp [Instr.sliceAt, Instr.slice, run_underlying Try.underlying29, Instr.sliceBounds, run_sliceBound, sliced, h1, sizeOf, typeInfo, i1, i3]
  unfold execOp
  simp only [ho, hx, hy, Option.map_some, Option.map_none, Sem.run_bind, hr, Result.andThen_ok, Sem.run_pure, cutLs]
end
theorem stepAppLL {ops : Array Oper} {Q : Exit → Act → World → Prop} {K : Act → World → Prop} {j : Nat} {o : Oper} {a : Act} {W : World} {s x : Operand} {B C n m : Nat} {v u : Value} {xs : List Value} {y : Nat → Value} (hos : ops[j]? = some o) (hgd : Region.wanted o (yielded ops a.tmps) = true)
    (ho : o.op = .call { callee := .builtin .append, args := #[s, x], argTypes := #[29, 29] }) (hs : a.eval s = v) (hx : a.eval x = u) (own : W.ownsRow B 23 1 v n xs) (hv : v ≠ .slice none 0 0) (src : W.ownsRow C 23 1 u m (lL y m)) (h1 : ∀ z ∈ lL y m, z.oneCell' = true) (hn : n + m ≤ 1000000) (hB : B ≤ W.heap.size)
    (hK : ∀ v' W', W'.ownsRow B 23 1 v' (n + m) (xs ++ lL y m) → v' ≠ .slice none 0 0 → W.grownBy W' v.ownBlock → K (a.put o.dst v') W') : wpOp Try.prog ops Q j K a W := by
  obtain ⟨i, i1, i2, i3, i4⟩ := infoL8
  rcases src.2 with ⟨rfl, rfl⟩ | ⟨g, cap, cur, rfl, _⟩
  · have hr := run_append_owned_none (P := Try.prog) W B 29 o.type 23 i 1 Try.underlying29 i1 v n xs own
    refine stepV hos hgd (v := v) (w' := W) ?_ (hK v W (by simpa [lL] using own) hv ⟨rfl, rfl, rfl, Nat.le_refl _, fun _ _ _ => rfl⟩)
    unfold execOp
    simp only [ho, resolve, invoke, builtin, Sem.run_bind, Sem.run_pure, Result.andThen_ok, List.map_toArray, List.map_cons, List.map_nil, hs, hx, hr]
  · obtain ⟨v', w', hr, q1, q2, q3⟩ := run_append_own (P := Try.prog) W B 29 o.type 23 i (.slice none 0 0) 1 24 Try.underlying29 i1 i2 i3 i4 (by simp [Value.cells]) (by decide) v n xs own ⟨g, 0, none⟩ m cap (lL y m) (by rw [lL_len, Nat.mul_one]) (src.cells (g := g) rfl) h1 (by unfold maxLen; omega) (by omega) hB
    refine stepV hos hgd (v := v') (w' := w') ?_ (hK v' w' q1 (fun e => hv (q3.1 e).1) q2)
    unfold execOp
    simp only [ho, resolve, invoke, builtin, Sem.run_bind, Sem.run_pure, Result.andThen_ok, List.map_toArray, List.map_cons, List.map_nil, hs, hx, hr]
section
variable {o : Oper} {a : Act} {w : World}
theorem execBs0L (ho : o.op = .buildSlice 29 0 #[]) : (execOp a.eval o).run Try.prog w = .ok (.value (.slice (some ⟨w.heap.size, 0, none⟩) 0 0)) (w.alloc (.cells #[] 23)) := by
  unfold execOp
  simp only [ho]
  simp [go_sem]
end
theorem own_ls0 (W : World) : (W.alloc (.cells #[] 23)).ownsRow W.heap.size 23 1 (.slice (some ⟨W.heap.size, 0, none⟩) 0 0) 0 [] :=
  ⟨rfl, Or.inr ⟨W.heap.size, 0, #[], rfl, Nat.le_refl _, heapNew W _, Nat.le_refl _, by unfold maxLen; omega, rfl, rfl⟩⟩
/-- A Pair's cells. -/
def prC (nm : Nat → Nat) (fv sv ov : Value) : Array Value := (bytesL 8 nm ++ [fv, sv, ov]).toArray
section
variable {W : World} {o : Oper} {a : Act} {x y : Operand} {g : Nat} {nm : Nat → Nat} {fv sv ov : Value}
theorem execBxP (ho : o.op = .box 41 x) (hx : a.eval x = .agg (prC nm fv sv ov)) : (execOp a.eval o).run Try.prog W = .ok (.value (.pointer (some ⟨W.heap.size, 0, none⟩))) (W.alloc (.cells (prC nm fv sv ov) 41)) := by
  unfold execOp
  simp only [ho, hx]
  simp [go_sem]
theorem execFP (k m : Nat) (hk : (k = 0 ∧ m = 0) ∨ (k = 1 ∧ m = 8) ∨ (k = 2 ∧ m = 9) ∨ (k = 3 ∧ m = 10)) (ho : o.op = .fieldAddr 41 x k) (hx : a.eval x = .pointer (some ⟨g, 0, none⟩)) : (execOp a.eval o).run Try.prog W = .ok (.value (.pointer (some ⟨g, m, none⟩))) W := by
  unfold execOp
  simp only [ho, hx]
  rcases hk with ⟨rfl, rfl⟩ | ⟨rfl, rfl⟩ | ⟨rfl, rfl⟩ | ⟨rfl, rfl⟩ <;> simp [go_sem]
theorem pr_at {k : Nat} {v : Value} (h : W.heap[g]? = some (.cells (prC nm fv sv ov) 41)) (hk : (bytesL 8 nm ++ [fv, sv, ov])[k]? = some v) : W.cell? ⟨g, k, none⟩ = some v := by
  rw [cell_of_row _ _ _ _ _ _ h]
  unfold prC
  simpa using hk
theorem execLdP8 (h : W.heap[g]? = some (.cells (prC nm fv sv ov) 41)) (ho : o.op = .load 22 x) (hx : a.eval x = .pointer (some ⟨g, 0, none⟩)) : (execOp a.eval o).run Try.prog W = .ok (.value (.agg (bA 8 nm))) W := by
  refine Aes.execLoadMid (P := Try.prog) (cs := bytesL 8 nm) ho hx ?_ Try.underlying22 rfl (by rw [bytesL_len]; kernel_rfl)
  intro j v hj
  have hk : j < 8 := by have := (List.getElem?_eq_some_iff.1 hj).1; rwa [bytesL_len] at this
  rw [Nat.zero_add]
  exact pr_at h (by rw [List.getElem?_append_left (by rw [bytesL_len]; exact hk)]; exact hj)
theorem execLd8 (h : W.heap[g]? = some (.cells (bA 8 nm) 22)) (ho : o.op = .load 22 x) (hx : a.eval x = .pointer (some ⟨g, 0, none⟩)) : (execOp a.eval o).run Try.prog W = .ok (.value (.agg (bA 8 nm))) W := by
  refine Aes.execLoadMid (P := Try.prog) (cs := bytesL 8 nm) ho hx ?_ Try.underlying22 rfl (by rw [bytesL_len]; kernel_rfl)
  intro j v hj
  rw [cell_of_row _ _ _ _ _ _ h, Nat.zero_add, ← Array.getElem?_toList]
  exact hj
theorem execAl8 (ho : o.op = .alloc 22) : (execOp a.eval o).run Try.prog W = .ok (.value (.pointer (some ⟨W.heap.size, 0, none⟩))) (W.alloc (.cells (bA 8 fun _ => 0) 22)) := by
  unfold execOp
  simp only [ho]
  simp [go_sem]
  rfl
theorem execStAll {P : Program} {ty : TypeId} {x y : Operand} {g : Nat} {cells cur : Array Value} {t : TypeId} (ho : o.op = .store ty x y) (hx : a.eval x = .pointer (some ⟨g, 0, none⟩)) (hy : a.eval y = .agg cells) (hg : W.heap[g]? = some (.cells cur t)) (hs : cur.size = cells.size) (hi : (P.info? ty).map (·.size) = some cells.size) (h1 : cells.all (·.oneCell') = true) :
    (execOp a.eval o).run P W = .ok .skip (W.setRow g cells) := by
  have h := execStMid (P := P) ho hx hy hg (by omega) hi h1
  have e : (cur.toList.take 0 ++ cells.toList ++ cur.toList.drop (0 + cells.size)).toArray = cells := by
    rw [List.take_zero, List.nil_append, Nat.zero_add, List.drop_of_length_le (by rw [Array.length_toList, hs]; exact Nat.le_refl _), List.append_nil]
  rw [e] at h
  exact h
theorem execSt8 {m0 : Nat → Nat} (h : W.heap[g]? = some (.cells (bA 8 m0) 22)) (ho : o.op = .store 22 x y) (hx : a.eval x = .pointer (some ⟨g, 0, none⟩)) (hy : a.eval y = .agg (bA 8 nm)) : (execOp a.eval o).run Try.prog W = .ok .skip (W.setRow g (bA 8 nm)) := by
  exact execStAll ho hx hy h rfl rfl (by rw [← Array.all_toList]; exact List.all_eq_true.2 (fun v hv => By8.bytesL_one 8 nm v hv))
end
theorem ans28k (I : Impl) {n i k : Nat} {ln : Nat → Nat} {c : Nat → Nat → Nat} (v : Value) (V : World) (hk : kdF n ln c i = k) (hv : SliceN V v (xL n ln c i) (xF n ln c i)) (hz : ∀ l c, v = .slice none l c → c = 0) :
    Calls Try.prog 13 #[v] V fun e w' => (∃ r, e = .returned (.tuple #[.int .i64 ((k : Nat) : Int), r, .int .i64 ((0 : Nat) : Int)]) ∧ SliceN w' r (xL n ln c i - 1) (anF (xF n ln c i))) ∧ Below V.heap.size V w' := hk ▸ ans28 I n i ln c v V hv hz
end Go.Proofs.Ytcibogmghagpoaa.Dro
