import Derived.Test.YtcibogmghagpoaaV8h
namespace Go.Proofs.Ytcibogmghagpoaa.Dro
open Go.RowKit Gf8 Aes By8 Cel Cf Tap Drw
/- Stage 28: one drop among others; lists of lists cut and put together; a Pair. Written by tools/mkV8i.py. -/

/-- One request, others elsewhere, and behind them requests at the drop of the first. -/
structure Bk (q : Nat) (ln : Nat → Nat) (c : Nat → Nat → Nat) : Prop where
  pos : 0 < q
  r0 : rgt (ln 0) = true
  rq : ∀ k, q ≤ k → rgt (ln k) = true
  nq : ∀ k, q ≤ k → ∀ j, j < 8 → c k j = c 0 j
  far : ∀ k, 0 < k → k < q → ¬ (rgt (ln k) = true ∧ ∀ j, j < 8 → c k j = c 0 j)
section
variable {q : Nat} {ln : Nat → Nat} {c : Nat → Nat → Nat}
theorem Bk.no0 (h : Bk q ln c) {k : Nat} (hk : k < q) : otQ ln c 0 k = false := by
  cases e : otQ ln c 0 k
  · rfl
  · obtain ⟨e1, e2, e3⟩ := ot_iff.1 e
    exact absurd ⟨rgt_iff.2 e2, e3⟩ (h.far k (by omega) hk)
theorem Bk.yes0 (h : Bk q ln c) {k : Nat} (hk : q ≤ k) : otQ ln c 0 k = true := ot_D (by have := h.pos; omega) (h.rq k hk) (h.nq k hk)
theorem Bk.c0 (h : Bk q ln c) : cnt (otQ ln c 0) q = 0 := cnt_zero.2 fun _ hk => h.no0 hk
theorem Bk.c1 (h : Bk q ln c) : cnt (otQ ln c 0) (q + 1) = 1 := by rw [cnt_succ, h.c0, h.yes0 (Nat.le_refl _)]; rfl
theorem Bk.c2 (h : Bk q ln c) : cnt (otQ ln c 0) (q + 2) = 2 := by rw [cnt_succ, h.c1, h.yes0 (Nat.le_succ _)]; rfl
theorem Bk.k1 (h : Bk q ln c) : kdF (q + 1) ln c 0 = 1 := by unfold kdF; rw [h.r0, h.c1]; rfl
theorem Bk.k2 (h : Bk q ln c) : kdF (q + 2) ln c 0 = 2 := by unfold kdF; rw [h.r0, h.c2]; rfl
theorem Bk.p1 (h : Bk q ln c) : paF (q + 1) ln c 0 = q := (cnt_one h.c1 (Nat.lt_succ_self _) (h.yes0 (Nat.le_refl _))).symm
/-- One more elsewhere changes nothing. -/
theorem x_more {n i : Nat} (hr : rgt (ln i) = true → otQ ln c i n = false) : xL (n + 1) ln c i = xL n ln c i ∧ ∀ j, j < xL n ln c i → xF (n + 1) ln c i j = xF n ln c i j := by
  have ek : kdF (n + 1) ln c i = kdF n ln c i := by
    unfold kdF
    cases e : rgt (ln i)
    · rfl
    · rw [cnt_succ, hr e]; rfl
  have ep : kdF n ln c i = 1 → paF (n + 1) ln c i = paF n ln c i := fun z => fst_no (by rw [(met z).2.1]; exact Nat.one_pos)
  constructor
  · unfold xL
    rw [ek]
    by_cases z : kdF n ln c i = 1
    · rw [if_pos z, if_pos z, ep z]
    · rw [if_neg z, if_neg z]
  · intro j hj
    unfold xF
    by_cases z : j = 0
    · rw [if_pos z, if_pos z, ek]
    · rw [if_neg z, if_neg z]
      by_cases y : kdF n ln c i = 1
      · rw [ep y]
      · unfold xL at hj; rw [if_neg y] at hj; omega
theorem Bk.mid (h : Bk q ln c) {i k : Nat} (h0 : 0 < i) (hi : i < q) (hk : q ≤ k) : rgt (ln i) = true → otQ ln c i k = false := fun r => by
  cases e : otQ ln c i k
  · rfl
  · obtain ⟨_, _, e3⟩ := ot_iff.1 e
    exact absurd ⟨r, fun j hj => (e3 j hj).symm.trans (h.nq k hk j hj)⟩ (h.far i h0 hi)
theorem Bk.m1 (h : Bk q ln c) {i : Nat} (h0 : 0 < i) (hi : i < q) : xL q ln c i = xL (q + 1) ln c i ∧ ∀ j, j < xL q ln c i → xF q ln c i j = xF (q + 1) ln c i j := by
  obtain ⟨a, b⟩ := x_more (h.mid h0 hi (Nat.le_refl _))
  exact ⟨a.symm, fun j hj => (b j hj).symm⟩
theorem Bk.m2 (h : Bk q ln c) {i : Nat} (h0 : 0 < i) (hi : i < q) : xL q ln c i = xL (q + 2) ln c i ∧ ∀ j, j < xL q ln c i → xF q ln c i j = xF (q + 2) ln c i j := by
  obtain ⟨a, b⟩ := h.m1 h0 hi
  obtain ⟨a2, b2⟩ := x_more (h.mid h0 hi (Nat.le_succ q))
  exact ⟨a.trans a2.symm, fun j hj => (b j hj).trans (b2 j (by rw [← a]; exact hj)).symm⟩
end
/-- v[l:h] of a list of lists. -/
def cutLs : Value → Nat → Nat → Value
  | .slice a _ cap, l, h => sliced a l h cap 1
  | v, _, _ => v
section
variable {W : World} {v : Value} {n : Nat} {xv : Nat → Value} {ln : Nat → Nat} {c : Nat → Nat → Nat} {o : Oper} {a : Act} {x y z : Operand}
theorem Ls.cut (hv : Ls W v n xv ln c) (l h : Nat) (h1 : l ≤ h) (h2 : h ≤ n) : Ls W (cutLs v l h) (h - l) (fun i => xv (l + i)) (fun i => ln (l + i)) (fun i => c (l + i)) := by
  obtain ⟨a, cap, rfl, e1, e2, e3⟩ := hv.shape
  refine ⟨⟨_, cap - l, rfl, by omega, by omega, fun h0 => ?_⟩, fun i hi => hv.cell (l + i) (by omega), fun i hi => hv.nil (l + i) (by omega), fun i hi => hv.lens (l + i) (by omega)⟩
  obtain ⟨b, off, rfl, hb, hc⟩ := e3 (by omega)
  rw [if_neg (by omega)]
  refine ⟨b, off + l, ?_, hb, fun j hj => ?_⟩
  · simp [Addr.add]
  · rw [Nat.add_assoc]; exact hc (l + j) (by omega)
theorem Ls.cg {lm : Nat → Nat} {d : Nat → Nat → Nat} (h : Ls W v n xv ln c) (e : ∀ i, i < n → ln i = lm i ∧ c i = d i) : Ls W v n xv lm d := ⟨h.shape, fun i hi => by rw [← (e i hi).1, ← (e i hi).2]; exact h.cell i hi, h.nil, fun i hi => by rw [← (e i hi).1]; exact h.lens i hi⟩
end
section
variable {o : Oper} {a : Act} {w : World}
end
section
variable {W : World} {o : Oper} {a : Act} {x y : Operand} {g : Nat} {nm : Nat → Nat} {fv sv ov : Value}
theorem execLd8 (h : W.heap[g]? = some (.cells (bA 8 nm) 22)) (ho : o.op = .load 22 x) (hx : a.eval x = .pointer (some ⟨g, 0, none⟩)) : (execOp a.eval o).run Try.prog W = .ok (.value (.agg (bA 8 nm))) W := by
  refine Aes.execLoadMid (P := Try.prog) (cs := bytesL 8 nm) ho hx ?_ Try.underlying22 rfl (by rw [bytesL_len]; kernel_rfl)
  intro j v hj
  rw [cell_of_row _ _ _ _ _ _ h, Nat.zero_add, ← Array.getElem?_toList]
  exact hj
end
end Go.Proofs.Ytcibogmghagpoaa.Dro
