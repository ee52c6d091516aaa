import Derived.Test.YtijibdapooalcabC9r
namespace Go.Proofs.Ytijibdapooalcab.Win
open Go.RowKit Gf8 Aes By8 Cel Cf
/- WindowNames, WindowOpens, WindowAdds, WindowChecks over what the package keeps. Written by tools/mkC9s.py. -/

theorem eqB_iff {n : Nat} {f g : Nat → Nat} : eqB n f g = true ↔ ∀ j, j < n → f j = g j := by
  unfold eqB
  rw [List.all_eq_true]
  constructor
  · intro h j hj
    have := h j (List.mem_range.2 hj)
    simp at this
    omega
  · intro h j hj
    have := h j (List.mem_range.1 hj)
    simp [this]
theorem tv_inj {f g : Nat → Nat} (hf : ∀ i, i < 16 → f i < 256) (hg : ∀ i, i < 16 → g i < 256) (h : tv f 16 = tv g 16) : ∀ i, i < 16 → f i = g i := eqB_iff.1 (by rw [eqB_tv hf hg]; exact decide_eq_true h)
theorem tgL_at {n k : Nat} {t : Nat → Nat → Nat} (h : k < n) : (tgL n t)[k]? = some (tv (t k) 16) := by simp [tgL, h]
theorem tgL_eq {n m : Nat} {t s : Nat → Nat → Nat} (h : tgL n t = tgL m s) : n = m ∧ ∀ k, k < n → tv (t k) 16 = tv (s k) 16 := by
  have e : n = m := by have := congrArg List.length h; rw [len_tgL, len_tgL] at this; exact this
  subst e
  refine ⟨rfl, fun k hk => ?_⟩
  have := congrArg (fun l : List Nat => l[k]?) h
  simp only [tgL_at hk] at this
  exact Option.some.inj this
theorem esL_at {n j : Nat} {nu : Nat → Int} {ln : Nat → Nat} {t : Nat → Nat → Nat → Nat} (h : j < n) : (esL n nu ln t)[j]? = some (nu j, tgL (ln j) (t j)) := by simp [esL, h]
theorem esL_eq {n m : Nat} {nu mu : Nat → Int} {ln lm : Nat → Nat} {t s : Nat → Nat → Nat → Nat} (h : esL n nu ln t = esL m mu lm s) : n = m ∧ ∀ j, j < n → nu j = mu j ∧ ln j = lm j ∧ ∀ k, k < ln j → tv (t j k) 16 = tv (s j k) 16 := by
  have e : n = m := by have := congrArg List.length h; rw [esL_len, esL_len] at this; exact this
  subst e
  refine ⟨rfl, fun j hj => ?_⟩
  have := congrArg (fun l : List Ep => l[j]?) h
  simp only [esL_at hj] at this
  have q := Prod.mk.inj (Option.some.inj this)
  exact ⟨q.1, tgL_eq q.2⟩
theorem Eps.cg {W : World} {v : Value} {n : Nat} {nu mu : Nat → Int} {tw : Nat → Value} {ln lm : Nat → Nat} {t : Nat → Nat → Nat → Nat} (h : Eps W v n nu tw ln t) (h1 : ∀ j, j < n → nu j = mu j) (h2 : ∀ j, j < n → ln j = lm j) : Eps W v n mu tw lm t := by
  obtain ⟨⟨a, c, e, q1, q2, q3⟩, hl, hn⟩ := h
  refine ⟨⟨a, c, e, q1, q2, fun h0 => ?_⟩, fun j hj => by rw [← h2 j hj]; exact hl j hj, fun j hj => by rw [← h1 j hj]; exact hn j hj⟩
  obtain ⟨b, o, e1, e2, e3⟩ := q3 h0
  exact ⟨b, o, e1, e2, fun j hj => by rw [← h1 j hj]; exact e3 j hj⟩
theorem same16w (nw : Int) {ev fv : Value} {n m : Nat} {nu mu : Nat → Int} {tw uw : Nat → Value} {ln lm : Nat → Nat} {t s : Nat → Nat → Nat → Nat} (V : World) (hE : Eps V ev n nu tw ln t) (hF : Eps V fv m mu uw lm s) (h : esL n nu ln t = esL m mu lm s) : Calls Try.prog 7 #[.agg (wC nw ev), .agg (wC nw fv)] V fun e w' => e = .returned (.bool true) ∧ Below V.heap.size V w' := by
  obtain ⟨rfl, q⟩ := esL_eq h
  have hn : n < 9223372036854775808 := by obtain ⟨_, c, _, q1, q2, _⟩ := hE.shape; omega
  exact same16 nw ev fv n nu tw uw ln t s V hE (hF.cg (fun j hj => (q j hj).1.symm) (fun j hj => (q j hj).2.1.symm)) hn fun j hj k hk => tv_inj ((hE.lists j hj).byt k hk) (fun i hi => (hF.lists j hj).byt k (by rw [← (q j hj).2.1]; exact hk) i hi) ((q j hj).2.2 k hk)
/-- A Job's cells, a Look's. -/
def jbC (nw : Int) (ev : Value) (sp rm ep : Int) (u v : Value) : Array Value := #[.int .i64 nw, ev, .int .i64 sp, .int .i64 rm, .int .i64 ep, u, v]
section
variable {o : Oper} {a : Act} {w : World}
theorem execLdWm {x : Operand} {b off : Nat} {nw : Int} {v : Value} (ho : o.op = .load 24 x) (hx : a.eval x = .pointer (some ⟨b, off, none⟩)) (h0 : w.cell? ⟨b, off + 0, none⟩ = some (.int .i64 nw)) (h1 : w.cell? ⟨b, off + 1, none⟩ = some v) : (execOp a.eval o).run Try.prog w = .ok (.value (.agg (wC nw v))) w := by
  have hr := run_loadAt_mid (P := Try.prog) w b off 24 [.int .i64 nw, v] _ (fun j z hz => by
    match j, hz with
    | 0, hz => rw [← hz]; exact h0
    | 1, hz => rw [← hz]; exact h1) Try.underlying24 rfl (by kernel_rfl)
  unfold execOp
  simp only [ho, hx, Sem.run_bind, hr, Result.andThen_ok, Sem.run_pure]
  rfl
theorem execLd3 {x : Operand} {b k : Nat} {v : Value} (ho : o.op = .load 3 x) (hx : a.eval x = .pointer (some ⟨b, k, none⟩)) (hc : w.cell? ⟨b, k, none⟩ = some v) : (execOp a.eval o).run Try.prog w = .ok (.value v) w := by
  unfold execOp
  simp only [ho, hx]
  simp [go_sem, hc]
theorem execBoxJ {x : Operand} {nw : Int} {ev : Value} {sp rm ep : Int} {u v : Value} (hev : ∃ g n c, ev = .slice g n c) (hu : ∃ g n c, u = .slice g n c) (hv : ∃ g n c, v = .slice g n c) (ho : o.op = .box 27 x) (hx : a.eval x = .agg (jbC nw ev sp rm ep u v)) : (execOp a.eval o).run Try.prog w = .ok (.value (.pointer (some ⟨w.heap.size, 0, none⟩))) (w.alloc (.cells (jbC nw ev sp rm ep u v) 27)) := by
  obtain ⟨g, n, c, rfl⟩ := hev
  obtain ⟨g2, n2, c2, rfl⟩ := hu
  obtain ⟨g3, n3, c3, rfl⟩ := hv
  unfold execOp
  simp only [ho, hx]
  simp [go_sem, jbC]
theorem execFldJ0 {x : Operand} {b : Nat} (ho : o.op = .fieldAddr 27 x 0) (hx : a.eval x = .pointer (some ⟨b, 0, none⟩)) : (execOp a.eval o).run Try.prog w = .ok (.value (.pointer (some ⟨b, 0, none⟩))) w := by
  unfold execOp
  simp only [ho, hx]
  simp [go_sem]
theorem execFldJ1 {x : Operand} {b : Nat} (ho : o.op = .fieldAddr 27 x 1) (hx : a.eval x = .pointer (some ⟨b, 0, none⟩)) : (execOp a.eval o).run Try.prog w = .ok (.value (.pointer (some ⟨b, 2, none⟩))) w := by
  unfold execOp
  simp only [ho, hx]
  simp [go_sem]
theorem execFldJ2 {x : Operand} {b : Nat} (ho : o.op = .fieldAddr 27 x 2) (hx : a.eval x = .pointer (some ⟨b, 0, none⟩)) : (execOp a.eval o).run Try.prog w = .ok (.value (.pointer (some ⟨b, 3, none⟩))) w := by
  unfold execOp
  simp only [ho, hx]
  simp [go_sem]
theorem execFldJ3 {x : Operand} {b : Nat} (ho : o.op = .fieldAddr 27 x 3) (hx : a.eval x = .pointer (some ⟨b, 0, none⟩)) : (execOp a.eval o).run Try.prog w = .ok (.value (.pointer (some ⟨b, 4, none⟩))) w := by
  unfold execOp
  simp only [ho, hx]
  simp [go_sem]
theorem execFldJ4 {x : Operand} {b : Nat} (ho : o.op = .fieldAddr 27 x 4) (hx : a.eval x = .pointer (some ⟨b, 0, none⟩)) : (execOp a.eval o).run Try.prog w = .ok (.value (.pointer (some ⟨b, 5, none⟩))) w := by
  unfold execOp
  simp only [ho, hx]
  simp [go_sem]
end
theorem row_at {W : World} {g k : Nat} {c : Array Value} {t : TypeId} {z : Value} (h : W.heap[g]? = some (.cells c t)) (hz : c[k]? = some z) : W.cell? ⟨g, k, none⟩ = some z := by rw [cell_of_row _ _ _ _ _ _ h]; exact hz
end Go.Proofs.Ytijibdapooalcab.Win

namespace Go.Proofs.Ytijibdapooalcab.Win
open Go.RowKit Gf8 Aes By8 Cel Cf
/- Right stays right behind Open and Add; scripts of steps. Written by tools/mkC9t.py. -/

theorem add_rgt {w : Wn} {ep s r r2 : Int} {tags : List Nat} (h : Rgt w s r2) (h0 : (wAdd w ep tags r).2 = 0) (he : w.1 - s < ep) : Rgt (wAdd w ep tags r).1 s r := by
  unfold wAdd at h0 ⊢
  by_cases hA : adA w r
  · rw [if_pos hA] at h0 ⊢
    by_cases hB : adB w ep
    · rw [if_pos hB] at h0 ⊢
      by_cases hC : adC w tags r
      · rw [if_pos hC]
        exact put_right h inc_frs (fun z hz => (mem_frs.1 hz).2) ⟨hB.1, hB.2.1, he⟩ ⟨hA.1, hA.2.1⟩ hC
      · rw [if_neg hC] at h0
        cases h0
    · rw [if_neg hB] at h0
      cases h0
  · rw [if_neg hA] at h0
    cases h0
structure Stps (W : World) (v : Value) (n : Nat) (pb : Nat → Bool) (ep : Nat → Int) (tw : Nat → Value) (m : Nat → Nat) (tg : Nat → Nat → Nat → Nat) : Prop where
  shape : ∃ a c, v = .slice a n c ∧ n ≤ c ∧ c < 9223372036854775808 ∧ (0 < n → ∃ b o, a = some ⟨b, o, none⟩ ∧ b < W.heap.size ∧ ∀ j, j < n → W.cell? ⟨b, o + j * 3 + 0, none⟩ = some (.bool (pb j)) ∧ W.cell? ⟨b, o + j * 3 + 1, none⟩ = some (.int .i64 (ep j)) ∧ W.cell? ⟨b, o + j * 3 + 2, none⟩ = some (tw j))
  lists : ∀ j, j < n → Tgs W (tw j) (m j) (tg j)
  nums : ∀ j, j < n → I64 (ep j)
  m16 : ∀ j, j < n → m j * 16 ≤ 140737488351232
section
variable {W W' : World} {v : Value} {n : Nat} {pb : Nat → Bool} {ep : Nat → Int} {tw : Nat → Value} {m : Nat → Nat} {tg : Nat → Nat → Nat → Nat}
theorem Stps.on (h : Stps W v n pb ep tw m tg) (hb : Below W.heap.size W W') : Stps W' v n pb ep tw m tg := by
  obtain ⟨⟨a, c, e, h1, h2, h3⟩, hl, hn, hm⟩ := h
  refine ⟨⟨a, c, e, h1, h2, fun h0 => ?_⟩, fun j hj => (hl j hj).on hb, hn, hm⟩
  obtain ⟨b, o, e1, e2, e3⟩ := h3 h0
  exact ⟨b, o, e1, Nat.lt_of_lt_of_le e2 hb.size, fun j hj => ⟨by rw [cell_below hb e2]; exact (e3 j hj).1, by rw [cell_below hb e2]; exact (e3 j hj).2.1, by rw [cell_below hb e2]; exact (e3 j hj).2.2⟩⟩
theorem Stps.shp (h : Stps W v n pb ep tw m tg) : ∃ a c, v = .slice a n c := by
  obtain ⟨a, c, e, _⟩ := h.shape
  exact ⟨a, c, e⟩
theorem Stps.at (h : Stps W v n pb ep tw m tg) (h0 : 0 < n) : ∃ b o c, v = .slice (some ⟨b, o, none⟩) n c ∧ b < W.heap.size ∧ ∀ j, j < n → W.cell? ⟨b, o + j * 3 + 0, none⟩ = some (.bool (pb j)) ∧ W.cell? ⟨b, o + j * 3 + 1, none⟩ = some (.int .i64 (ep j)) ∧ W.cell? ⟨b, o + j * 3 + 2, none⟩ = some (tw j) := by
  obtain ⟨a, c, e, _, _, h3⟩ := h.shape
  obtain ⟨b, o, e1, e2, e3⟩ := h3 h0
  exact ⟨b, o, c, by rw [e, e1], e2, e3⟩
end
section
variable {o : Oper} {a : Act} {w : World}
end
end Go.Proofs.Ytijibdapooalcab.Win

namespace Go.Proofs.Ytijibdapooalcab.Win
open Go.RowKit Gf8 Aes By8 Cel Cf
/- What a window holds behind Open and Add. Written by tools/mkC9v.py. -/

theorem add_0 {w : Wn} {ep r : Int} {T : List Nat} (h : (wAdd w ep T r).2 = 0) : (wAdd w ep T r).1 = (w.1, putW w.2 ep (frs w.2 T)) ∧ adA w r ∧ adB w ep ∧ adC w T r := by
  unfold wAdd at h ⊢
  by_cases hA : adA w r
  · rw [if_pos hA] at h ⊢
    by_cases hB : adB w ep
    · rw [if_pos hB] at h ⊢
      by_cases hC : adC w T r
      · rw [if_pos hC]
        exact ⟨rfl, hA, hB, hC⟩
      · rw [if_neg hC] at h
        cases h
    · rw [if_neg hB] at h
      cases h
  · rw [if_neg hA] at h
    cases h
theorem add_e {w : Wn} {ep r : Int} {T : List Nat} (h : (wAdd w ep T r).2 ≠ 0) : (wAdd w ep T r).1 = (0, []) := by
  unfold wAdd at h ⊢
  by_cases hA : adA w r
  · rw [if_pos hA] at h ⊢
    by_cases hB : adB w ep
    · rw [if_pos hB] at h ⊢
      by_cases hC : adC w T r
      · rw [if_pos hC] at h
        exact absurd rfl h
      · rw [if_neg hC]
    · rw [if_neg hB]
  · rw [if_neg hA]
end Go.Proofs.Ytijibdapooalcab.Win

namespace Go.Proofs.Ytijibdapooalcab.Win
open Go.RowKit Gf8 Aes By8 Cel Cf
/- WindowPieces over what the package keeps. Written by tools/mkC9x.py. -/

theorem execBsT0 {o : Oper} {a : Act} {w : World} (ho : o.op = .buildSlice 25 0 #[]) : (execOp a.eval o).run Try.prog w = .ok (.value (.slice (some ⟨w.heap.size, 0, none⟩) 0 0)) (w.alloc (.cells #[] 36)) := by
  have hs : (sizeOf 36).run Try.prog w = .ok 16 w := by simp [go_sem]
  have hr : (Instr.buildSlice 25 0 #[]).run Try.prog w = .ok (.slice (some ⟨w.heap.size, 0, none⟩) 0 0) (w.alloc (.cells #[] 36)) := by
    simp only [Instr.buildSlice, Sem.run_bind, run_underlying Try.underlying25, Result.andThen_ok, hs]
    rw [if_neg (by decide), if_pos (by decide)]
    simp [newRow, Instr.fill]
    rw [show Array.map (fun _ : Nat => (default : Value)) (Array.range 0) = #[] from Array.eq_empty_of_size_eq_zero (by simp)]
  unfold execOp
  simp only [ho, List.map_toArray, List.map_nil, Sem.run_bind, hr, Result.andThen_ok, Sem.run_pure]
theorem own_bs0 (W : World) (t : Nat → Nat → Nat) : (W.alloc (.cells #[] 36)).ownsRow W.heap.size 36 16 (.slice (some ⟨W.heap.size, 0, none⟩) 0 0) 0 (tgV t 0) :=
  ⟨rfl, Or.inr ⟨W.heap.size, 0, _, rfl, Nat.le_refl _, heapNew W _, Nat.le_refl _, by unfold maxLen; omega, rfl, rfl⟩⟩
end Go.Proofs.Ytijibdapooalcab.Win
