import Derived.Test.YtmllfmnpcidkbaaT8d
namespace Go.Proofs.Ytmllfmnpcidkbaa.Loo
open Go.RowKit Gf8 Aes By8 Cel Cf Win Drw Prm
/- LoomRuns: the functions of its tasks, as a Sys. -/

abbrev rF : FuncId := 10
abbrev sF : FuncId := 12
theorem cell_heap {w w' : World} {b k : Nat} (h : w'.heap[b]? = w.heap[b]?) : w'.cell? ⟨b, k, none⟩ = w.cell? ⟨b, k, none⟩ := by simp [World.cell?, h]
theorem SliceV.heap {w w' : World} {v : Value} {n : Nat} {x : Nat → Value} (h : SliceV w v n x) (e : ∀ b, b < w.heap.size → w'.heap[b]? = w.heap[b]?) (hs : w.heap.size ≤ w'.heap.size) : SliceV w' v n x := by
  obtain ⟨a, cap, q, h3⟩ := h
  refine ⟨a, cap, q, fun h0 => ?_⟩
  obtain ⟨b, off, e1, e2, e3⟩ := h3 h0
  exact ⟨b, off, e1, Nat.lt_of_lt_of_le e2 hs, fun j hj => by rw [cell_heap (e b e2)]; exact e3 j hj⟩
theorem ShL.heap {w w' : World} {v : Value} {D : Sd} (h : ShL w v D) (e : ∀ b, b < w.heap.size → w'.heap[b]? = w.heap[b]?) (hs : w.heap.size ≤ w'.heap.size) : ShL w' v D := by
  obtain ⟨a, cap, q, y, h2, h3⟩ := h
  refine ⟨a, cap, q, y, fun t ht => SliceV.heap (h2 t ht) e hs, fun h0 => ?_⟩
  obtain ⟨b, off, e1, e2, e3⟩ := h3 h0
  exact ⟨b, off, e1, Nat.lt_of_lt_of_le e2 hs, fun t ht => by rw [cell_heap (e b e2), cell_heap (e b e2), cell_heap (e b e2), cell_heap (e b e2)]; exact e3 t ht⟩
theorem one_c {W : World} {g : Nat} {v : Value} {t : TypeId} (h : W.heap[g]? = some (.cells #[v] t)) : W.cell? ⟨g, 0, none⟩ = some v := by rw [cell_of_row _ _ _ _ _ _ h]; rfl
section
variable {gl gb gs gt n t : Nat} {sv : Value} {D : Sd} {x : Lg} {F : Nat → Prop} {U V : World}
set_option maxRecDepth 100000 in
set_option maxHeartbeats 4000000 in
theorem cready (hUV : Below U.heap.size U V) (hR : LgR U.heap.size V F gl n x) (hP : ShL U sv D) (hn : n = D.n) (ht : t < n) (hn2 : n ≤ 1000) (hc : x.ca.length ≤ 1000000000) (hk2 : x.ak t ≤ 1000000000) (hb : V.heap[gb]? = some (.cells #[.pointer (some ⟨gl, 0, none⟩)] 38)) (hs : V.heap[gs]? = some (.cells #[sv] 37)) (hv : V.heap[gt]? = some (.cells #[.int .i64 ((t : Nat) : Int)] 3)) :
    Calls Try.prog rF #[.pointer (some ⟨gb, 0, none⟩), .pointer (some ⟨gs, 0, none⟩), .pointer (some ⟨gt, 0, none⟩)] V fun e w' => ∃ F', e = .returned (.bool (rdA D x t).1) ∧ (LgR U.heap.size w' F' gl n (rdA D x t).2 ∧ Saved F V w' ∧ ∀ q, F' q → F q ∨ V.heap.size ≤ q) ∧ Below U.heap.size U w' := by
  go_enter Try.func10, Try.ntmps10
  refine wo_ 8 [(0, .pointer (some ⟨gb, 0, none⟩)), (1, .pointer (some ⟨gs, 0, none⟩)), (2, .pointer (some ⟨gt, 0, none⟩))] ?_
  rintro a A ⟨t0, t1, t2, -⟩
  refine wp_seq ?_
  refine wi_ A (h3_ t0 t1 t2) (rf_ [] (h3_ t0 t1 t2) ?_)
  rintro a A - ⟨t0, t1, t2, -⟩
  refine wp_seq ?_
  refine wi_ A (h3_ t0 t1 t2) (rv_ 0 (.pointer (some ⟨gl, 0, none⟩)) (fun a ee => execLm rfl (Or.inr (Or.inr (Or.inr (Or.inr (Or.inr rfl))))) (ee _) (one_c hb)) (rv_ 1 sv (fun a ee => execLm rfl (Or.inr (Or.inr (Or.inr (Or.inr (Or.inl rfl))))) (ee _) (one_c hs)) (rv_ 2 (.int .i64 ((t : Nat) : Int)) (fun a ee => execLm rfl (Or.inl rfl) (ee _) (one_c hv)) (rc_ 3 (lready gl n sv D t x F U V hUV hR hP hn ht hn2 hc hk2) fun e X1 hh => ?_))))
  obtain ⟨F', he, hq⟩ := hh
  refine ⟨_, he, rg_ [(3, .bool (rdA D x t).1)] ?_⟩
  rintro a A ⟨t3, -⟩
  refine wp_ret ?_
  refine bodyPost_ret (results_tmp rfl _ _ _) A.2 ⟨F', ?_, hq⟩
  show Ending.returned (a.eval (.tmp 3)) = _
  rw [t3]
set_option maxRecDepth 100000 in
set_option maxHeartbeats 4000000 in
theorem cstep (hUV : Below U.heap.size U V) (hR : LgR U.heap.size V F gl n x) (hP : ShL U sv D) (hn : n = D.n) (ht : t < n) (hn2 : n ≤ 1000) (hc : x.ca.length ≤ 1000000000) (hk2 : x.dn t ≤ 1000000000) (hb : V.heap[gb]? = some (.cells #[.pointer (some ⟨gl, 0, none⟩)] 38)) (hs : V.heap[gs]? = some (.cells #[sv] 37)) (hv : V.heap[gt]? = some (.cells #[.int .i64 ((t : Nat) : Int)] 3)) :
    Calls Try.prog sF #[.pointer (some ⟨gb, 0, none⟩), .pointer (some ⟨gs, 0, none⟩), .pointer (some ⟨gt, 0, none⟩)] V fun e w' => ∃ F', e = .returned (.bool (stA D x t).1) ∧ (LgR U.heap.size w' F' gl n (stA D x t).2 ∧ Saved F V w' ∧ ∀ q, F' q → F q ∨ V.heap.size ≤ q) ∧ Below U.heap.size U w' := by
  go_enter Try.func12, Try.ntmps12
  refine wo_ 8 [(0, .pointer (some ⟨gb, 0, none⟩)), (1, .pointer (some ⟨gs, 0, none⟩)), (2, .pointer (some ⟨gt, 0, none⟩))] ?_
  rintro a A ⟨t0, t1, t2, -⟩
  refine wp_seq ?_
  refine wi_ A (h3_ t0 t1 t2) (rf_ [] (h3_ t0 t1 t2) ?_)
  rintro a A - ⟨t0, t1, t2, -⟩
  refine wp_seq ?_
  refine wi_ A (h3_ t0 t1 t2) (rv_ 0 (.pointer (some ⟨gl, 0, none⟩)) (fun a ee => execLm rfl (Or.inr (Or.inr (Or.inr (Or.inr (Or.inr rfl))))) (ee _) (one_c hb)) (rv_ 1 sv (fun a ee => execLm rfl (Or.inr (Or.inr (Or.inr (Or.inr (Or.inl rfl))))) (ee _) (one_c hs)) (rv_ 2 (.int .i64 ((t : Nat) : Int)) (fun a ee => execLm rfl (Or.inl rfl) (ee _) (one_c hv)) (rc_ 3 (lstep gl n sv D t x F U V hUV hR hP hn ht hn2 hc hk2) fun e X1 hh => ?_))))
  obtain ⟨F', he, hq⟩ := hh
  refine ⟨_, he, rg_ [(3, .bool (stA D x t).1)] ?_⟩
  rintro a A ⟨t3, -⟩
  refine wp_ret ?_
  refine bodyPost_ret (results_tmp rfl _ _ _) A.2 ⟨F', ?_, hq⟩
  show Ending.returned (a.eval (.tmp 3)) = _
  rw [t3]
end
/-- The log, and what the closures hold. -/
structure ShR (U0 : World) (gl gb gs : Nat) (gt : Nat → Nat) (sv : Value) (D : Sd) (W : World) (F : Nat → Prop) (x : Lg) (F0 : Nat → Prop) : Prop where
  lg : LgR U0.heap.size W F0 gl D.n x
  hb : W.heap[gb]? = some (.cells #[.pointer (some ⟨gl, 0, none⟩)] 38)
  hs : W.heap[gs]? = some (.cells #[sv] 37)
  hv : ∀ t, t < D.n → W.heap[gt t]? = some (.cells #[.int .i64 ((t : Nat) : Int)] 3)
  iff : ∀ b, F b ↔ F0 b ∨ b = gb ∨ b = gs ∨ ∃ t, t < D.n ∧ b = gt t
  off : ¬ F0 gb ∧ ¬ F0 gs ∧ ∀ t, t < D.n → ¬ F0 (gt t)
  low : ∀ b, b < U0.heap.size → W.heap[b]? = U0.heap[b]?
  le : U0.heap.size ≤ W.heap.size
section
variable {U0 W X : World} {gl gb gs : Nat} {gt : Nat → Nat} {sv : Value} {D : Sd} {F F0 F1 : Nat → Prop} {x y : Lg}
theorem ShR.keep (h : ShR U0 gl gb gs gt sv D W F x F0) (e : ∀ b, F b → X.heap[b]? = W.heap[b]?) (el : ∀ b, b < U0.heap.size → X.heap[b]? = W.heap[b]?) (hs : W.heap.size ≤ X.heap.size) : ShR U0 gl gb gs gt sv D X F x F0 :=
  ⟨h.lg.keep fun b w => e b ((h.iff b).2 (Or.inl w)), by rw [e gb ((h.iff gb).2 (Or.inr (Or.inl rfl)))]; exact h.hb, by rw [e gs ((h.iff gs).2 (Or.inr (Or.inr (Or.inl rfl))))]; exact h.hs, fun t ht => by rw [e (gt t) ((h.iff (gt t)).2 (Or.inr (Or.inr (Or.inr ⟨t, ht, rfl⟩))))]; exact h.hv t ht, h.iff, h.off, fun b hb => by rw [el b hb]; exact h.low b hb, Nat.le_trans h.le hs⟩
theorem ShR.lt (h : ShR U0 gl gb gs gt sv D W F x F0) : ∀ b, F b → b < W.heap.size := fun b w => by
  rcases (h.iff b).1 w with w | rfl | rfl | ⟨t, ht, rfl⟩
  · exact h.lg.lt b w
  · exact (Array.getElem?_eq_some_iff.1 h.hb).1
  · exact (Array.getElem?_eq_some_iff.1 h.hs).1
  · exact (Array.getElem?_eq_some_iff.1 (h.hv t ht)).1
/-- The log has changed. -/
theorem ShR.next (h : ShR U0 gl gb gs gt sv D W F x F0) (hR : LgR U0.heap.size X F1 gl D.n y) (hs : Saved F0 W X) (hf : ∀ q, F1 q → F0 q ∨ W.heap.size ≤ q) : ∃ F2, ShR U0 gl gb gs gt sv D X F2 y F1 ∧ Saved F W X ∧ ∀ q, F2 q → F q ∨ W.heap.size ≤ q := by
  have l1 := (Array.getElem?_eq_some_iff.1 h.hb).1
  have l2 := (Array.getElem?_eq_some_iff.1 h.hs).1
  have l3 := fun t ht => (Array.getElem?_eq_some_iff.1 (h.hv t ht)).1
  refine ⟨fun b => F1 b ∨ b = gb ∨ b = gs ∨ ∃ t, t < D.n ∧ b = gt t, ⟨hR, (hs.block _ l1 h.off.1).trans h.hb, (hs.block _ l2 h.off.2.1).trans h.hs, fun t ht => (hs.block _ (l3 t ht) (h.off.2.2 t ht)).trans (h.hv t ht), fun b => Iff.rfl, ⟨fun w => (hf _ w).elim h.off.1 (fun w => by omega), fun w => (hf _ w).elim h.off.2.1 (fun w => by omega), fun t ht w => (hf _ w).elim (h.off.2.2 t ht) (fun w => by have := l3 t ht; omega)⟩, fun b hb => ?_, Nat.le_trans h.le hs.size⟩, ⟨hs.os, hs.tape, hs.output, hs.size, fun b hb hn => hs.block b hb (fun w => hn ((h.iff b).2 (Or.inl w)))⟩, ?_⟩
  · rw [hs.block b (Nat.lt_of_lt_of_le hb h.le) (fun w => Nat.not_lt.2 (h.lg.ge b w) hb)]
    exact h.low b hb
  · rintro q (w | w | w | w)
    · rcases hf q w with z | z
      · exact Or.inl ((h.iff q).2 (Or.inl z))
      · exact Or.inr z
    · exact Or.inl ((h.iff q).2 (Or.inr (Or.inl w)))
    · exact Or.inl ((h.iff q).2 (Or.inr (Or.inr (Or.inl w))))
    · exact Or.inl ((h.iff q).2 (Or.inr (Or.inr (Or.inr w))))
theorem ShR.cut (h : ShR U0 gl gb gs gt sv D W F x F0) (hP : ShL U0 sv D) : Below (cutW W U0.heap.size).heap.size (cutW W U0.heap.size) W ∧ (cutW W U0.heap.size).heap.size = U0.heap.size ∧ ShL (cutW W U0.heap.size) sv D := by
  have e := cutW_size h.le
  refine ⟨cutW_below h.le, e, hP.heap (fun b hb => ?_) (by rw [e]; exact Nat.le_refl _)⟩
  rw [← h.low b hb]
  exact ((cutW_below h.le).block b (by rw [e]; exact hb)).symm
end
def caps (gb gs g : Nat) : Array Value := #[.pointer (some ⟨gb, 0, none⟩), .pointer (some ⟨gs, 0, none⟩), .pointer (some ⟨g, 0, none⟩)]
/-- The tasks of LoomRuns. -/
def shS (U0 : World) (gl gb gs : Nat) (gt : Nat → Nat) (sv : Value) (D : Sd) (hP : ShL U0 sv D) (hn : D.n ≤ 1000) : Sys Lg where
  R := fun W F x => ∃ F0, ShR U0 gl gb gs gt sv D W F x F0
  lo := U0.heap.size
  frame := fun ⟨F0, h⟩ e el hs => ⟨F0, h.keep e el hs⟩
  lt := fun ⟨F0, h⟩ => h.lt
  low := fun ⟨F0, h⟩ => h.le
  n := D.n
  rf := fun t => if D.nr t = true then none else some (rF, caps gb gs (gt t))
  sf := fun t => if D.la t = 0 then none else some (sF, caps gb gs (gt t))
  ra := rdA D
  sa := stA D
  cr := fun x t => x.ca.length ≤ 1000000000 ∧ x.ak t ≤ 1000000000
  cs := fun x t => x.ca.length ≤ 1000000000 ∧ x.dn t ≤ 1000000000
  rok := fun {t f c} _ h => by
    split at h
    · cases h
    · injection h with h
      injection h with e1 e2
      subst e1
      exact ⟨_, Try.func10, by kernel_rfl, by kernel_rfl⟩
  sok := fun {t f c} _ h => by
    split at h
    · cases h
    · injection h with h
      injection h with e1 e2
      subst e1
      exact ⟨_, Try.func12, by kernel_rfl, by kernel_rfl⟩
  ready := fun {V F x t f c} ht h hc ⟨F0, hR⟩ => by
    split at h
    · cases h
    · injection h with h
      injection h with e1 e2
      subst e1
      subst e2
      obtain ⟨c1, c2, c3⟩ := hR.cut hP
      have hl := hR.lg
      rw [← c2] at hl
      refine Calls.mono (cready c1 hl c3 rfl ht hn hc.1 hc.2 hR.hb hR.hs (hR.hv t ht)) fun e w' ⟨F', he, ⟨w1, w2, w3⟩, _⟩ => ?_
      rw [c2] at w1
      obtain ⟨F2, z1, z2, z3⟩ := hR.next w1 w2 w3
      exact ⟨F2, he, ⟨F', z1⟩, z2, z3⟩
  step := fun {V F x t f c} ht h hc ⟨F0, hR⟩ => by
    split at h
    · cases h
    · injection h with h
      injection h with e1 e2
      subst e1
      subst e2
      obtain ⟨c1, c2, c3⟩ := hR.cut hP
      have hl := hR.lg
      rw [← c2] at hl
      refine Calls.mono (cstep c1 hl c3 rfl ht hn hc.1 hc.2 hR.hb hR.hs (hR.hv t ht)) fun e w' ⟨F', he, ⟨w1, w2, w3⟩, _⟩ => ?_
      rw [c2] at w1
      obtain ⟨F2, z1, z2, z3⟩ := hR.next w1 w2 w3
      exact ⟨F2, he, ⟨F', z1⟩, z2, z3⟩
section
variable {U0 : World} {gl gb gs : Nat} {gt : Nat → Nat} {sv : Value} {D : Sd} {hP : ShL U0 sv D} {hn : D.n ≤ 1000}
theorem shS_is : ShS (shS U0 gl gb gs gt sv D hP hn) D := by
  refine ⟨rfl, fun _ _ => rfl, fun _ _ => rfl, fun t _ => ?_, fun t _ => ?_⟩
  · show (if D.nr t = true then none else some (rF, caps gb gs (gt t))).isNone = _
    cases D.nr t <;> rfl
  · show (if D.la t = 0 then none else some (sF, caps gb gs (gt t))).isNone = _
    by_cases h : D.la t = 0
    · rw [if_pos h, decide_eq_true h]; rfl
    · rw [if_neg h, decide_eq_false h]; rfl
def lg0 : Lg := ⟨[], fun _ => 0, fun _ => 0⟩
theorem shS_hold {most : Nat} (hm : most ≤ 1000) : (shS U0 gl gb gs gt sv D hP hn).Hold most lg0 (fun j t x => x.ca.length ≤ j * (D.n + 1) + t ∧ (∀ s, t ≤ s → x.ak s ≤ j) ∧ (∀ s, x.ak s ≤ j + 1) ∧ ∀ s, x.dn s ≤ j) := by
  have hb : ∀ j, j ≤ most → j * (D.n + 1) ≤ 1000 * 1001 := fun j hj => Nat.mul_le_mul (by omega) (by omega)
  refine ⟨⟨Nat.zero_le _, fun _ _ => Nat.le_refl _, fun _ => Nat.zero_le _, fun _ => Nat.le_refl _⟩, fun j t y hj ht ⟨h1, h2, h3, h4⟩ => ⟨⟨?_, ?_⟩, ⟨?_, fun s hs => ?_, fun s => ?_, h4⟩, ?_, fun s hs => h2 s (by omega), h3, h4⟩, fun j t y hj ht ⟨h1, h2, h3, h4⟩ => ⟨⟨?_, ?_⟩, ?_, fun s _ => h3 s, fun s => Nat.le_succ_of_le (h3 s), fun s => ?_⟩⟩
  · have := hb j hj
    have ht2 : t < D.n := ht
    omega
  · have := h2 t (Nat.le_refl _); omega
  · show (y.ca ++ [2 * t]).length ≤ _
    rw [List.length_append]
    simp only [List.length_singleton]
    omega
  · show upf y.ak t _ s ≤ j
    rw [upf_ne _ _ (by omega)]
    exact h2 s (by omega)
  · show upf y.ak t _ s ≤ j + 1
    by_cases e : s = t
    · rw [e, upf_at]; have := h2 t (Nat.le_refl _); omega
    · rw [upf_ne _ _ e]; exact h3 s
  · omega
  · have := hb j (by omega)
    have h1' : y.ca.length ≤ j * (D.n + 1) + D.n := h1
    omega
  · have := h4 t; omega
  · show (y.ca ++ [2 * t + 1]).length ≤ _
    rw [List.length_append, Nat.add_mul]
    simp only [List.length_singleton]
    have h1' : y.ca.length ≤ j * (D.n + 1) + D.n := h1
    omega
  · show upf y.dn t _ s ≤ j + 1
    by_cases e : s = t
    · rw [e, upf_at]; have := h4 t; omega
    · rw [upf_ne _ _ e]; have := h4 s; omega
end
end Go.Proofs.Ytmllfmnpcidkbaa.Loo
