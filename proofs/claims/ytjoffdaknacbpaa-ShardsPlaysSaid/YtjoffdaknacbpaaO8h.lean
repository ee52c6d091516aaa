import Derived.Test.YtjoffdaknacbpaaO8e
namespace Go.Proofs.Ytjoffdaknacbpaa.Sha
open Go.RowKit Gf8 Aes By8 Cel Cf Win Drw
/- Offers in memory; the reference's Lowest, Len. Written by tools/mkO8h.py. -/

/-- The cells of offers. -/
def ofL (o : Nat → Off) : Nat → List Value
  | 0 => []
  | n + 1 => ofL o n ++ (bytesL 16 (o n).1 ++ [.int .i64 (o n).2])
theorem ofL_len (o : Nat → Off) : ∀ n, (ofL o n).length = n * 17
  | 0 => rfl
  | n + 1 => by rw [ofL, List.length_append, ofL_len o n, List.length_append, bytesL_len]; simp; omega
theorem ofL_cg {o p : Nat → Off} : ∀ {n}, (∀ j, j < n → o j = p j) → ofL o n = ofL p n
  | 0, _ => rfl
  | n + 1, h => by rw [ofL, ofL, ofL_cg (n := n) (fun j hj => h j (by omega)), h n (by omega)]
theorem ofL_at (o : Nat → Off) : ∀ n j, j < n → (∀ i, i < 16 → (ofL o n)[j * 17 + i]? = some (.int .u8 (((o j).1 i : Nat) : Int))) ∧ (ofL o n)[j * 17 + 16]? = some (.int .i64 (o j).2)
  | 0, _, h => by omega
  | n + 1, j, h => by
    have l := ofL_len o n
    have l2 := bytesL_len 16 (o n).1
    rw [ofL]
    by_cases q : j < n
    · obtain ⟨h1, h2⟩ := ofL_at o n j q
      exact ⟨fun i hi => by rw [List.getElem?_append_left (by omega)]; exact h1 i hi, by rw [List.getElem?_append_left (by omega)]; exact h2⟩
    · obtain rfl : j = n := by omega
      refine ⟨fun i hi => ?_, ?_⟩
      · rw [List.getElem?_append_right (by omega), l, Nat.add_sub_cancel_left, List.getElem?_append_left (by omega)]
        exact bytesL_at 16 _ hi
      · rw [List.getElem?_append_right (by omega), l, Nat.add_sub_cancel_left, List.getElem?_append_right (by omega), l2]
        rfl
/-- A list of offers. -/
structure Ofs (W : World) (v : Value) (n : Nat) (o : Nat → Off) : Prop where
  shape : ∃ a c, v = .slice a n c ∧ n ≤ c ∧ (0 < n → ∃ b q, a = some ⟨b, q, none⟩ ∧ b < W.heap.size ∧ ∀ j, j < n → (∀ i, i < 16 → W.cell? ⟨b, q + j * 17 + i, none⟩ = some (.int .u8 (((o j).1 i : Nat) : Int))) ∧ W.cell? ⟨b, q + j * 17 + 16, none⟩ = some (.int .i64 (o j).2))
  byt : ∀ j, j < n → ∀ i, i < 16 → (o j).1 i < 256
section
variable {W W' : World} {v : Value} {n : Nat} {o : Nat → Off}
theorem Ofs.on (h : Ofs W v n o) (hb : Below W.heap.size W W') : Ofs W' v n o := by
  obtain ⟨⟨a, c, e, h1, h3⟩, hp⟩ := h
  refine ⟨⟨a, c, e, h1, fun h0 => ?_⟩, hp⟩
  obtain ⟨b, q, e1, e2, e3⟩ := h3 h0
  exact ⟨b, q, e1, Nat.lt_of_lt_of_le e2 hb.size, fun j hj => ⟨fun i hi => by rw [cell_below hb e2]; exact (e3 j hj).1 i hi, by rw [cell_below hb e2]; exact (e3 j hj).2⟩⟩
theorem Ofs.shp (h : Ofs W v n o) : ∃ a c, v = .slice a n c := by
  obtain ⟨a, c, e, _⟩ := h.shape
  exact ⟨a, c, e⟩
theorem Ofs.at (h : Ofs W v n o) (h0 : 0 < n) : ∃ b q c, v = .slice (some ⟨b, q, none⟩) n c ∧ n ≤ c ∧ b < W.heap.size ∧ ∀ j, j < n → (∀ i, i < 16 → W.cell? ⟨b, q + j * 17 + i, none⟩ = some (.int .u8 (((o j).1 i : Nat) : Int))) ∧ W.cell? ⟨b, q + j * 17 + 16, none⟩ = some (.int .i64 (o j).2) := by
  obtain ⟨a, c, e, hc, h3⟩ := h.shape
  obtain ⟨b, q, e1, e2, e3⟩ := h3 h0
  exact ⟨b, q, c, by rw [e, e1], hc, e2, e3⟩
theorem Ofs.sub {b q c k : Nat} (h : Ofs W (.slice (some ⟨b, q, none⟩) n c) n o) (hk : k ≤ n) : Ofs W (.slice (some ⟨b, q, none⟩) k c) k o := by
  obtain ⟨⟨a, c', e, hc, h3⟩, hp⟩ := h
  injection e with e1 e2 e4
  subst e4
  refine ⟨⟨_, c, rfl, by omega, fun h0 => ?_⟩, fun j hj => hp j (by omega)⟩
  obtain ⟨b', q', f1, f2, f3⟩ := h3 (by omega)
  rw [f1] at e1
  injection e1 with e1
  injection e1 with e1 e5
  subst e1
  subst e5
  exact ⟨b, q, rfl, f2, fun j hj => f3 j (by omega)⟩
theorem own_ofs {B : Nat} (h : W.ownsRow B 38 17 v n (ofL o n)) (hp : ∀ j, j < n → ∀ i, i < 16 → (o j).1 i < 256) : Ofs W v n o := by
  refine ⟨?_, hp⟩
  rcases h.2 with ⟨e, e2⟩ | ⟨g, cap, cur, e, hB, hg, hnc, hcm, hcs, ht⟩
  · subst e2
    exact ⟨none, 0, e, Nat.le_refl _, fun q => absurd q (Nat.lt_irrefl 0)⟩
  · refine ⟨_, cap, e, hnc, fun _ => ⟨g, 0, rfl, (Array.getElem?_eq_some_iff.1 hg).1, fun j hj => ?_⟩⟩
    have hc := h.cells (g := g) (by rw [e]; rfl)
    obtain ⟨h1, h2⟩ := ofL_at o n j hj
    exact ⟨fun i hi => by have := hc _ _ (h1 i hi); rw [Addr.add_mid] at this; rw [show 0 + j * 17 + i = 0 + (j * 17 + i) by omega]; exact this, by have := hc _ _ h2; rw [Addr.add_mid] at this; rw [show 0 + j * 17 + 16 = 0 + (j * 17 + 16) by omega]; exact this⟩
end
section
variable {o : Oper} {a : Act} {w : World}
theorem execLdI {x : Operand} {b k : Nat} {v : Value} (ho : o.op = .load 3 x) (hx : a.eval x = .pointer (some ⟨b, k, none⟩)) (hc : w.cell? ⟨b, k, none⟩ = some v) : (execOp a.eval o).run Try.prog w = .ok (.value v) w := by
  unfold execOp
  simp only [ho, hx]
  simp [go_sem, hc]
theorem execFldO0 {x : Operand} {b k : Nat} (ho : o.op = .fieldAddr 38 x 0) (hx : a.eval x = .pointer (some ⟨b, k, none⟩)) : (execOp a.eval o).run Try.prog w = .ok (.value (.pointer (some ⟨b, k, none⟩))) w := by
  unfold execOp
  simp only [ho, hx]
  simp [go_sem]
theorem execFldO1 {x : Operand} {b k : Nat} (ho : o.op = .fieldAddr 38 x 1) (hx : a.eval x = .pointer (some ⟨b, k, none⟩)) : (execOp a.eval o).run Try.prog w = .ok (.value (.pointer (some ⟨b, k + 16, none⟩))) w := by
  unfold execOp
  simp only [ho, hx]
  simp [go_sem]
theorem execIdxOs {x i : Operand} {b off n cap k : Nat} (ho : o.op = .indexAddr 36 x i) (hx : a.eval x = .slice (some ⟨b, off, none⟩) n cap) (hi : a.eval i = .int .i64 ((k : Nat) : Int)) (hk : k < n) : (execOp a.eval o).run Try.prog w = .ok (.value (.pointer (some ⟨b, off + k * 17, none⟩))) w := by
  unfold execOp
  simp only [ho, hx, hi]
  simp [go_sem, hk]
theorem execLenOs {x : Operand} {v : Value} {len : Nat} (ho : o.op = .call { callee := .builtin .len, args := #[x], argTypes := #[36] }) (hx : a.eval x = v) (hv : ∃ ao c, v = .slice ao len c) : (execOp a.eval o).run Try.prog w = .ok (.value (.int .i64 ((len : Nat) : Int))) w := by
  obtain ⟨ao, c, rfl⟩ := hv
  unfold execOp
  simp only [ho, resolve, invoke, builtin, List.map_toArray, List.map_cons, List.map_nil, hx]
  simp [go_sem]
theorem slO_h (b off len cap h : Nat) (hh : h ≤ cap) (W : World) : (Instr.sliceAt 36 (.slice (some ⟨b, off, none⟩) len cap) none (some (.int .i64 ((h : Nat) : Int))) none).run Try.prog W = .ok (.slice (some ⟨b, off, none⟩) h cap) W := by
  have e1 : (h : Int) ≤ cap := by omega
  simp [Instr.sliceAt, Instr.slice, run_underlying Try.underlying36, Instr.sliceBounds, run_sliceBound, hh, Addr.add_mid]
theorem execSlO {x h : Operand} {b off len cap k : Nat} (ho : o.op = .slice 36 x none (some h) none) (hx : a.eval x = .slice (some ⟨b, off, none⟩) len cap) (hh : a.eval h = .int .i64 ((k : Nat) : Int)) (hk : k ≤ cap) : (execOp a.eval o).run Try.prog w = .ok (.value (.slice (some ⟨b, off, none⟩) k cap)) w := by
  unfold execOp
  simp only [ho, hx, hh, Option.map_some, Option.map_none, Sem.run_bind, slO_h b off len cap k hk, Result.andThen_ok, Sem.run_pure]
end
theorem cn_t {o : Nat → Off} {i : Nat} (h : (lwO o i (tv (o i).1 16)).isSome = true) : cnO o (i + 1) = cnO o i := by
  show cnO o i + _ = _
  rw [if_pos h, Nat.add_zero]
theorem cn_f {o : Nat → Off} {i : Nat} (h : (lwO o i (tv (o i).1 16)).isSome = false) : cnO o (i + 1) = cnO o i + 1 := by
  show cnO o i + _ = _
  rw [if_neg (by rw [h]; decide)]
theorem lw_no {o : Nat → Off} {i x : Nat} (h : tv (o i).1 16 ≠ x) : lwO o (i + 1) x = lwO o i x := if_neg h
theorem lw_new {o : Nat → Off} {i x : Nat} (h : tv (o i).1 16 = x) (hL : lwO o i x = none) : lwO o (i + 1) x = some (o i).2 := by
  show (if tv (o i).1 16 = x then _ else _) = _
  rw [if_pos h, hL]
theorem lw_low {o : Nat → Off} {i x : Nat} {y : Int} (h : tv (o i).1 16 = x) (hL : lwO o i x = some y) (hl : (o i).2 < y) : lwO o (i + 1) x = some (o i).2 := by
  show (if tv (o i).1 16 = x then _ else _) = _
  rw [if_pos h, hL]
  simp only [if_pos hl]
theorem lw_keep {o : Nat → Off} {i x : Nat} {y : Int} (h : tv (o i).1 16 = x) (hL : lwO o i x = some y) (hl : ¬ (o i).2 < y) : lwO o (i + 1) x = some y := by
  show (if tv (o i).1 16 = x then _ else _) = _
  rw [if_pos h, hL]
  simp only [if_neg hl]
set_option maxRecDepth 100000 in
set_option maxHeartbeats 4000000 in
/-- The reference's Lowest. -/
theorem rlow17 (v : Value) (n : Nat) (o : Nat → Off) (f : Nat → Nat) (V : World) (hO : Ofs V v n o) (hn : n < 9223372036854775808) (hf : ∀ i, i < 16 → f i < 256) :
    Calls Try.prog 14 #[v, .agg (bA 16 f)] V fun e w' => e = .returned (.tuple #[.int .i64 ((lwO o n (tv f 16)).getD 0), .bool (lwO o n (tv f 16)).isSome]) ∧ Below V.heap.size V w' := by
  go_enter Try.func14, Try.ntmps14
  refine wo_ 42 [(0, v), (1, .agg (bA 16 f))] ?_
  rintro a A ⟨t0, t1, -⟩
  have BW : Below V.heap.size V V := Below.refl _ _
  refine wp_seq ?_
  obtain ⟨g3, egg3⟩ : ∃ z_ : Nat, V.heap.size = z_ := ⟨_, rfl⟩
  refine wi_ A (h2_ t0 t1) (rs_ 0 (fun a ee => ?_))
  refine stepV rfl rfl (execBox16 rfl (ee _)) ⟨.pointer (some ⟨g3, 0, none⟩), ⟨_, rfl, by subst egg3; rfl⟩, fun X0 hX => ?_⟩
  have bQ : Below V.heap.size V X0 := by subst hX egg3; exact (belNew V _)
  have Fg3 : (X0.heap[g3]? = some (.cells (bA 16 f) 31)) := by subst hX egg3; exact heapNew V _
  have Fgeg3 : (V.heap.size ≤ g3) := by subst hX egg3; exact ((Below.refl V.heap.size V)).size
  have bX := bQ
  clear bQ hX egg3 ee a
  refine rf_ [(3, .pointer (some ⟨g3, 0, none⟩))] (h1_ t0) ?_
  rintro a A ⟨t3, -⟩ ⟨t0, -⟩
  replace hO := (hO.on bX)
  have ZX0 := bX.size
  replace BW := BW.trans (bX.mono BW.size)
  clear bX
  have BB : Below X0.heap.size X0 X0 := Below.refl _ _
  refine wp_seq ?_
  refine wi_ A (h2_ t0 t3) (rf_ [(6, .int .i64 ((0 : Nat) : Int)), (7, .bool false)] (h2_ t0 t3) ?_)
  rintro a A ⟨t6, t7, -⟩ ⟨t0, t3, -⟩
  refine wp_seq ?_
  refine wp_seq ?_
  refine wi_ A (h4_ t0 t3 t6 t7) (rf_ [(8, .int .i64 ((0 : Nat) : Int))] (h4_ t0 t3 t6 t7) ?_)
  rintro a A ⟨t8, -⟩ ⟨t0, t3, t6, t7, -⟩
  refine wp_block ?_
  refine wp_loop (fun a W => ∃ (i : Nat), i ≤ n ∧ (a.tmps.size = 42 ∧ a.defers = []) ∧ a.eval (.tmp 0) = v ∧ a.eval (.tmp 3) = .pointer (some ⟨g3, 0, none⟩) ∧ a.eval (.tmp 6) = .int .i64 ((lwO o i (tv f 16)).getD 0) ∧ a.eval (.tmp 7) = .bool (lwO o i (tv f 16)).isSome ∧ a.eval (.tmp 8) = .int .i64 ((i : Nat) : Int) ∧ Below X0.heap.size X0 W) (fun a _ => n - (intOf (a.eval (.tmp 8))).toNat) ⟨0, Nat.zero_le _, A, t0, t3, t6, t7, t8, BB⟩ ?_
  clear A t0 t3 t6 t7 t8 BB a
  rintro a XL3 ⟨i, hi, A, t0, t3, t6, t7, t8, BB⟩
  have esi := t8
  refine wp_seq ?_
  refine wp_seq ?_
  refine wi_ A (h5_ t0 t3 t6 t7 t8) (rv_ 2 (.int .i64 ((n : Nat) : Int)) (fun a ee => execLenOs (len := n) rfl (ee _) hO.shp) (rv_ 3 (.bool (decide (i < n))) (fun a ee => execLtW (p := i) (q := n) rfl (ee _) (ee _)) (rf_ [(12, .bool (decide (i < n)))] (h5_ t0 t3 t6 t7 t8) ?_)))
  rintro a A ⟨t12, -⟩ ⟨t0, t3, t6, t7, t8, -⟩
  by_cases lti : i < n
  · rw [decide_eq_true lti] at t12
    refine wp_cond_true t12 ?_
    refine wp_skip ?_
    clear t12
    refine wp_seq ?_
    refine wp_block ?_
    obtain ⟨ob, oo, oc, eo_, hoc, hob, hcl⟩ := hO.at (show 0 < n by omega)
    have cT : ∀ X, Below X0.heap.size X0 X → ∀ j_, j_ < 16 → X.cell? ⟨ob, oo + i * 17 + j_, none⟩ = some (.int .u8 (((o i).1 j_ : Nat) : Int)) := fun X hX j_ hj_ => by rw [cell_below hX hob]; exact (hcl i lti).1 j_ hj_
    have cZ : ∀ X, Below X0.heap.size X0 X → X.cell? ⟨ob, oo + i * 17 + 16, none⟩ = some (.int .i64 (o i).2) := fun X hX => by rw [cell_below hX hob]; exact (hcl i lti).2
    refine wp_seq ?_
    by_cases heq : tv (o i).1 16 = tv f 16
    · cases hL : lwO o i (tv f 16) with
      | none =>
        replace t6 : a.eval (.tmp 6) = .int .i64 0 := by rw [t6, hL]; rfl
        replace t7 : a.eval (.tmp 7) = .bool false := by rw [t7, hL]; rfl
        refine wj_ [0, 1, 2, 3, 4, 5, 6, 7, 8, 9, 10, 11, 12, 13, 14, 15, 16, 17, 18, 19] [] [4, 5] [] A (h5_ t0 t3 t6 t7 t8) (fun X5 bD => ?_)
        refine dw_ 2 (.pointer (some ⟨ob, oo + i * 17, none⟩)) (fun a X ee => execIdxOs (k := i) rfl ((ee _).trans eo_) (ee _) lti) (dw_ 3 (.pointer (some ⟨ob, oo + i * 17, none⟩)) (fun a X ee => execFldO0 rfl (ee _)) (dv_ 4 (.agg (bA 16 (o i).1)) (fun a X ee hb => execLdT rfl (ee _) (fun j_ hj_ => cT X (BB.trans (hb.mono BB.size)) j_ hj_)) (dv_ 5 (.agg (bA 16 f)) (fun a X ee hb => execLdT rfl (ee _) (fun j_ hj_ => at16 (on9 Fg3 (BB.trans (hb.mono BB.size))) hj_)) (dw_ 6 (.bool true) (fun a X ee => execeql16t rfl (ee _) (ee _) ((eqB_tv (hO.byt i lti) hf).trans (decide_eq_true heq))) (dw_ 9 (.bool true) (fun a X ee => execNot8 (b := false) rfl (ee _)) (dz_ [(34, .bool true)] (h5_ t0 t3 t6 t7 t8) ?_))))))
        rintro a A ⟨t34, -⟩ ⟨t0, t3, t6, t7, t8, -⟩
        replace BB := BB.trans (bD.mono BB.size)
        clear bD
        refine wp_cond_true t34 ?_
        clear t34
        refine wi_ A (h5_ t0 t3 t6 t7 t8) (rv_ 2 (.pointer (some ⟨ob, oo + i * 17, none⟩)) (fun a ee => execIdxOs (k := i) rfl ((ee _).trans eo_) (ee _) lti) (rv_ 3 (.pointer (some ⟨ob, oo + i * 17 + 16, none⟩)) (fun a ee => execFldO1 rfl (ee _)) (rv_ 4 (.int .i64 (o i).2) (fun a ee => execLdI rfl (ee _) (cZ X5 BB)) (rf_ [(6, .int .i64 (o i).2), (7, .bool true)] (h3_ t0 t3 t8) ?_))))
        rintro a A ⟨t6, t7, -⟩ ⟨t0, t3, t8, -⟩
        refine wi_ A (h5_ t0 t3 t6 t7 t8) (rv_ 1 (.int .i64 ((i + 1 : Nat) : Int)) (fun a ee => execAd8 (p := i) (q := 1) rfl (ee _) rfl (by omega)) (rf_ [(8, .int .i64 ((i + 1 : Nat) : Int))] (h4_ t0 t3 t6 t7) ?_))
        rintro a A ⟨t8, -⟩ ⟨t0, t3, t6, t7, -⟩
        exact ⟨⟨i + 1, lti, A, t0, t3, (t6.trans (by rw [lw_new heq hL]; rfl)), (t7.trans (by rw [lw_new heq hL]; rfl)), t8, BB⟩, by show n - (intOf (a.eval (.tmp 8))).toNat < n - (intOf (Act.eval _ (.tmp 8))).toNat; rw [t8, esi]; show n - (i + 1) < n - i; omega⟩
      | some y =>
        by_cases hl : (o i).2 < y
        · replace t6 : a.eval (.tmp 6) = .int .i64 y := by rw [t6, hL]; rfl
          replace t7 : a.eval (.tmp 7) = .bool true := by rw [t7, hL]; rfl
          refine wj_ [0, 1, 2, 3, 4, 5, 6, 7, 8, 9, 10, 11, 12, 13, 14, 15, 16, 17, 18, 19] [] [4, 5, 15] [] A (h5_ t0 t3 t6 t7 t8) (fun X5 bD => ?_)
          refine dw_ 2 (.pointer (some ⟨ob, oo + i * 17, none⟩)) (fun a X ee => execIdxOs (k := i) rfl ((ee _).trans eo_) (ee _) lti) (dw_ 3 (.pointer (some ⟨ob, oo + i * 17, none⟩)) (fun a X ee => execFldO0 rfl (ee _)) (dv_ 4 (.agg (bA 16 (o i).1)) (fun a X ee hb => execLdT rfl (ee _) (fun j_ hj_ => cT X (BB.trans (hb.mono BB.size)) j_ hj_)) (dv_ 5 (.agg (bA 16 f)) (fun a X ee hb => execLdT rfl (ee _) (fun j_ hj_ => at16 (on9 Fg3 (BB.trans (hb.mono BB.size))) hj_)) (dw_ 6 (.bool true) (fun a X ee => execeql16t rfl (ee _) (ee _) ((eqB_tv (hO.byt i lti) hf).trans (decide_eq_true heq))) (dw_ 9 (.bool false) (fun a X ee => execNot8 (b := true) rfl (ee _)) (dw_ 13 (.pointer (some ⟨ob, oo + i * 17, none⟩)) (fun a X ee => execIdxOs (k := i) rfl ((ee _).trans eo_) (ee _) lti) (dw_ 14 (.pointer (some ⟨ob, oo + i * 17 + 16, none⟩)) (fun a X ee => execFldO1 rfl (ee _)) (dv_ 15 (.int .i64 (o i).2) (fun a X ee hb => execLdI rfl (ee _) (cZ X (BB.trans (hb.mono BB.size)))) (dw_ 17 (.bool true) (fun a X ee => execDec (exIlss3 (p := (o i).2) (q := y) rfl (ee _) (ee _)) (decide_eq_true hl)) (dz_ [(34, .bool true)] (h5_ t0 t3 t6 t7 t8) ?_))))))))))
          rintro a A ⟨t34, -⟩ ⟨t0, t3, t6, t7, t8, -⟩
          replace BB := BB.trans (bD.mono BB.size)
          clear bD
          refine wp_cond_true t34 ?_
          clear t34
          refine wi_ A (h5_ t0 t3 t6 t7 t8) (rv_ 2 (.pointer (some ⟨ob, oo + i * 17, none⟩)) (fun a ee => execIdxOs (k := i) rfl ((ee _).trans eo_) (ee _) lti) (rv_ 3 (.pointer (some ⟨ob, oo + i * 17 + 16, none⟩)) (fun a ee => execFldO1 rfl (ee _)) (rv_ 4 (.int .i64 (o i).2) (fun a ee => execLdI rfl (ee _) (cZ X5 BB)) (rf_ [(6, .int .i64 (o i).2), (7, .bool true)] (h3_ t0 t3 t8) ?_))))
          rintro a A ⟨t6, t7, -⟩ ⟨t0, t3, t8, -⟩
          refine wi_ A (h5_ t0 t3 t6 t7 t8) (rv_ 1 (.int .i64 ((i + 1 : Nat) : Int)) (fun a ee => execAd8 (p := i) (q := 1) rfl (ee _) rfl (by omega)) (rf_ [(8, .int .i64 ((i + 1 : Nat) : Int))] (h4_ t0 t3 t6 t7) ?_))
          rintro a A ⟨t8, -⟩ ⟨t0, t3, t6, t7, -⟩
          exact ⟨⟨i + 1, lti, A, t0, t3, (t6.trans (by rw [lw_low heq hL hl]; rfl)), (t7.trans (by rw [lw_low heq hL hl]; rfl)), t8, BB⟩, by show n - (intOf (a.eval (.tmp 8))).toNat < n - (intOf (Act.eval _ (.tmp 8))).toNat; rw [t8, esi]; show n - (i + 1) < n - i; omega⟩
        · replace t6 : a.eval (.tmp 6) = .int .i64 y := by rw [t6, hL]; rfl
          replace t7 : a.eval (.tmp 7) = .bool true := by rw [t7, hL]; rfl
          refine wj_ [0, 1, 2, 3, 4, 5, 6, 7, 8, 9, 10, 11, 12, 13, 14, 15, 16, 17, 18, 19] [] [4, 5, 15] [] A (h5_ t0 t3 t6 t7 t8) (fun X5 bD => ?_)
          refine dw_ 2 (.pointer (some ⟨ob, oo + i * 17, none⟩)) (fun a X ee => execIdxOs (k := i) rfl ((ee _).trans eo_) (ee _) lti) (dw_ 3 (.pointer (some ⟨ob, oo + i * 17, none⟩)) (fun a X ee => execFldO0 rfl (ee _)) (dv_ 4 (.agg (bA 16 (o i).1)) (fun a X ee hb => execLdT rfl (ee _) (fun j_ hj_ => cT X (BB.trans (hb.mono BB.size)) j_ hj_)) (dv_ 5 (.agg (bA 16 f)) (fun a X ee hb => execLdT rfl (ee _) (fun j_ hj_ => at16 (on9 Fg3 (BB.trans (hb.mono BB.size))) hj_)) (dw_ 6 (.bool true) (fun a X ee => execeql16t rfl (ee _) (ee _) ((eqB_tv (hO.byt i lti) hf).trans (decide_eq_true heq))) (dw_ 9 (.bool false) (fun a X ee => execNot8 (b := true) rfl (ee _)) (dw_ 13 (.pointer (some ⟨ob, oo + i * 17, none⟩)) (fun a X ee => execIdxOs (k := i) rfl ((ee _).trans eo_) (ee _) lti) (dw_ 14 (.pointer (some ⟨ob, oo + i * 17 + 16, none⟩)) (fun a X ee => execFldO1 rfl (ee _)) (dv_ 15 (.int .i64 (o i).2) (fun a X ee hb => execLdI rfl (ee _) (cZ X (BB.trans (hb.mono BB.size)))) (dw_ 17 (.bool false) (fun a X ee => execDec (exIlss3 (p := (o i).2) (q := y) rfl (ee _) (ee _)) (decide_eq_false hl)) (dz_ [(34, .bool false)] (h5_ t0 t3 t6 t7 t8) ?_))))))))))
          rintro a A ⟨t34, -⟩ ⟨t0, t3, t6, t7, t8, -⟩
          replace BB := BB.trans (bD.mono BB.size)
          clear bD
          refine wp_cond_false t34 ?_
          refine wp_skip ?_
          clear t34
          refine wi_ A (h5_ t0 t3 t6 t7 t8) (rv_ 1 (.int .i64 ((i + 1 : Nat) : Int)) (fun a ee => execAd8 (p := i) (q := 1) rfl (ee _) rfl (by omega)) (rf_ [(8, .int .i64 ((i + 1 : Nat) : Int))] (h4_ t0 t3 t6 t7) ?_))
          rintro a A ⟨t8, -⟩ ⟨t0, t3, t6, t7, -⟩
          exact ⟨⟨i + 1, lti, A, t0, t3, (t6.trans (by rw [lw_keep heq hL hl]; rfl)), (t7.trans (by rw [lw_keep heq hL hl]; rfl)), t8, BB⟩, by show n - (intOf (a.eval (.tmp 8))).toNat < n - (intOf (Act.eval _ (.tmp 8))).toNat; rw [t8, esi]; show n - (i + 1) < n - i; omega⟩
    · have hne : tv (o i).1 16 ≠ tv f 16 := heq
      refine wj_ [0, 1, 2, 3, 4, 5, 6, 7, 8, 9, 10, 11, 12, 13, 14, 15, 16, 17, 18, 19] [] [4, 5] [] A (h5_ t0 t3 t6 t7 t8) (fun X5 bD => ?_)
      refine dw_ 2 (.pointer (some ⟨ob, oo + i * 17, none⟩)) (fun a X ee => execIdxOs (k := i) rfl ((ee _).trans eo_) (ee _) lti) (dw_ 3 (.pointer (some ⟨ob, oo + i * 17, none⟩)) (fun a X ee => execFldO0 rfl (ee _)) (dv_ 4 (.agg (bA 16 (o i).1)) (fun a X ee hb => execLdT rfl (ee _) (fun j_ hj_ => cT X (BB.trans (hb.mono BB.size)) j_ hj_)) (dv_ 5 (.agg (bA 16 f)) (fun a X ee hb => execLdT rfl (ee _) (fun j_ hj_ => at16 (on9 Fg3 (BB.trans (hb.mono BB.size))) hj_)) (dw_ 6 (.bool false) (fun a X ee => execeql16f rfl (ee _) (ee _) ((eqB_tv (hO.byt i lti) hf).trans (decide_eq_false hne))) (dz_ [(34, .bool false)] (h5_ t0 t3 t6 t7 t8) ?_)))))
      rintro a A ⟨t34, -⟩ ⟨t0, t3, t6, t7, t8, -⟩
      replace BB := BB.trans (bD.mono BB.size)
      clear bD
      refine wp_cond_false t34 ?_
      refine wp_skip ?_
      clear t34
      refine wi_ A (h5_ t0 t3 t6 t7 t8) (rv_ 1 (.int .i64 ((i + 1 : Nat) : Int)) (fun a ee => execAd8 (p := i) (q := 1) rfl (ee _) rfl (by omega)) (rf_ [(8, .int .i64 ((i + 1 : Nat) : Int))] (h4_ t0 t3 t6 t7) ?_))
      rintro a A ⟨t8, -⟩ ⟨t0, t3, t6, t7, -⟩
      exact ⟨⟨i + 1, lti, A, t0, t3, (t6.trans (by rw [lw_no hne])), (t7.trans (by rw [lw_no hne])), t8, BB⟩, by show n - (intOf (a.eval (.tmp 8))).toNat < n - (intOf (Act.eval _ (.tmp 8))).toNat; rw [t8, esi]; show n - (i + 1) < n - i; omega⟩
  · rw [decide_eq_false lti] at t12
    refine wp_cond_false t12 ?_
    refine wp_exit ?_
    first | with_reducible refine exit_in ?_ | with_reducible refine exit_then (exit_in ?_) | with_reducible refine exit_then (exit_then (exit_in ?_)) | refine exit_in ?_ | refine exit_then (exit_in ?_) | refine exit_then (exit_then (exit_in ?_))
    clear t12 esi
    obtain rfl : i = n := by omega
    have BW2 := BW.trans (BB.mono BW.size)
    refine wp_seq ?_
    refine wi_ A (h5_ t0 t3 t6 t7 t8) (rg_ [(4, .int .i64 ((lwO o i (tv f 16)).getD 0)), (5, .bool (lwO o i (tv f 16)).isSome)] ?_)
    rintro a A ⟨t4, t5, -⟩
    refine wp_ret ?_
    refine bodyPost_ret (results_tmp2 rfl _ _ _) A.2 ⟨?_, BW2⟩
    show Ending.returned (.tuple #[a.eval (.tmp 4), a.eval (.tmp 5)]) = _
    rw [t4, t5]
set_option maxRecDepth 100000 in
set_option maxHeartbeats 4000000 in
/-- The reference's Len. -/
theorem rlen17 (v : Value) (n : Nat) (o : Nat → Off) (V : World) (hO : Ofs V v n o) (hn : n < 9223372036854775808) :
    Calls Try.prog 16 #[v] V fun e w' => e = .returned (.int .i64 ((cnO o n : Nat) : Int)) ∧ Below V.heap.size V w' := by
  go_enter Try.func16, Try.ntmps16
  refine wo_ 30 [(0, v)] ?_
  rintro a A ⟨t0, -⟩
  have BW : Below V.heap.size V V := Below.refl _ _
  have BB : Below V.heap.size V V := Below.refl _ _
  refine wp_seq ?_
  refine wi_ A (h1_ t0) (rf_ [] (h1_ t0) ?_)
  rintro a A - ⟨t0, -⟩
  refine wp_seq ?_
  refine wi_ A (h1_ t0) (rf_ [(3, .int .i64 ((0 : Nat) : Int))] (h1_ t0) ?_)
  rintro a A ⟨t3, -⟩ ⟨t0, -⟩
  refine wp_seq ?_
  refine wp_seq ?_
  refine wi_ A (h2_ t0 t3) (rf_ [(4, .int .i64 ((0 : Nat) : Int))] (h2_ t0 t3) ?_)
  rintro a A ⟨t4, -⟩ ⟨t0, t3, -⟩
  refine wp_block ?_
  refine wp_loop (fun a W => ∃ (i : Nat), i ≤ n ∧ (a.tmps.size = 30 ∧ a.defers = []) ∧ a.eval (.tmp 0) = v ∧ a.eval (.tmp 3) = .int .i64 ((cnO o i : Nat) : Int) ∧ a.eval (.tmp 4) = .int .i64 ((i : Nat) : Int) ∧ Below V.heap.size V W) (fun a _ => n - (intOf (a.eval (.tmp 4))).toNat) ⟨0, Nat.zero_le _, A, t0, t3, t4, BB⟩ ?_
  clear A t0 t3 t4 BB a
  rintro a XL3 ⟨i, hi, A, t0, t3, t4, BB⟩
  have esi := t4
  refine wp_seq ?_
  refine wp_seq ?_
  refine wi_ A (h3_ t0 t3 t4) (rv_ 2 (.int .i64 ((n : Nat) : Int)) (fun a ee => execLenOs (len := n) rfl (ee _) hO.shp) (rv_ 3 (.bool (decide (i < n))) (fun a ee => execLtW (p := i) (q := n) rfl (ee _) (ee _)) (rf_ [(10, .bool (decide (i < n)))] (h3_ t0 t3 t4) ?_)))
  rintro a A ⟨t10, -⟩ ⟨t0, t3, t4, -⟩
  by_cases lti : i < n
  · rw [decide_eq_true lti] at t10
    refine wp_cond_true t10 ?_
    refine wp_skip ?_
    clear t10
    refine wp_seq ?_
    refine wp_block ?_
    obtain ⟨ob, oo, oc, eo_, hoc, hob, hcl⟩ := hO.at (show 0 < n by omega)
    have cT : ∀ X, Below V.heap.size V X → ∀ j_, j_ < 16 → X.cell? ⟨ob, oo + i * 17 + j_, none⟩ = some (.int .u8 (((o i).1 j_ : Nat) : Int)) := fun X hX j_ hj_ => by rw [cell_below hX hob]; exact (hcl i lti).1 j_ hj_
    have cZ : ∀ X, Below V.heap.size V X → X.cell? ⟨ob, oo + i * 17 + 16, none⟩ = some (.int .i64 (o i).2) := fun X hX => by rw [cell_below hX hob]; exact (hcl i lti).2
    have hs_ : Ofs V (.slice (some ⟨ob, oo, none⟩) i oc) i o := (eo_ ▸ hO).sub (by omega)
    have hcn := cn_le o i
    refine wp_seq ?_
    refine wj_ [0, 1, 2, 3, 4, 5, 6, 7, 8, 9, 10, 11, 12, 13] [8] [7] [] A (h3_ t0 t3 t4) (fun X5_0 bD => ?_)
    refine dw_ 2 (.slice (some ⟨ob, oo, none⟩) i oc) (fun a X ee => execSlO (k := i) rfl ((ee _).trans eo_) (ee _) (by omega)) (dw_ 5 (.pointer (some ⟨ob, oo + i * 17, none⟩)) (fun a X ee => execIdxOs (k := i) rfl ((ee _).trans eo_) (ee _) lti) (dw_ 6 (.pointer (some ⟨ob, oo + i * 17, none⟩)) (fun a X ee => execFldO0 rfl (ee _)) (dv_ 7 (.agg (bA 16 (o i).1)) (fun a X ee hb => execLdT rfl (ee _) (fun j_ hj_ => cT X (BB.trans (hb.mono BB.size)) j_ hj_)) (dc_ 8 (rlow17 _ i o (o i).1 X5_0 (hs_.on (BB.trans (bD.mono BB.size))) (by omega) (hO.byt i lti)) (cb_ fun X5 bQ => ?_)))))
    replace bD := bD.trans (bQ.mono bD.size)
    clear bQ
    refine ⟨Or.inr bD, ?_⟩
    refine dz_ [(6, .bool (lwO o i (tv (o i).1 16)).isSome)] (h3_ t0 t3 t4) ?_
    rintro a A ⟨t6, -⟩ ⟨t0, t3, t4, -⟩
    replace BB := BB.trans (bD.mono BB.size)
    clear bD
    cases hL : (lwO o i (tv (o i).1 16)).isSome with
    | true =>
      replace t6 : a.eval (.tmp 6) = .bool true := by rw [t6, hL]
      refine wp_seq ?_
      refine wi_ A (h4_ t0 t3 t4 t6) (rv_ 1 (.bool false) (fun a ee => execNot8 (b := true) rfl (ee _)) (rf_ [(26, .bool false)] (h3_ t0 t3 t4) ?_))
      rintro a A ⟨t26, -⟩ ⟨t0, t3, t4, -⟩
      refine wp_cond_false t26 ?_
      refine wp_skip ?_
      clear t26
      refine wi_ A (h3_ t0 t3 t4) (rv_ 1 (.int .i64 ((i + 1 : Nat) : Int)) (fun a ee => execAd8 (p := i) (q := 1) rfl (ee _) rfl (by omega)) (rf_ [(4, .int .i64 ((i + 1 : Nat) : Int))] (h2_ t0 t3) ?_))
      rintro a A ⟨t4, -⟩ ⟨t0, t3, -⟩
      exact ⟨⟨i + 1, lti, A, t0, (t3.trans (by rw [cn_t hL])), t4, BB⟩, by show n - (intOf (a.eval (.tmp 4))).toNat < n - (intOf (Act.eval _ (.tmp 4))).toNat; rw [t4, esi]; show n - (i + 1) < n - i; omega⟩
    | false =>
      replace t6 : a.eval (.tmp 6) = .bool false := by rw [t6, hL]
      refine wp_seq ?_
      refine wi_ A (h4_ t0 t3 t4 t6) (rv_ 1 (.bool true) (fun a ee => execNot8 (b := false) rfl (ee _)) (rf_ [(26, .bool true)] (h3_ t0 t3 t4) ?_))
      rintro a A ⟨t26, -⟩ ⟨t0, t3, t4, -⟩
      refine wp_cond_true t26 ?_
      clear t26
      refine wi_ A (h3_ t0 t3 t4) (rv_ 1 (.int .i64 ((cnO o i + 1 : Nat) : Int)) (fun a ee => execAd8 (p := cnO o i) (q := 1) rfl (ee _) rfl (by omega)) (rf_ [(3, .int .i64 ((cnO o i + 1 : Nat) : Int))] (h2_ t0 t4) ?_))
      rintro a A ⟨t3, -⟩ ⟨t0, t4, -⟩
      refine wi_ A (h3_ t0 t3 t4) (rv_ 1 (.int .i64 ((i + 1 : Nat) : Int)) (fun a ee => execAd8 (p := i) (q := 1) rfl (ee _) rfl (by omega)) (rf_ [(4, .int .i64 ((i + 1 : Nat) : Int))] (h2_ t0 t3) ?_))
      rintro a A ⟨t4, -⟩ ⟨t0, t3, -⟩
      exact ⟨⟨i + 1, lti, A, t0, (t3.trans (by rw [cn_f hL])), t4, BB⟩, by show n - (intOf (a.eval (.tmp 4))).toNat < n - (intOf (Act.eval _ (.tmp 4))).toNat; rw [t4, esi]; show n - (i + 1) < n - i; omega⟩
  · rw [decide_eq_false lti] at t10
    refine wp_cond_false t10 ?_
    refine wp_exit ?_
    first | with_reducible refine exit_in ?_ | with_reducible refine exit_then (exit_in ?_) | with_reducible refine exit_then (exit_then (exit_in ?_)) | refine exit_in ?_ | refine exit_then (exit_in ?_) | refine exit_then (exit_then (exit_in ?_))
    clear t10 esi
    obtain rfl : i = n := by omega
    refine wp_seq ?_
    refine wi_ A (h3_ t0 t3 t4) (rg_ [(2, .int .i64 ((cnO o i : Nat) : Int))] ?_)
    rintro a A ⟨t2, -⟩
    refine wp_ret ?_
    refine bodyPost_ret (results_tmp rfl _ _ _) A.2 ⟨?_, BB⟩
    show Ending.returned (a.eval (.tmp 2)) = _
    rw [t2]
end Go.Proofs.Ytjoffdaknacbpaa.Sha
