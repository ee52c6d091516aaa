import Derived.Test.YtcibogmghagpoaaV8x
namespace Go.Proofs.Ytcibogmghagpoaa.Dro
open Go.RowKit Gf8 Aes By8 Cel Cf Tap Drw
/- Stage 28: the landed laid, heard, Exchange. Written by tools/mkV8x.py. -/

theorem lots_zero {ln : Nat → Nat} {c : Nat → Nat → Nat} : (fun _ => none) = lots ln c 0 := rfl
section
variable {o : Oper} {a : Act} {w W : World} {x y z : Operand} {u v : Value} {g b n k B C m : Nat} {xs ys : List Value} {yv : Nat → Value} {p : Nat → Bool} {M : (Nat → Nat) → Option Value} {f : Nat → Nat}
theorem execMkMD (ho : o.op = .makeMap 50 none) : (execOp a.eval o).run Try.prog w = .ok (.value (.map (some w.heap.size))) (w.alloc (.map #[] 0)) := by
  unfold execOp
  simp only [ho]
  simp [go_sem, Instr.makeMap]
theorem execBxLt (ho : o.op = .box 55 x) (hx : a.eval x = ltV p n) : (execOp a.eval o).run Try.prog w = .ok (.value (.pointer (some ⟨w.heap.size, 0, none⟩))) (w.alloc (.cells (ltC p n) 55)) := by
  unfold execOp
  simp only [ho, hx]
  simp [go_sem, ltV, ltC]
theorem execFL0 (ho : o.op = .fieldAddr 55 x 0) (hx : a.eval x = .pointer (some ⟨g, 0, none⟩)) : (execOp a.eval o).run Try.prog w = .ok (.value (.pointer (some ⟨g, 0, none⟩))) w := by
  unfold execOp
  simp only [ho, hx]
  simp [go_sem]
theorem execLdLq (ho : o.op = .load 3 x) (hx : a.eval x = .pointer (some ⟨g, 0, none⟩)) (h : w.heap[g]? = some (.cells (ltC p n) 55)) : (execOp a.eval o).run Try.prog w = .ok (.value (.int .i64 ((cnt p n : Nat) : Int))) w :=
  execLd3 ho hx (by rw [cell_of_row _ _ _ _ _ _ h]; rfl)
theorem execLdLt (ho : o.op = .load 55 x) (hx : a.eval x = .pointer (some ⟨g, 0, none⟩)) (h : w.heap[g]? = some (.cells (ltC p n) 55)) : (execOp a.eval o).run Try.prog w = .ok (.value (ltV p n)) w := by
  have hr : w.rangeAt g 0 (ltC p n).toList := by
    intro j v hv
    rw [Nat.zero_add, cell_of_row _ _ _ _ _ _ h, ← Array.getElem?_toList]
    exact hv
  unfold execOp
  simp only [ho, hx, Sem.run_bind, run_loadAt_mid (P := Try.prog) w g 0 55 (ltC p n).toList _ hr Try.underlying55 rfl (by kernel_rfl), Result.andThen_ok, Sem.run_pure]
  rfl
theorem execAl8y (ho : o.op = .alloc 22) : (execOp a.eval o).run Try.prog w = .ok (.value (.pointer (some ⟨w.heap.size, 0, none⟩))) (w.alloc (.cells (bA 8 fun _ => 0) 22)) := by
  unfold execOp
  simp only [ho]
  simp [go_sem]
  rfl
theorem execSt8y {q : Nat → Nat} (ho : o.op = .store 22 x y) (hx : a.eval x = .pointer (some ⟨g, 0, none⟩)) (hy : a.eval y = .agg (bA 8 f)) (h : w.heap[g]? = some (.cells (bA 8 q) 22)) : (execOp a.eval o).run Try.prog w = .ok .skip (w.setRow g (bA 8 f)) := by
  have q := execStMid (P := Try.prog) ho hx hy h (by rw [bA_size, bA_size]; omega) (by rw [bA_size]; kernel_rfl) (bA_one 8 f)
  rw [q]
  congr 2
theorem execLd8y (ho : o.op = .load 22 x) (hx : a.eval x = .pointer (some ⟨g, 0, none⟩)) (h : w.heap[g]? = some (.cells (bA 8 f) 22)) : (execOp a.eval o).run Try.prog w = .ok (.value (.agg (bA 8 f))) w := by
  have hr : w.rangeAt g 0 (bytesL 8 f) := by
    intro j v hv
    rw [Nat.zero_add, cell_of_row _ _ _ _ _ _ h, ← Array.getElem?_toList]
    exact hv
  unfold execOp
  simp only [ho, hx, Sem.run_bind, run_loadAt_mid (P := Try.prog) w g 0 22 (bytesL 8 f) _ hr Try.underlying22 rfl (by rw [bytesL_len]; kernel_rfl), Result.andThen_ok, Sem.run_pure]
  rfl
theorem execLkMD {ln : Nat → Nat} {c : Nat → Nat → Nat} (ho : o.op = .lookup 50 x y false) (hx : a.eval x = .map (some b)) (hy : a.eval y = .agg (bA 8 f)) (h : MD w b (lots ln c k)) (hf : ∀ i, i < 8 → f i < 256) : (execOp a.eval o).run Try.prog w = .ok (.value (ltV (atQ ln c f) k)) w := by
  have := h.look hf
  rw [lots_get] at this
  unfold execOp
  simp only [ho, hx, hy, Sem.run_bind, this, Result.andThen_ok, Sem.run_pure]
theorem execUpMD {q : Value} {w2 : World} (ho : o.op = .mapUpdate 50 x y z) (hx : a.eval x = .map (some b)) (hy : a.eval y = u) (hz : a.eval z = q) (h : (Instr.mapUpdate 50 (.map (some b)) u q).run Try.prog w = .ok () w2) : (execOp a.eval o).run Try.prog w = .ok .skip w2 := by
  unfold execOp
  simp only [ho, hx, hy, hz, Sem.run_bind, h, Result.andThen_ok, Sem.run_pure]
theorem belSetD {V : World} {ob : Obj} (h : Below B V W) (hb : B ≤ b) : Below B V (Go.ChangeMaps.setBlock W b ob) :=
  h.trans ⟨rfl, rfl, rfl, by simp [Go.ChangeMaps.setBlock], fun k hk => by
    show (W.heap.setIfInBounds b ob)[k]? = W.heap[k]?
    rw [Array.getElem?_setIfInBounds_ne (by omega)]⟩
theorem md_row {cs cs' : Array Value} {t : TypeId} (h : MD W b M) (hg : W.heap[g]? = some (.cells cs t)) : MD (W.setRow g cs') b M := by
  refine h.keep (setRow_other _ _ _ _ (fun e => ?_))
  obtain ⟨es, cl, q, -⟩ := h.map
  subst e
  rw [hg] at q
  cases q
theorem own_here8 {t : TypeId} (h : W.ownsRow B t 1 v n xs) (hn : 0 < n) : v.ownBlock = some (adB v) ∧ B ≤ adB v ∧ (∃ c, W.heap[adB v]? = some (.cells c t)) ∧ adO v = 0 := by
  rcases h.2 with ⟨rfl, e⟩ | ⟨g, cap, cur, rfl, hB, hg, _⟩
  · omega
  · exact ⟨rfl, hB, ⟨cur, hg⟩, rfl⟩
theorem md_off {t : TypeId} (h : MD W b M) (hu : W.ownsRow C t 1 u m ys) (hm : 0 < m) : MD (W.setCell ⟨adB u, k, none⟩ v) b M := by
  obtain ⟨_, _, ⟨c, hc⟩, _⟩ := own_here8 hu hm
  refine h.keep (Below.heap_setCell _ _ _ _ (fun e => ?_))
  obtain ⟨es, cl, q, -⟩ := h.map
  rw [e] at q
  rw [hc] at q
  cases q
theorem fam_off8 {q : Nat} {y' : Nat → Value} {nn : Nat → Nat} {ff : Nat → Nat → Nat} (h : Fam B q y' nn ff W) (hu : W.ownsRow C 23 1 u m ys) (hm : 0 < m) : Fam B q y' nn ff (W.setCell ⟨adB u, k, none⟩ v) := by
  obtain ⟨h1, _, ⟨c, hc⟩, _⟩ := own_here8 hu hm
  exact ⟨fun t ht => own_stays (h.rows t ht) hc (fun e => row_ne8 (h.rows t ht) hu (by decide) h1 e), h.dis⟩
theorem lst_put8 {t : TypeId} (h : W.ownsRow B t 1 v n (lL yv n)) (hk : k < n) : (W.setCell ⟨adB v, adO v + k, none⟩ u).ownsRow B t 1 v n (lL (updX yv k u) n) := by
  refine ⟨by rw [lL_len, Nat.mul_one], ?_⟩
  rcases h.2 with ⟨_, e⟩ | ⟨g, cap, cur, e, hB, hg, h1, h2, h3, h4⟩
  · omega
  · subst e
    show _ ∨ _
    refine Or.inr ⟨g, cap, cur.setIfInBounds k u, rfl, hB, ?_, h1, h2, by simpa using h3, ?_⟩
    · show (W.setCell ⟨g, 0 + k, none⟩ u).heap[g]? = _
      rw [Nat.zero_add]
      exact heap4 _ hg
    apply List.ext_getElem?
    intro j
    have h5 : (cur.toList.take (n * 1))[j]? = (lL yv n)[j]? := by rw [h4]
    by_cases hj : j < n
    · rw [List.getElem?_take_of_lt (by omega), lL_get _ _ _ hj] at h5
      rw [List.getElem?_take_of_lt (by omega), lL_get _ _ _ hj, Array.getElem?_toList, Array.getElem?_setIfInBounds]
      by_cases hk : k = j
      · subst hk
        rw [if_pos rfl, if_pos (by simp at h3; omega), updX_at]
      · rw [if_neg hk, show updX yv k u j = yv j from if_neg (fun q => hk q.symm), ← Array.getElem?_toList]
        exact h5
    · rw [List.getElem?_eq_none (by simp; omega), List.getElem?_eq_none (by rw [lL_len]; omega)]
theorem lst_at8 {t : TypeId} (h : W.ownsRow B t 1 v n (lL yv n)) (hk : k < n) : W.cell? ⟨adB v, adO v + k, none⟩ = some (yv k) ∧ W.frozen? ⟨adB v, adO v + k, none⟩ = false := by
  rcases h.2 with ⟨_, e⟩ | ⟨g, cap, cur, e, hB, hg, h1, h2, h3, h4⟩
  · omega
  · subst e
    have q : (cur.toList.take (n * 1))[k]? = (lL yv n)[k]? := by rw [h4]
    rw [List.getElem?_take_of_lt (by omega), lL_get _ _ _ hk, Array.getElem?_toList] at q
    refine ⟨?_, frozen4 hg⟩
    show W.cell? ⟨g, 0 + k, none⟩ = _
    rw [Nat.zero_add, cell_of_row _ _ _ _ _ _ hg]
    exact q
theorem execIdxOL (h : W.ownsRow B 23 1 v n (lL yv n)) (ho : o.op = .indexAddr 29 x y) (hx : a.eval x = v) (hy : a.eval y = .int .i64 ((k : Nat) : Int)) (hk : k < n) : (execOp a.eval o).run Try.prog W = .ok (.value (.pointer (some ⟨adB v, adO v + k, none⟩))) W := by
  rcases h.2 with ⟨_, e⟩ | ⟨g, cap, cur, rfl, _⟩
  · omega
  · exact Cf.execIdxL ho hx hy hk
theorem execStOL (h : W.ownsRow B 23 1 v n (lL yv n)) (hk : k < n) (ho : o.op = .store 23 x y) (hx : a.eval x = .pointer (some ⟨adB v, adO v + k, none⟩)) (hy : a.eval y = u) (hu : ∃ g n c, u = .slice g n c) : (execOp a.eval o).run Try.prog W = .ok .skip (W.setCell ⟨adB v, adO v + k, none⟩ u) :=
  execStL ho hx hy hu (lst_at8 h hk).1 (lst_at8 h hk).2
theorem belPutL {V : World} {t : TypeId} (h : Below B V W) (hu : W.ownsRow B t 1 u m ys) (hm : 0 < m) : Below B V (W.setCell ⟨adB u, k, none⟩ v) := h.setCell (p := ⟨adB u, k, none⟩) (own_here8 hu hm).2.1 _
theorem ownQ_shp (h : W.ownsRow B 5 1 v n xs) : ∃ g n c, v = .slice g n c := by
  obtain ⟨q1, q2, q3⟩ := ownQ_shape h
  exact ⟨q1, _, q2, q3⟩
theorem own_made (hB : B ≤ W.heap.size) (hn : n ≤ 1000000) : (W.alloc (.cells (madeCells #[.slice none 0 0] n) 23)).ownsRow B 23 1 (.slice (some ⟨W.heap.size, 0, none⟩) n n) n (lL (fun _ => .slice none 0 0) n) := by
  have key : (W.alloc (.cells (madeCells #[.slice none 0 0] n) 23)).ownsRow W.heap.size 23 1 (.slice (some ⟨W.heap.size, 0, none⟩) n n) n (lL (fun _ => .slice none 0 0) n) := by
   refine ⟨by rw [lL_len, Nat.mul_one], Or.inr ⟨_, _, _, rfl, Nat.le_refl _, heapNew W _, Nat.le_refl _, by unfold maxLen; omega, by simp [madeCells], ?_⟩⟩
   apply List.ext_getElem?
   intro j
   by_cases h : j < n
   · rw [lL_get _ _ _ h]
     simp [madeCells, h, Nat.mod_one]
   · rw [List.getElem?_eq_none (by simp; omega), List.getElem?_eq_none (by rw [lL_len]; omega)]
  exact ownD_base key hB
end
set_option maxRecDepth 100000 in
set_option maxHeartbeats 4000000 in
/-- laid. -/
theorem plaid (n : Nat) (cv : Value) (xv : Nat → Value) (ln : Nat → Nat) (c : Nat → Nat → Nat) (V : World) (hL : Ls V cv n xv ln c) (hn : n ≤ 999999) :
    Calls Try.prog 27 #[cv] V fun e w' => (∃ b, e = .returned (.map (some b)) ∧ MD w' b (lots ln c n) ∧ V.heap.size ≤ b) ∧ Below V.heap.size V w' := by
  go_enter Try.func27, Try.ntmps27
  refine wo_ 28 [(0, cv)] ?_
  rintro a A ⟨t0, -⟩
  have BW : Below V.heap.size V V := Below.refl _ _
  have BB := BW
  refine wp_seq ?_
  refine wi_ A (h1_ t0) (rf_ [] (h1_ t0) ?_)
  rintro a A - ⟨t0, -⟩
  refine wp_seq ?_
  obtain ⟨b7, egb7⟩ : ∃ z_ : Nat, V.heap.size = z_ := ⟨_, rfl⟩
  refine wi_ A (h1_ t0) (rs_ 0 (fun a ee => ?_))
  refine stepV rfl rfl (execMkMD rfl) ⟨.map (some b7), ⟨_, rfl, by subst egb7; rfl⟩, fun X1 hX => ?_⟩
  have bQ : Below V.heap.size V X1 := by subst hX egb7; exact (belNew V _)
  have FM : (MD X1 b7 (lots ln c 0)) := by subst hX egb7; exact (lots_zero ▸ md_new V)
  have FMg : (V.heap.size ≤ b7) := by subst hX egb7; exact (BB).size
  replace BB := BB.trans (bQ.mono BB.size)
  clear bQ hX egb7 ee a
  refine rf_ [(3, .map (some b7))] (h1_ t0) ?_
  rintro a A ⟨t3, -⟩ ⟨t0, -⟩
  refine wp_seq ?_
  refine wp_seq ?_
  refine wi_ A (h2_ t0 t3) (rv_ 1 (.int .i64 ((n : Nat) : Int)) (fun a ee => execLenLL rfl (ee _) (hL.on BB).shp) (rf_ [(8, cv), (9, .int .i64 ((n : Nat) : Int)), (10, .int .i64 ((0 : Nat) : Int))] (h1_ t3) ?_))
  rintro a A ⟨t8, t9, t10, -⟩ ⟨t3, -⟩
  refine wp_block ?_
  refine wp_loop (fun a W => ∃ (i : Nat), i ≤ n ∧ (a.tmps.size = 28 ∧ a.defers = []) ∧ a.eval (.tmp 3) = .map (some b7) ∧ a.eval (.tmp 8) = cv ∧ a.eval (.tmp 9) = .int .i64 ((n : Nat) : Int) ∧ a.eval (.tmp 10) = .int .i64 ((i : Nat) : Int) ∧ Below V.heap.size V W ∧ (MD W b7 (lots ln c i))) (fun a _ => n - (intOf (a.eval (.tmp 10))).toNat) ⟨0, Nat.zero_le _, A, t3, t8, t9, t10, BB, FM⟩ ?_
  clear A t3 t8 t9 t10 BB FM a
  rintro a XL3 ⟨i, hi, A, t3, t8, t9, t10, BB, FM⟩
  have esi := t10
  refine wp_seq ?_
  refine wi_ A (h4_ t3 t8 t9 t10) (rv_ 0 (.bool (decide (i < n))) (fun a ee => execLtW (p := i) (q := n) rfl (ee _) (ee _)) (rf_ [(11, .bool (decide (i < n)))] (h4_ t3 t8 t9 t10) ?_))
  rintro a A ⟨t11, -⟩ ⟨t3, t8, t9, t10, -⟩
  refine wp_seq ?_
  by_cases lti : i < n
  · rw [decide_eq_true lti] at t11
    refine wp_cond_true t11 ?_
    refine wp_skip ?_
    clear t11
    refine wp_seq ?_
    refine wp_block ?_
    refine wp_seq ?_
    refine wi_ A (h4_ t3 t8 t9 t10) (rv_ 1 (.pointer (some ⟨adB cv, adO cv + i, none⟩)) (fun a ee => execIdxLs (k := i) (hL.on BB) rfl (ee _) (ee _) lti) (rv_ 2 (xv i) (fun a ee => execLdLs (k := i) (hL.on BB) rfl (ee _) lti) (rf_ [(4, .int .i64 ((i : Nat) : Int)), (5, xv i)] (h4_ t3 t8 t9 t10) ?_)))
    rintro a A ⟨t4, t5, -⟩ ⟨t3, t8, t9, t10, -⟩
    refine wp_seq ?_
    cases hr : rgt (ln i)
    · refine wi_ A (h6_ t3 t8 t9 t10 t4 t5) (rc_ 1 ((hr ▸ prgt28 (c i) (ln i) (xv i) XL3 ((hL.on BB).cell i lti))) (cb_ fun X5 bQ => ?_))
      replace FM := (FM.on bQ)
      replace BB := BB.trans (bQ.mono BB.size)
      clear bQ
      refine rf_ [(16, .bool false)] (h6_ t3 t8 t9 t10 t4 t5) ?_
      rintro a A ⟨t16, -⟩ ⟨t3, t8, t9, t10, t4, t5, -⟩
      refine wp_cond_false t16 ?_
      refine wp_skip ?_
      clear t16
      rw [← lots_no hr] at FM
      refine wi_ A (h6_ t3 t8 t9 t10 t4 t5) (rv_ 0 (.int .i64 ((i + 1 : Nat) : Int)) (fun a ee => execAd8 (p := i) (q := 1) rfl (ee _) rfl (by omega)) (rf_ [(10, .int .i64 ((i + 1 : Nat) : Int))] (h3_ t3 t8 t9) ?_))
      rintro a A ⟨t10, -⟩ ⟨t3, t8, t9, -⟩
      exact ⟨⟨i + 1, lti, A, t3, t8, t9, t10, BB, FM⟩, by show n - (intOf (a.eval (.tmp 10))).toNat < n - (intOf (Act.eval _ (.tmp 10))).toNat; rw [t10, esi]; show n - (i + 1) < n - i; omega⟩
    · refine wi_ A (h6_ t3 t8 t9 t10 t4 t5) (rc_ 1 ((hr ▸ prgt28 (c i) (ln i) (xv i) XL3 ((hL.on BB).cell i lti))) (cb_ fun X5 bQ => ?_))
      replace FM := (FM.on bQ)
      replace BB := BB.trans (bQ.mono BB.size)
      clear bQ
      refine rf_ [(16, .bool true)] (h6_ t3 t8 t9 t10 t4 t5) ?_
      rintro a A ⟨t16, -⟩ ⟨t3, t8, t9, t10, t4, t5, -⟩
      refine wp_cond_true t16 ?_
      clear t16
      have h8 : 8 ≤ ln i := (rgt_iff.1 hr).1
      have hf8 : ∀ k, k < 8 → c i k < 256 := fun k hk => (hL.cell i lti).bytes k (by omega)
      refine wp_seq ?_
      refine wi_ A (h6_ t3 t8 t9 t10 t4 t5) (rc_ 1 ((pname28 (c i) (ln i) (xv i) X5 ((hL.on BB).cell i lti) h8)) (cb_ fun X6_1 bQ => ?_))
      replace FM := (FM.on bQ)
      replace BB := BB.trans (bQ.mono BB.size)
      clear bQ
      obtain ⟨g6, egg6⟩ : ∃ z_ : Nat, X6_1.heap.size = z_ := ⟨_, rfl⟩
      refine rs_ 2 (fun a ee => ?_)
      refine stepV rfl rfl (execAl8y rfl) ⟨.pointer (some ⟨g6, 0, none⟩), ⟨_, rfl, by subst egg6; rfl⟩, fun X6_2 hX => ?_⟩
      have bQ : Below X6_1.heap.size X6_1 X6_2 := by subst hX egg6; exact (belNew X6_1 _)
      have Fg6 : X6_2.heap[g6]? = some (.cells (bA 8 fun _ => 0) 22) := by subst hX egg6; exact heapNew X6_1 _
      have FGg6 : (V.heap.size ≤ g6) := by subst hX egg6; exact (BB).size
      replace FM := (FM.on bQ)
      replace BB := BB.trans (bQ.mono BB.size)
      clear bQ hX egg6 ee a
      refine rs_ 3 (fun a ee => ?_)
      refine stepS rfl rfl (execSt8y rfl (ee _) (ee _) Fg6) ⟨_, ⟨_, rfl, rfl⟩, fun X6 hX => ?_⟩
      obtain ⟨BB, FM, Fg6⟩ : Below V.heap.size V X6 ∧ (MD X6 b7 (lots ln c i)) ∧ X6.heap[g6]? = some (.cells (bA 8 (c i)) 22) := by rw [hX]; exact ⟨below4 BB FGg6 _, (md_row FM Fg6), setRow_heap _ _ _ _ _ _ Fg6⟩
      clear hX ee a
      refine rf_ [(6, .pointer (some ⟨g6, 0, none⟩))] (h5_ t3 t8 t9 t10 t4) ?_
      rintro a A ⟨t6, -⟩ ⟨t3, t8, t9, t10, t4, -⟩
      refine wj_ [0, 1, 2, 3, 4, 5, 6, 7] [6, 7] [1, 3, 4] [7] A (h6_ t3 t8 t9 t10 t4 t6) (fun X7_0 bD => ?_)
      refine dv_ 1 (.agg (bA 8 (c i))) (fun a X ee hb => execLd8y rfl (ee _) (on9 Fg6 hb)) (dv_ 3 (.agg (bA 8 (c i))) (fun a X ee hb => execLd8y rfl (ee _) (on9 Fg6 hb)) (dv_ 4 (ltV (atQ ln c (c i)) i) (fun a X ee hb => execLkMD rfl (ee _) (ee _) (FM.on hb) hf8) (dc_ 6 ((pwith28 (atQ ln c (c i)) i X7_0 (at_own hr) (by omega))) (cb_ fun X7_1 bQ => ?_))))
      replace bD := bD.trans (bQ.mono bD.size)
      clear bQ
      refine ⟨Or.inr bD, ?_⟩
      refine ds_ 7 (fun a ee => ?_)
      obtain ⟨o_, ho_, hM_⟩ := ((FM.on bD)).put hf8 (ltV (atQ ln c (c i)) (i + 1))
      refine stepS rfl rfl (execUpMD rfl (ee _) (ee _) (ee _) ho_) ⟨_, ⟨_, rfl, rfl⟩, fun X7 hX => ?_⟩
      obtain ⟨BB, FMn⟩ : Below V.heap.size V X7 ∧ (MD X7 b7 (lots ln c (i + 1))) := by subst hX; exact ⟨belSetD (BB.trans (bD.mono BB.size)) FMg, (lots_put hr ▸ hM_)⟩
      clear bD FM Fg6 hX ee a
      refine ⟨Or.inl rfl, ?_⟩
      refine dz_ [] (h4_ t3 t8 t9 t10) ?_
      rintro a A - ⟨t3, t8, t9, t10, -⟩
      refine wi_ A (h4_ t3 t8 t9 t10) (rv_ 0 (.int .i64 ((i + 1 : Nat) : Int)) (fun a ee => execAd8 (p := i) (q := 1) rfl (ee _) rfl (by omega)) (rf_ [(10, .int .i64 ((i + 1 : Nat) : Int))] (h3_ t3 t8 t9) ?_))
      rintro a A ⟨t10, -⟩ ⟨t3, t8, t9, -⟩
      exact ⟨⟨i + 1, lti, A, t3, t8, t9, t10, BB, FMn⟩, by show n - (intOf (a.eval (.tmp 10))).toNat < n - (intOf (Act.eval _ (.tmp 10))).toNat; rw [t10, esi]; show n - (i + 1) < n - i; omega⟩
  · rw [decide_eq_false lti] at t11
    refine wp_cond_false t11 ?_
    refine wp_exit ?_
    first | with_reducible refine exit_in ?_ | with_reducible refine exit_then (exit_in ?_) | with_reducible refine exit_then (exit_then (exit_in ?_)) | refine exit_in ?_ | refine exit_then (exit_in ?_) | refine exit_then (exit_then (exit_in ?_))
    clear t11 esi
    obtain rfl : i = n := by omega
    refine wp_seq ?_
    refine wi_ A (h4_ t3 t8 t9 t10) (rg_ [(2, .map (some b7))] ?_)
    rintro a A ⟨t2, -⟩
    refine wp_ret ?_
    repeat (first | with_reducible refine ret_in ?_ | with_reducible refine ret_then ?_)
    refine bodyPost_ret (results_tmp rfl _ _ _) A.2 ⟨⟨b7, ?_, FM, FMg⟩, BB⟩
    show Ending.returned (a.eval (.tmp 2)) = _
    rw [t2]
set_option maxRecDepth 100000 in
set_option maxHeartbeats 4000000 in
/-- heard. -/
theorem pheard (n i : Nat) (cv : Value) (xv : Nat → Value) (ln : Nat → Nat) (c : Nat → Nat → Nat) (V : World) (hL : Ls V cv n xv ln c) (_hn : n ≤ 999999) (hi : i < n) (hr : rgt (ln i) = true) :
    Calls Try.prog 29 #[cv, ltV (atQ ln c (c i)) n, .int .i64 ((i : Nat) : Int)] V fun e w' => (∃ r, e = .returned r ∧ w'.ownsRow V.heap.size 5 1 r (xL n ln c i) (bytesL (xL n ln c i) (xF n ln c i))) ∧ Below V.heap.size V w' := by
  go_enter Try.func29, Try.ntmps29
  refine wo_ 27 [(0, cv), (1, ltV (atQ ln c (c i)) n), (2, .int .i64 ((i : Nat) : Int))] ?_
  rintro a A ⟨t0, t1, t2, -⟩
  have BW : Below V.heap.size V V := Below.refl _ _
  have BB := BW
  refine wp_seq ?_
  obtain ⟨g4, egg4⟩ : ∃ z_ : Nat, V.heap.size = z_ := ⟨_, rfl⟩
  refine wi_ A (h3_ t0 t1 t2) (rs_ 0 (fun a ee => ?_))
  refine stepV rfl rfl (execBxLt rfl (ee _)) ⟨.pointer (some ⟨g4, 0, none⟩), ⟨_, rfl, by subst egg4; rfl⟩, fun X0 hX => ?_⟩
  have bQ : Below V.heap.size V X0 := by subst hX egg4; exact (belNew V _)
  have Fg4 : (X0.heap[g4]? = some (.cells (ltC (atQ ln c (c i)) n) 55)) := by subst hX egg4; exact heapNew V _
  replace BB := BB.trans (bQ.mono BB.size)
  clear bQ hX egg4 ee a
  refine rf_ [(4, .pointer (some ⟨g4, 0, none⟩))] (h2_ t0 t2) ?_
  rintro a A ⟨t4, -⟩ ⟨t0, t2, -⟩
  refine wp_seq ?_
  refine wp_seq ?_
  refine wi_ A (h3_ t0 t2 t4) (rv_ 0 (.pointer (some ⟨g4, 0, none⟩)) (fun a ee => execFL0 rfl (ee _)) (rv_ 1 (.int .i64 ((cnt (atQ ln c (c i)) n : Nat) : Int)) (fun a ee => execLdLq rfl (ee _) Fg4) (rf_ [(9, .int .i64 ((cnt (atQ ln c (c i)) n : Nat) : Int))] (h3_ t0 t2 t4) ?_)))
  rintro a A ⟨t9, -⟩ ⟨t0, t2, t4, -⟩
  refine wp_block ?_
  refine wp_seq ?_
  by_cases e1 : cnt (atQ ln c (c i)) n = 1
  · refine wi_ A (h4_ t0 t2 t4 t9) (rv_ 0 (.bool true) (fun a ee => execDec (execEqN (p := cnt (atQ ln c (c i)) n) (q := 1) rfl (ee _) rfl) (decide_eq_true (by omega))) (rf_ [(10, .bool true)] (h4_ t0 t2 t4 t9) ?_))
    rintro a A ⟨t10, -⟩ ⟨t0, t2, t4, t9, -⟩
    refine wp_cond_true t10 ?_
    clear t10
    clear Fg4
    refine wp_seq ?_
    obtain ⟨g12, egg12⟩ : ∃ z_ : Nat, X0.heap.size = z_ := ⟨_, rfl⟩
    refine wi_ A (h4_ t0 t2 t4 t9) (rs_ 0 (fun a ee => ?_))
    refine stepV rfl rfl (execBsU rfl) ⟨.slice (some ⟨g12, 0, none⟩) 1 1, ⟨_, rfl, by subst egg12; rfl⟩, fun X3 hX => ?_⟩
    have bQ : Below X0.heap.size X0 X3 := by subst hX egg12; exact (belNew X0 _)
    have Fg12 : (X3.heap[g12]? = some (.cells #[.int .u8 ((0 : Nat) : Int)] 5)) := by subst hX egg12; exact heapNew X0 _
    have FGg12 : (V.heap.size ≤ g12) := by subst hX egg12; exact (BB).size
    replace BB := BB.trans (bQ.mono BB.size)
    clear bQ hX egg12 ee a
    refine rg_ [(6, .slice (some ⟨g12, 0, none⟩) 1 1)] ?_
    rintro a A ⟨t6, -⟩
    obtain ⟨eL, eF⟩ := x_one (kd_one hi hr e1) (by decide)
    have FA := own_lit Fg12 FGg12 eL eF
    refine wp_ret ?_
    repeat (first | with_reducible refine ret_in ?_ | with_reducible refine ret_then ?_)
    refine bodyPost_ret (results_tmp rfl _ _ _) A.2 ⟨⟨_, ?_, FA⟩, BB⟩
    show Ending.returned (a.eval (.tmp 6)) = _
    rw [t6]
  refine wi_ A (h4_ t0 t2 t4 t9) (rv_ 0 (.bool false) (fun a ee => execDec (execEqN (p := cnt (atQ ln c (c i)) n) (q := 1) rfl (ee _) rfl) (decide_eq_false (by omega))) (rf_ [(10, .bool false)] (h4_ t0 t2 t4 t9) ?_))
  rintro a A ⟨t10, -⟩ ⟨t0, t2, t4, t9, -⟩
  refine wp_cond_false t10 ?_
  clear t10
  refine wp_seq ?_
  by_cases e2 : cnt (atQ ln c (c i)) n = 2
  · refine wi_ A (h4_ t0 t2 t4 t9) (rv_ 0 (.bool true) (fun a ee => execDec (execEqN (p := cnt (atQ ln c (c i)) n) (q := 2) rfl (ee _) rfl) (decide_eq_true (by omega))) (rf_ [(13, .bool true)] (h3_ t0 t2 t4) ?_))
    rintro a A ⟨t13, -⟩ ⟨t0, t2, t4, -⟩
    refine wp_cond_true t13 ?_
    clear t13
    obtain ⟨eo, hk1⟩ := oth_is hi hr e2
    obtain ⟨-, -, hpa, hpo⟩ := met hk1
    have hp8 := (ot_iff.1 hpo).2.1
    refine wp_seq ?_
    refine wi_ A (h3_ t0 t2 t4) (rv_ 1 (ltV (atQ ln c (c i)) n) (fun a ee => execLdLt rfl (ee _) Fg4) (rc_ 3 ((eo ▸ pother28 (atQ ln c (c i)) n i X0)) (cb_ fun X5 bQ => ?_)))
    replace Fg4 := (on9 Fg4 bQ)
    replace BB := BB.trans (bQ.mono BB.size)
    clear bQ
    refine rv_ 4 (.pointer (some ⟨adB cv, adO cv + (paF n ln c i), none⟩)) (fun a ee => execIdxLs (k := paF n ln c i) (hL.on BB) rfl (ee _) (ee _) hpa) (rv_ 5 (xv (paF n ln c i)) (fun a ee => execLdLs (k := paF n ln c i) (hL.on BB) rfl (ee _) hpa) (rg_ [(7, xv (paF n ln c i))] ?_))
    rintro a A ⟨t7, -⟩
    clear Fg4
    refine wp_seq ?_
    obtain ⟨g21, egg21⟩ : ∃ z_ : Nat, X5.heap.size = z_ := ⟨_, rfl⟩
    refine wi_ A (h1_ t7) (rs_ 0 (fun a ee => ?_))
    refine stepV rfl rfl (execBsU rfl) ⟨.slice (some ⟨g21, 0, none⟩) 1 1, ⟨_, rfl, by subst egg21; rfl⟩, fun X6_1 hX => ?_⟩
    have bQ : Below X5.heap.size X5 X6_1 := by subst hX egg21; exact (belNew X5 _)
    have Fg21 : (X6_1.heap[g21]? = some (.cells #[.int .u8 ((1 : Nat) : Int)] 5)) := by subst hX egg21; exact heapNew X5 _
    replace BB := BB.trans (bQ.mono BB.size)
    clear bQ hX egg21 ee a
    obtain ⟨g24, egg24⟩ : ∃ z_ : Nat, X6_1.heap.size = z_ := ⟨_, rfl⟩
    refine rv_ 2 (cutL (xv (paF n ln c i)) 8) (fun a ee => execCutL (k := 8) (((hL.on BB).cell (paF n ln c i) hpa)) rfl (ee _) rfl (by omega)) (rs_ 3 (fun a ee => ?_))
    refine stepV rfl rfl (execBs2C rfl (ee _) (ee _) ⟨_, _, _, rfl⟩ (shp3 (cutL_is (hL.cell _ hpa) (by omega)))) ⟨.slice (some ⟨g24, 0, none⟩) 2 2, ⟨_, rfl, by subst egg24; rfl⟩, fun X6_2 hX => ?_⟩
    have bQ : Below X6_1.heap.size X6_1 X6_2 := by subst hX egg24; exact (belNew X6_1 _)
    have Fg24 : (X6_2.heap[g24]? = some (.cells #[.slice (some ⟨g21, 0, none⟩) 1 1, cutL (xv (paF n ln c i)) 8] 23)) := by subst hX egg24; exact heapNew X6_1 _
    replace Fg21 := (on9 Fg21 bQ)
    replace BB := BB.trans (bQ.mono BB.size)
    clear bQ hX egg24 ee a
    refine rc_ 4 (pcat2 (f0 := fun _ => 1) (f1 := fun j => c (paF n ln c i) (8 + j)) (F := xF n ln c i) X6_2 Fg24 (one_slice Fg21 rfl (by omega)) (cutL_is ((hL.on BB).cell _ hpa) (by omega)) (fun _ _ h => by cases h) (cutL_nil ((hL.on BB).cell _ hpa) (by omega)) (fun k hk => by obtain rfl : k = 0 := (by omega); exact (if_pos rfl).trans hk1) (fun k _ => (x_met k).symm) (by omega) (by omega)) fun e X6 hh => ?_
    obtain ⟨v25, he, hk, hb⟩ := hh
    refine ⟨_, he, ?_⟩
    have bQ : Below X6_2.heap.size X6_2 X6 := hb
    have FA : (X6.ownsRow V.heap.size 5 1 v25 (1 + (ln (paF n ln c i) - 8)) (bytesL (1 + (ln (paF n ln c i) - 8)) (xF n ln c i))) := own_base hk (BB).size
    replace Fg21 := (on9 Fg21 bQ)
    replace Fg24 := (on9 Fg24 bQ)
    replace BB := BB.trans (bQ.mono BB.size)
    clear bQ
    refine rg_ [(6, v25)] ?_
    rintro a A ⟨t6, -⟩
    rw [show xL n ln c i = 1 + (ln (paF n ln c i) - 8) from if_pos hk1]
    refine wp_ret ?_
    repeat (first | with_reducible refine ret_in ?_ | with_reducible refine ret_then ?_)
    refine bodyPost_ret (results_tmp rfl _ _ _) A.2 ⟨⟨_, ?_, FA⟩, BB⟩
    show Ending.returned (a.eval (.tmp 6)) = _
    rw [t6]
  refine wi_ A (h4_ t0 t2 t4 t9) (rv_ 0 (.bool false) (fun a ee => execDec (execEqN (p := cnt (atQ ln c (c i)) n) (q := 2) rfl (ee _) rfl) (decide_eq_false (by omega))) (rf_ [(13, .bool false)] (h3_ t0 t2 t4) ?_))
  rintro a A ⟨t13, -⟩ ⟨t0, t2, t4, -⟩
  refine wp_cond_false t13 ?_
  refine wp_skip ?_
  clear t13
  clear Fg4
  refine wp_seq ?_
  obtain ⟨g26, egg26⟩ : ∃ z_ : Nat, X0.heap.size = z_ := ⟨_, rfl⟩
  refine wi_ A (h3_ t0 t2 t4) (rs_ 0 (fun a ee => ?_))
  refine stepV rfl rfl (execBsU rfl) ⟨.slice (some ⟨g26, 0, none⟩) 1 1, ⟨_, rfl, by subst egg26; rfl⟩, fun X7 hX => ?_⟩
  have bQ : Below X0.heap.size X0 X7 := by subst hX egg26; exact (belNew X0 _)
  have Fg26 : (X7.heap[g26]? = some (.cells #[.int .u8 ((2 : Nat) : Int)] 5)) := by subst hX egg26; exact heapNew X0 _
  have FGg26 : (V.heap.size ≤ g26) := by subst hX egg26; exact (BB).size
  replace BB := BB.trans (bQ.mono BB.size)
  clear bQ hX egg26 ee a
  refine rg_ [(6, .slice (some ⟨g26, 0, none⟩) 1 1)] ?_
  rintro a A ⟨t6, -⟩
  obtain ⟨eL, eF⟩ := x_one (kd_more hi hr e1 e2) (by decide)
  have FA := own_lit Fg26 FGg26 eL eF
  refine wp_ret ?_
  repeat (first | with_reducible refine ret_in ?_ | with_reducible refine ret_then ?_)
  refine bodyPost_ret (results_tmp rfl _ _ _) A.2 ⟨⟨_, ?_, FA⟩, BB⟩
  show Ending.returned (a.eval (.tmp 6)) = _
  rw [t6]
set_option maxRecDepth 100000 in
set_option maxHeartbeats 4000000 in
/-- Exchange. -/
theorem pexchange (n : Nat) (cv : Value) (xv : Nat → Value) (ln : Nat → Nat) (c : Nat → Nat → Nat) (V : World) (hL : Ls V cv n xv ln c) (hn : n ≤ 999999) :
    Calls Try.prog 20 #[cv] V fun e w' => (∃ r y, e = .returned r ∧ An V.heap.size w' r n y (xL n ln c) (xF n ln c)) ∧ Below V.heap.size V w' := by
  go_enter Try.func20, Try.ntmps20
  refine wo_ 38 [(0, cv)] ?_
  rintro a A ⟨t0, -⟩
  have BW : Below V.heap.size V V := Below.refl _ _
  have BB := BW
  refine wp_seq ?_
  refine wi_ A (h1_ t0) (rf_ [] (h1_ t0) ?_)
  rintro a A - ⟨t0, -⟩
  refine wp_seq ?_
  refine wi_ A (h1_ t0) (rc_ 1 (plaid n cv xv ln c V (hL.on BB) hn) fun e X1 hh => ?_)
  obtain ⟨⟨b8, he, hk, hg⟩, hb⟩ := hh
  refine ⟨_, he, ?_⟩
  have bQ : Below V.heap.size V X1 := hb
  have FM : (MD X1 b8 (lots ln c n)) := hk
  replace BB := BB.trans (bQ.mono BB.size)
  clear bQ
  refine rf_ [(3, .map (some b8))] (h1_ t0) ?_
  rintro a A ⟨t3, -⟩ ⟨t0, -⟩
  refine wp_seq ?_
  obtain ⟨g11, egg11⟩ : ∃ z_ : Nat, X1.heap.size = z_ := ⟨_, rfl⟩
  refine wi_ A (h2_ t0 t3) (rv_ 1 (.int .i64 ((n : Nat) : Int)) (fun a ee => execLenLL rfl (ee _) (hL.on BB).shp) (rs_ 2 (fun a ee => ?_)))
  refine stepV rfl rfl (execMkL rfl (ee _) (ee _) (by omega)) ⟨.slice (some ⟨g11, 0, none⟩) n n, ⟨_, rfl, by subst egg11; rfl⟩, fun X2 hX => ?_⟩
  have bQ : Below X1.heap.size X1 X2 := by subst hX egg11; exact (belNew X1 _)
  have FU : (X2.ownsRow V.heap.size 23 1 (.slice (some ⟨g11, 0, none⟩) n n) n (lL (fun _ => .slice none 0 0) n)) := by subst hX egg11; exact own_made (BB).size (by omega)
  replace FM := (FM.on bQ)
  replace BB := BB.trans (bQ.mono BB.size)
  clear bQ hX egg11 ee a
  refine rf_ [(4, .slice (some ⟨g11, 0, none⟩) n n)] (h2_ t0 t3) ?_
  rintro a A ⟨t4, -⟩ ⟨t0, t3, -⟩
  refine wp_seq ?_
  refine wp_seq ?_
  refine wi_ A (h3_ t0 t3 t4) (rv_ 1 (.int .i64 ((n : Nat) : Int)) (fun a ee => execLenLL rfl (ee _) (hL.on BB).shp) (rf_ [(12, cv), (13, .int .i64 ((n : Nat) : Int)), (14, .int .i64 ((0 : Nat) : Int))] (h3_ t0 t3 t4) ?_))
  rintro a A ⟨t12, t13, t14, -⟩ ⟨t0, t3, t4, -⟩
  have FF : (Fam V.heap.size (0) (fun _ => .slice none 0 0) (xL n ln c) (xF n ln c) X2) := Fam.none _ _ _ _ _
  refine wp_block ?_
  refine wp_loop (fun a W => ∃ (i : Nat) (y : Nat → Value), i ≤ n ∧ (a.tmps.size = 38 ∧ a.defers = []) ∧ a.eval (.tmp 0) = cv ∧ a.eval (.tmp 3) = .map (some b8) ∧ a.eval (.tmp 4) = .slice (some ⟨g11, 0, none⟩) n n ∧ a.eval (.tmp 12) = cv ∧ a.eval (.tmp 13) = .int .i64 ((n : Nat) : Int) ∧ a.eval (.tmp 14) = .int .i64 ((i : Nat) : Int) ∧ Below V.heap.size V W ∧ (W.ownsRow V.heap.size 23 1 (.slice (some ⟨g11, 0, none⟩) n n) n (lL y n)) ∧ (Fam V.heap.size (i) y (xL n ln c) (xF n ln c) W) ∧ (MD W b8 (lots ln c n))) (fun a _ => n - (intOf (a.eval (.tmp 14))).toNat) ⟨0, fun _ => .slice none 0 0, Nat.zero_le _, A, t0, t3, t4, t12, t13, t14, BB, FU, FF, FM⟩ ?_
  clear A t0 t3 t4 t12 t13 t14 BB FU FF FM a
  rintro a XL4 ⟨i, y, hi, A, t0, t3, t4, t12, t13, t14, BB, FU, FF, FM⟩
  have esi := t14
  refine wp_seq ?_
  refine wi_ A (h6_ t0 t3 t4 t12 t13 t14) (rv_ 0 (.bool (decide (i < n))) (fun a ee => execLtW (p := i) (q := n) rfl (ee _) (ee _)) (rf_ [(15, .bool (decide (i < n)))] (h6_ t0 t3 t4 t12 t13 t14) ?_))
  rintro a A ⟨t15, -⟩ ⟨t0, t3, t4, t12, t13, t14, -⟩
  refine wp_seq ?_
  by_cases lti : i < n
  · rw [decide_eq_true lti] at t15
    refine wp_cond_true t15 ?_
    refine wp_skip ?_
    clear t15
    refine wp_seq ?_
    refine wp_block ?_
    have hVs := BB.size
    have FB : Below XL4.heap.size XL4 XL4 := Below.refl _ _
    have FF0 := FF
    clear FF
    refine wp_seq ?_
    refine wi_ A (h6_ t0 t3 t4 t12 t13 t14) (rv_ 1 (.pointer (some ⟨adB cv, adO cv + i, none⟩)) (fun a ee => execIdxLs (k := i) (hL.on BB) rfl (ee _) (ee _) lti) (rv_ 2 (xv i) (fun a ee => execLdLs (k := i) (hL.on BB) rfl (ee _) lti) (rf_ [(5, .int .i64 ((i : Nat) : Int)), (6, xv i)] (h6_ t0 t3 t4 t12 t13 t14) ?_)))
    rintro a A ⟨t5, t6, -⟩ ⟨t0, t3, t4, t12, t13, t14, -⟩
    refine wp_seq ?_
    refine wp_seq ?_
    cases hr : rgt (ln i)
    · refine wi_ A (h8_ t0 t3 t4 t12 t13 t14 t5 t6) (rc_ 1 ((hr ▸ prgt28 (c i) (ln i) (xv i) XL4 ((hL.on BB).cell i lti))) (cb_ fun X6 bQ => ?_))
      replace FU := (ownD_below FU bQ)
      replace FM := (FM.on bQ)
      replace FB := (FB.trans (bQ.mono FB.size))
      replace BB := BB.trans (bQ.mono BB.size)
      clear bQ
      refine rv_ 2 (.bool true) (fun a ee => execNot8 (b := false) rfl (ee _)) (rf_ [(21, .bool true)] (h8_ t0 t3 t4 t12 t13 t14 t5 t6) ?_)
      rintro a A ⟨t21, -⟩ ⟨t0, t3, t4, t12, t13, t14, t5, t6, -⟩
      refine wp_cond_true t21 ?_
      clear t21
      obtain ⟨eL, eF⟩ := x_one (show kdF n ln c i = 3 by unfold kdF; rw [hr]; rfl) (by decide)
      refine wp_seq ?_
      obtain ⟨g24, egg24⟩ : ∃ z_ : Nat, X6.heap.size = z_ := ⟨_, rfl⟩
      refine wi_ A (h8_ t0 t3 t4 t12 t13 t14 t5 t6) (rs_ 2 (fun a ee => ?_))
      refine stepV rfl rfl (execBsU rfl) ⟨.slice (some ⟨g24, 0, none⟩) 1 1, ⟨_, rfl, by subst egg24; rfl⟩, fun X7_1 hX => ?_⟩
      have bQ : Below X6.heap.size X6 X7_1 := by subst hX egg24; exact (belNew X6 _)
      have Fg24 : (X7_1.heap[g24]? = some (.cells #[.int .u8 ((3 : Nat) : Int)] 5)) := by subst hX egg24; exact heapNew X6 _
      have FGg24 : (XL4.heap.size ≤ g24) := by subst hX egg24; exact (FB).size
      replace FU := (ownD_below FU bQ)
      replace FM := (FM.on bQ)
      replace FB := (FB.trans (bQ.mono FB.size))
      replace BB := BB.trans (bQ.mono BB.size)
      clear bQ hX egg24 ee a
      refine rv_ 3 (.pointer (some ⟨adB (.slice (some ⟨g11, 0, none⟩) n n), adO (.slice (some ⟨g11, 0, none⟩) n n) + i, none⟩)) (fun a ee => execIdxOL FU rfl (ee _) (ee _) lti) (rs_ 4 (fun a ee => ?_))
      refine stepS rfl rfl (execStOL FU lti rfl (ee _) (ee _) ⟨_, _, _, rfl⟩) ⟨_, ⟨_, rfl, rfl⟩, fun X7 hX => ?_⟩
      obtain ⟨BB, FM, FU1, FF1⟩ : Below V.heap.size V X7 ∧ (MD X7 b8 (lots ln c n)) ∧ (X7.ownsRow V.heap.size 23 1 (.slice (some ⟨g11, 0, none⟩) n n) n (lL (updX y i (.slice (some ⟨g24, 0, none⟩) 1 1)) n)) ∧ (Fam V.heap.size (i + 1) (updX y i (.slice (some ⟨g24, 0, none⟩) 1 1)) (xL n ln c) (xF n ln c) X7) := by subst hX; exact ⟨belPutL BB FU (by omega), (md_off FM FU (by omega)), lst_put8 FU lti, fam_off8 (FF0.add FB hVs (own_lit Fg24 FGg24 eL eF)) FU (by omega)⟩
      clear FU FB Fg24 hX ee a
      refine rf_ [] (h6_ t0 t3 t4 t12 t13 t14) ?_
      rintro a A - ⟨t0, t3, t4, t12, t13, t14, -⟩
      refine wp_exit ?_
      repeat (first | with_reducible refine exit_then ?_ | with_reducible refine exit_out (by decide) ?_)
      refine exit_in ?_
      refine wi_ A (h6_ t0 t3 t4 t12 t13 t14) (rv_ 0 (.int .i64 ((i + 1 : Nat) : Int)) (fun a ee => execAd8 (p := i) (q := 1) rfl (ee _) rfl (by omega)) (rf_ [(14, .int .i64 ((i + 1 : Nat) : Int))] (h5_ t0 t3 t4 t12 t13) ?_))
      rintro a A ⟨t14, -⟩ ⟨t0, t3, t4, t12, t13, -⟩
      exact ⟨⟨i + 1, updX y i (.slice (some ⟨g24, 0, none⟩) 1 1), lti, A, t0, t3, t4, t12, t13, t14, BB, FU1, FF1, FM⟩, by show n - (intOf (a.eval (.tmp 14))).toNat < n - (intOf (Act.eval _ (.tmp 14))).toNat; rw [t14, esi]; show n - (i + 1) < n - i; omega⟩
    · refine wi_ A (h8_ t0 t3 t4 t12 t13 t14 t5 t6) (rc_ 1 ((hr ▸ prgt28 (c i) (ln i) (xv i) XL4 ((hL.on BB).cell i lti))) (cb_ fun X6 bQ => ?_))
      replace FU := (ownD_below FU bQ)
      replace FM := (FM.on bQ)
      replace FB := (FB.trans (bQ.mono FB.size))
      replace BB := BB.trans (bQ.mono BB.size)
      clear bQ
      refine rv_ 2 (.bool false) (fun a ee => execNot8 (b := true) rfl (ee _)) (rf_ [(21, .bool false)] (h8_ t0 t3 t4 t12 t13 t14 t5 t6) ?_)
      rintro a A ⟨t21, -⟩ ⟨t0, t3, t4, t12, t13, t14, t5, t6, -⟩
      refine wp_cond_false t21 ?_
      refine wp_skip ?_
      clear t21
      have h8 : 8 ≤ ln i := (rgt_iff.1 hr).1
      have hf8 : ∀ k, k < 8 → c i k < 256 := fun k hk => (hL.cell i lti).bytes k (by omega)
      refine wi_ A (h8_ t0 t3 t4 t12 t13 t14 t5 t6) (rc_ 5 ((pname28 (c i) (ln i) (xv i) X6 ((hL.on BB).cell i lti) h8)) (cb_ fun X8_1 bQ => ?_))
      replace FU := (ownD_below FU bQ)
      replace FM := (FM.on bQ)
      replace FB := (FB.trans (bQ.mono FB.size))
      replace BB := BB.trans (bQ.mono BB.size)
      clear bQ
      refine rv_ 6 (ltV (atQ ln c (c i)) n) (fun a ee => execLkMD rfl (ee _) (ee _) FM hf8) (rc_ 8 (pheard n i cv xv ln c X8_1 (hL.on BB) hn lti hr) fun e X8_2 hh => ?_)
      obtain ⟨⟨v34, he, hk⟩, hb⟩ := hh
      refine ⟨_, he, ?_⟩
      have bQ : Below X8_1.heap.size X8_1 X8_2 := hb
      have FA : (X8_2.ownsRow XL4.heap.size 5 1 v34 (xL n ln c i) (bytesL (xL n ln c i) (xF n ln c i))) := own_base hk (FB).size
      replace FU := (ownD_below FU bQ)
      replace FM := (FM.on bQ)
      replace FB := (FB.trans (bQ.mono FB.size))
      replace BB := BB.trans (bQ.mono BB.size)
      clear bQ
      refine rv_ 9 (.pointer (some ⟨adB (.slice (some ⟨g11, 0, none⟩) n n), adO (.slice (some ⟨g11, 0, none⟩) n n) + i, none⟩)) (fun a ee => execIdxOL FU rfl (ee _) (ee _) lti) (rs_ 10 (fun a ee => ?_))
      refine stepS rfl rfl (execStOL FU lti rfl (ee _) (ee _) (ownQ_shp FA)) ⟨_, ⟨_, rfl, rfl⟩, fun X8 hX => ?_⟩
      obtain ⟨BB, FM, FU1, FF1⟩ : Below V.heap.size V X8 ∧ (MD X8 b8 (lots ln c n)) ∧ (X8.ownsRow V.heap.size 23 1 (.slice (some ⟨g11, 0, none⟩) n n) n (lL (updX y i (v34)) n)) ∧ (Fam V.heap.size (i + 1) (updX y i (v34)) (xL n ln c) (xF n ln c) X8) := by subst hX; exact ⟨belPutL BB FU (by omega), (md_off FM FU (by omega)), lst_put8 FU lti, fam_off8 (FF0.add FB hVs FA) FU (by omega)⟩
      clear FU FB FA hX ee a
      refine rf_ [] (h6_ t0 t3 t4 t12 t13 t14) ?_
      rintro a A - ⟨t0, t3, t4, t12, t13, t14, -⟩
      refine wi_ A (h6_ t0 t3 t4 t12 t13 t14) (rv_ 0 (.int .i64 ((i + 1 : Nat) : Int)) (fun a ee => execAd8 (p := i) (q := 1) rfl (ee _) rfl (by omega)) (rf_ [(14, .int .i64 ((i + 1 : Nat) : Int))] (h5_ t0 t3 t4 t12 t13) ?_))
      rintro a A ⟨t14, -⟩ ⟨t0, t3, t4, t12, t13, -⟩
      exact ⟨⟨i + 1, updX y i v34, lti, A, t0, t3, t4, t12, t13, t14, BB, FU1, FF1, FM⟩, by show n - (intOf (a.eval (.tmp 14))).toNat < n - (intOf (Act.eval _ (.tmp 14))).toNat; rw [t14, esi]; show n - (i + 1) < n - i; omega⟩
  · rw [decide_eq_false lti] at t15
    refine wp_cond_false t15 ?_
    refine wp_exit ?_
    first | with_reducible refine exit_in ?_ | with_reducible refine exit_then (exit_in ?_) | with_reducible refine exit_then (exit_then (exit_in ?_)) | refine exit_in ?_ | refine exit_then (exit_in ?_) | refine exit_then (exit_then (exit_in ?_))
    clear t15 esi
    have ein : i = n := (by omega)
    rw [ein] at FF
    refine wp_seq ?_
    refine wi_ A (h6_ t0 t3 t4 t12 t13 t14) (rg_ [(2, .slice (some ⟨g11, 0, none⟩) n n)] ?_)
    rintro a A ⟨t2, -⟩
    refine wp_ret ?_
    repeat (first | with_reducible refine ret_in ?_ | with_reducible refine ret_then ?_)
    refine bodyPost_ret (results_tmp rfl _ _ _) A.2 ⟨⟨_, y, ?_, FU, FF, fun t _ j hj => xF_lt (fun k hk => (hL.cell k hk).bytes) j hj⟩, BB⟩
    show Ending.returned (a.eval (.tmp 2)) = _
    rw [t2]
end Go.Proofs.Ytcibogmghagpoaa.Dro
