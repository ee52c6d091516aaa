import Derived.Test.YtcgkelgncehekabN8n
namespace Go.Proofs.Ytcgkelgncehekab.Loo
open Go.RowKit Gf8 Aes By8 Cel Cf Win Drw Prm
/- The landed loom's taken and Play. Written by tools/mkN8o.py. -/

/-- The lists of the hands, as they lie. -/
def TkP (p : Pl) (G : Ad) (U : World) (ow : Nat → Nat) (M : Mm) (W : World) (tv : Nat → Value) : Prop := ∀ t, t < p.n → W.cell? ⟨G.hn t, 3, none⟩ = some (tv t) ∧ W.ownsRow U.heap.size 3 1 (tv t) (M.tk t).length (intsL (M.tk t).length (hL (M.tk t))) ∧ (∀ b, (tv t).ownBlock = some b → ow b = oH t) ∧ ∀ x ∈ M.tk t, I64 x
section
variable {p : Pl} {G : Ad} {U V W X : World} {ow : Nat → Nat} {M : Mm}
theorem RN.tks (h : RN p G U ow M W) : ∃ tv, TkP p G U ow M W tv := by
  have h1 : ∀ t, ∃ v, t < p.n → W.cell? ⟨G.hn t, 3, none⟩ = some v ∧ W.ownsRow U.heap.size 3 1 v (M.tk t).length (intsL (M.tk t).length (hL (M.tk t))) ∧ (∀ b, v.ownBlock = some b → ow b = oH t) ∧ ∀ x ∈ M.tk t, I64 x := fun t => by
    by_cases ht : t < p.n
    · obtain ⟨v, w1, w2, w3, w4, w5⟩ := h.hand ht
      exact ⟨v, fun _ => ⟨(nC_at w2).2.2.2, w3, w4, w5⟩⟩
    · exact ⟨undef, fun w => absurd w ht⟩
  obtain ⟨f, hf⟩ := Classical.axiomOfChoice h1
  exact ⟨f, hf⟩
theorem TkP.on {tv : Nat → Value} (h : TkP p G U ow M W tv) (hR : RN p G U ow M W) (hb : Below W.heap.size W X) : TkP p G U ow M X tv := fun t ht => by
  obtain ⟨w1, w2, w3, w4⟩ := h t ht
  refine ⟨?_, ownD_below w2 hb, w3, w4⟩
  obtain ⟨v, _, w5, _⟩ := hR.hand ht
  rw [cell_below hb (Array.getElem?_eq_some_iff.1 w5).1]
  exact w1
end
theorem infLI9 : ∃ i, Try.prog.info? 22 = some i ∧ i.zero = some (.slice none 0 0) ∧ i.size = 1 ∧ i.bytes = 24 := infoLI
theorem execMkLL {o : Oper} {a : Act} {w : World} {x y : Operand} {n : Nat} (ho : o.op = .makeSlice 27 x y) (hx : a.eval x = .int .i64 ((n : Nat) : Int)) (hy : a.eval y = .int .i64 ((n : Nat) : Int)) (hn : n ≤ 1024) : (execOp a.eval o).run Try.prog w = .ok (.value (.slice (some ⟨w.heap.size, 0, none⟩) n n)) (w.alloc (.cells (Duc.rA n fun _ => .slice none 0 0) 22)) := by
  obtain ⟨i, h1, h2, h3, h4⟩ := infLI9
  have h := run_make (P := Try.prog) w 27 22 i (.slice none 0 0) Try.underlying27 h1 h2 .i64 .i64 (n : Int) (n : Int) (by omega) (by omega) (by rw [h4]; omega) (by omega)
  rw [h3, Int.toNat_natCast, Nat.mul_one] at h
  unfold execOp
  simp only [ho, hx, hy, Sem.run_bind, h, Result.andThen_ok, Sem.run_pure]
  rw [← Duc.rA_made]
  rfl
theorem rA_own {W : World} {B g n : Nat} {T : TypeId} {f : Nat → Value} (h : W.heap[g]? = some (.cells (Duc.rA n f) T)) (hB : B ≤ g) (hn : n ≤ 1024) : W.ownsRow B T 1 (.slice (some ⟨g, 0, none⟩) n n) n (lL f n) := by
  refine ⟨by rw [lL_len, Nat.mul_one], Or.inr ⟨g, n, _, rfl, hB, h, Nat.le_refl _, by unfold maxLen; omega, by rw [Duc.rA_size, Nat.mul_one], ?_⟩⟩
  rw [Nat.mul_one]
  apply List.ext_getElem?
  intro j
  by_cases hj : j < n
  · rw [List.getElem?_take, if_pos hj, Array.getElem?_toList, Duc.rA_at hj, lL_get _ _ _ hj]
  · rw [List.getElem?_eq_none (by rw [List.length_take]; omega), List.getElem?_eq_none (by rw [lL_len]; omega)]
set_option maxRecDepth 100000 in
set_option maxHeartbeats 4000000 in
/-- taken. -/
theorem ptaken {p : Pl} {G : Ad} {U V : World} {ow : Nat → Nat} {M : Mm} {tv : Nat → Value} (hR : RN p G U ow M V) (hT : TkP p G U ow M V tv) :
    Calls Try.prog 17 #[.pointer (some ⟨G.rb, 0, none⟩)] V fun e w' => ∃ tk, e = .returned tk ∧ w'.ownsRow V.heap.size 22 1 tk p.n (lL tv p.n) ∧ Below V.heap.size V w' := by
  go_enter Try.func17, Try.ntmps17
  refine wo_ 31 [(0, .pointer (some ⟨G.rb, 0, none⟩))] ?_
  rintro a A ⟨t0, -⟩
  have hn128 := hR.ok.n
  refine wp_seq ?_
  refine wi_ A (h1_ t0) (rf_ [] (h1_ t0) ?_)
  rintro a A - ⟨t0, -⟩
  refine wp_seq ?_
  refine wi_ A (h1_ t0) (rv_ 1 (.pointer (some ⟨G.rb, 0, none⟩)) (fun a ee => Duc.execNl rfl (ee _)) (rv_ 2 (.pointer (some ⟨G.rb, 1, none⟩)) (fun a ee => execRf1 rfl (ee _)) (rv_ 3 G.hS (fun a ee => execLdP rfl (Or.inr (Or.inl rfl)) (ee _) hR.rc.2.1) (rv_ 4 (.int .i64 ((p.n : Nat) : Int)) (fun a ee => execLnH rfl (ee _) hR.hR.shp) (rs_ 5 (fun a ee => ?_))))))
  obtain ⟨kb, ekb⟩ : ∃ z_ : Nat, V.heap.size = z_ := ⟨_, rfl⟩
  refine stepV rfl rfl (execMkLL rfl (ee _) (ee _) (by omega)) ⟨.slice (some ⟨kb, 0, none⟩) p.n p.n, ⟨_, rfl, by subst ekb; rfl⟩, fun X1 hX => ?_⟩
  have BB : Below V.heap.size V X1 := by rw [hX]; exact belNew V _
  have Fk : X1.heap[kb]? = some (.cells (Duc.rA p.n fun j => if j < 0 then tv j else .slice none 0 0) 22) := by rw [hX, ← ekb]; exact heapNew V _
  clear hX ee a
  refine rf_ [(3, .slice (some ⟨kb, 0, none⟩) p.n p.n)] (h1_ t0) ?_
  rintro a A ⟨t3, -⟩ ⟨t0, -⟩
  refine wp_seq ?_
  refine wp_seq ?_
  refine wi_ A (h2_ t0 t3) (rv_ 1 (.pointer (some ⟨G.rb, 0, none⟩)) (fun a ee => Duc.execNl rfl (ee _)) (rv_ 2 (.pointer (some ⟨G.rb, 1, none⟩)) (fun a ee => execRf1 rfl (ee _)) (rv_ 3 G.hS (fun a ee => execLdP rfl (Or.inr (Or.inl rfl)) (ee _) (hR.on BB).rc.2.1) (rv_ 4 (.int .i64 ((p.n : Nat) : Int)) (fun a ee => execLnH rfl (ee _) hR.hR.shp) (rf_ [(15, G.hS), (16, .int .i64 ((p.n : Nat) : Int)), (17, .int .i64 ((0 : Nat) : Int))] (h1_ t3) ?_)))))
  rintro a A ⟨t15, t16, t17, -⟩ ⟨t3, -⟩
  refine wp_block ?_
  refine wp_loop (fun a W => ∃ (i : Nat), i ≤ p.n ∧ (a.tmps.size = 31 ∧ a.defers = []) ∧ a.eval (.tmp 3) = .slice (some ⟨kb, 0, none⟩) p.n p.n ∧ a.eval (.tmp 15) = G.hS ∧ a.eval (.tmp 16) = .int .i64 ((p.n : Nat) : Int) ∧ a.eval (.tmp 17) = .int .i64 ((i : Nat) : Int) ∧ W.heap[kb]? = some (.cells (Duc.rA p.n fun j => if j < i then tv j else .slice none 0 0) 22) ∧ Below V.heap.size V W) (fun a _ => p.n - (intOf (a.eval (.tmp 17))).toNat) ⟨0, Nat.zero_le _, A, t3, t15, t16, t17, Fk, BB⟩ ?_
  clear A t3 t15 t16 t17 Fk BB a t0
  rintro a XL ⟨i, hi, A, t3, t15, t16, t17, Fk, BB⟩
  have es := t17
  refine wp_seq ?_
  refine wi_ A (h4_ t3 t15 t16 t17) (rv_ 0 (.bool (decide (i < p.n))) (fun a ee => execLtW (p := i) (q := p.n) rfl (ee _) (ee _)) (rf_ [(18, .bool (decide (i < p.n)))] (h4_ t3 t15 t16 t17) ?_))
  rintro a A ⟨t18, -⟩ ⟨t3, t15, t16, t17, -⟩
  refine wp_seq ?_
  by_cases hlt : i < p.n
  · rw [decide_eq_true hlt] at t18
    refine wp_cond_true t18 ?_
    refine wp_skip ?_
    clear t18
    obtain ⟨hb_, hc_9, eH⟩ := hR.hO hlt
    have hk3 := ((hT.on hR BB) i hlt).1
    have hv := own_shp ((hT i hlt).2.1)
    refine wp_seq ?_
    refine wp_block ?_
    refine wp_seq ?_
    refine wi_ A (h4_ t3 t15 t16 t17) (rv_ 1 (.pointer (some ⟨hb_, i, none⟩)) (fun a ee => execIxH (k := i) rfl ((ee _).trans eH) (ee _) hlt) (rv_ 2 (.pointer (some ⟨G.hn i, 0, none⟩)) (fun a ee => execLdP rfl (Or.inr (Or.inr (Or.inl rfl))) (ee _) (RowP.at (hR.on BB).hR eH hlt)) (rf_ [(4, .int .i64 ((i : Nat) : Int)), (5, .pointer (some ⟨G.hn i, 0, none⟩))] (h4_ t3 t15 t16 t17) ?_)))
    rintro a A ⟨t4, t5, -⟩ ⟨t3, t15, t16, t17, -⟩
    refine wi_ A (h6_ t3 t15 t16 t17 t4 t5) (rv_ 3 (.pointer (some ⟨G.hn i, 0, none⟩)) (fun a ee => Duc.execNl rfl (ee _)) (rv_ 4 (.pointer (some ⟨G.hn i, 3, none⟩)) (fun a ee => execNf3 rfl (ee _)) (rv_ 5 (tv i) (fun a ee => execLdG rfl (Or.inl rfl) (ee _) hk3) (rv_ 6 (.pointer (some ⟨kb, 0 + i, none⟩)) (fun a ee => execIxLL (k := i) rfl (ee _) (ee _) hlt) (rs_ 7 (fun a ee => ?_))))))
    refine stepS rfl rfl (execSt9 rfl (Or.inr (Or.inr (Or.inl rfl))) (ee _) (ee _) (Or.inr (Or.inr (Or.inr (sl3 hv)))) (by rw [Nat.zero_add]; exact Duc.rA_cell Fk hlt) (frozen4 Fk)) ⟨_, ⟨_, rfl, rfl⟩, fun X2 hX => ?_⟩
    have Fk2 : X2.heap[kb]? = some (.cells (Duc.rA p.n fun j => if j < i + 1 then tv j else .slice none 0 0) 22) := by
      rw [hX, heap4 _ Fk, Nat.zero_add, Duc.rA_set hlt]
      congr 3
      funext j
      by_cases q : j = i
      · rw [q, Win.up_at, if_pos (Nat.lt_succ_self i)]
        rfl
      · rw [Win.up_ne _ _ q]
        by_cases w : j < i
        · rw [if_pos w, if_pos (by omega)]
        · rw [if_neg w, if_neg (by omega)]
    have B2 : Below V.heap.size V X2 := by rw [hX]; exact BB.setCell (p := ⟨kb, 0 + i, none⟩) (by show V.heap.size ≤ kb; omega) _
    clear hX ee a
    refine rf_ [] (h4_ t3 t15 t16 t17) ?_
    rintro a A - ⟨t3, t15, t16, t17, -⟩
    refine wi_ A (h4_ t3 t15 t16 t17) (rv_ 0 (.int .i64 ((i + 1 : Nat) : Int)) (fun a ee => execAd8 (p := i) (q := 1) rfl (ee _) rfl (by omega)) (rf_ [(17, .int .i64 ((i + 1 : Nat) : Int))] (h3_ t3 t15 t16) ?_))
    rintro a A ⟨t17, -⟩ ⟨t3, t15, t16, -⟩
    exact ⟨⟨i + 1, hlt, A, t3, t15, t16, t17, Fk2, B2⟩, by show p.n - (intOf (a.eval (.tmp 17))).toNat < p.n - (intOf (Act.eval _ (.tmp 17))).toNat; rw [t17, es]; show p.n - (i + 1) < p.n - i; omega⟩
  · rw [decide_eq_false hlt] at t18
    refine wp_cond_false t18 ?_
    refine wp_exit ?_
    repeat (first | with_reducible refine exit_then ?_ | with_reducible refine exit_out (by decide) ?_)
    refine exit_in ?_
    have e1 : i = p.n := by omega
    rw [e1] at Fk
    refine wp_seq ?_
    refine wi_ A (h1_ t3) (rg_ [(2, .slice (some ⟨kb, 0, none⟩) p.n p.n)] ?_)
    rintro a A ⟨t2, -⟩
    have hown := rA_own (B := V.heap.size) Fk (by omega) (by omega)
    rw [lL_congr (y := tv) p.n (fun j hj => if_pos hj)] at hown
    refine wp_ret ?_
    refine bodyPost_ret (results_tmp rfl _ _ _) A.2 ⟨_, ?_, hown, BB⟩
    show Ending.returned (a.eval (.tmp 2)) = _
    rw [t2]
end Go.Proofs.Ytcgkelgncehekab.Loo
