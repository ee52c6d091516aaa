import Derived.Test.YtijibdapooalcaaC9r
namespace Go.Proofs.Ytijibdapooalcaa.Win
open Go.RowKit Gf8 Aes By8 Cel Cf
/- WindowNames, WindowOpens, WindowAdds, WindowChecks over what the package keeps. Written by tools/mkC9s.py. -/

theorem eqB_iff {n : Nat} {f g : Nat → Nat} : eqB n f g = true ↔ ∀ j, j < n → f j = g j := by
  unfold eqB
  rw [List.all_eq_true]
  constructor
  · intro h j hj
    have := h j (List.mem_range.2 hj)
    simp at this
    omega
  · intro h j hj
    have := h j (List.mem_range.1 hj)
    simp [this]
theorem tv_inj {f g : Nat → Nat} (hf : ∀ i, i < 16 → f i < 256) (hg : ∀ i, i < 16 → g i < 256) (h : tv f 16 = tv g 16) : ∀ i, i < 16 → f i = g i := eqB_iff.1 (by rw [eqB_tv hf hg]; exact decide_eq_true h)
theorem tgL_at {n k : Nat} {t : Nat → Nat → Nat} (h : k < n) : (tgL n t)[k]? = some (tv (t k) 16) := by simp [tgL, h]
theorem tgL_eq {n m : Nat} {t s : Nat → Nat → Nat} (h : tgL n t = tgL m s) : n = m ∧ ∀ k, k < n → tv (t k) 16 = tv (s k) 16 := by
  have e : n = m := by have := congrArg List.length h; rw [len_tgL, len_tgL] at this; exact this
  subst e
  refine ⟨rfl, fun k hk => ?_⟩
  have := congrArg (fun l : List Nat => l[k]?) h
  simp only [tgL_at hk] at this
  exact Option.some.inj this
theorem esL_at {n j : Nat} {nu : Nat → Int} {ln : Nat → Nat} {t : Nat → Nat → Nat → Nat} (h : j < n) : (esL n nu ln t)[j]? = some (nu j, tgL (ln j) (t j)) := by simp [esL, h]
theorem esL_eq {n m : Nat} {nu mu : Nat → Int} {ln lm : Nat → Nat} {t s : Nat → Nat → Nat → Nat} (h : esL n nu ln t = esL m mu lm s) : n = m ∧ ∀ j, j < n → nu j = mu j ∧ ln j = lm j ∧ ∀ k, k < ln j → tv (t j k) 16 = tv (s j k) 16 := by
  have e : n = m := by have := congrArg List.length h; rw [esL_len, esL_len] at this; exact this
  subst e
  refine ⟨rfl, fun j hj => ?_⟩
  have := congrArg (fun l : List Ep => l[j]?) h
  simp only [esL_at hj] at this
  have q := Prod.mk.inj (Option.some.inj this)
  exact ⟨q.1, tgL_eq q.2⟩
theorem Eps.cg {W : World} {v : Value} {n : Nat} {nu mu : Nat → Int} {tw : Nat → Value} {ln lm : Nat → Nat} {t : Nat → Nat → Nat → Nat} (h : Eps W v n nu tw ln t) (h1 : ∀ j, j < n → nu j = mu j) (h2 : ∀ j, j < n → ln j = lm j) : Eps W v n mu tw lm t := by
  obtain ⟨⟨a, c, e, q1, q2, q3⟩, hl, hn⟩ := h
  refine ⟨⟨a, c, e, q1, q2, fun h0 => ?_⟩, fun j hj => by rw [← h2 j hj]; exact hl j hj, fun j hj => by rw [← h1 j hj]; exact hn j hj⟩
  obtain ⟨b, o, e1, e2, e3⟩ := q3 h0
  exact ⟨b, o, e1, e2, fun j hj => by rw [← h1 j hj]; exact e3 j hj⟩
theorem same16w (nw : Int) {ev fv : Value} {n m : Nat} {nu mu : Nat → Int} {tw uw : Nat → Value} {ln lm : Nat → Nat} {t s : Nat → Nat → Nat → Nat} (V : World) (hE : Eps V ev n nu tw ln t) (hF : Eps V fv m mu uw lm s) (h : esL n nu ln t = esL m mu lm s) : Calls Try.prog 18 #[.agg (wC nw ev), .agg (wC nw fv)] V fun e w' => e = .returned (.bool true) ∧ Below V.heap.size V w' := by
  obtain ⟨rfl, q⟩ := esL_eq h
  have hn : n < 9223372036854775808 := by obtain ⟨_, c, _, q1, q2, _⟩ := hE.shape; omega
  exact same16 nw ev fv n nu tw uw ln t s V hE (hF.cg (fun j hj => (q j hj).1.symm) (fun j hj => (q j hj).2.1.symm)) hn fun j hj k hk => tv_inj ((hE.lists j hj).byt k hk) (fun i hi => (hF.lists j hj).byt k (by rw [← (q j hj).2.1]; exact hk) i hi) ((q j hj).2.2 k hk)
/-- A Job's cells, a Look's. -/
def jbC (nw : Int) (ev : Value) (sp rm ep : Int) (u v : Value) : Array Value := #[.int .i64 nw, ev, .int .i64 sp, .int .i64 rm, .int .i64 ep, u, v]
section
variable {o : Oper} {a : Act} {w : World}
theorem execLdWm {x : Operand} {b off : Nat} {nw : Int} {v : Value} (ho : o.op = .load 25 x) (hx : a.eval x = .pointer (some ⟨b, off, none⟩)) (h0 : w.cell? ⟨b, off + 0, none⟩ = some (.int .i64 nw)) (h1 : w.cell? ⟨b, off + 1, none⟩ = some v) : (execOp a.eval o).run Try.prog w = .ok (.value (.agg (wC nw v))) w := by
  have hr := run_loadAt_mid (P := Try.prog) w b off 25 [.int .i64 nw, v] _ (fun j z hz => by
    match j, hz with
    | 0, hz => rw [← hz]; exact h0
    | 1, hz => rw [← hz]; exact h1) Try.underlying25 rfl (by kernel_rfl)
  unfold execOp
  simp only [ho, hx, Sem.run_bind, hr, Result.andThen_ok, Sem.run_pure]
  rfl
theorem execLd3 {x : Operand} {b k : Nat} {v : Value} (ho : o.op = .load 3 x) (hx : a.eval x = .pointer (some ⟨b, k, none⟩)) (hc : w.cell? ⟨b, k, none⟩ = some v) : (execOp a.eval o).run Try.prog w = .ok (.value v) w := by
  unfold execOp
  simp only [ho, hx]
  simp [go_sem, hc]
theorem execBoxJ {x : Operand} {nw : Int} {ev : Value} {sp rm ep : Int} {u v : Value} (hev : ∃ g n c, ev = .slice g n c) (hu : ∃ g n c, u = .slice g n c) (hv : ∃ g n c, v = .slice g n c) (ho : o.op = .box 43 x) (hx : a.eval x = .agg (jbC nw ev sp rm ep u v)) : (execOp a.eval o).run Try.prog w = .ok (.value (.pointer (some ⟨w.heap.size, 0, none⟩))) (w.alloc (.cells (jbC nw ev sp rm ep u v) 43)) := by
  obtain ⟨g, n, c, rfl⟩ := hev
  obtain ⟨g2, n2, c2, rfl⟩ := hu
  obtain ⟨g3, n3, c3, rfl⟩ := hv
  unfold execOp
  simp only [ho, hx]
  simp [go_sem, jbC]
theorem execFldJ0 {x : Operand} {b : Nat} (ho : o.op = .fieldAddr 43 x 0) (hx : a.eval x = .pointer (some ⟨b, 0, none⟩)) : (execOp a.eval o).run Try.prog w = .ok (.value (.pointer (some ⟨b, 0, none⟩))) w := by
  unfold execOp
  simp only [ho, hx]
  simp [go_sem]
theorem execFldJ2 {x : Operand} {b : Nat} (ho : o.op = .fieldAddr 43 x 2) (hx : a.eval x = .pointer (some ⟨b, 0, none⟩)) : (execOp a.eval o).run Try.prog w = .ok (.value (.pointer (some ⟨b, 3, none⟩))) w := by
  unfold execOp
  simp only [ho, hx]
  simp [go_sem]
theorem execFldJ3 {x : Operand} {b : Nat} (ho : o.op = .fieldAddr 43 x 3) (hx : a.eval x = .pointer (some ⟨b, 0, none⟩)) : (execOp a.eval o).run Try.prog w = .ok (.value (.pointer (some ⟨b, 4, none⟩))) w := by
  unfold execOp
  simp only [ho, hx]
  simp [go_sem]
theorem execFldJ4 {x : Operand} {b : Nat} (ho : o.op = .fieldAddr 43 x 4) (hx : a.eval x = .pointer (some ⟨b, 0, none⟩)) : (execOp a.eval o).run Try.prog w = .ok (.value (.pointer (some ⟨b, 5, none⟩))) w := by
  unfold execOp
  simp only [ho, hx]
  simp [go_sem]
end
theorem row_at {W : World} {g k : Nat} {c : Array Value} {t : TypeId} {z : Value} (h : W.heap[g]? = some (.cells c t)) (hz : c[k]? = some z) : W.cell? ⟨g, k, none⟩ = some z := by rw [cell_of_row _ _ _ _ _ _ h]; exact hz
set_option maxRecDepth 100000 in
set_option maxHeartbeats 4000000 in
/-- WindowAdds. -/
theorem adds16 (I : Impl) (nw : Int) (ev : Value) (n : Nat) (nu : Nat → Int) (tw : Nat → Value) (ln : Nat → Nat) (t : Nat → Nat → Nat → Nat) (sp rm ep : Int) (tgv : Value) (m : Nat) (tg : Nat → Nat → Nat) (mrv : Value) (k : Nat) (mr : Nat → Nat → Nat) (V : World) (hW : Wd V nw ev n nu tw ln t) (_hsp : I64 sp) (hrm : I64 rm) (hep : I64 ep) (hT : Tgs V tgv m tg) (hm : m * 16 ≤ 140737488351232) (hM : Tgs V mrv k mr) (_hmk : k * 16 ≤ 140737488351232) :
    Calls Try.prog 6 #[.agg (jbC nw ev sp rm ep tgv mrv)] V fun e w' => e = .returned (.bool true) ∧ Below V.heap.size V w' := by
  go_enter Try.func6, Try.ntmps6
  obtain ⟨o, eo⟩ : ∃ o, wAdd (nw, esL n nu ln t) ep (tgL m tg) rm = o := ⟨_, rfl⟩
  have hSe : ∃ g n c, ev = .slice g n c := by obtain ⟨_, _, e_⟩ := hW.eps.shp; exact ⟨_, _, _, e_⟩
  have hSt : ∃ g n c, tgv = .slice g n c := by obtain ⟨_, _, e_⟩ := hT.shp; exact ⟨_, _, _, e_⟩
  have hSm : ∃ g n c, mrv = .slice g n c := by obtain ⟨_, _, e_⟩ := hM.shp; exact ⟨_, _, _, e_⟩
  refine wo_ 41 [(0, .agg (jbC nw ev sp rm ep tgv mrv))] ?_
  rintro a A ⟨t0, -⟩
  have BW : Below V.heap.size V V := Below.refl _ _
  have BB := BW
  refine wp_seq ?_
  obtain ⟨g1, egg1⟩ : ∃ z_ : Nat, V.heap.size = z_ := ⟨_, rfl⟩
  refine wi_ A (h1_ t0) (rs_ 0 (fun a ee => ?_))
  refine stepV rfl rfl (execBoxJ hSe hSt hSm rfl (ee _)) ⟨.pointer (some ⟨g1, 0, none⟩), ⟨_, rfl, by subst egg1; rfl⟩, fun X0 hX => ?_⟩
  have bQ : Below V.heap.size V X0 := by subst hX egg1; exact (belNew V _)
  have Fg1 : (X0.heap[g1]? = some (.cells (jbC nw ev sp rm ep tgv mrv) 43)) := by subst hX egg1; exact heapNew V _
  replace BB := BB.trans (bQ.mono BB.size)
  clear bQ hX egg1 ee a
  refine rg_ [(1, .pointer (some ⟨g1, 0, none⟩))] ?_
  rintro a A ⟨t1, -⟩
  refine wp_seq ?_
  refine wp_seq ?_
  refine wi_ A (h1_ t1) (rc_ 0 (alive16 I X0) (cb_ fun X1 bQ => ?_))
  replace Fg1 := (on9 Fg1 bQ)
  replace BB := BB.trans (bQ.mono BB.size)
  clear bQ
  refine rv_ 1 (.bool false) (fun a ee => execNot8 (b := true) rfl (ee _)) (rf_ [(8, .bool false)] (h1_ t1) ?_)
  rintro a A ⟨t8, -⟩ ⟨t1, -⟩
  refine wp_cond_false t8 ?_
  refine wp_skip ?_
  clear t8
  refine wp_seq ?_
  refine wi_ A (h1_ t1) (rv_ 0 (.pointer (some ⟨g1, 0, none⟩)) (fun a ee => execFldJ0 rfl (ee _)) (rv_ 1 (.agg (wC nw ev)) (fun a ee => execLdWm rfl (ee _) (row_at Fg1 rfl) (row_at Fg1 rfl)) (rv_ 2 (.pointer (some ⟨g1, 4, none⟩)) (fun a ee => execFldJ3 rfl (ee _)) (rv_ 3 (.int .i64 ep) (fun a ee => execLd2 rfl (ee _) (row_at Fg1 rfl)) (rv_ 4 (.pointer (some ⟨g1, 5, none⟩)) (fun a ee => execFldJ4 rfl (ee _)) (rv_ 5 (tgv) (fun a ee => execLdTs rfl (ee _) (row_at Fg1 rfl)) (rv_ 6 (.pointer (some ⟨g1, 3, none⟩)) (fun a ee => execFldJ2 rfl (ee _)) (rv_ 7 (.int .i64 rm) (fun a ee => execLd3 rfl (ee _) (row_at Fg1 rfl)) (rc_ 8 (eo ▸ raddW nw ep rm ev n nu tw ln t X1 tgv m tg (hW.on BB) hep hrm (hT.on BB) hm) fun e X3_1 hh => ?_)))))))))
  obtain ⟨⟨ev18, n18, nu18, tw18, ln18, tt18, he, hq, hk⟩, hb⟩ := hh
  refine ⟨_, he, ?_⟩
  have bQ : Below X1.heap.size X1 X3_1 := hb
  have FW18 : (NwE V.heap.size X3_1 ev18 n18 nu18 tw18 ln18 tt18) := hk.base (BB).size
  have FQ18 : (esL n18 nu18 ln18 tt18 = o.1.2) := hq
  replace Fg1 := (on9 Fg1 bQ)
  replace BB := BB.trans (bQ.mono BB.size)
  clear bQ
  obtain ⟨g3, egg3⟩ : ∃ z_ : Nat, X3_1.heap.size = z_ := ⟨_, rfl⟩
  refine rs_ 12 (fun a ee => ?_)
  refine stepV rfl rfl (execAllW rfl) ⟨.pointer (some ⟨g3, 0, none⟩), ⟨_, rfl, by subst egg3; rfl⟩, fun X3_2 hX => ?_⟩
  have bQ : Below X3_1.heap.size X3_1 X3_2 := by subst hX egg3; exact (belNew X3_1 _)
  have Fg3 : (X3_2.heap[g3]? = some (.cells (wC 0 (.slice none 0 0)) 25)) := by subst hX egg3; exact heapNew X3_1 _
  have FGg3 : (V.heap.size ≤ g3) := by subst hX egg3; exact (BB).size
  replace Fg1 := (on9 Fg1 bQ)
  replace FW18 := (FW18.on bQ)
  replace BB := BB.trans (bQ.mono BB.size)
  clear bQ hX egg3 ee a
  refine rs_ 13 (fun a ee => ?_)
  refine stepS rfl rfl (execStWn rfl (ee _) (ee _) Fg3 (slc_one (ownE_shp FW18.row))) ⟨_, ⟨_, rfl, rfl⟩, fun X3 hX => ?_⟩
  obtain ⟨BB, Fg1, FW18, Fg3s⟩ : Below V.heap.size V X3 ∧ (X3.heap[g1]? = some (.cells (jbC nw ev sp rm ep tgv mrv) 43)) ∧ (NwE V.heap.size X3 ev18 n18 nu18 tw18 ln18 tt18) ∧ (X3.heap[g3]? = some (.cells (wC o.1.1 ev18) 25)) := by subst hX; exact ⟨below4 BB FGg3 _, (by rw [setRow_other _ _ _ _ (ne_type Fg3 Fg1 (by decide))]; exact Fg1), (FW18).setW Fg3 (by decide) (by decide), setRow_heap _ _ _ _ _ _ Fg3⟩
  clear Fg3 hX ee a
  refine rf_ [(3, .pointer (some ⟨g3, 0, none⟩)), (4, .int .i64 ((o.2 : Nat) : Int))] (h1_ t1) ?_
  rintro a A ⟨t3, t4, -⟩ ⟨t1, -⟩
  refine wp_seq ?_
  refine wi_ A (h3_ t1 t3 t4) (rv_ 0 (.pointer (some ⟨g1, 0, none⟩)) (fun a ee => execFldJ0 rfl (ee _)) (rv_ 1 (.agg (wC nw ev)) (fun a ee => execLdWm rfl (ee _) (row_at Fg1 rfl) (row_at Fg1 rfl)) (rv_ 2 (.pointer (some ⟨g1, 4, none⟩)) (fun a ee => execFldJ3 rfl (ee _)) (rv_ 3 (.int .i64 ep) (fun a ee => execLd2 rfl (ee _) (row_at Fg1 rfl)) (rv_ 4 (.pointer (some ⟨g1, 5, none⟩)) (fun a ee => execFldJ4 rfl (ee _)) (rv_ 5 (tgv) (fun a ee => execLdTs rfl (ee _) (row_at Fg1 rfl)) (rv_ 6 (.pointer (some ⟨g1, 3, none⟩)) (fun a ee => execFldJ2 rfl (ee _)) (rv_ 7 (.int .i64 rm) (fun a ee => execLd3 rfl (ee _) (row_at Fg1 rfl)) (rc_ 8 (eo ▸ I.add nw ep rm ev n nu tw ln t X3 tgv m tg (hW.on BB) hep hrm (hT.on BB) hm) fun e X4_1 hh => ?_)))))))))
  obtain ⟨⟨ev30, n30, nu30, tw30, ln30, tt30, he, hq, hk⟩, hb⟩ := hh
  refine ⟨_, he, ?_⟩
  have bQ : Below X3.heap.size X3 X4_1 := hb
  have FW30 : (NwE V.heap.size X4_1 ev30 n30 nu30 tw30 ln30 tt30) := hk.base (BB).size
  have FQ30 : (esL n30 nu30 ln30 tt30 = o.1.2) := hq
  replace Fg1 := (on9 Fg1 bQ)
  replace FW18 := (FW18.on bQ)
  replace Fg3s := (on9 Fg3s bQ)
  replace BB := BB.trans (bQ.mono BB.size)
  clear bQ
  obtain ⟨g5, egg5⟩ : ∃ z_ : Nat, X4_1.heap.size = z_ := ⟨_, rfl⟩
  refine rs_ 12 (fun a ee => ?_)
  refine stepV rfl rfl (execAllW rfl) ⟨.pointer (some ⟨g5, 0, none⟩), ⟨_, rfl, by subst egg5; rfl⟩, fun X4_2 hX => ?_⟩
  have bQ : Below X4_1.heap.size X4_1 X4_2 := by subst hX egg5; exact (belNew X4_1 _)
  have Fg5 : (X4_2.heap[g5]? = some (.cells (wC 0 (.slice none 0 0)) 25)) := by subst hX egg5; exact heapNew X4_1 _
  have FGg5 : (V.heap.size ≤ g5) := by subst hX egg5; exact (BB).size
  have FNg3g5 : (g3 ≠ g5) := by subst hX egg5; exact ne16 Fg3s
  replace Fg1 := (on9 Fg1 bQ)
  replace FW18 := (FW18.on bQ)
  replace Fg3s := (on9 Fg3s bQ)
  replace FW30 := (FW30.on bQ)
  replace BB := BB.trans (bQ.mono BB.size)
  clear bQ hX egg5 ee a
  refine rs_ 13 (fun a ee => ?_)
  refine stepS rfl rfl (execStWn rfl (ee _) (ee _) Fg5 (slc_one (ownE_shp FW30.row))) ⟨_, ⟨_, rfl, rfl⟩, fun X4 hX => ?_⟩
  obtain ⟨BB, Fg1, FW18, Fg3s, FW30, Fg5s⟩ : Below V.heap.size V X4 ∧ (X4.heap[g1]? = some (.cells (jbC nw ev sp rm ep tgv mrv) 43)) ∧ (NwE V.heap.size X4 ev18 n18 nu18 tw18 ln18 tt18) ∧ (X4.heap[g3]? = some (.cells (wC o.1.1 ev18) 25)) ∧ (NwE V.heap.size X4 ev30 n30 nu30 tw30 ln30 tt30) ∧ (X4.heap[g5]? = some (.cells (wC o.1.1 ev30) 25)) := by subst hX; exact ⟨below4 BB FGg5 _, (by rw [setRow_other _ _ _ _ (ne_type Fg5 Fg1 (by decide))]; exact Fg1), (FW18).setW Fg5 (by decide) (by decide), (by rw [setRow_other _ _ _ _ FNg3g5]; exact Fg3s), (FW30).setW Fg5 (by decide) (by decide), setRow_heap _ _ _ _ _ _ Fg5⟩
  clear Fg5 hX ee a
  refine rf_ [(5, .pointer (some ⟨g5, 0, none⟩)), (6, .int .i64 ((o.2 : Nat) : Int))] (h2_ t3 t4) ?_
  rintro a A ⟨t5, t6, -⟩ ⟨t3, t4, -⟩
  refine wp_seq ?_
  refine wi_ A (h4_ t3 t4 t5 t6) (rv_ 2 (.bool true) (fun a ee => execDec (execEqN (p := o.2) (q := o.2) rfl (ee _) (ee _)) (decide_eq_true (by rfl))) (rv_ 4 (.agg (wC o.1.1 ev30)) (fun a ee => execLdWn rfl (ee _) Fg5s) (rv_ 5 (.agg (wC o.1.1 ev18)) (fun a ee => execLdWn rfl (ee _) Fg3s) (rc_ 6 (same16w o.1.1 X4 FW30.eps FW18.eps (FQ30.trans FQ18.symm)) (cb_ fun X5 bQ => ?_)))))
  replace Fg1 := (on9 Fg1 bQ)
  replace FW18 := (FW18.on bQ)
  replace Fg3s := (on9 Fg3s bQ)
  replace FW30 := (FW30.on bQ)
  replace Fg5s := (on9 Fg5s bQ)
  replace BB := BB.trans (bQ.mono BB.size)
  clear bQ
  refine rg_ [(2, .bool true)] ?_
  rintro a A ⟨t2, -⟩
  refine wp_ret ?_
  refine bodyPost_ret (results_tmp rfl _ _ _) A.2 ⟨?_, BB⟩
  show Ending.returned (a.eval (.tmp 2)) = _
  rw [t2]
end Go.Proofs.Ytijibdapooalcaa.Win
