import Derived.Test.YtijibdapooalcaaC9r
namespace Go.Proofs.Ytijibdapooalcaa.Win
open Go.RowKit Gf8 Aes By8 Cel Cf
/- WindowNames, WindowOpens, WindowAdds, WindowChecks over what the package keeps. Written by tools/mkC9s.py. -/

theorem eqB_iff {n : Nat} {f g : Nat → Nat} : eqB n f g = true ↔ ∀ j, j < n → f j = g j := by
  unfold eqB
  rw [List.all_eq_true]
  constructor
  · intro h j hj
    have := h j (List.mem_range.2 hj)
    simp at this
    omega
  · intro h j hj
    have := h j (List.mem_range.1 hj)
    simp [this]
theorem tv_inj {f g : Nat → Nat} (hf : ∀ i, i < 16 → f i < 256) (hg : ∀ i, i < 16 → g i < 256) (h : tv f 16 = tv g 16) : ∀ i, i < 16 → f i = g i := eqB_iff.1 (by rw [eqB_tv hf hg]; exact decide_eq_true h)
theorem tgL_at {n k : Nat} {t : Nat → Nat → Nat} (h : k < n) : (tgL n t)[k]? = some (tv (t k) 16) := by simp [tgL, h]
theorem tgL_eq {n m : Nat} {t s : Nat → Nat → Nat} (h : tgL n t = tgL m s) : n = m ∧ ∀ k, k < n → tv (t k) 16 = tv (s k) 16 := by
  have e : n = m := by have := congrArg List.length h; rw [len_tgL, len_tgL] at this; exact this
  subst e
  refine ⟨rfl, fun k hk => ?_⟩
  have := congrArg (fun l : List Nat => l[k]?) h
  simp only [tgL_at hk] at this
  exact Option.some.inj this
theorem esL_at {n j : Nat} {nu : Nat → Int} {ln : Nat → Nat} {t : Nat → Nat → Nat → Nat} (h : j < n) : (esL n nu ln t)[j]? = some (nu j, tgL (ln j) (t j)) := by simp [esL, h]
theorem esL_eq {n m : Nat} {nu mu : Nat → Int} {ln lm : Nat → Nat} {t s : Nat → Nat → Nat → Nat} (h : esL n nu ln t = esL m mu lm s) : n = m ∧ ∀ j, j < n → nu j = mu j ∧ ln j = lm j ∧ ∀ k, k < ln j → tv (t j k) 16 = tv (s j k) 16 := by
  have e : n = m := by have := congrArg List.length h; rw [esL_len, esL_len] at this; exact this
  subst e
  refine ⟨rfl, fun j hj => ?_⟩
  have := congrArg (fun l : List Ep => l[j]?) h
  simp only [esL_at hj] at this
  have q := Prod.mk.inj (Option.some.inj this)
  exact ⟨q.1, tgL_eq q.2⟩
theorem Eps.cg {W : World} {v : Value} {n : Nat} {nu mu : Nat → Int} {tw : Nat → Value} {ln lm : Nat → Nat} {t : Nat → Nat → Nat → Nat} (h : Eps W v n nu tw ln t) (h1 : ∀ j, j < n → nu j = mu j) (h2 : ∀ j, j < n → ln j = lm j) : Eps W v n mu tw lm t := by
  obtain ⟨⟨a, c, e, q1, q2, q3⟩, hl, hn⟩ := h
  refine ⟨⟨a, c, e, q1, q2, fun h0 => ?_⟩, fun j hj => by rw [← h2 j hj]; exact hl j hj, fun j hj => by rw [← h1 j hj]; exact hn j hj⟩
  obtain ⟨b, o, e1, e2, e3⟩ := q3 h0
  exact ⟨b, o, e1, e2, fun j hj => by rw [← h1 j hj]; exact e3 j hj⟩
theorem same16w (nw : Int) {ev fv : Value} {n m : Nat} {nu mu : Nat → Int} {tw uw : Nat → Value} {ln lm : Nat → Nat} {t s : Nat → Nat → Nat → Nat} (V : World) (hE : Eps V ev n nu tw ln t) (hF : Eps V fv m mu uw lm s) (h : esL n nu ln t = esL m mu lm s) : Calls Try.prog 18 #[.agg (wC nw ev), .agg (wC nw fv)] V fun e w' => e = .returned (.bool true) ∧ Below V.heap.size V w' := by
  obtain ⟨rfl, q⟩ := esL_eq h
  have hn : n < 9223372036854775808 := by obtain ⟨_, c, _, q1, q2, _⟩ := hE.shape; omega
  exact same16 nw ev fv n nu tw uw ln t s V hE (hF.cg (fun j hj => (q j hj).1.symm) (fun j hj => (q j hj).2.1.symm)) hn fun j hj k hk => tv_inj ((hE.lists j hj).byt k hk) (fun i hi => (hF.lists j hj).byt k (by rw [← (q j hj).2.1]; exact hk) i hi) ((q j hj).2.2 k hk)
section
variable {o : Oper} {a : Act} {w : World}
end
set_option maxRecDepth 100000 in
set_option maxHeartbeats 4000000 in
/-- WindowOpens. -/
theorem opens16 (I : Impl) (nw : Int) (ev : Value) (n : Nat) (nu : Nat → Int) (tw : Nat → Value) (ln : Nat → Nat) (t : Nat → Nat → Nat → Nat) (ep s : Int) (V : World) (hW : Wd V nw ev n nu tw ln t) (hep : I64 ep) (hs : I64 s) :
    Calls Try.prog 5 #[.agg (wC nw ev), .int .i64 ep, .int .i64 s] V fun e w' => e = .returned (.bool true) ∧ Below V.heap.size V w' := by
  go_enter Try.func5, Try.ntmps5
  obtain ⟨o, eo⟩ : ∃ o, wOpen (nw, esL n nu ln t) ep s = o := ⟨_, rfl⟩
  refine wo_ 35 [(0, .agg (wC nw ev)), (1, .int .i64 ep), (2, .int .i64 s)] ?_
  rintro a A ⟨t0, t1, t2, -⟩
  have BW : Below V.heap.size V V := Below.refl _ _
  have BB := BW
  refine wp_seq ?_
  obtain ⟨g3, egg3⟩ : ∃ z_ : Nat, V.heap.size = z_ := ⟨_, rfl⟩
  refine wi_ A (h3_ t0 t1 t2) (rs_ 0 (fun a ee => ?_))
  refine stepV rfl rfl (execBoxW rfl (ee _)) ⟨.pointer (some ⟨g3, 0, none⟩), ⟨_, rfl, by subst egg3; rfl⟩, fun X0 hX => ?_⟩
  have bQ : Below V.heap.size V X0 := by subst hX egg3; exact (belNew V _)
  have Fg3 : (X0.heap[g3]? = some (.cells (wC nw ev) 25)) := by subst hX egg3; exact heapNew V _
  replace BB := BB.trans (bQ.mono BB.size)
  clear bQ hX egg3 ee a
  refine rf_ [(3, .pointer (some ⟨g3, 0, none⟩))] (h2_ t1 t2) ?_
  rintro a A ⟨t3, -⟩ ⟨t1, t2, -⟩
  refine wp_seq ?_
  refine wp_seq ?_
  refine wi_ A (h3_ t1 t2 t3) (rc_ 0 (alive16 I X0) (cb_ fun X1 bQ => ?_))
  replace Fg3 := (on9 Fg3 bQ)
  replace BB := BB.trans (bQ.mono BB.size)
  clear bQ
  refine rv_ 1 (.bool false) (fun a ee => execNot8 (b := true) rfl (ee _)) (rf_ [(12, .bool false)] (h3_ t1 t2 t3) ?_)
  rintro a A ⟨t12, -⟩ ⟨t1, t2, t3, -⟩
  refine wp_cond_false t12 ?_
  refine wp_skip ?_
  clear t12
  refine wp_seq ?_
  refine wi_ A (h3_ t1 t2 t3) (rv_ 0 (.agg (wC nw ev)) (fun a ee => execLdWn rfl (ee _) Fg3) (rc_ 3 (eo ▸ ropenW nw ep s ev n nu tw ln t X1 (hW.on BB) hs hep) fun e X3_1 hh => ?_))
  obtain ⟨⟨ev17, n17, nu17, tw17, ln17, tt17, he, hq, hk⟩, hb⟩ := hh
  refine ⟨_, he, ?_⟩
  have bQ : Below X1.heap.size X1 X3_1 := hb
  have FW17 : (NwE V.heap.size X3_1 ev17 n17 nu17 tw17 ln17 tt17) := hk.base (BB).size
  have FQ17 : (esL n17 nu17 ln17 tt17 = o.1.2) := hq
  replace Fg3 := (on9 Fg3 bQ)
  replace BB := BB.trans (bQ.mono BB.size)
  clear bQ
  obtain ⟨g7, egg7⟩ : ∃ z_ : Nat, X3_1.heap.size = z_ := ⟨_, rfl⟩
  refine rs_ 7 (fun a ee => ?_)
  refine stepV rfl rfl (execAllW rfl) ⟨.pointer (some ⟨g7, 0, none⟩), ⟨_, rfl, by subst egg7; rfl⟩, fun X3_2 hX => ?_⟩
  have bQ : Below X3_1.heap.size X3_1 X3_2 := by subst hX egg7; exact (belNew X3_1 _)
  have Fg7 : (X3_2.heap[g7]? = some (.cells (wC 0 (.slice none 0 0)) 25)) := by subst hX egg7; exact heapNew X3_1 _
  have FGg7 : (V.heap.size ≤ g7) := by subst hX egg7; exact (BB).size
  have FNg3g7 : (g3 ≠ g7) := by subst hX egg7; exact ne16 Fg3
  replace Fg3 := (on9 Fg3 bQ)
  replace FW17 := (FW17.on bQ)
  replace BB := BB.trans (bQ.mono BB.size)
  clear bQ hX egg7 ee a
  refine rs_ 8 (fun a ee => ?_)
  refine stepS rfl rfl (execStWn rfl (ee _) (ee _) Fg7 (slc_one (ownE_shp FW17.row))) ⟨_, ⟨_, rfl, rfl⟩, fun X3 hX => ?_⟩
  obtain ⟨BB, Fg3, FW17, Fg7s⟩ : Below V.heap.size V X3 ∧ (X3.heap[g3]? = some (.cells (wC nw ev) 25)) ∧ (NwE V.heap.size X3 ev17 n17 nu17 tw17 ln17 tt17) ∧ (X3.heap[g7]? = some (.cells (wC o.1.1 ev17) 25)) := by subst hX; exact ⟨below4 BB FGg7 _, (by rw [setRow_other _ _ _ _ FNg3g7]; exact Fg3), (FW17).setW Fg7 (by decide) (by decide), setRow_heap _ _ _ _ _ _ Fg7⟩
  clear Fg7 hX ee a
  refine rf_ [(7, .pointer (some ⟨g7, 0, none⟩)), (8, .int .i64 ((o.2 : Nat) : Int))] (h3_ t1 t2 t3) ?_
  rintro a A ⟨t7, t8, -⟩ ⟨t1, t2, t3, -⟩
  refine wp_seq ?_
  refine wi_ A (h5_ t1 t2 t3 t7 t8) (rv_ 0 (.agg (wC nw ev)) (fun a ee => execLdWn rfl (ee _) Fg3) (rc_ 3 (eo ▸ I.open_ nw ep s ev n nu tw ln t X3 (hW.on BB) hs hep) fun e X4_1 hh => ?_))
  obtain ⟨⟨ev24, n24, nu24, tw24, ln24, tt24, he, hq, hk⟩, hb⟩ := hh
  refine ⟨_, he, ?_⟩
  have bQ : Below X3.heap.size X3 X4_1 := hb
  have FW24 : (NwE V.heap.size X4_1 ev24 n24 nu24 tw24 ln24 tt24) := hk.base (BB).size
  have FQ24 : (esL n24 nu24 ln24 tt24 = o.1.2) := hq
  replace Fg3 := (on9 Fg3 bQ)
  replace FW17 := (FW17.on bQ)
  replace Fg7s := (on9 Fg7s bQ)
  replace BB := BB.trans (bQ.mono BB.size)
  clear bQ
  obtain ⟨g9, egg9⟩ : ∃ z_ : Nat, X4_1.heap.size = z_ := ⟨_, rfl⟩
  refine rs_ 7 (fun a ee => ?_)
  refine stepV rfl rfl (execAllW rfl) ⟨.pointer (some ⟨g9, 0, none⟩), ⟨_, rfl, by subst egg9; rfl⟩, fun X4_2 hX => ?_⟩
  have bQ : Below X4_1.heap.size X4_1 X4_2 := by subst hX egg9; exact (belNew X4_1 _)
  have Fg9 : (X4_2.heap[g9]? = some (.cells (wC 0 (.slice none 0 0)) 25)) := by subst hX egg9; exact heapNew X4_1 _
  have FGg9 : (V.heap.size ≤ g9) := by subst hX egg9; exact (BB).size
  have FNg3g9 : (g3 ≠ g9) := by subst hX egg9; exact ne16 Fg3
  have FNg7g9 : (g7 ≠ g9) := by subst hX egg9; exact ne16 Fg7s
  replace Fg3 := (on9 Fg3 bQ)
  replace FW17 := (FW17.on bQ)
  replace Fg7s := (on9 Fg7s bQ)
  replace FW24 := (FW24.on bQ)
  replace BB := BB.trans (bQ.mono BB.size)
  clear bQ hX egg9 ee a
  refine rs_ 8 (fun a ee => ?_)
  refine stepS rfl rfl (execStWn rfl (ee _) (ee _) Fg9 (slc_one (ownE_shp FW24.row))) ⟨_, ⟨_, rfl, rfl⟩, fun X4 hX => ?_⟩
  obtain ⟨BB, Fg3, FW17, Fg7s, FW24, Fg9s⟩ : Below V.heap.size V X4 ∧ (X4.heap[g3]? = some (.cells (wC nw ev) 25)) ∧ (NwE V.heap.size X4 ev17 n17 nu17 tw17 ln17 tt17) ∧ (X4.heap[g7]? = some (.cells (wC o.1.1 ev17) 25)) ∧ (NwE V.heap.size X4 ev24 n24 nu24 tw24 ln24 tt24) ∧ (X4.heap[g9]? = some (.cells (wC o.1.1 ev24) 25)) := by subst hX; exact ⟨below4 BB FGg9 _, (by rw [setRow_other _ _ _ _ FNg3g9]; exact Fg3), (FW17).setW Fg9 (by decide) (by decide), (by rw [setRow_other _ _ _ _ FNg7g9]; exact Fg7s), (FW24).setW Fg9 (by decide) (by decide), setRow_heap _ _ _ _ _ _ Fg9⟩
  clear Fg9 hX ee a
  refine rf_ [(9, .pointer (some ⟨g9, 0, none⟩)), (10, .int .i64 ((o.2 : Nat) : Int))] (h2_ t7 t8) ?_
  rintro a A ⟨t9, t10, -⟩ ⟨t7, t8, -⟩
  refine wp_seq ?_
  refine wi_ A (h4_ t7 t8 t9 t10) (rv_ 2 (.bool true) (fun a ee => execDec (execEqN (p := o.2) (q := o.2) rfl (ee _) (ee _)) (decide_eq_true (by rfl))) (rv_ 4 (.agg (wC o.1.1 ev24)) (fun a ee => execLdWn rfl (ee _) Fg9s) (rv_ 5 (.agg (wC o.1.1 ev17)) (fun a ee => execLdWn rfl (ee _) Fg7s) (rc_ 6 (same16w o.1.1 X4 FW24.eps FW17.eps (FQ24.trans FQ17.symm)) (cb_ fun X5 bQ => ?_)))))
  replace Fg3 := (on9 Fg3 bQ)
  replace FW17 := (FW17.on bQ)
  replace Fg7s := (on9 Fg7s bQ)
  replace FW24 := (FW24.on bQ)
  replace Fg9s := (on9 Fg9s bQ)
  replace BB := BB.trans (bQ.mono BB.size)
  clear bQ
  refine rg_ [(6, .bool true)] ?_
  rintro a A ⟨t6, -⟩
  refine wp_ret ?_
  refine bodyPost_ret (results_tmp rfl _ _ _) A.2 ⟨?_, BB⟩
  show Ending.returned (a.eval (.tmp 6)) = _
  rw [t6]
end Go.Proofs.Ytijibdapooalcaa.Win
