import Derived.Test.YtmllfmnpcidkbaaT8a
namespace Go.Proofs.Ytmllfmnpcidkbaa.Loo
open Go.RowKit Gf8 Aes By8 Cel Cf Win Drw Prm
/- The log's ready and step. Written by tools/mkT8b.py. -/

theorem grC19 {W : World} {g k : Nat} {u : Value} : W.grownBy (W.setCell ⟨g, k, none⟩ u) (some g) := by
  have hb : Below g W (W.setCell ⟨g, k, none⟩ u) := (Below.refl _ _).setCell (p := ⟨g, k, none⟩) (Nat.le_refl _) u
  refine ⟨hb.os, hb.tape, hb.output, hb.size, fun b hbs hne => ?_⟩
  have hn : b ≠ g := fun e => hne (by rw [e])
  simp [World.setCell, Array.getElem?_modify, hn.symm]
theorem keep_over19 {W X : World} {B n g s : Nat} {v : Value} {xs : List Value} {t u : TypeId} {c : Array Value} (hg : W.heap[g]? = some (.cells c t)) (own : W.ownsRow B u s v n xs) (gr : W.grownBy X v.ownBlock) (ht : t ≠ u) : X.heap[g]? = some (.cells c t) := by
  rw [gr.block g (Array.getElem?_eq_some_iff.1 hg).1 (fun e => ?_)]
  · exact hg
  · rcases own.2 with ⟨e1, _⟩ | ⟨k, cap, cur, e1, _, hk, _⟩
    · rw [e1] at e; cases e
    · rw [e1] at e
      cases e
      rw [hg] at hk
      cases hk
      exact ht rfl
theorem gC_set0 {W : World} {g : Nat} {cv av dv u : Value} {t : TypeId} (h : W.heap[g]? = some (.cells (gC cv av dv) t)) : (W.setCell ⟨g, 0, none⟩ u).heap[g]? = some (.cells (gC u av dv) t) := heap4 _ h
theorem ca_up (l : List Nat) (z : Nat) : intsL (l.length + 1) (up (caF l) l.length ((z : Nat) : Int)) = intsL (l ++ [z]).length (caF (l ++ [z])) := by
  rw [List.length_append]
  refine intsL_congr fun j hj => ?_
  unfold caF
  by_cases e : j = l.length
  · rw [e, up_at]; simp
  · rw [up_ne _ _ e]
    congr 1
    have : j < l.length := by omega
    simp [List.getD_eq_getElem?_getD, List.getElem?_append_left this]
theorem nat_up (f : Nat → Nat) (t z n : Nat) : intsL n (fun j => if j = t then ((z : Nat) : Int) else natF f j) = intsL n (natF (upf f t z)) := by
  refine intsL_congr fun j _ => ?_
  unfold natF upf
  by_cases e : j = t
  · rw [if_pos e, if_pos e]
  · rw [if_neg e, if_neg e]
theorem sv_iff {F G : Nat → Prop} {V X : World} (h : Saved G V X) (e : ∀ b, F b ↔ G b) : Saved F V X := ⟨h.os, h.tape, h.output, h.size, fun k hk hn => h.block k hk (fun w => hn ((e k).2 w))⟩
theorem own_shpZ {W : World} {B n : Nat} {v : Value} {xs : List Value} {t : TypeId} {s : Nat} (h : W.ownsRow B t s v n xs) : ∃ ao c, v = .slice ao n c := by
  rcases h.2 with ⟨rfl, rfl⟩ | ⟨g, cap, cur, rfl, _⟩
  · exact ⟨_, _, rfl⟩
  · exact ⟨_, _, rfl⟩
theorem own_ca {W : World} {B : Nat} {v : Value} {l : List Nat} {z : Nat} (h : W.ownsRow B 3 1 v (l.length + 1) (intsL (l.length + 1) (up (caF l) l.length ((z : Nat) : Int)))) : W.ownsRow B 3 1 v (l ++ [z]).length (intsL (l ++ [z]).length (caF (l ++ [z]))) := by
  rw [← ca_up, List.length_append]
  exact h
theorem own_nat {W : World} {B n t z : Nat} {v : Value} {f : Nat → Nat} (h : W.ownsRow B 3 1 v n (intsL n (fun j => if j = t then ((z : Nat) : Int) else natF f j))) : W.ownsRow B 3 1 v n (intsL n (natF (upf f t z))) := by
  rw [← nat_up]
  exact h
/-- The log behind a call. -/
theorem lg_end {U V X : World} {F : Nat → Prop} {gl n ab ac db dc : Nat} {cv r2 : Value} {x : Lg} (hF : ∀ b, F b ↔ Lf gl cv (.slice (some ⟨ab, 0, none⟩) n ac) (.slice (some ⟨db, 0, none⟩) n dc) b) (hgB : U.heap.size ≤ gl)
    (FG : X.heap[gl]? = some (.cells (gC r2 (.slice (some ⟨ab, 0, none⟩) n ac) (.slice (some ⟨db, 0, none⟩) n dc)) 40)) (FC : X.ownsRow U.heap.size 3 1 r2 x.ca.length (intsL x.ca.length (caF x.ca))) (FA : X.ownsRow U.heap.size 3 1 (.slice (some ⟨ab, 0, none⟩) n ac) n (intsL n (natF x.ak))) (FD : X.ownsRow U.heap.size 3 1 (.slice (some ⟨db, 0, none⟩) n dc) n (intsL n (natF x.dn)))
    (had : ¬ ab = db) (Fra : ∀ b, r2.ownBlock = some b → b ≠ ab) (Frd : ∀ b, r2.ownBlock = some b → b ≠ db) (Fpl : ∀ b, r2.ownBlock = some b → cv.ownBlock = some b ∨ V.heap.size ≤ b) (FXs : Saved (Lf gl cv (.slice (some ⟨ab, 0, none⟩) n ac) (.slice (some ⟨db, 0, none⟩) n dc)) V X) :
    LgR U.heap.size X (Lf gl r2 (.slice (some ⟨ab, 0, none⟩) n ac) (.slice (some ⟨db, 0, none⟩) n dc)) gl n x ∧ Saved F V X ∧ ∀ q, Lf gl r2 (.slice (some ⟨ab, 0, none⟩) n ac) (.slice (some ⟨db, 0, none⟩) n dc) q → F q ∨ V.heap.size ≤ q := by
  refine ⟨⟨_, _, _, ⟨FG, hgB, FC, FA, FD, fun b h e => Fra b h (Option.some.inj e).symm, fun b h e => Frd b h (Option.some.inj e).symm, fun b h e => had (by have h1 : ab = b := Option.some.inj h; have h2 : db = b := Option.some.inj e; omega)⟩, fun b => Iff.rfl⟩, sv_iff FXs hF, ?_⟩
  rintro q (w | w | w | w)
  · exact Or.inl ((hF q).2 (Or.inl w))
  · rcases Fpl q w with z | z
    · exact Or.inl ((hF q).2 (Or.inr (Or.inl z)))
    · exact Or.inr z
  · exact Or.inl ((hF q).2 (Or.inr (Or.inr (Or.inl w))))
  · exact Or.inl ((hF q).2 (Or.inr (Or.inr (Or.inr w))))
theorem cell_up {W : World} {B n g cap t z : Nat} {f : Nat → Nat} (h : W.ownsRow B 3 1 (.slice (some ⟨g, 0, none⟩) n cap) n (intsL n (natF (upf f t z)))) (ht : t < n) : W.cell? ⟨g, 0 + t, none⟩ = some (.int .i64 ((z : Nat) : Int)) := by
  rw [(own_cellI h ht).1]
  unfold natF
  rw [upf_at]
set_option maxRecDepth 100000 in
set_option maxHeartbeats 4000000 in
/-- ready. -/
theorem lready_a (gl n : Nat) (sv : Value) (D : Sd) (t : Nat) (x : Lg) (F : Nat → Prop) (U V : World) (hUV : Below U.heap.size U V) (hR : LgR U.heap.size V F gl n x) (hP : ShL U sv D) (hn : n = D.n) (ht : t < n) (hn2 : n ≤ 1000) (hc : x.ca.length ≤ 1000000000) (hk2 : x.ak t ≤ 1000000000) (hk : x.ak t < D.na t) :
    Calls Try.prog 11 #[.pointer (some ⟨gl, 0, none⟩), sv, .int .i64 ((t : Nat) : Int)] V fun e w' => ∃ F', e = .returned (.bool (rdA D x t).1) ∧ (LgR U.heap.size w' F' gl n (rdA D x t).2 ∧ Saved F V w' ∧ ∀ q, F' q → F q ∨ V.heap.size ≤ q) ∧ Below U.heap.size U w' := by
  obtain ⟨cv, av, dv, hM, hF⟩ := hR
  obtain ⟨ab, ac, ea, -, -⟩ := ownL_some9 hM.oa (show 0 < n by omega)
  obtain ⟨db, dc, ed, -, -⟩ := ownL_some9 hM.od (show 0 < n by omega)
  subst ea ed
  obtain ⟨FG, hgB, FC, FA, FD, hca, hcd, had0⟩ := hM
  have had : ¬ ab = db := fun e => had0 ab rfl (by rw [e]; rfl)
  obtain ⟨pb, po, pc, y, es, hpb, hyb, hpc⟩ := hP.at (show 0 < D.n by omega)
  have cP : ∀ X, Below U.heap.size U X → X.cell? ⟨pb, po + t * 4, none⟩ = some (y t) ∧ X.cell? ⟨pb, po + t * 4 + 1, none⟩ = some (.bool (D.th t)) ∧ X.cell? ⟨pb, po + t * 4 + 2, none⟩ = some (.int .i64 (D.la t)) ∧ X.cell? ⟨pb, po + t * 4 + 3, none⟩ = some (.bool (D.nr t)) := fun X hX => by
    rw [cell_below hX hpb, cell_below hX hpb, cell_below hX hpb, cell_below hX hpb]
    exact hpc t (by omega)
  obtain ⟨ya, yc, ey0, hys⟩ := hyb t (by omega)
  obtain ⟨yb, yo, eya, hyl0, hyc0⟩ := hys (by omega)
  have ey : y t = .slice (some ⟨yb, yo, none⟩) (D.na t) yc := by rw [ey0, eya]
  have hyl : x.ak t + 1 - 1 < D.na t := by omega
  have hyc : ∀ X, Below U.heap.size U X → X.cell? ⟨yb, yo + (x.ak t + 1 - 1), none⟩ = some (.bool (D.an t (x.ak t + 1 - 1))) := fun X hX => by rw [cell_below hX hyl0]; exact hyc0 _ hyl
  go_enter Try.func11, Try.ntmps11
  refine wo_ 61 [(0, .pointer (some ⟨gl, 0, none⟩)), (1, sv), (2, .int .i64 ((t : Nat) : Int))] ?_
  rintro a A ⟨t0, t1, t2, -⟩
  have BB := hUV
  have FXs := Saved.refl (Lf gl cv (.slice (some ⟨ab, 0, none⟩) n ac) (.slice (some ⟨db, 0, none⟩) n dc)) V
  refine wp_seq ?_
  refine wi_ A (h3_ t0 t1 t2) (rf_ [] (h3_ t0 t1 t2) ?_)
  rintro a A - ⟨t0, t1, t2, -⟩
  refine wp_seq ?_
  obtain ⟨gs, eggs⟩ : ∃ z_ : Nat, V.heap.size = z_ := ⟨_, rfl⟩
  refine wi_ A (h3_ t0 t1 t2) (rv_ 2 (.pointer (some ⟨gl, 0, none⟩)) (fun a ee => execNlm rfl (ee _)) (rv_ 3 (.pointer (some ⟨gl, 0, none⟩)) (fun a ee => execFg0 rfl (ee _)) (rv_ 4 (cv) (fun a ee => execLm rfl (Or.inr (Or.inr (Or.inl rfl))) (ee _) (gC_at FG).1) (rv_ 6 (.int .i64 ((2 * t : Nat) : Int)) (fun a ee => execMul2 (p := t) rfl (ee _) (by omega)) (rs_ 7 (fun a ee => ?_))))))
  refine stepV rfl rfl (execBs1 rfl (ee _)) ⟨.slice (some ⟨gs, 0, none⟩) 1 1, ⟨_, rfl, by subst eggs; rfl⟩, fun X1_1 hX => ?_⟩
  have bQ : Below V.heap.size V X1_1 := by subst hX eggs; exact (belNew V _)
  have Fs : (X1_1.heap[gs]? = some (.cells #[.int .i64 ((2 * t : Nat) : Int)] 3)) := by subst hX eggs; exact heapNew V _
  replace FG := (on9 FG bQ)
  replace FC := (ownD_below FC bQ)
  replace FA := (ownD_below FA bQ)
  replace FD := (ownD_below FD bQ)
  replace FXs := (FXs.below bQ FXs.size)
  replace BB := BB.trans (bQ.mono BB.size)
  clear bQ hX eggs ee a
  refine rs_ 8 (fun a ee => ?_)
  refine stepAppIP (f := caF x.ca) (z := ((2 * t : Nat) : Int)) rfl rfl rfl (ee _) (ee _) FC Fs (by omega) (BB).size fun r2 X1_2 own' gr hpl => ⟨_, ⟨_, rfl, rfl⟩, eqw ?_⟩
  obtain ⟨BB, FG, FA, FD, FXs, FC2, Fpl, Fra, Frd⟩ : Below U.heap.size U X1_2 ∧ (X1_2.heap[gl]? = some (.cells (gC cv (.slice (some ⟨ab, 0, none⟩) n ac) (.slice (some ⟨db, 0, none⟩) n dc)) 40)) ∧ (X1_2.ownsRow U.heap.size 3 1 (.slice (some ⟨ab, 0, none⟩) n ac) n (intsL n (natF x.ak))) ∧ (X1_2.ownsRow U.heap.size 3 1 (.slice (some ⟨db, 0, none⟩) n dc) n (intsL n (natF x.dn))) ∧ (Saved (Lf gl cv (.slice (some ⟨ab, 0, none⟩) n ac) (.slice (some ⟨db, 0, none⟩) n dc)) V X1_2) ∧ (X1_2.ownsRow U.heap.size 3 1 r2 (x.ca ++ [2 * t]).length (intsL (x.ca ++ [2 * t]).length (caF (x.ca ++ [2 * t])))) ∧ (∀ b, r2.ownBlock = some b → cv.ownBlock = some b ∨ V.heap.size ≤ b) ∧ (∀ b, r2.ownBlock = some b → b ≠ ab) ∧ (∀ b, r2.ownBlock = some b → b ≠ db) := ⟨(BB).grown gr (BB).size (fun k hk => (FC.lt k hk).1), (keep_over19 FG FC gr (by decide)), (ownW_grown FA gr (fun k hk e => hca k e hk)), (ownW_grown FD gr (fun k hk e => hcd k e hk)), (FXs.grown gr (fun k hk => Or.inr (Or.inr (Or.inl hk)))), (own_ca own'), fun b hb => (hpl b hb).imp id (fun w => Nat.le_trans FXs.size w), fun b hb e => (hpl b hb).elim (fun w => hca b w (e ▸ rfl)) (fun w => by have := (FA.lt ab rfl).2; omega), fun b hb e => (hpl b hb).elim (fun w => hcd b w (e ▸ rfl)) (fun w => by have := (FD.lt db rfl).2; omega)⟩
  clear FC Fs ee a
  refine rv_ 9 (.pointer (some ⟨gl, 0, none⟩)) (fun a ee => execNlm rfl (ee _)) (rv_ 10 (.pointer (some ⟨gl, 0, none⟩)) (fun a ee => execFg0 rfl (ee _)) (rs_ 11 (fun a ee => ?_)))
  refine stepS rfl rfl (execSm rfl (Or.inr (Or.inr (Or.inl rfl))) (ee _) (ee _) (Or.inr (Or.inr (Or.inl (sl3 (own_shpZ FC2))))) (gC_at FG).1 (frozen4 FG)) ⟨_, ⟨_, rfl, rfl⟩, fun X1 hX => ?_⟩
  obtain ⟨BB, FA, FD, FXs, FC2, FG2⟩ : Below U.heap.size U X1 ∧ (X1.ownsRow U.heap.size 3 1 (.slice (some ⟨ab, 0, none⟩) n ac) n (intsL n (natF x.ak))) ∧ (X1.ownsRow U.heap.size 3 1 (.slice (some ⟨db, 0, none⟩) n dc) n (intsL n (natF x.dn))) ∧ (Saved (Lf gl cv (.slice (some ⟨ab, 0, none⟩) n ac) (.slice (some ⟨db, 0, none⟩) n dc)) V X1) ∧ (X1.ownsRow U.heap.size 3 1 r2 (x.ca ++ [2 * t]).length (intsL (x.ca ++ [2 * t]).length (caF (x.ca ++ [2 * t])))) ∧ (X1.heap[gl]? = some (.cells (gC r2 (.slice (some ⟨ab, 0, none⟩) n ac) (.slice (some ⟨db, 0, none⟩) n dc)) 40)) := by subst hX; exact ⟨(BB).setCell (p := ⟨gl, 0, none⟩) hgB _, (ownG_T FA FG (by decide) grC19), (ownG_T FD FG (by decide) grC19), (FXs.cell _ (Or.inr (Or.inl rfl))), (ownG_T FC2 FG (by decide) grC19), gC_set0 FG⟩
  clear FG hX ee a
  refine rf_ [] (h3_ t0 t1 t2) ?_
  rintro a A - ⟨t0, t1, t2, -⟩
  refine wp_seq ?_
  refine wi_ A (h3_ t0 t1 t2) (rv_ 1 (.pointer (some ⟨gl, 0, none⟩)) (fun a ee => execNlm rfl (ee _)) (rv_ 2 (.pointer (some ⟨gl, 1, none⟩)) (fun a ee => execFg1 rfl (ee _)) (rv_ 3 (.slice (some ⟨ab, 0, none⟩) n ac) (fun a ee => execLm rfl (Or.inr (Or.inr (Or.inl rfl))) (ee _) (gC_at FG2).2.1) (rv_ 5 (.pointer (some ⟨ab, 0 + t, none⟩)) (fun a ee => execIdxN (k := t) rfl (ee _) (ee _) ht) (rv_ 6 (.int .i64 ((x.ak t : Nat) : Int)) (fun a ee => execLm rfl (Or.inl rfl) (ee _) (own_cellI FA ht).1) (rv_ 7 (.int .i64 ((x.ak t + 1 : Nat) : Int)) (fun a ee => execAd8 (p := x.ak t) (q := 1) rfl (ee _) rfl (by omega)) (rv_ 8 (.pointer (some ⟨ab, 0 + t, none⟩)) (fun a ee => execIdxN (k := t) rfl (ee _) (ee _) ht) (rs_ 9 (fun a ee => ?_)))))))))
  obtain ⟨hc_, hf_⟩ := own_cellI FA ht
  refine stepS rfl rfl (execSm rfl (Or.inl rfl) (ee _) (ee _) (Or.inl ⟨_, rfl⟩) hc_ hf_) ⟨_, ⟨_, rfl, rfl⟩, fun X2 hX => ?_⟩
  obtain ⟨BB, FD, FXs, FC2, FG2, FA2⟩ : Below U.heap.size U X2 ∧ (X2.ownsRow U.heap.size 3 1 (.slice (some ⟨db, 0, none⟩) n dc) n (intsL n (natF x.dn))) ∧ (Saved (Lf gl cv (.slice (some ⟨ab, 0, none⟩) n ac) (.slice (some ⟨db, 0, none⟩) n dc)) V X2) ∧ (X2.ownsRow U.heap.size 3 1 r2 (x.ca ++ [2 * t]).length (intsL (x.ca ++ [2 * t]).length (caF (x.ca ++ [2 * t])))) ∧ (X2.heap[gl]? = some (.cells (gC r2 (.slice (some ⟨ab, 0, none⟩) n ac) (.slice (some ⟨db, 0, none⟩) n dc)) 40)) ∧ (X2.ownsRow U.heap.size 3 1 (.slice (some ⟨ab, 0, none⟩) n ac) n (intsL n (natF (upf x.ak t (x.ak t + 1))))) := by subst hX; exact ⟨(BB).setCell (FA.lt ab rfl).1 _, (ownW_grown FD (grC19 (g := ab)) (fun k hk e => by cases hk; cases e; exact had rfl)), (FXs.cell _ (Or.inr (Or.inr (Or.inr (Or.inl rfl))))), (ownW_grown FC2 (grC19 (g := ab)) (fun k hk e => Fra k hk (Option.some.inj e).symm)), (keep_over19 FG2 FA (grC19 (g := ab)) (by decide)), (own_nat (own_set19 _ FA))⟩
  clear FA hX ee a
  refine rf_ [] (h3_ t0 t1 t2) ?_
  rintro a A - ⟨t0, t1, t2, -⟩
  refine wp_seq ?_
  refine wp_seq ?_
  refine wj_ [0, 1, 2, 3, 4, 5, 6, 7, 8, 9, 10, 11, 12, 13] [] [3, 6, 11] [] A (h3_ t0 t1 t2) (fun X3 bD => ?_)
  refine dw_ 1 (.pointer (some ⟨gl, 0, none⟩)) (fun a X ee => execNlm rfl (ee _)) (dw_ 2 (.pointer (some ⟨gl, 1, none⟩)) (fun a X ee => execFg1 rfl (ee _)) (dv_ 3 (.slice (some ⟨ab, 0, none⟩) n ac) (fun a X ee hb => execLm rfl (Or.inr (Or.inr (Or.inl rfl))) (ee _) (gC_at (on9 FG2 hb)).2.1) (dw_ 5 (.pointer (some ⟨ab, 0 + t, none⟩)) (fun a X ee => execIdxN (k := t) rfl (ee _) (ee _) ht) (dv_ 6 (.int .i64 ((x.ak t + 1 : Nat) : Int)) (fun a X ee hb => execLm rfl (Or.inl rfl) (ee _) (cell_up (ownD_below FA2 hb) ht)) (dw_ 9 (.pointer (some ⟨pb, po + t * 4, none⟩)) (fun a X ee => execIxM (k := t) rfl ((ee _).trans es) (ee _) (show t < D.n by omega)) (dw_ 10 (.pointer (some ⟨pb, po + t * 4, none⟩)) (fun a X ee => execFm0 rfl (ee _)) (dv_ 11 (y t) (fun a X ee hb => execLm rfl (Or.inr (Or.inr (Or.inr (Or.inl rfl)))) (ee _) (cP X (BB.trans (hb.mono BB.size))).1) (dw_ 12 (.int .i64 ((D.na t : Nat) : Int)) (fun a X ee => execLnM (len := D.na t) rfl (Or.inr rfl) (ee _) (hyb t (by omega)).shp) (dw_ 13 (.bool true) (fun a X ee => execDec (exIleq3 (p := ((x.ak t + 1 : Nat) : Int)) (q := ((D.na t : Nat) : Int)) rfl (ee _) (ee _)) (decide_eq_true (by omega))) (dz_ [(40, .bool true)] (h3_ t0 t1 t2) ?_))))))))))
  rintro a A ⟨t40, -⟩ ⟨t0, t1, t2, -⟩
  replace FD := (ownD_below FD bD)
  replace FXs := (FXs.below bD FXs.size)
  replace FC2 := (ownD_below FC2 bD)
  replace FG2 := (on9 FG2 bD)
  replace FA2 := (ownD_below FA2 bD)
  replace BB := BB.trans (bD.mono BB.size)
  clear bD
  refine wp_cond_true t40 ?_
  clear t40
  refine wp_seq ?_
  refine wj_ [0, 1, 2, 3, 4, 5, 6, 7, 8, 9, 10, 11, 12, 13, 14, 15] [] [4, 8, 11, 14] [] A (h3_ t0 t1 t2) (fun X4 bD => ?_)
  refine dw_ 2 (.pointer (some ⟨pb, po + t * 4, none⟩)) (fun a X ee => execIxM (k := t) rfl ((ee _).trans es) (ee _) (show t < D.n by omega)) (dw_ 3 (.pointer (some ⟨pb, po + t * 4, none⟩)) (fun a X ee => execFm0 rfl (ee _)) (dv_ 4 (y t) (fun a X ee hb => execLm rfl (Or.inr (Or.inr (Or.inr (Or.inl rfl)))) (ee _) (cP X (BB.trans (hb.mono BB.size))).1) (dw_ 6 (.pointer (some ⟨gl, 0, none⟩)) (fun a X ee => execNlm rfl (ee _)) (dw_ 7 (.pointer (some ⟨gl, 1, none⟩)) (fun a X ee => execFg1 rfl (ee _)) (dv_ 8 (.slice (some ⟨ab, 0, none⟩) n ac) (fun a X ee hb => execLm rfl (Or.inr (Or.inr (Or.inl rfl))) (ee _) (gC_at (on9 FG2 hb)).2.1) (dw_ 10 (.pointer (some ⟨ab, 0 + t, none⟩)) (fun a X ee => execIdxN (k := t) rfl (ee _) (ee _) ht) (dv_ 11 (.int .i64 ((x.ak t + 1 : Nat) : Int)) (fun a X ee hb => execLm rfl (Or.inl rfl) (ee _) (cell_up (ownD_below FA2 hb) ht)) (dw_ 12 (.int .i64 ((x.ak t + 1 - 1 : Nat) : Int)) (fun a X ee => By8.execSubI (p := x.ak t + 1) (q := 1) rfl (ee _) rfl (by omega) (by omega)) (dw_ 13 (.pointer (some ⟨yb, yo + (x.ak t + 1 - 1), none⟩)) (fun a X ee => execIxBo (k := x.ak t + 1 - 1) rfl ((ee _).trans ey) (ee _) hyl) (dv_ 14 (.bool (D.an t (x.ak t + 1 - 1))) (fun a X ee hb => execLm rfl (Or.inr (Or.inl rfl)) (ee _) (hyc X (BB.trans (hb.mono BB.size)))) (dy_ [(6, .bool (D.an t (x.ak t + 1 - 1)))] ?_)))))))))))
  rintro a A ⟨t6, -⟩
  replace FD := (ownD_below FD bD)
  replace FXs := (FXs.below bD FXs.size)
  replace FC2 := (ownD_below FC2 bD)
  replace FG2 := (on9 FG2 bD)
  replace FA2 := (ownD_below FA2 bD)
  replace BB := BB.trans (bD.mono BB.size)
  clear bD
  have hE := lg_end (x := (rdA D x t).2) hF hgB FG2 FC2 FA2 FD had Fra Frd Fpl FXs
  refine wp_ret ?_
  repeat (first | with_reducible refine ret_in ?_ | with_reducible refine ret_then ?_)
  refine bodyPost_ret (results_tmp rfl _ _ _) A.2 ⟨_, ?_, hE, BB⟩
  show Ending.returned (a.eval (.tmp 6)) = _
  rw [t6]
  show Ending.returned (.bool (D.an t (x.ak t + 1 - 1))) = .returned (.bool (if x.ak t < D.na t then D.an t (x.ak t) else D.th t))
  rw [if_pos hk, Nat.add_sub_cancel]
set_option maxRecDepth 100000 in
set_option maxHeartbeats 4000000 in
/-- ready. -/
theorem lready_t (gl n : Nat) (sv : Value) (D : Sd) (t : Nat) (x : Lg) (F : Nat → Prop) (U V : World) (hUV : Below U.heap.size U V) (hR : LgR U.heap.size V F gl n x) (hP : ShL U sv D) (hn : n = D.n) (ht : t < n) (hn2 : n ≤ 1000) (hc : x.ca.length ≤ 1000000000) (hk2 : x.ak t ≤ 1000000000) (hk : ¬ x.ak t < D.na t) :
    Calls Try.prog 11 #[.pointer (some ⟨gl, 0, none⟩), sv, .int .i64 ((t : Nat) : Int)] V fun e w' => ∃ F', e = .returned (.bool (rdA D x t).1) ∧ (LgR U.heap.size w' F' gl n (rdA D x t).2 ∧ Saved F V w' ∧ ∀ q, F' q → F q ∨ V.heap.size ≤ q) ∧ Below U.heap.size U w' := by
  obtain ⟨cv, av, dv, hM, hF⟩ := hR
  obtain ⟨ab, ac, ea, -, -⟩ := ownL_some9 hM.oa (show 0 < n by omega)
  obtain ⟨db, dc, ed, -, -⟩ := ownL_some9 hM.od (show 0 < n by omega)
  subst ea ed
  obtain ⟨FG, hgB, FC, FA, FD, hca, hcd, had0⟩ := hM
  have had : ¬ ab = db := fun e => had0 ab rfl (by rw [e]; rfl)
  obtain ⟨pb, po, pc, y, es, hpb, hyb, hpc⟩ := hP.at (show 0 < D.n by omega)
  have cP : ∀ X, Below U.heap.size U X → X.cell? ⟨pb, po + t * 4, none⟩ = some (y t) ∧ X.cell? ⟨pb, po + t * 4 + 1, none⟩ = some (.bool (D.th t)) ∧ X.cell? ⟨pb, po + t * 4 + 2, none⟩ = some (.int .i64 (D.la t)) ∧ X.cell? ⟨pb, po + t * 4 + 3, none⟩ = some (.bool (D.nr t)) := fun X hX => by
    rw [cell_below hX hpb, cell_below hX hpb, cell_below hX hpb, cell_below hX hpb]
    exact hpc t (by omega)
  go_enter Try.func11, Try.ntmps11
  refine wo_ 61 [(0, .pointer (some ⟨gl, 0, none⟩)), (1, sv), (2, .int .i64 ((t : Nat) : Int))] ?_
  rintro a A ⟨t0, t1, t2, -⟩
  have BB := hUV
  have FXs := Saved.refl (Lf gl cv (.slice (some ⟨ab, 0, none⟩) n ac) (.slice (some ⟨db, 0, none⟩) n dc)) V
  refine wp_seq ?_
  refine wi_ A (h3_ t0 t1 t2) (rf_ [] (h3_ t0 t1 t2) ?_)
  rintro a A - ⟨t0, t1, t2, -⟩
  refine wp_seq ?_
  obtain ⟨gs, eggs⟩ : ∃ z_ : Nat, V.heap.size = z_ := ⟨_, rfl⟩
  refine wi_ A (h3_ t0 t1 t2) (rv_ 2 (.pointer (some ⟨gl, 0, none⟩)) (fun a ee => execNlm rfl (ee _)) (rv_ 3 (.pointer (some ⟨gl, 0, none⟩)) (fun a ee => execFg0 rfl (ee _)) (rv_ 4 (cv) (fun a ee => execLm rfl (Or.inr (Or.inr (Or.inl rfl))) (ee _) (gC_at FG).1) (rv_ 6 (.int .i64 ((2 * t : Nat) : Int)) (fun a ee => execMul2 (p := t) rfl (ee _) (by omega)) (rs_ 7 (fun a ee => ?_))))))
  refine stepV rfl rfl (execBs1 rfl (ee _)) ⟨.slice (some ⟨gs, 0, none⟩) 1 1, ⟨_, rfl, by subst eggs; rfl⟩, fun X1_1 hX => ?_⟩
  have bQ : Below V.heap.size V X1_1 := by subst hX eggs; exact (belNew V _)
  have Fs : (X1_1.heap[gs]? = some (.cells #[.int .i64 ((2 * t : Nat) : Int)] 3)) := by subst hX eggs; exact heapNew V _
  replace FG := (on9 FG bQ)
  replace FC := (ownD_below FC bQ)
  replace FA := (ownD_below FA bQ)
  replace FD := (ownD_below FD bQ)
  replace FXs := (FXs.below bQ FXs.size)
  replace BB := BB.trans (bQ.mono BB.size)
  clear bQ hX eggs ee a
  refine rs_ 8 (fun a ee => ?_)
  refine stepAppIP (f := caF x.ca) (z := ((2 * t : Nat) : Int)) rfl rfl rfl (ee _) (ee _) FC Fs (by omega) (BB).size fun r2 X1_2 own' gr hpl => ⟨_, ⟨_, rfl, rfl⟩, eqw ?_⟩
  obtain ⟨BB, FG, FA, FD, FXs, FC2, Fpl, Fra, Frd⟩ : Below U.heap.size U X1_2 ∧ (X1_2.heap[gl]? = some (.cells (gC cv (.slice (some ⟨ab, 0, none⟩) n ac) (.slice (some ⟨db, 0, none⟩) n dc)) 40)) ∧ (X1_2.ownsRow U.heap.size 3 1 (.slice (some ⟨ab, 0, none⟩) n ac) n (intsL n (natF x.ak))) ∧ (X1_2.ownsRow U.heap.size 3 1 (.slice (some ⟨db, 0, none⟩) n dc) n (intsL n (natF x.dn))) ∧ (Saved (Lf gl cv (.slice (some ⟨ab, 0, none⟩) n ac) (.slice (some ⟨db, 0, none⟩) n dc)) V X1_2) ∧ (X1_2.ownsRow U.heap.size 3 1 r2 (x.ca ++ [2 * t]).length (intsL (x.ca ++ [2 * t]).length (caF (x.ca ++ [2 * t])))) ∧ (∀ b, r2.ownBlock = some b → cv.ownBlock = some b ∨ V.heap.size ≤ b) ∧ (∀ b, r2.ownBlock = some b → b ≠ ab) ∧ (∀ b, r2.ownBlock = some b → b ≠ db) := ⟨(BB).grown gr (BB).size (fun k hk => (FC.lt k hk).1), (keep_over19 FG FC gr (by decide)), (ownW_grown FA gr (fun k hk e => hca k e hk)), (ownW_grown FD gr (fun k hk e => hcd k e hk)), (FXs.grown gr (fun k hk => Or.inr (Or.inr (Or.inl hk)))), (own_ca own'), fun b hb => (hpl b hb).imp id (fun w => Nat.le_trans FXs.size w), fun b hb e => (hpl b hb).elim (fun w => hca b w (e ▸ rfl)) (fun w => by have := (FA.lt ab rfl).2; omega), fun b hb e => (hpl b hb).elim (fun w => hcd b w (e ▸ rfl)) (fun w => by have := (FD.lt db rfl).2; omega)⟩
  clear FC Fs ee a
  refine rv_ 9 (.pointer (some ⟨gl, 0, none⟩)) (fun a ee => execNlm rfl (ee _)) (rv_ 10 (.pointer (some ⟨gl, 0, none⟩)) (fun a ee => execFg0 rfl (ee _)) (rs_ 11 (fun a ee => ?_)))
  refine stepS rfl rfl (execSm rfl (Or.inr (Or.inr (Or.inl rfl))) (ee _) (ee _) (Or.inr (Or.inr (Or.inl (sl3 (own_shpZ FC2))))) (gC_at FG).1 (frozen4 FG)) ⟨_, ⟨_, rfl, rfl⟩, fun X1 hX => ?_⟩
  obtain ⟨BB, FA, FD, FXs, FC2, FG2⟩ : Below U.heap.size U X1 ∧ (X1.ownsRow U.heap.size 3 1 (.slice (some ⟨ab, 0, none⟩) n ac) n (intsL n (natF x.ak))) ∧ (X1.ownsRow U.heap.size 3 1 (.slice (some ⟨db, 0, none⟩) n dc) n (intsL n (natF x.dn))) ∧ (Saved (Lf gl cv (.slice (some ⟨ab, 0, none⟩) n ac) (.slice (some ⟨db, 0, none⟩) n dc)) V X1) ∧ (X1.ownsRow U.heap.size 3 1 r2 (x.ca ++ [2 * t]).length (intsL (x.ca ++ [2 * t]).length (caF (x.ca ++ [2 * t])))) ∧ (X1.heap[gl]? = some (.cells (gC r2 (.slice (some ⟨ab, 0, none⟩) n ac) (.slice (some ⟨db, 0, none⟩) n dc)) 40)) := by subst hX; exact ⟨(BB).setCell (p := ⟨gl, 0, none⟩) hgB _, (ownG_T FA FG (by decide) grC19), (ownG_T FD FG (by decide) grC19), (FXs.cell _ (Or.inr (Or.inl rfl))), (ownG_T FC2 FG (by decide) grC19), gC_set0 FG⟩
  clear FG hX ee a
  refine rf_ [] (h3_ t0 t1 t2) ?_
  rintro a A - ⟨t0, t1, t2, -⟩
  refine wp_seq ?_
  refine wi_ A (h3_ t0 t1 t2) (rv_ 1 (.pointer (some ⟨gl, 0, none⟩)) (fun a ee => execNlm rfl (ee _)) (rv_ 2 (.pointer (some ⟨gl, 1, none⟩)) (fun a ee => execFg1 rfl (ee _)) (rv_ 3 (.slice (some ⟨ab, 0, none⟩) n ac) (fun a ee => execLm rfl (Or.inr (Or.inr (Or.inl rfl))) (ee _) (gC_at FG2).2.1) (rv_ 5 (.pointer (some ⟨ab, 0 + t, none⟩)) (fun a ee => execIdxN (k := t) rfl (ee _) (ee _) ht) (rv_ 6 (.int .i64 ((x.ak t : Nat) : Int)) (fun a ee => execLm rfl (Or.inl rfl) (ee _) (own_cellI FA ht).1) (rv_ 7 (.int .i64 ((x.ak t + 1 : Nat) : Int)) (fun a ee => execAd8 (p := x.ak t) (q := 1) rfl (ee _) rfl (by omega)) (rv_ 8 (.pointer (some ⟨ab, 0 + t, none⟩)) (fun a ee => execIdxN (k := t) rfl (ee _) (ee _) ht) (rs_ 9 (fun a ee => ?_)))))))))
  obtain ⟨hc_, hf_⟩ := own_cellI FA ht
  refine stepS rfl rfl (execSm rfl (Or.inl rfl) (ee _) (ee _) (Or.inl ⟨_, rfl⟩) hc_ hf_) ⟨_, ⟨_, rfl, rfl⟩, fun X2 hX => ?_⟩
  obtain ⟨BB, FD, FXs, FC2, FG2, FA2⟩ : Below U.heap.size U X2 ∧ (X2.ownsRow U.heap.size 3 1 (.slice (some ⟨db, 0, none⟩) n dc) n (intsL n (natF x.dn))) ∧ (Saved (Lf gl cv (.slice (some ⟨ab, 0, none⟩) n ac) (.slice (some ⟨db, 0, none⟩) n dc)) V X2) ∧ (X2.ownsRow U.heap.size 3 1 r2 (x.ca ++ [2 * t]).length (intsL (x.ca ++ [2 * t]).length (caF (x.ca ++ [2 * t])))) ∧ (X2.heap[gl]? = some (.cells (gC r2 (.slice (some ⟨ab, 0, none⟩) n ac) (.slice (some ⟨db, 0, none⟩) n dc)) 40)) ∧ (X2.ownsRow U.heap.size 3 1 (.slice (some ⟨ab, 0, none⟩) n ac) n (intsL n (natF (upf x.ak t (x.ak t + 1))))) := by subst hX; exact ⟨(BB).setCell (FA.lt ab rfl).1 _, (ownW_grown FD (grC19 (g := ab)) (fun k hk e => by cases hk; cases e; exact had rfl)), (FXs.cell _ (Or.inr (Or.inr (Or.inr (Or.inl rfl))))), (ownW_grown FC2 (grC19 (g := ab)) (fun k hk e => Fra k hk (Option.some.inj e).symm)), (keep_over19 FG2 FA (grC19 (g := ab)) (by decide)), (own_nat (own_set19 _ FA))⟩
  clear FA hX ee a
  refine rf_ [] (h3_ t0 t1 t2) ?_
  rintro a A - ⟨t0, t1, t2, -⟩
  refine wp_seq ?_
  refine wp_seq ?_
  refine wj_ [0, 1, 2, 3, 4, 5, 6, 7, 8, 9, 10, 11, 12, 13] [] [3, 6, 11] [] A (h3_ t0 t1 t2) (fun X3 bD => ?_)
  refine dw_ 1 (.pointer (some ⟨gl, 0, none⟩)) (fun a X ee => execNlm rfl (ee _)) (dw_ 2 (.pointer (some ⟨gl, 1, none⟩)) (fun a X ee => execFg1 rfl (ee _)) (dv_ 3 (.slice (some ⟨ab, 0, none⟩) n ac) (fun a X ee hb => execLm rfl (Or.inr (Or.inr (Or.inl rfl))) (ee _) (gC_at (on9 FG2 hb)).2.1) (dw_ 5 (.pointer (some ⟨ab, 0 + t, none⟩)) (fun a X ee => execIdxN (k := t) rfl (ee _) (ee _) ht) (dv_ 6 (.int .i64 ((x.ak t + 1 : Nat) : Int)) (fun a X ee hb => execLm rfl (Or.inl rfl) (ee _) (cell_up (ownD_below FA2 hb) ht)) (dw_ 9 (.pointer (some ⟨pb, po + t * 4, none⟩)) (fun a X ee => execIxM (k := t) rfl ((ee _).trans es) (ee _) (show t < D.n by omega)) (dw_ 10 (.pointer (some ⟨pb, po + t * 4, none⟩)) (fun a X ee => execFm0 rfl (ee _)) (dv_ 11 (y t) (fun a X ee hb => execLm rfl (Or.inr (Or.inr (Or.inr (Or.inl rfl)))) (ee _) (cP X (BB.trans (hb.mono BB.size))).1) (dw_ 12 (.int .i64 ((D.na t : Nat) : Int)) (fun a X ee => execLnM (len := D.na t) rfl (Or.inr rfl) (ee _) (hyb t (by omega)).shp) (dw_ 13 (.bool false) (fun a X ee => execDec (exIleq3 (p := ((x.ak t + 1 : Nat) : Int)) (q := ((D.na t : Nat) : Int)) rfl (ee _) (ee _)) (decide_eq_false (by omega))) (dz_ [(40, .bool false)] (h3_ t0 t1 t2) ?_))))))))))
  rintro a A ⟨t40, -⟩ ⟨t0, t1, t2, -⟩
  replace FD := (ownD_below FD bD)
  replace FXs := (FXs.below bD FXs.size)
  replace FC2 := (ownD_below FC2 bD)
  replace FG2 := (on9 FG2 bD)
  replace FA2 := (ownD_below FA2 bD)
  replace BB := BB.trans (bD.mono BB.size)
  clear bD
  refine wp_cond_false t40 ?_
  refine wp_skip ?_
  clear t40
  refine wp_seq ?_
  refine wi_ A (h3_ t0 t1 t2) (rv_ 2 (.pointer (some ⟨pb, po + t * 4, none⟩)) (fun a ee => execIxM (k := t) rfl ((ee _).trans es) (ee _) (show t < D.n by omega)) (rv_ 3 (.pointer (some ⟨pb, po + t * 4 + 1, none⟩)) (fun a ee => execFm1 rfl (ee _)) (rv_ 4 (.bool (D.th t)) (fun a ee => execLm rfl (Or.inr (Or.inl rfl)) (ee _) (cP X3 BB).2.1) (rg_ [(6, .bool (D.th t))] ?_))))
  rintro a A ⟨t6, -⟩
  have hE := lg_end (x := (rdA D x t).2) hF hgB FG2 FC2 FA2 FD had Fra Frd Fpl FXs
  refine wp_ret ?_
  refine bodyPost_ret (results_tmp rfl _ _ _) A.2 ⟨_, ?_, hE, BB⟩
  show Ending.returned (a.eval (.tmp 6)) = _
  rw [t6]
  show Ending.returned (.bool (D.th t)) = .returned (.bool (if x.ak t < D.na t then D.an t (x.ak t) else D.th t))
  rw [if_neg hk]
theorem lready (gl n : Nat) (sv : Value) (D : Sd) (t : Nat) (x : Lg) (F : Nat → Prop) (U V : World) (hUV : Below U.heap.size U V) (hR : LgR U.heap.size V F gl n x) (hP : ShL U sv D) (hn : n = D.n) (ht : t < n) (hn2 : n ≤ 1000) (hc : x.ca.length ≤ 1000000000) (hk2 : x.ak t ≤ 1000000000) : Calls Try.prog 11 #[.pointer (some ⟨gl, 0, none⟩), sv, .int .i64 ((t : Nat) : Int)] V fun e w' => ∃ F', e = .returned (.bool (rdA D x t).1) ∧ (LgR U.heap.size w' F' gl n (rdA D x t).2 ∧ Saved F V w' ∧ ∀ q, F' q → F q ∨ V.heap.size ≤ q) ∧ Below U.heap.size U w' := by
  by_cases hk : x.ak t < D.na t
  · exact lready_a gl n sv D t x F U V hUV hR hP hn ht hn2 hc hk2 hk
  · exact lready_t gl n sv D t x F U V hUV hR hP hn ht hn2 hc hk2 hk
set_option maxRecDepth 100000 in
set_option maxHeartbeats 4000000 in
/-- step. -/
theorem lstep (gl n : Nat) (sv : Value) (D : Sd) (t : Nat) (x : Lg) (F : Nat → Prop) (U V : World) (hUV : Below U.heap.size U V) (hR : LgR U.heap.size V F gl n x) (hP : ShL U sv D) (hn : n = D.n) (ht : t < n) (hn2 : n ≤ 1000) (hc : x.ca.length ≤ 1000000000) (hk2 : x.dn t ≤ 1000000000) :
    Calls Try.prog 13 #[.pointer (some ⟨gl, 0, none⟩), sv, .int .i64 ((t : Nat) : Int)] V fun e w' => ∃ F', e = .returned (.bool (stA D x t).1) ∧ (LgR U.heap.size w' F' gl n (stA D x t).2 ∧ Saved F V w' ∧ ∀ q, F' q → F q ∨ V.heap.size ≤ q) ∧ Below U.heap.size U w' := by
  obtain ⟨cv, av, dv, hM, hF⟩ := hR
  obtain ⟨ab, ac, ea, -, -⟩ := ownL_some9 hM.oa (show 0 < n by omega)
  obtain ⟨db, dc, ed, -, -⟩ := ownL_some9 hM.od (show 0 < n by omega)
  subst ea ed
  obtain ⟨FG, hgB, FC, FA, FD, hca, hcd, had0⟩ := hM
  have had : ¬ ab = db := fun e => had0 ab rfl (by rw [e]; rfl)
  obtain ⟨pb, po, pc, y, es, hpb, hyb, hpc⟩ := hP.at (show 0 < D.n by omega)
  have cP : ∀ X, Below U.heap.size U X → X.cell? ⟨pb, po + t * 4, none⟩ = some (y t) ∧ X.cell? ⟨pb, po + t * 4 + 1, none⟩ = some (.bool (D.th t)) ∧ X.cell? ⟨pb, po + t * 4 + 2, none⟩ = some (.int .i64 (D.la t)) ∧ X.cell? ⟨pb, po + t * 4 + 3, none⟩ = some (.bool (D.nr t)) := fun X hX => by
    rw [cell_below hX hpb, cell_below hX hpb, cell_below hX hpb, cell_below hX hpb]
    exact hpc t (by omega)
  go_enter Try.func13, Try.ntmps13
  refine wo_ 41 [(0, .pointer (some ⟨gl, 0, none⟩)), (1, sv), (2, .int .i64 ((t : Nat) : Int))] ?_
  rintro a A ⟨t0, t1, t2, -⟩
  have BB := hUV
  have FXs := Saved.refl (Lf gl cv (.slice (some ⟨ab, 0, none⟩) n ac) (.slice (some ⟨db, 0, none⟩) n dc)) V
  refine wp_seq ?_
  refine wi_ A (h3_ t0 t1 t2) (rf_ [] (h3_ t0 t1 t2) ?_)
  rintro a A - ⟨t0, t1, t2, -⟩
  refine wp_seq ?_
  obtain ⟨gs, eggs⟩ : ∃ z_ : Nat, V.heap.size = z_ := ⟨_, rfl⟩
  refine wi_ A (h3_ t0 t1 t2) (rv_ 2 (.pointer (some ⟨gl, 0, none⟩)) (fun a ee => execNlm rfl (ee _)) (rv_ 3 (.pointer (some ⟨gl, 0, none⟩)) (fun a ee => execFg0 rfl (ee _)) (rv_ 4 (cv) (fun a ee => execLm rfl (Or.inr (Or.inr (Or.inl rfl))) (ee _) (gC_at FG).1) (rv_ 6 (.int .i64 ((2 * t : Nat) : Int)) (fun a ee => execMul2 (p := t) rfl (ee _) (by omega)) (rv_ 7 (.int .i64 ((2 * t + 1 : Nat) : Int)) (fun a ee => execAd8 (p := 2 * t) (q := 1) rfl (ee _) rfl (by omega)) (rs_ 8 (fun a ee => ?_)))))))
  refine stepV rfl rfl (execBs1 rfl (ee _)) ⟨.slice (some ⟨gs, 0, none⟩) 1 1, ⟨_, rfl, by subst eggs; rfl⟩, fun X1_1 hX => ?_⟩
  have bQ : Below V.heap.size V X1_1 := by subst hX eggs; exact (belNew V _)
  have Fs : (X1_1.heap[gs]? = some (.cells #[.int .i64 ((2 * t + 1 : Nat) : Int)] 3)) := by subst hX eggs; exact heapNew V _
  replace FG := (on9 FG bQ)
  replace FC := (ownD_below FC bQ)
  replace FA := (ownD_below FA bQ)
  replace FD := (ownD_below FD bQ)
  replace FXs := (FXs.below bQ FXs.size)
  replace BB := BB.trans (bQ.mono BB.size)
  clear bQ hX eggs ee a
  refine rs_ 9 (fun a ee => ?_)
  refine stepAppIP (f := caF x.ca) (z := ((2 * t + 1 : Nat) : Int)) rfl rfl rfl (ee _) (ee _) FC Fs (by omega) (BB).size fun r2 X1_2 own' gr hpl => ⟨_, ⟨_, rfl, rfl⟩, eqw ?_⟩
  obtain ⟨BB, FG, FA, FD, FXs, FC2, Fpl, Fra, Frd⟩ : Below U.heap.size U X1_2 ∧ (X1_2.heap[gl]? = some (.cells (gC cv (.slice (some ⟨ab, 0, none⟩) n ac) (.slice (some ⟨db, 0, none⟩) n dc)) 40)) ∧ (X1_2.ownsRow U.heap.size 3 1 (.slice (some ⟨ab, 0, none⟩) n ac) n (intsL n (natF x.ak))) ∧ (X1_2.ownsRow U.heap.size 3 1 (.slice (some ⟨db, 0, none⟩) n dc) n (intsL n (natF x.dn))) ∧ (Saved (Lf gl cv (.slice (some ⟨ab, 0, none⟩) n ac) (.slice (some ⟨db, 0, none⟩) n dc)) V X1_2) ∧ (X1_2.ownsRow U.heap.size 3 1 r2 (x.ca ++ [2 * t + 1]).length (intsL (x.ca ++ [2 * t + 1]).length (caF (x.ca ++ [2 * t + 1])))) ∧ (∀ b, r2.ownBlock = some b → cv.ownBlock = some b ∨ V.heap.size ≤ b) ∧ (∀ b, r2.ownBlock = some b → b ≠ ab) ∧ (∀ b, r2.ownBlock = some b → b ≠ db) := ⟨(BB).grown gr (BB).size (fun k hk => (FC.lt k hk).1), (keep_over19 FG FC gr (by decide)), (ownW_grown FA gr (fun k hk e => hca k e hk)), (ownW_grown FD gr (fun k hk e => hcd k e hk)), (FXs.grown gr (fun k hk => Or.inr (Or.inr (Or.inl hk)))), (own_ca own'), fun b hb => (hpl b hb).imp id (fun w => Nat.le_trans FXs.size w), fun b hb e => (hpl b hb).elim (fun w => hca b w (e ▸ rfl)) (fun w => by have := (FA.lt ab rfl).2; omega), fun b hb e => (hpl b hb).elim (fun w => hcd b w (e ▸ rfl)) (fun w => by have := (FD.lt db rfl).2; omega)⟩
  clear FC Fs ee a
  refine rv_ 10 (.pointer (some ⟨gl, 0, none⟩)) (fun a ee => execNlm rfl (ee _)) (rv_ 11 (.pointer (some ⟨gl, 0, none⟩)) (fun a ee => execFg0 rfl (ee _)) (rs_ 12 (fun a ee => ?_)))
  refine stepS rfl rfl (execSm rfl (Or.inr (Or.inr (Or.inl rfl))) (ee _) (ee _) (Or.inr (Or.inr (Or.inl (sl3 (own_shpZ FC2))))) (gC_at FG).1 (frozen4 FG)) ⟨_, ⟨_, rfl, rfl⟩, fun X1 hX => ?_⟩
  obtain ⟨BB, FA, FD, FXs, FC2, FG2⟩ : Below U.heap.size U X1 ∧ (X1.ownsRow U.heap.size 3 1 (.slice (some ⟨ab, 0, none⟩) n ac) n (intsL n (natF x.ak))) ∧ (X1.ownsRow U.heap.size 3 1 (.slice (some ⟨db, 0, none⟩) n dc) n (intsL n (natF x.dn))) ∧ (Saved (Lf gl cv (.slice (some ⟨ab, 0, none⟩) n ac) (.slice (some ⟨db, 0, none⟩) n dc)) V X1) ∧ (X1.ownsRow U.heap.size 3 1 r2 (x.ca ++ [2 * t + 1]).length (intsL (x.ca ++ [2 * t + 1]).length (caF (x.ca ++ [2 * t + 1])))) ∧ (X1.heap[gl]? = some (.cells (gC r2 (.slice (some ⟨ab, 0, none⟩) n ac) (.slice (some ⟨db, 0, none⟩) n dc)) 40)) := by subst hX; exact ⟨(BB).setCell (p := ⟨gl, 0, none⟩) hgB _, (ownG_T FA FG (by decide) grC19), (ownG_T FD FG (by decide) grC19), (FXs.cell _ (Or.inr (Or.inl rfl))), (ownG_T FC2 FG (by decide) grC19), gC_set0 FG⟩
  clear FG hX ee a
  refine rf_ [] (h3_ t0 t1 t2) ?_
  rintro a A - ⟨t0, t1, t2, -⟩
  refine wp_seq ?_
  refine wi_ A (h3_ t0 t1 t2) (rv_ 1 (.pointer (some ⟨gl, 0, none⟩)) (fun a ee => execNlm rfl (ee _)) (rv_ 2 (.pointer (some ⟨gl, 2, none⟩)) (fun a ee => execFg2 rfl (ee _)) (rv_ 3 (.slice (some ⟨db, 0, none⟩) n dc) (fun a ee => execLm rfl (Or.inr (Or.inr (Or.inl rfl))) (ee _) (gC_at FG2).2.2) (rv_ 5 (.pointer (some ⟨db, 0 + t, none⟩)) (fun a ee => execIdxN (k := t) rfl (ee _) (ee _) ht) (rv_ 6 (.int .i64 ((x.dn t : Nat) : Int)) (fun a ee => execLm rfl (Or.inl rfl) (ee _) (own_cellI FD ht).1) (rv_ 7 (.int .i64 ((x.dn t + 1 : Nat) : Int)) (fun a ee => execAd8 (p := x.dn t) (q := 1) rfl (ee _) rfl (by omega)) (rv_ 8 (.pointer (some ⟨db, 0 + t, none⟩)) (fun a ee => execIdxN (k := t) rfl (ee _) (ee _) ht) (rs_ 9 (fun a ee => ?_)))))))))
  obtain ⟨hc_, hf_⟩ := own_cellI FD ht
  refine stepS rfl rfl (execSm rfl (Or.inl rfl) (ee _) (ee _) (Or.inl ⟨_, rfl⟩) hc_ hf_) ⟨_, ⟨_, rfl, rfl⟩, fun X2 hX => ?_⟩
  obtain ⟨BB, FA, FXs, FC2, FG2, FD2⟩ : Below U.heap.size U X2 ∧ (X2.ownsRow U.heap.size 3 1 (.slice (some ⟨ab, 0, none⟩) n ac) n (intsL n (natF x.ak))) ∧ (Saved (Lf gl cv (.slice (some ⟨ab, 0, none⟩) n ac) (.slice (some ⟨db, 0, none⟩) n dc)) V X2) ∧ (X2.ownsRow U.heap.size 3 1 r2 (x.ca ++ [2 * t + 1]).length (intsL (x.ca ++ [2 * t + 1]).length (caF (x.ca ++ [2 * t + 1])))) ∧ (X2.heap[gl]? = some (.cells (gC r2 (.slice (some ⟨ab, 0, none⟩) n ac) (.slice (some ⟨db, 0, none⟩) n dc)) 40)) ∧ (X2.ownsRow U.heap.size 3 1 (.slice (some ⟨db, 0, none⟩) n dc) n (intsL n (natF (upf x.dn t (x.dn t + 1))))) := by subst hX; exact ⟨(BB).setCell (FD.lt db rfl).1 _, (ownW_grown FA (grC19 (g := db)) (fun k hk e => by cases hk; cases e; exact had rfl)), (FXs.cell _ (Or.inr (Or.inr (Or.inr (Or.inr rfl))))), (ownW_grown FC2 (grC19 (g := db)) (fun k hk e => Frd k hk (Option.some.inj e).symm)), (keep_over19 FG2 FD (grC19 (g := db)) (by decide)), (own_nat (own_set19 _ FD))⟩
  clear FD hX ee a
  refine rf_ [] (h3_ t0 t1 t2) ?_
  rintro a A - ⟨t0, t1, t2, -⟩
  refine wp_seq ?_
  refine wj_ [0, 1, 2, 3, 4, 5, 6, 7, 8, 9, 10, 11, 12, 13] [] [3, 6, 11] [] A (h3_ t0 t1 t2) (fun X3 bD => ?_)
  refine dw_ 1 (.pointer (some ⟨gl, 0, none⟩)) (fun a X ee => execNlm rfl (ee _)) (dw_ 2 (.pointer (some ⟨gl, 2, none⟩)) (fun a X ee => execFg2 rfl (ee _)) (dv_ 3 (.slice (some ⟨db, 0, none⟩) n dc) (fun a X ee hb => execLm rfl (Or.inr (Or.inr (Or.inl rfl))) (ee _) (gC_at (on9 FG2 hb)).2.2) (dw_ 5 (.pointer (some ⟨db, 0 + t, none⟩)) (fun a X ee => execIdxN (k := t) rfl (ee _) (ee _) ht) (dv_ 6 (.int .i64 ((x.dn t + 1 : Nat) : Int)) (fun a X ee hb => execLm rfl (Or.inl rfl) (ee _) (cell_up (ownD_below FD2 hb) ht)) (dw_ 9 (.pointer (some ⟨pb, po + t * 4, none⟩)) (fun a X ee => execIxM (k := t) rfl ((ee _).trans es) (ee _) (show t < D.n by omega)) (dw_ 10 (.pointer (some ⟨pb, po + t * 4 + 2, none⟩)) (fun a X ee => execFm2 rfl (ee _)) (dv_ 11 (.int .i64 (D.la t)) (fun a X ee hb => execLm rfl (Or.inl rfl) (ee _) (cP X (BB.trans (hb.mono BB.size))).2.2.1) (dw_ 12 (.bool (decide (((x.dn t + 1 : Nat) : Int) = D.la t))) (fun a X ee => exIeql3 (p := ((x.dn t + 1 : Nat) : Int)) (q := D.la t) rfl (ee _) (ee _)) (dy_ [(6, .bool (decide (((x.dn t + 1 : Nat) : Int) = D.la t)))] ?_)))))))))
  rintro a A ⟨t6, -⟩
  replace FA := (ownD_below FA bD)
  replace FXs := (FXs.below bD FXs.size)
  replace FC2 := (ownD_below FC2 bD)
  replace FG2 := (on9 FG2 bD)
  replace FD2 := (ownD_below FD2 bD)
  replace BB := BB.trans (bD.mono BB.size)
  clear bD
  have hE := lg_end (x := (stA D x t).2) hF hgB FG2 FC2 FA FD2 had Fra Frd Fpl FXs
  refine wp_ret ?_
  refine bodyPost_ret (results_tmp rfl _ _ _) A.2 ⟨_, ?_, hE, BB⟩
  show Ending.returned (a.eval (.tmp 6)) = _
  rw [t6]
  rfl
end Go.Proofs.Ytmllfmnpcidkbaa.Loo
