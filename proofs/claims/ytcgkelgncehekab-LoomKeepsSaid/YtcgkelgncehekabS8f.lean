import Derived.Test.YtcgkelgncehekabS8d
namespace Go.Proofs.Ytcgkelgncehekab.Loo
open Go.RowKit Gf8 Aes By8 Cel Cf Win Drw Prm
/- LoomKeeps: the plan is copied with spare room. Written by tools/mkS8e.py. -/

def oF (p : Pl) (t j : Nat) : Op3 := if j < p.ln t then p.op t j else if j = p.ln t then ⟨77, 0, 0⟩ else ⟨78, 0, 0⟩
def kF (p : Pl) : Nat → Int := catI p.d p.cap (fun j => if j = 0 then 71 else 72)
def yv (p : Pl) (x : Nat → Nat × Nat) (t : Nat) : Value := .slice (some ⟨(x t).1, 0, none⟩) (p.ln t) (x t).2
def xv (p : Pl) (x : Nat → Nat × Nat) (t : Nat) : Value := .slice (some ⟨(x t).1, 0, none⟩) (p.ln t + 2) (x t).2
def up2 (x : Nat → Nat × Nat) (i : Nat) (z : Nat × Nat) (t : Nat) : Nat × Nat := if t = i then z else x t
theorem own_openz {W : World} {B n : Nat} {v : Value} {xs : List Value} {T : TypeId} {s : Nat} (h : W.ownsRow B T s v n xs) (h0 : 0 < n) : ∃ g c, v = .slice (some ⟨g, 0, none⟩) n c ∧ n ≤ c := by
  rcases h.2 with ⟨_, e⟩ | ⟨g, cap, cur, e, _, _, h1, _⟩
  · omega
  · exact ⟨g, cap, e, h1⟩
section
variable {o : Oper} {a : Act} {w : World}
theorem execSlz {ty : TypeId} {x h : Operand} {v vh r : Value} (ho : o.op = .slice ty x none (some h) none) (hx : a.eval x = v) (hh : a.eval h = vh) (hr : (Instr.sliceAt ty v none (some vh) none).run Try.prog w = .ok r w) : (execOp a.eval o).run Try.prog w = .ok (.value r) w := by
  unfold execOp
  simp only [ho, hx, hh, Option.map_some, Option.map_none, Sem.run_bind, hr, Result.andThen_ok, Sem.run_pure]
theorem slzI (b n c hi : Nat) (h2 : hi ≤ c) (W : World) : (Instr.sliceAt 22 (.slice (some ⟨b, 0, none⟩) n c) none (some (.int .i64 ((hi : Nat) : Int))) none).run Try.prog W = .ok (.slice (some ⟨b, 0, none⟩) hi c) W := by
  obtain ⟨i, i1, _⟩ := infoI
  simp [Instr.sliceAt, Instr.slice, run_underlying Try.underlying22, Instr.sliceBounds, run_sliceBound, h2, sizeOf, typeInfo, i1, Addr.add_mid]
theorem slzO (b n c hi : Nat) (h2 : hi ≤ c) (W : World) : (Instr.sliceAt 36 (.slice (some ⟨b, 0, none⟩) n c) none (some (.int .i64 ((hi : Nat) : Int))) none).run Try.prog W = .ok (.slice (some ⟨b, 0, none⟩) hi c) W := by
  obtain ⟨i, i1, _⟩ := infoOp
  simp [Instr.sliceAt, Instr.slice, run_underlying Try.underlying36, Instr.sliceBounds, run_sliceBound, h2, sizeOf, typeInfo, i1, Addr.add_mid]
theorem execStT {x v : Operand} {b k : Nat} {u old : Value} (ho : o.op = .store 23 x v) (hx : a.eval x = .pointer (some ⟨b, k, none⟩)) (hv : a.eval v = u) (hu : ∃ g n c, u = .slice g n c) (hc : w.cell? ⟨b, k, none⟩ = some old) (hf : w.frozen? ⟨b, k, none⟩ = false) : (execOp a.eval o).run Try.prog w = .ok .skip (w.setCell ⟨b, k, none⟩ u) := by
  obtain ⟨g, n, c, rfl⟩ := hu
  unfold execOp
  simp only [ho, hx, hv]
  simp [go_sem, hc, hf]
end
/-- The rows so far and one more. -/
theorem rows_next {W : World} {B i gb cb : Nat} {p : Pl} {x : Nat → Nat × Nat} (h : ∀ t, t < i → W.ownsRow B 38 3 (xv p x t) (p.ln t + 2) (opL (p.ln t + 2) (oF p t))) (g : W.ownsRow B 38 3 (.slice (some ⟨gb, 0, none⟩) (p.ln i + 2) cb) (p.ln i + 2) (opL (p.ln i + 2) (oF p i))) : ∀ t, t < i + 1 → W.ownsRow B 38 3 (xv p (up2 x i (gb, cb)) t) (p.ln t + 2) (opL (p.ln t + 2) (oF p t)) := fun t ht => by
  by_cases e : t = i
  · subst e
    unfold xv up2
    rw [if_pos rfl]
    exact g
  · unfold xv up2
    rw [if_neg e]
    exact h t (by omega)
theorem yv_next {p : Pl} {x : Nat → Nat × Nat} {i gb cb : Nat} : lL (updX (yv p x) i (.slice (some ⟨gb, 0, none⟩) (p.ln i) cb)) (i + 1) = lL (yv p (up2 x i (gb, cb))) (i + 1) := by
  refine lL_congr _ fun t ht => ?_
  unfold updX yv up2
  by_cases e : t = i
  · subst e; rw [if_pos rfl, if_pos rfl]
  · rw [if_neg e, if_neg e]
set_option maxRecDepth 100000 in
set_option maxHeartbeats 4000000 in
/-- LoomKeeps, as far as the plan is copied. -/
theorem keepsA (I : LImpl) (p : Pl) (cv tz v1 : Value) (xz : Nat → Value) (V : World) (hp : PlA V (.agg #[cv, tz]) p) (hcv : SliceI V cv p.d p.cap) (htv : SliceV V tz p.n xz) (hxz : ∀ t, t < p.n → SliceO V (xz t) (p.ln t) (p.op t)) (hzc : Nz cv) (hzt : ∀ t, t < p.n → Nz (xz t)) (hB : chk p = 0 → ∀ (a : Act) (S : World) (g2 g6 gc cc : Nat) (tl : Value) (x : Nat → Nat × Nat), (a.tmps.size = 260 ∧ a.defers = []) → a.eval (.tmp 1) = v1 → a.eval (.tmp 2) = .pointer (some ⟨g2, 0, none⟩) → a.eval (.tmp 5) = .slice (some ⟨gc, 0, none⟩) (p.d + 2) cc → a.eval (.tmp 6) = .pointer (some ⟨g6, 0, none⟩) → Below V.heap.size V S → p.d + 2 ≤ cc → (S.heap[g2]? = some (.cells (#[cv, tz]) 25)) → (S.heap[g6]? = some (.cells (#[.slice (some ⟨gc, 0, none⟩) p.d cc, tl]) 25)) → (S.ownsRow V.heap.size 3 1 (.slice (some ⟨gc, 0, none⟩) (p.d + 2) cc) (p.d + 2) (intsL (p.d + 2) (kF p))) → (S.ownsRow V.heap.size 36 1 tl (p.n) (lL (yv p x) (p.n))) → (∀ t, t < p.n → S.ownsRow V.heap.size 38 3 (xv p x t) (p.ln t + 2) (opL (p.ln t + 2) (oF p t))) → (findR 12 (Try.f4.body.getD .skip)).wp Try.prog (bodyPost Try.prog Try.f4 fun e w' => e = .returned (.bool true) ∧ Below V.heap.size V w') a S) :
    Calls Try.prog 4 #[.agg #[cv, tz], v1] V fun e w' => e = .returned (.bool true) ∧ Below V.heap.size V w' := by
  go_enter Try.func4, Try.ntmps4
  refine wo_ 260 [(0, .agg #[cv, tz]), (1, v1)] ?_
  rintro a A ⟨t0, t1, -⟩
  have BW : Below V.heap.size V V := Below.refl _ _
  have BB : Below V.heap.size V V := Below.refl _ _
  refine wp_seq ?_
  obtain ⟨g2, egg2⟩ : ∃ z_ : Nat, V.heap.size = z_ := ⟨_, rfl⟩
  refine wi_ A (h2_ t0 t1) (rs_ 0 (fun a ee => ?_))
  refine stepV rfl rfl (execBxP rfl (ee _) (sl3 hcv.shp) (sl3 htv.shp)) ⟨.pointer (some ⟨g2, 0, none⟩), ⟨_, rfl, by subst egg2; rfl⟩, fun X0 hX => ?_⟩
  have bQ : Below V.heap.size V X0 := by subst hX egg2; exact (belNew V _)
  have Fg2 : (X0.heap[g2]? = some (.cells (#[cv, tz]) 25)) := by subst hX egg2; exact heapNew V _
  replace BB := BB.trans (bQ.mono BB.size)
  clear bQ hX egg2 ee a
  refine rf_ [(2, .pointer (some ⟨g2, 0, none⟩))] (h1_ t1) ?_
  rintro a A ⟨t2, -⟩ ⟨t1, -⟩
  refine wp_seq ?_
  refine wp_seq ?_
  refine wi_ A (h2_ t1 t2) (rc_ 0 (alive19 I X0) (cb_ fun X1 bQ => ?_))
  replace Fg2 := (on9 Fg2 bQ)
  replace BB := BB.trans (bQ.mono BB.size)
  clear bQ
  refine rv_ 1 (.bool false) (fun a ee => execNot8 (b := true) rfl (ee _)) (rf_ [(24, .bool false)] (h2_ t1 t2) ?_)
  rintro a A ⟨t24, -⟩ ⟨t1, t2, -⟩
  refine wp_cond_false t24 ?_
  refine wp_skip ?_
  clear t24
  by_cases hk : chk p = 0
  · have hok := chk_okp hk
    have hd := hok.d
    have hn := hok.n
    refine wp_seq ?_
    refine wp_seq ?_
    refine wi_ A (h2_ t1 t2) (rv_ 0 (.agg #[cv, tz]) (fun a ee => execLdPz rfl (ee _) Fg2) (rc_ 1 (I.check p _ X1 (hp.on BB)) (cb_ fun X3 bQ => ?_)))
    replace Fg2 := (on9 Fg2 bQ)
    replace BB := BB.trans (bQ.mono BB.size)
    clear bQ
    refine rv_ 2 (.bool false) (fun a ee => execDec (execErneq (p := chk p) (q := 0) rfl (ee _)) (decide_eq_false (fun h => h hk))) (rf_ [(27, .bool false)] (h2_ t1 t2) ?_)
    rintro a A ⟨t27, -⟩ ⟨t1, t2, -⟩
    refine wp_cond_false t27 ?_
    refine wp_skip ?_
    clear t27
    refine wp_seq ?_
    obtain ⟨g28, egg28⟩ : ∃ z_ : Nat, X3.heap.size = z_ := ⟨_, rfl⟩
    refine wi_ A (h2_ t1 t2) (rs_ 0 (fun a ee => ?_))
    refine stepV rfl rfl (execBs0I rfl) ⟨.slice (some ⟨g28, 0, none⟩) 0 0, ⟨_, rfl, by subst egg28; rfl⟩, fun X5_1 hX => ?_⟩
    have bQ : Below X3.heap.size X3 X5_1 := by subst hX egg28; exact (belNew X3 _)
    have Fg28 : (X5_1.heap[g28]? = some (.cells (#[]) 3)) := by subst hX egg28; exact heapNew X3 _
    have Fgeg28 : (V.heap.size ≤ g28) := by subst hX egg28; exact (BB).size
    replace Fg2 := (on9 Fg2 bQ)
    replace BB := BB.trans (bQ.mono BB.size)
    clear bQ hX egg28 ee a
    refine rv_ 1 (.pointer (some ⟨g2, 0, none⟩)) (fun a ee => execPf0 rfl (ee _)) (rv_ 2 (cv) (fun a ee => execLdG rfl (Or.inl rfl) (ee _) (plB_at Fg2).1) (rs_ 3 (fun a ee => ?_)))
    refine stepApp0 rfl rfl rfl (ee _) (ee _) Fg28 Fgeg28 (hcv.on BB) hzc (by omega) fun v31 X5_2 own' hb => ⟨_, ⟨_, rfl, rfl⟩, eqw ?_⟩
    have bQ : Below X5_1.heap.size X5_1 X5_2 := hb
    have FXs : (X5_2.ownsRow V.heap.size 3 1 v31 p.d (intsL p.d p.cap)) := own'
    replace Fg2 := (on9 Fg2 bQ)
    replace BB := BB.trans (bQ.mono BB.size)
    clear Fg28 bQ ee a
    obtain ⟨g32, egg32⟩ : ∃ z_ : Nat, X5_2.heap.size = z_ := ⟨_, rfl⟩
    refine rs_ 4 (fun a ee => ?_)
    refine stepV rfl rfl (execBs2I (fun j => if j = 0 then 71 else 72) rfl rfl rfl) ⟨.slice (some ⟨g32, 0, none⟩) 2 2, ⟨_, rfl, by subst egg32; rfl⟩, fun X5_3 hX => ?_⟩
    have bQ : Below X5_2.heap.size X5_2 X5_3 := by subst hX egg32; exact (belNew X5_2 _)
    have Fg32 : (X5_3.heap[g32]? = some (.cells (iR 2 (fun j => if j = 0 then 71 else 72)) 3)) := by subst hX egg32; exact heapNew X5_2 _
    have Fgeg32 : (V.heap.size ≤ g32) := by subst hX egg32; exact (BB).size
    replace Fg2 := (on9 Fg2 bQ)
    replace FXs := (ownD_below FXs bQ)
    replace BB := BB.trans (bQ.mono BB.size)
    clear bQ hX egg32 ee a
    refine rs_ 5 (fun a ee => ?_)
    refine stepApp2 rfl rfl rfl (ee _) (ee _) FXs (iR_slice Fg32 (by omega) (fun j_ _ => by split <;> exact ⟨by omega, by omega⟩)) ⟨_, _, rfl⟩ (by omega) (by omega) (BB).size fun v33 X5 own' gr => ⟨_, ⟨_, rfl, rfl⟩, eqw ?_⟩
    obtain ⟨BB, Fg2, FC⟩ : Below V.heap.size V X5 ∧ (X5.heap[g2]? = some (.cells (#[cv, tz]) 25)) ∧ (X5.ownsRow V.heap.size 3 1 v33 (p.d + 2) (intsL (p.d + 2) (kF p))) := ⟨(BB).grown gr (BB).size (fun k hk => (FXs.lt k hk).1), (heap_overL FXs gr Fg2 (by decide)), own'⟩
    clear FXs Fg32 ee a
    refine rf_ [(5, v33)] (h2_ t1 t2) ?_
    rintro a A ⟨t5, -⟩ ⟨t1, t2, -⟩
    obtain ⟨gc, cc, e33, hcc⟩ := own_openz FC (by omega)
    subst e33
    have l2_ := (Array.getElem?_eq_some_iff.1 Fg2).1
    refine wp_seq ?_
    obtain ⟨g6, egg6⟩ : ∃ z_ : Nat, X5.heap.size = z_ := ⟨_, rfl⟩
    refine wi_ A (h3_ t1 t2 t5) (rv_ 1 (.pointer (some ⟨g2, 0, none⟩)) (fun a ee => execPf0 rfl (ee _)) (rv_ 2 (cv) (fun a ee => execLdG rfl (Or.inl rfl) (ee _) (plB_at Fg2).1) (rv_ 3 (.int .i64 ((p.d : Nat) : Int)) (fun a ee => execLenI (len := p.d) rfl (ee _) hcv.shp) (rv_ 4 (.slice (some ⟨gc, 0, none⟩) p.d cc) (fun a ee => execSlz rfl (ee _) (ee _) (slzI gc _ cc p.d (by omega) X5)) (rv_ 5 (.agg #[.slice (some ⟨gc, 0, none⟩) p.d cc, .slice none 0 0]) (fun a ee => execBp0 rfl (ee _) ⟨_, _, _, rfl⟩) (rs_ 6 (fun a ee => ?_)))))))
    refine stepV rfl rfl (execAlP rfl) ⟨.pointer (some ⟨g6, 0, none⟩), ⟨_, rfl, by subst egg6; rfl⟩, fun X6_1 hX => ?_⟩
    have bQ : Below X5.heap.size X5 X6_1 := by subst hX egg6; exact (belNew X5 _)
    have Fg6 : (X6_1.heap[g6]? = some (.cells (#[.slice none 0 0, .slice none 0 0]) 25)) := by subst hX egg6; exact heapNew X5 _
    have Fgeg6 : (V.heap.size ≤ g6) := by subst hX egg6; exact (BB).size
    have Fne : (g2 < g6) := by subst hX egg6; exact (Array.getElem?_eq_some_iff.1 Fg2).1
    replace Fg2 := (on9 Fg2 bQ)
    replace FC := (ownD_below FC bQ)
    replace BB := BB.trans (bQ.mono BB.size)
    clear bQ hX egg6 ee a
    refine rs_ 7 (fun a ee => ?_)
    refine stepS rfl rfl (execStP rfl (ee _) (ee _) Fg6 ⟨_, _, _, rfl⟩ ⟨_, _, _, rfl⟩) ⟨_, ⟨_, rfl, rfl⟩, fun X6 hX => ?_⟩
    obtain ⟨BB, Fg2, FC, Fg6s⟩ : Below V.heap.size V X6 ∧ (X6.heap[g2]? = some (.cells (#[cv, tz]) 25)) ∧ (X6.ownsRow V.heap.size 3 1 (.slice (some ⟨gc, 0, none⟩) (p.d + 2) cc) (p.d + 2) (intsL (p.d + 2) (kF p))) ∧ (X6.heap[g6]? = some (.cells (#[.slice (some ⟨gc, 0, none⟩) p.d cc, .slice none 0 0]) 25)) := by subst hX; exact ⟨below4 BB Fgeg6 _, (by rw [setRow_other _ _ _ _ (Nat.ne_of_lt Fne)]; exact Fg2), (ownG_T FC Fg6 (by decide) grR18), setRow_heap _ _ _ _ _ _ Fg6⟩
    clear Fg6 hX ee a
    refine rf_ [(6, .pointer (some ⟨g6, 0, none⟩))] (h3_ t1 t2 t5) ?_
    rintro a A ⟨t6, -⟩ ⟨t1, t2, t5, -⟩
    refine wp_seq ?_
    refine wp_seq ?_
    refine wi_ A (h4_ t1 t2 t5 t6) (rf_ [(7, .int .i64 ((0 : Nat) : Int))] (h4_ t1 t2 t5 t6) ?_)
    rintro a A ⟨t7, -⟩ ⟨t1, t2, t5, t6, -⟩
    have Fg6 := Fg6s
    clear Fg6s
    have FT : (X6.ownsRow V.heap.size 36 1 (.slice none 0 0) (0) (lL (yv p (fun _ => (0, 0))) (0))) := World.ownsRow_nil _ _ _ _
    have FR : (∀ t, t < 0 → X6.ownsRow V.heap.size 38 3 (xv p (fun _ => (0, 0)) t) (p.ln t + 2) (opL (p.ln t + 2) (oF p t))) := fun t ht => absurd ht (Nat.not_lt_zero t)
    refine wp_block ?_
    refine wp_loop (fun a W => ∃ (i : Nat) (x : Nat → Nat × Nat) (tl : Value), i ≤ p.n ∧ (a.tmps.size = 260 ∧ a.defers = []) ∧ a.eval (.tmp 1) = v1 ∧ a.eval (.tmp 2) = .pointer (some ⟨g2, 0, none⟩) ∧ a.eval (.tmp 5) = .slice (some ⟨gc, 0, none⟩) (p.d + 2) cc ∧ a.eval (.tmp 6) = .pointer (some ⟨g6, 0, none⟩) ∧ a.eval (.tmp 7) = .int .i64 ((i : Nat) : Int) ∧ Below V.heap.size V W ∧ (W.heap[g2]? = some (.cells (#[cv, tz]) 25)) ∧ (W.heap[g6]? = some (.cells (#[.slice (some ⟨gc, 0, none⟩) p.d cc, tl]) 25)) ∧ (W.ownsRow V.heap.size 3 1 (.slice (some ⟨gc, 0, none⟩) (p.d + 2) cc) (p.d + 2) (intsL (p.d + 2) (kF p))) ∧ (W.ownsRow V.heap.size 36 1 tl (i) (lL (yv p x) (i))) ∧ (∀ t, t < i → W.ownsRow V.heap.size 38 3 (xv p x t) (p.ln t + 2) (opL (p.ln t + 2) (oF p t)))) (fun a _ => p.n - (intOf (a.eval (.tmp 7))).toNat) ⟨0, fun _ => (0, 0), .slice none 0 0, Nat.zero_le _, A, t1, t2, t5, t6, t7, BB, Fg2, Fg6, FC, FT, FR⟩ ?_
    clear A t1 t2 t5 t6 t7 BB Fg2 Fg6 FC FT FR a
    rintro a XL8 ⟨i, x, tl, hi, A, t1, t2, t5, t6, t7, BB, Fg2, Fg6, FC, FT, FR⟩
    have esi := t7
    refine wp_seq ?_
    refine wp_seq ?_
    refine wi_ A (h5_ t1 t2 t5 t6 t7) (rv_ 1 (.pointer (some ⟨g2, 1, none⟩)) (fun a ee => execPf1 rfl (ee _)) (rv_ 2 (tz) (fun a ee => execLdG rfl (Or.inr (Or.inr (Or.inr (Or.inr (Or.inl rfl))))) (ee _) (plB_at Fg2).2) (rv_ 3 (.int .i64 ((p.n : Nat) : Int)) (fun a ee => execLnOO (len := p.n) rfl (ee _) htv.shp) (rv_ 4 (.bool (decide (i < p.n))) (fun a ee => execLtW (p := i) (q := p.n) rfl (ee _) (ee _)) (rf_ [(44, .bool (decide (i < p.n)))] (h5_ t1 t2 t5 t6 t7) ?_)))))
    rintro a A ⟨t44, -⟩ ⟨t1, t2, t5, t6, t7, -⟩
    by_cases lti : i < p.n
    · rw [decide_eq_true lti] at t44
      refine wp_cond_true t44 ?_
      refine wp_skip ?_
      clear t44
      refine wp_seq ?_
      refine wp_block ?_
      have hln := hok.ln i lti
      obtain ⟨tb, to_, tc, etz⟩ := htv.open (by omega)
      have htv8 := htv.on BB
      have hx8 : SliceO XL8 (xz i) (p.ln i) (oF p i) := ((hxz i lti).on BB).cg fun j hj => (if_pos hj).symm
      have o0 : oF p i (p.ln i + 0) = ⟨77, 0, 0⟩ := by unfold oF; rw [if_neg (by omega), if_pos (by omega)]
      have o1 : oF p i (p.ln i + 1) = ⟨78, 0, 0⟩ := by unfold oF; rw [if_neg (by omega), if_neg (by omega)]
      have Bv := BB
      clear BB
      have BB : Below XL8.heap.size XL8 XL8 := Below.refl _ _
      refine wp_seq ?_
      obtain ⟨g47, egg47⟩ : ∃ z_ : Nat, XL8.heap.size = z_ := ⟨_, rfl⟩
      refine wi_ A (h5_ t1 t2 t5 t6 t7) (rs_ 0 (fun a ee => ?_))
      refine stepV rfl rfl (execBs0O rfl) ⟨.slice (some ⟨g47, 0, none⟩) 0 0, ⟨_, rfl, by subst egg47; rfl⟩, fun X10_1 hX => ?_⟩
      have bQ : Below XL8.heap.size XL8 X10_1 := by subst hX egg47; exact (belNew XL8 _)
      have Fg47 : (X10_1.heap[g47]? = some (.cells (#[]) 38)) := by subst hX egg47; exact heapNew XL8 _
      have Fgeg47 : (XL8.heap.size ≤ g47) := by subst hX egg47; exact (BB).size
      replace BB := BB.trans (bQ.mono BB.size)
      clear bQ hX egg47 ee a
      refine rv_ 1 (.pointer (some ⟨g2, 1, none⟩)) (fun a ee => execPf1 rfl (ee _)) (rv_ 2 (tz) (fun a ee => execLdG rfl (Or.inr (Or.inr (Or.inr (Or.inr (Or.inl rfl))))) (ee _) (plB_at (on9 Fg2 BB)).2) (rv_ 4 (.pointer (some ⟨tb, to_ + i, none⟩)) (fun a ee => execIxOO (k := i) rfl ((ee _).trans etz) (ee _) lti) (rv_ 5 (xz i) (fun a ee => execLdG rfl (Or.inr (Or.inr (Or.inr (Or.inr (Or.inr rfl))))) (ee _) (SliceV.at (htv8.on BB) etz lti)) (rs_ 6 (fun a ee => ?_)))))
      refine stepApp0O rfl rfl rfl (ee _) (ee _) Fg47 Fgeg47 (hx8.on BB) (hzt i lti) (by omega) fun v53 X10_2 own' hb => ⟨_, ⟨_, rfl, rfl⟩, eqw ?_⟩
      have bQ : Below X10_1.heap.size X10_1 X10_2 := hb
      have FO : (X10_2.ownsRow XL8.heap.size 38 3 v53 (p.ln i) (opL (p.ln i) (oF p i))) := own'
      replace BB := BB.trans (bQ.mono BB.size)
      clear Fg47 bQ ee a
      obtain ⟨g56, egg56⟩ : ∃ z_ : Nat, X10_2.heap.size = z_ := ⟨_, rfl⟩
      refine rv_ 7 (.agg (oC 77 0 0)) (fun a ee => execBo0 rfl rfl) (rv_ 8 (.agg (oC 78 0 0)) (fun a ee => execBo0 rfl rfl) (rs_ 9 (fun a ee => ?_)))
      refine stepV rfl rfl (execBs2O (fun j => oF p i (p.ln i + j)) rfl (by rw [o0]; exact (ee _)) (by rw [o1]; exact (ee _))) ⟨.slice (some ⟨g56, 0, none⟩) 2 2, ⟨_, rfl, by subst egg56; rfl⟩, fun X10_3 hX => ?_⟩
      have bQ : Below X10_2.heap.size X10_2 X10_3 := by subst hX egg56; exact (belNew X10_2 _)
      have Fg56 : (X10_3.heap[g56]? = some (.cells (oR 2 (fun j => oF p i (p.ln i + j))) 38)) := by subst hX egg56; exact heapNew X10_2 _
      have Fgeg56 : (XL8.heap.size ≤ g56) := by subst hX egg56; exact (BB).size
      replace FO := (ownD_below FO bQ)
      replace BB := BB.trans (bQ.mono BB.size)
      clear bQ hX egg56 ee a
      refine rs_ 10 (fun a ee => ?_)
      refine stepAppOp (q := (oF p i)) rfl rfl rfl (ee _) (ee _) FO Fg56 (by omega) (BB).size fun v57 X10 own' gr => ⟨_, ⟨_, rfl, rfl⟩, eqw ?_⟩
      obtain ⟨BB, FO2⟩ : Below XL8.heap.size XL8 X10 ∧ (X10.ownsRow XL8.heap.size 38 3 v57 (p.ln i + 2) (opL (p.ln i + 2) (oF p i))) := ⟨(BB).grown gr (BB).size (fun k hk => (FO.lt k hk).1), own'⟩
      clear FO Fg56 ee a
      refine rf_ [(8, v57)] (h5_ t1 t2 t5 t6 t7) ?_
      rintro a A ⟨t8, -⟩ ⟨t1, t2, t5, t6, t7, -⟩
      replace Fg2 := (on9 Fg2 BB)
      replace Fg6 := (on9 Fg6 BB)
      replace FC := (ownD_below FC BB)
      replace FT := (ownD_below FT BB)
      replace FR := (fun t ht => ownD_below (FR t ht) BB)
      replace FO2 := ownD_base FO2 Bv.size
      replace BB := Bv.trans (BB.mono Bv.size)
      clear Bv
      obtain ⟨gb, cb, e57, hcb⟩ := own_openz FO2 (by omega)
      subst e57
      have FR2 := rows_next FR FO2
      clear FR FO2
      refine wj_ [0, 1, 2, 3, 4, 5, 6, 7, 8, 9, 10, 11, 12, 13] [10, 11, 13] [1, 4, 7] [11, 13] A (h6_ t1 t2 t5 t6 t7 t8) (fun X11_0 bD => ?_)
      obtain ⟨g68, egg68⟩ : ∃ z_ : Nat, X11_0.heap.size = z_ := ⟨_, rfl⟩
      refine dw_ 0 (.pointer (some ⟨g6, 1, none⟩)) (fun a X ee => execPf1 rfl (ee _)) (dv_ 1 (tl) (fun a X ee hb => execLdG rfl (Or.inr (Or.inr (Or.inr (Or.inr (Or.inl rfl))))) (ee _) (plB_at (on9 Fg6 hb)).2) (dw_ 3 (.pointer (some ⟨g2, 1, none⟩)) (fun a X ee => execPf1 rfl (ee _)) (dv_ 4 (tz) (fun a X ee hb => execLdG rfl (Or.inr (Or.inr (Or.inr (Or.inr (Or.inl rfl))))) (ee _) (plB_at (on9 Fg2 hb)).2) (dw_ 6 (.pointer (some ⟨tb, to_ + i, none⟩)) (fun a X ee => execIxOO (k := i) rfl ((ee _).trans etz) (ee _) lti) (dv_ 7 (xz i) (fun a X ee hb => execLdG rfl (Or.inr (Or.inr (Or.inr (Or.inr (Or.inr rfl))))) (ee _) (SliceV.at (htv.on (BB.trans (hb.mono BB.size))) etz lti)) (dw_ 8 (.int .i64 ((p.ln i : Nat) : Int)) (fun a X ee => execLnOs (len := p.ln i) rfl (ee _) (hxz i lti).shp) (dw_ 9 (.slice (some ⟨gb, 0, none⟩) (p.ln i) cb) (fun a X ee => execSlz rfl (ee _) (ee _) (slzO gb _ cb (p.ln i) (by omega) X)) (ds_ 10 (fun a ee => ?_)))))))))
      refine stepV rfl rfl (execBs1V (fun _ => .slice (some ⟨gb, 0, none⟩) (p.ln i) cb) rfl (ee _) (fun _ _ => ⟨_, _, _, rfl⟩)) ⟨.slice (some ⟨g68, 0, none⟩) 1 1, ⟨_, rfl, by subst egg68; rfl⟩, fun X11_1 hX => ?_⟩
      have bQ : Below X11_0.heap.size X11_0 X11_1 := by subst hX egg68; exact (belNew X11_0 _)
      have Fg68 : (X11_1.heap[g68]? = some (.cells (vR 1 (fun _ => .slice (some ⟨gb, 0, none⟩) (p.ln i) cb)) 36)) := by subst hX egg68; exact heapNew X11_0 _
      have Fgeg68 : (V.heap.size ≤ g68) := by subst hX egg68; exact ((BB.trans (bD.mono BB.size))).size
      replace bD := bD.trans (bQ.mono bD.size)
      clear bQ hX egg68 ee a
      refine ⟨Or.inr bD, ?_⟩
      refine ds_ 11 (fun a ee => ?_)
      refine stepAppVO (u := .slice (some ⟨gb, 0, none⟩) (p.ln i) cb) rfl rfl rfl (ee _) (ee _) (ownD_below FT bD) Fg68 ⟨_, _, _, rfl⟩ (by omega) ((BB.trans (bD.mono BB.size))).size fun t69v X11_2 own' gr => ⟨_, ⟨_, rfl, rfl⟩, eqw ?_⟩
      obtain ⟨BB, Fg2, Fg6, FC, FR2, FT2⟩ : Below V.heap.size V X11_2 ∧ (X11_2.heap[g2]? = some (.cells (#[cv, tz]) 25)) ∧ (X11_2.heap[g6]? = some (.cells (#[.slice (some ⟨gc, 0, none⟩) p.d cc, tl]) 25)) ∧ (X11_2.ownsRow V.heap.size 3 1 (.slice (some ⟨gc, 0, none⟩) (p.d + 2) cc) (p.d + 2) (intsL (p.d + 2) (kF p))) ∧ (∀ t, t < (i + 1) → X11_2.ownsRow V.heap.size 38 3 (xv p (up2 x i (gb, cb)) t) (p.ln t + 2) (opL (p.ln t + 2) (oF p t))) ∧ (X11_2.ownsRow V.heap.size 36 1 t69v ((i + 1)) (lL (yv p (up2 x i (gb, cb))) ((i + 1)))) := ⟨((BB.trans (bD.mono BB.size))).grown gr ((BB.trans (bD.mono BB.size))).size (fun k hk => ((ownD_below FT bD).lt k hk).1), (heap_overL (ownD_below FT bD) gr (on9 Fg2 bD) (by decide)), (heap_overL (ownD_below FT bD) gr (on9 Fg6 bD) (by decide)), (own_overT (ownD_below FC bD) (ownD_below FT bD) gr (by decide)), (fun t ht => own_overT ((fun t ht => ownD_below (FR2 t ht) bD) t ht) (ownD_below FT bD) gr (by decide)), (yv_next ▸ own')⟩
      clear bD FT Fg68 ee a
      refine ⟨Or.inl rfl, ?_⟩
      refine dw_ 12 (.pointer (some ⟨g6, 1, none⟩)) (fun a X ee => execPf1 rfl (ee _)) (ds_ 13 (fun a ee => ?_))
      refine stepS rfl rfl (execStT rfl (ee _) (ee _) (sl3 (own_shp FT2)) (plB_at Fg6).2 (frozen4 Fg6)) ⟨_, ⟨_, rfl, rfl⟩, fun X11 hX => ?_⟩
      obtain ⟨BB, Fg2, FC, FR2, FT2, Fg6n⟩ : Below V.heap.size V X11 ∧ (X11.heap[g2]? = some (.cells (#[cv, tz]) 25)) ∧ (X11.ownsRow V.heap.size 3 1 (.slice (some ⟨gc, 0, none⟩) (p.d + 2) cc) (p.d + 2) (intsL (p.d + 2) (kF p))) ∧ (∀ t, t < (i + 1) → X11.ownsRow V.heap.size 38 3 (xv p (up2 x i (gb, cb)) t) (p.ln t + 2) (opL (p.ln t + 2) (oF p t))) ∧ (X11.ownsRow V.heap.size 36 1 t69v ((i + 1)) (lL (yv p (up2 x i (gb, cb))) ((i + 1)))) ∧ (X11.heap[g6]? = some (.cells (#[.slice (some ⟨gc, 0, none⟩) p.d cc, t69v]) 25)) := by subst hX; exact ⟨(BB).setCell (p := ⟨g6, 1, none⟩) Fgeg6 _, (by rw [Below.heap_setCell _ _ _ _ (fun q => absurd q (Nat.ne_of_lt Fne))]; exact Fg2), (own_offT FC Fg6 (by decide)), (fun t ht => Drw.own_offT (FR2 t ht) Fg6 (by decide)), (own_offT FT2 Fg6 (by decide)), heap4 _ Fg6⟩
      clear Fg6 hX ee a
      refine ⟨Or.inl rfl, ?_⟩
      refine dz_ [] (h5_ t1 t2 t5 t6 t7) ?_
      rintro a A - ⟨t1, t2, t5, t6, t7, -⟩
      refine wi_ A (h5_ t1 t2 t5 t6 t7) (rv_ 1 (.int .i64 (((i : Nat) : Int) + 1)) (fun a ee => exAddZ (p := ((i : Nat) : Int)) (q := 1) rfl (ee _) rfl ⟨by omega, by omega⟩) (rf_ [(7, .int .i64 (((i : Nat) : Int) + 1))] (h4_ t1 t2 t5 t6) ?_))
      rintro a A ⟨t7, -⟩ ⟨t1, t2, t5, t6, -⟩
      exact ⟨⟨i + 1, (up2 x i (gb, cb)), _, lti, A, t1, t2, t5, t6, t7, BB, Fg2, Fg6n, FC, FT2, FR2⟩, by show p.n - (intOf (a.eval (.tmp 7))).toNat < p.n - (intOf (Act.eval _ (.tmp 7))).toNat; rw [t7, esi]; show p.n - (i + 1) < p.n - i; omega⟩
    · rw [decide_eq_false lti] at t44
      refine wp_cond_false t44 ?_
      refine wp_exit ?_
      first | with_reducible refine exit_in ?_ | with_reducible refine exit_then (exit_in ?_) | with_reducible refine exit_then (exit_then (exit_in ?_)) | refine exit_in ?_ | refine exit_then (exit_in ?_) | refine exit_then (exit_then (exit_in ?_))
      clear t44 esi
      have ei : i = p.n := by omega
      rw [ei] at FT FR
      exact hB hk a _ g2 g6 gc cc tl x A t1 t2 t5 t6 BB hcc Fg2 Fg6 FC FT FR
  · refine wp_seq ?_
    refine wp_seq ?_
    refine wi_ A (h2_ t1 t2) (rv_ 0 (.agg #[cv, tz]) (fun a ee => execLdPz rfl (ee _) Fg2) (rc_ 1 (I.check p _ X1 (hp.on BB)) (cb_ fun X3 bQ => ?_)))
    replace Fg2 := (on9 Fg2 bQ)
    replace BB := BB.trans (bQ.mono BB.size)
    clear bQ
    refine rv_ 2 (.bool true) (fun a ee => execDec (execErneq (p := chk p) (q := 0) rfl (ee _)) (decide_eq_true hk)) (rg_ [(27, .bool true)] ?_)
    rintro a A ⟨t27, -⟩
    refine wp_cond_true t27 ?_
    clear t27
    refine wp_seq ?_
    refine wi_ A h0_ (rg_ [(4, .bool true)] ?_)
    rintro a A ⟨t4, -⟩
    refine wp_ret ?_
    repeat (first | with_reducible refine ret_in ?_ | with_reducible refine ret_then ?_)
    refine bodyPost_ret (results_tmp rfl _ _ _) A.2 ⟨?_, BB⟩
    show Ending.returned (a.eval (.tmp 4)) = _
    rw [t4]
end Go.Proofs.Ytcgkelgncehekab.Loo

namespace Go.Proofs.Ytcgkelgncehekab.Loo
open Go.RowKit Gf8 Aes By8 Cel Cf Win Drw Prm
/- LoomKeeps: prefixes of lists, != of operations, append of lists of lists. -/

theorem SliceI.pre {W : World} {g n c d : Nat} {f : Nat → Int} (h : SliceI W (.slice (some ⟨g, 0, none⟩) n c) n f) (hd : d ≤ n) : SliceI W (.slice (some ⟨g, 0, none⟩) d c) d f := by
  obtain ⟨⟨ao, cap, e, h1, h2, h3⟩, hf⟩ := h
  injection e with e1 e2 e3
  subst e3
  subst e1
  exact ⟨⟨_, _, rfl, by omega, h2, fun h0 => let ⟨b, off, e1, e2, e3⟩ := h3 (by omega); ⟨b, off, e1, e2, fun j hj => e3 j (by omega)⟩⟩, fun j hj => hf j (by omega)⟩
theorem SliceO.pre {W : World} {g n c d : Nat} {f : Nat → Op3} (h : SliceO W (.slice (some ⟨g, 0, none⟩) n c) n f) (hd : d ≤ n) : SliceO W (.slice (some ⟨g, 0, none⟩) d c) d f := by
  obtain ⟨⟨ao, cap, e, h3⟩, hf⟩ := h
  injection e with e1 e2 e3
  subst e3
  subst e1
  exact ⟨⟨_, _, rfl, fun h0 => let ⟨b, off, e1, e2, e3⟩ := h3 (by omega); ⟨b, off, e1, e2, fun j hj => e3 j (by omega)⟩⟩, fun j hj => hf j (by omega)⟩
theorem execNeOp {o : Oper} {a : Act} {w : World} {x y : Operand} {k b c : Int} (ho : o.op = .binOp .neq 38 x y 38) (hx : a.eval x = .agg (oC k b c)) (hy : a.eval y = .agg (oC k b c)) : (execOp a.eval o).run Try.prog w = .ok (.value (.bool false)) w := by
  unfold execOp
  simp only [ho, hx, hy]
  simp [go_sem, oC]
theorem execBs2L {o : Oper} {a : Act} {w : World} {x y : Operand} {p q : Value} (ho : o.op = .buildSlice 27 2 #[(0, x), (1, y)]) (hx : a.eval x = p) (hy : a.eval y = q) (hp : ∃ g n c, p = .slice g n c) (hq : ∃ g n c, q = .slice g n c) : (execOp a.eval o).run Try.prog w = .ok (.value (.slice (some ⟨w.heap.size, 0, none⟩) 2 2)) (w.alloc (.cells #[p, q] 22)) := by
  obtain ⟨g1, n1, c1, rfl⟩ := hp
  obtain ⟨g2, n2, c2, rfl⟩ := hq
  unfold execOp
  simp only [ho, List.map_toArray, List.map_cons, List.map_nil, hx, hy]
  simp [go_sem]
theorem own_new2 (W : World) (p q : Value) : (W.alloc (.cells #[p, q] 22)).ownsRow W.heap.size 22 1 (.slice (some ⟨W.heap.size, 0, none⟩) 2 2) 2 [p, q] :=
  ⟨rfl, Or.inr ⟨W.heap.size, 2, _, rfl, Nat.le_refl _, heapNew W _, Nat.le_refl _, by unfold maxLen; omega, rfl, rfl⟩⟩
theorem lL_one {n : Nat} {y : Nat → Value} (h : ∀ t, t < n → ∃ g m c, y t = .slice g m c) : ∀ u ∈ lL y n, u.oneCell' = true := by
  induction n with
  | zero => intro u hu; cases hu
  | succ n ih =>
    intro u hu
    rcases List.mem_append.1 (show u ∈ lL y n ++ [y n] from hu) with h1 | h1
    · exact ih (fun t ht => h t (by omega)) u h1
    · obtain ⟨g, m, c, e⟩ := h n (by omega)
      rw [List.mem_singleton.1 h1, e]
      rfl
/-- append of lists of ints to a row of lists of one's own. -/
theorem stepAppLL {ops : Array Oper} {Q : Exit → Act → World → Prop} {K : Act → World → Prop} {j : Nat} {o : Oper} {a : Act} {W : World} {s x : Operand} {B C k n : Nat} {v u : Value} {xs : List Value} {y : Nat → Value} (hos : ops[j]? = some o) (hgd : Region.wanted o (yielded ops a.tmps) = true)
    (ho : o.op = .call { callee := .builtin .append, args := #[s, x], argTypes := #[27, 27] }) (hs : a.eval s = v) (hx : a.eval x = u) (hown : W.ownsRow B 22 1 v k xs) (h0 : 0 < k) (hu : W.ownsRow C 22 1 u n (lL y n)) (hy : ∀ t, t < n → ∃ g m c, y t = .slice g m c) (hn : k + n ≤ 1000000) (hB : B ≤ W.heap.size)
    (hK : ∀ v' W', W'.ownsRow B 22 1 v' (k + n) (xs ++ lL y n) → W.grownBy W' v.ownBlock → K (a.put o.dst v') W') : wpOp Try.prog ops Q j K a W := by
  obtain ⟨i, i1, i2, i3, i4⟩ := infoLI
  rcases hu.2 with ⟨eu, en⟩ | ⟨g, cap, cur, eu, _, hg, h1, h2, h3, h4⟩
  · subst eu
    subst en
    obtain ⟨b, c, ev, hc⟩ := own_openz hown h0
    refine stepV hos hgd (v := v) (w' := W) ?_ (hK v W (by rw [show lL y 0 = [] from rfl, List.append_nil]; exact hown) ⟨rfl, rfl, rfl, Nat.le_refl _, fun _ _ _ => rfl⟩)
    unfold execOp
    have hr : (Builtin.append_ #[27, 27] o.type #[v, .slice none 0 0]).run Try.prog W = .ok v W := by
      rw [ev]
      simp [Builtin.append_, run_underlying Try.underlying27, sizeOf, typeInfo, i1, Builtin.lenOf, Builtin.firstCells, loadCells, storeCells, Addr.add_mid, hc]
    simp only [ho, resolve, invoke, builtin, Sem.run_bind, Sem.run_pure, Result.andThen_ok, List.map_toArray, List.map_cons, List.map_nil, hs, hx, hr]
  · subst eu
    obtain ⟨v', W', run, q1, q2⟩ := execAppO (W := W) (m := n) (c := cap) (news := lL y n) ho Try.underlying27 i1 i2 i3 i4 rfl (by decide) hs hown hx (by rw [lL_len, Nat.mul_one]) (fun j z hz => by
      rw [Go.WideShapes.add_plain, cell_of_row _ _ _ _ _ _ hg, Nat.zero_add]
      have hj : j < n := by have := (List.getElem?_eq_some_iff.1 hz).1; rw [lL_len] at this; exact this
      rw [← h4, List.getElem?_take, if_pos (by omega), Array.getElem?_toList] at hz
      exact hz) (lL_one hy) (by unfold maxLen; omega) (by omega) hB
    exact stepV hos hgd run (hK v' W' q1 q2)
/-- The row that LoomKeeps hands to apart. -/
theorem lists_row {n : Nat} {pa pb : Value} {va vb : Nat → Value} {t : Nat} (ht : t < 2 + n + n) : ([pa, pb] ++ lL va n ++ lL vb n)[t]? = some (jn (n + 1) (cns pa va) (cns pb vb) (sg n t)) := by
  rw [lists_at]
  by_cases h0 : t = 0
  · subst h0; rfl
  rw [if_neg h0]
  by_cases h1 : t = 1
  · subst h1; rfl
  rw [if_neg h1]
  by_cases h2 : t < 2 + n
  · rw [if_pos h2, List.getElem?_append_left (by simp [lL_len]; omega), List.getElem?_append_right (by simp; omega)]
    exact lL_get _ _ _ (by simp; omega)
  · rw [if_neg h2, List.getElem?_append_right (by simp [lL_len]; omega)]
    have e : t - ([pa, pb] ++ lL va n).length = t - 2 - n := by simp [lL_len]; omega
    rw [e]
    exact lL_get _ _ _ (by omega)
end Go.Proofs.Ytcgkelgncehekab.Loo
