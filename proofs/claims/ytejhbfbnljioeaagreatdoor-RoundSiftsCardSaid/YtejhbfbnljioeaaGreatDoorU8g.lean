import Derived.Test.YtejhbfbnljioeaaGreatDoorU8f
namespace Go.Proofs.YtejhbfbnljioeaaGreatDoor.Rnd
open Go.RowKit Gf8 Aes By8 Cel Cf Win Oni Rou
open Go.ChangeMaps Go.MapKept
/- The reference's Sift. Written by tools/mkU8g.py. -/

theorem Cvs.on {W X : World} {cv : Value} {n : Nat} {xv : Nat → Value} (h : Cvs W cv n xv) (hb : Below W.heap.size W X) : Cvs X cv n xv := by
  obtain ⟨a, cap, e, q⟩ := h.shape
  refine ⟨a, cap, e, fun h0 => ?_⟩
  obtain ⟨b, o, e1, h1, h2⟩ := q h0
  exact ⟨b, o, e1, Nat.lt_of_lt_of_le h1 hb.size, fun i hi => by rw [cell_below hb h1]; exact h2 i hi⟩
theorem own_shp {W : World} {B n s : Nat} {t : TypeId} {v : Value} {xs : List Value} (h : W.ownsRow B t s v n xs) : ∃ ao c, v = .slice ao n c := by
  rcases h.2 with ⟨rfl, rfl⟩ | ⟨g, cap, cur, rfl, _⟩
  · exact ⟨_, _, rfl⟩
  · exact ⟨_, _, rfl⟩
set_option maxRecDepth 100000 in
theorem stepAppQ {ops : Array Oper} {Q : Exit → Act → World → Prop} {K : Act → World → Prop} {j : Nat} {o : Oper} {a : Act} {W : World} {s x : Operand} {B k g : Nat} {v u : Value} {P : Nat → List Value} {r : Nat → Nat} (hos : ops[j]? = some o) (hgd : Region.wanted o (yielded ops a.tmps) = true)
    (ho : o.op = .call { callee := .builtin .append, args := #[s, x], argTypes := #[35, 35] }) (hs : a.eval s = v) (hx : a.eval x = .slice (some ⟨g, 0, none⟩) 1 1) (hL : W.ownsRow B 46 17 v k (yL P k)) (hsrc : W.heap[g]? = some (.cells (pC u r) 46)) (hP : P k = (pC u r).toList) (hone : u.oneCell' = true) (hn : k ≤ 1000000) (hB : B ≤ W.heap.size)
    (hK : ∀ v' W', W'.ownsRow B 46 17 v' (k + 1) (yL P (k + 1)) → W.grownBy W' v.ownBlock → K (a.put o.dst v') W') : wpOp Tryz.prog ops Q j K a W := by
  obtain ⟨i, h1, h2, h3, h4⟩ := infoP
  obtain ⟨v', W', run, q1, q2⟩ := Cf.execAppO (W := W) (m := 1) (c := 1) (news := (pC u r).toList) ho Tryz.underlying35 h1 h2 h3 h4 (by simp [Value.cells, pC_size]) (by decide) hs hL hx (by rw [pC_len]) (fun j y hy => by
    rw [Go.WideShapes.add_plain, cell_of_row _ _ _ _ _ _ hsrc, Nat.zero_add]
    simpa using hy) (fun y hy => by
    have := pC_one r hone
    rw [Array.all_eq_true_iff_forall_mem] at this
    exact this y (by simpa using hy)) (by unfold maxLen; omega) (by omega) hB
  rw [← hP] at q1
  exact stepV hos hgd run (hK v' W' q1 q2)
set_option maxRecDepth 100000 in
set_option maxHeartbeats 4000000 in
/-- The reference's Sift. -/
theorem rsift (mv : Value) (m : Nat) (q : Cg) (nw : Int) (ev : Value) (wn : Nat) (nu : Nat → Int) (tw : Nat → Value) (lw : Nat → Nat) (t : Nat → Nat → Nat → Nat) (ro ep le : Int) (cvv : Value) (n : Nat) (xv : Nat → Value) (ky : Nat → Nat) (EE : Nat → Nat) (TT CC : Nat → Nat → Nat) (V : World) (hW : Wd V nw ev wn nu tw lw t) (hm : ∃ g n c, mv = .slice g n c) (hmv : ∃ ao c, mv = .slice ao m c) (hC : Cvs V cvv n xv) (hn : n ≤ 1000000) (hTb : ∀ i j, j < 16 → TT i j < 256) (hK : ∀ W, Below V.heap.size V W → Calls Tryz.prog 12 #[mv, .int .i64 ep] W fun e w' => ∃ r, e = .returned (.tuple #[r, .int .i64 ((rkE m ep : Nat) : Int)]) ∧ (rkE m ep = 0 → SliceN w' r 32 ky) ∧ Below W.heap.size W w') (hP : ∀ i, i < n → ∀ W kv, Below V.heap.size V W → SliceN W kv 32 ky → Calls Tryz.prog 24 #[kv, .int .i64 q.l, xv i] W fun e w' => ∃ cu, e = .returned (.tuple #[.agg (pC cu (TT i)), .int .i64 ((EE i : Nat) : Int)]) ∧ w'.ownsRow W.heap.size 5 1 cu (peN (EE i)) (bytesL (peN (EE i)) (CC i)) ∧ Below W.heap.size W w') :
    Calls Tryz.prog 6 #[.agg (cfC mv q), .agg (wC nw ev), .agg (btC ro ep le cvv)] V fun e w' => (∃ v cw, e = .returned (.tuple #[v, .agg (rpC (z0 (sfE m q ep) n) (z0 (sfE m q ep) (cn (ft EE TT (wAll (esL wn nu lw t))) 0 n)) (z0 (sfE m q ep) (cn (ft EE TT (wAll (esL wn nu lw t))) 1 n))), .int .i64 (((sfE m q ep) : Nat) : Int)]) ∧ PeL V.heap.size w' v (z0 (sfE m q ep) (cn (ft EE TT (wAll (esL wn nu lw t))) 2 n)) cw (fun m => TT (fr (ft EE TT (wAll (esL wn nu lw t))) n m)) (fun _ => 320) (fun m => CC (fr (ft EE TT (wAll (esL wn nu lw t))) n m))) ∧ Below V.heap.size V w' := by
  have hev : ∃ g n c, ev = .slice g n c := by obtain ⟨g, c, e, _⟩ := hW.eps.shape; exact ⟨g, wn, c, e⟩
  have hcv : ∃ g n c, cvv = .slice g n c := by obtain ⟨g, c, e, _⟩ := hC.shape; exact ⟨g, n, c, e⟩
  go_enter Tryz.func6, Tryz.ntmps6
  refine wo_ 80 [(0, .agg (cfC mv q)), (1, .agg (wC nw ev)), (2, .agg (btC ro ep le cvv))] ?_
  rintro a A ⟨t0, t1, t2, -⟩
  have BW : Below V.heap.size V V := Below.refl _ _
  have BB := BW
  refine wp_seq ?_
  obtain ⟨g3, egg3⟩ : ∃ z_ : Nat, V.heap.size = z_ := ⟨_, rfl⟩
  refine wi_ A (h3_ t0 t1 t2) (rs_ 0 (fun a ee => ?_))
  refine stepV rfl rfl (execBxC hm rfl (ee _)) ⟨.pointer (some ⟨g3, 0, none⟩), ⟨_, rfl, by subst egg3; rfl⟩, fun X0_1 hX => ?_⟩
  have bQ : Below V.heap.size V X0_1 := by subst hX egg3; exact (belNew V _)
  have Fg3 : (X0_1.heap[g3]? = some (.cells (cfC mv q) 24)) := by subst hX egg3; exact heapNew V _
  replace BB := BB.trans (bQ.mono BB.size)
  clear bQ hX egg3 ee a
  obtain ⟨g4, egg4⟩ : ∃ z_ : Nat, X0_1.heap.size = z_ := ⟨_, rfl⟩
  refine rs_ 1 (fun a ee => ?_)
  refine stepV rfl rfl (execBoxW rfl (ee _)) ⟨.pointer (some ⟨g4, 0, none⟩), ⟨_, rfl, by subst egg4; rfl⟩, fun X0_2 hX => ?_⟩
  have bQ : Below X0_1.heap.size X0_1 X0_2 := by subst hX egg4; exact (belNew X0_1 _)
  have Fg4 : (X0_2.heap[g4]? = some (.cells (wC nw ev) 27)) := by subst hX egg4; exact heapNew X0_1 _
  replace Fg3 := (on9 Fg3 bQ)
  replace BB := BB.trans (bQ.mono BB.size)
  clear bQ hX egg4 ee a
  obtain ⟨g5, egg5⟩ : ∃ z_ : Nat, X0_2.heap.size = z_ := ⟨_, rfl⟩
  refine rs_ 2 (fun a ee => ?_)
  refine stepV rfl rfl (execBxB hcv rfl (ee _)) ⟨.pointer (some ⟨g5, 0, none⟩), ⟨_, rfl, by subst egg5; rfl⟩, fun X0_3 hX => ?_⟩
  have bQ : Below X0_2.heap.size X0_2 X0_3 := by subst hX egg5; exact (belNew X0_2 _)
  have Fg5 : (X0_3.heap[g5]? = some (.cells (btC ro ep le cvv) 32)) := by subst hX egg5; exact heapNew X0_2 _
  replace Fg3 := (on9 Fg3 bQ)
  replace Fg4 := (on9 Fg4 bQ)
  replace BB := BB.trans (bQ.mono BB.size)
  clear bQ hX egg5 ee a
  obtain ⟨g7, egg7⟩ : ∃ z_ : Nat, X0_3.heap.size = z_ := ⟨_, rfl⟩
  refine rs_ 4 (fun a ee => ?_)
  refine stepV rfl rfl (execAlR rfl) ⟨.pointer (some ⟨g7, 0, none⟩), ⟨_, rfl, by subst egg7; rfl⟩, fun X0 hX => ?_⟩
  have bQ : Below X0_3.heap.size X0_3 X0 := by subst hX egg7; exact (belNew X0_3 _)
  have Fg7 : (X0.heap[g7]? = some (.cells (rpC 0 0 0) 37)) := by subst hX egg7; exact heapNew X0_3 _
  have Fgeg7 : (V.heap.size ≤ g7) := by subst hX egg7; exact (BB).size
  replace Fg3 := (on9 Fg3 bQ)
  replace Fg4 := (on9 Fg4 bQ)
  replace Fg5 := (on9 Fg5 bQ)
  replace BB := BB.trans (bQ.mono BB.size)
  clear bQ hX egg7 ee a
  refine rg_ [(3, .pointer (some ⟨g3, 0, none⟩)), (4, .pointer (some ⟨g4, 0, none⟩)), (5, .pointer (some ⟨g5, 0, none⟩)), (7, .pointer (some ⟨g7, 0, none⟩))] ?_
  rintro a A ⟨t3, t4, t5, t7, -⟩
  refine wp_seq ?_
  refine wp_seq ?_
  by_cases h0 : cfQ m q = false
  · refine wi_ A (h4_ t3 t4 t5 t7) (rv_ 0 (.agg (cfC mv q)) (fun a ee => execLdC rfl (ee _) Fg3) (rc_ 1 ((h0 ▸ rright21 mv m q X0 hm hmv)) (cb_ fun X1 bQ => ?_)))
    replace Fg3 := (on9 Fg3 bQ)
    replace Fg4 := (on9 Fg4 bQ)
    replace Fg5 := (on9 Fg5 bQ)
    replace Fg7 := (on9 Fg7 bQ)
    replace BB := BB.trans (bQ.mono BB.size)
    clear bQ
    refine rv_ 2 (.bool true) (fun a ee => execNot8 (b := false) rfl (ee _)) (rf_ [(18, .bool true)] (h4_ t3 t4 t5 t7) ?_)
    rintro a A ⟨t18, -⟩ ⟨t3, t4, t5, t7, -⟩
    refine wp_cond_true t18 ?_
    clear t18
    refine wp_seq ?_
    refine wi_ A (h4_ t3 t4 t5 t7) (rv_ 0 (.agg (rpC 0 0 0)) (fun a ee => execBdR0 rfl) (rs_ 2 (fun a ee => ?_)))
    refine stepS rfl rfl (execStRp rfl (ee _) (ee _) Fg7) ⟨_, ⟨_, rfl, rfl⟩, fun X2 hX => ?_⟩
    obtain ⟨BB, Fg3, Fg4, Fg5, Fg7s⟩ : Below V.heap.size V X2 ∧ (X2.heap[g3]? = some (.cells (cfC mv q) 24)) ∧ (X2.heap[g4]? = some (.cells (wC nw ev) 27)) ∧ (X2.heap[g5]? = some (.cells (btC ro ep le cvv) 32)) ∧ (X2.heap[g7]? = some (.cells (rpC 0 0 0) 37)) := by subst hX; exact ⟨below4 BB Fgeg7 _, (by rw [setRow_other _ _ _ _ (ne_type Fg7 Fg3 (by decide))]; exact Fg3), (by rw [setRow_other _ _ _ _ (ne_type Fg7 Fg4 (by decide))]; exact Fg4), (by rw [setRow_other _ _ _ _ (ne_type Fg7 Fg5 (by decide))]; exact Fg5), setRow_heap _ _ _ _ _ _ Fg7⟩
    clear Fg7 hX ee a
    refine rf_ [(6, .slice none 0 0), (8, .int .i64 ((210 : Nat) : Int))] (h1_ t7) ?_
    rintro a A ⟨t6, t8, -⟩ ⟨t7, -⟩
    have hE : (sfE m q ep) = 210 := if_neg (by rw [h0]; decide)
    refine wp_ret ?_
    repeat (first | with_reducible refine ret_in ?_ | with_reducible refine ret_then ?_)
    refine bodyPost_ret (res_tct _ _ g7 37 _ (0, 0) _ Tryz.results6 t7 Fg7s Tryz.underlying37 rfl (by show _ = some 5; kernel_rfl)) A.2 ⟨⟨.slice none 0 0, fun _ => undef, ?_, ?_⟩, BB⟩
    · show Ending.returned (.tuple #[a.eval (.tmp 6), .agg _, a.eval (.tmp 8)]) = _
      rw [t6, t8]
      rw [hE]
      rfl
    · rw [hE]
      exact PeL.nil _ _ _ _ _ _
  replace h0 := bnf h0
  have hE0 : (sfE m q ep) = rkE m ep := if_pos h0
  refine wi_ A (h4_ t3 t4 t5 t7) (rv_ 0 (.agg (cfC mv q)) (fun a ee => execLdC rfl (ee _) Fg3) (rc_ 1 ((h0 ▸ rright21 mv m q X0 hm hmv)) (cb_ fun X1 bQ => ?_)))
  replace Fg3 := (on9 Fg3 bQ)
  replace Fg4 := (on9 Fg4 bQ)
  replace Fg5 := (on9 Fg5 bQ)
  replace Fg7 := (on9 Fg7 bQ)
  replace BB := BB.trans (bQ.mono BB.size)
  clear bQ
  refine rv_ 2 (.bool false) (fun a ee => execNot8 (b := true) rfl (ee _)) (rf_ [(18, .bool false)] (h4_ t3 t4 t5 t7) ?_)
  rintro a A ⟨t18, -⟩ ⟨t3, t4, t5, t7, -⟩
  refine wp_cond_false t18 ?_
  refine wp_skip ?_
  clear t18
  refine wp_seq ?_
  refine wi_ A (h4_ t3 t4 t5 t7) (rv_ 0 (.pointer (some ⟨g3, 0, none⟩)) (fun a ee => execFC0 rfl (ee _)) (rv_ 1 (mv) (fun a ee => execL1 rfl (Or.inr (Or.inr rfl)) (ee _) (row_1 Fg3 rfl)) (rv_ 2 (.pointer (some ⟨g5, 0, none⟩)) (fun a ee => execFB0 rfl (ee _)) (rv_ 3 (.pointer (some ⟨g5, 1, none⟩)) (fun a ee => execFH1 rfl (ee _)) (rv_ 4 (.int .i64 ep) (fun a ee => execL1 rfl (Or.inr (Or.inl rfl)) (ee _) (row_1 Fg5 rfl)) (rc_ 5 (hK X1 BB) fun e X3 hh => ?_))))))
  obtain ⟨kv, he, hk_, hb⟩ := hh
  refine ⟨_, he, ?_⟩
  have bQ : Below X1.heap.size X1 X3 := hb
  have FK : ((rkE m ep = 0 → SliceN X3 kv 32 ky)) := hk_
  replace Fg3 := (on9 Fg3 bQ)
  replace Fg4 := (on9 Fg4 bQ)
  replace Fg5 := (on9 Fg5 bQ)
  replace Fg7 := (on9 Fg7 bQ)
  replace BB := BB.trans (bQ.mono BB.size)
  clear bQ
  refine rf_ [(9, kv), (10, .int .i64 ((rkE m ep : Nat) : Int))] (h4_ t3 t4 t5 t7) ?_
  rintro a A ⟨t9, t10, -⟩ ⟨t3, t4, t5, t7, -⟩
  refine wp_seq ?_
  refine wp_seq ?_
  by_cases h1 : rkE m ep ≠ 0
  · refine wi_ A (h6_ t3 t4 t5 t7 t9 t10) (rv_ 1 (.bool true) (fun a ee => execDec (exIneq3 (p := ((rkE m ep : Nat) : Int)) (q := 0) rfl (ee _) rfl) (decide_eq_true (by omega))) (rf_ [(30, .bool true)] (h6_ t3 t4 t5 t7 t9 t10) ?_))
    rintro a A ⟨t30, -⟩ ⟨t3, t4, t5, t7, t9, t10, -⟩
    refine wp_cond_true t30 ?_
    clear t30
    refine wp_seq ?_
    refine wi_ A (h6_ t3 t4 t5 t7 t9 t10) (rv_ 0 (.agg (rpC 0 0 0)) (fun a ee => execBdR0 rfl) (rs_ 3 (fun a ee => ?_)))
    refine stepS rfl rfl (execStRp rfl (ee _) (ee _) Fg7) ⟨_, ⟨_, rfl, rfl⟩, fun X5 hX => ?_⟩
    obtain ⟨BB, Fg3, Fg4, Fg5, Fg7s⟩ : Below V.heap.size V X5 ∧ (X5.heap[g3]? = some (.cells (cfC mv q) 24)) ∧ (X5.heap[g4]? = some (.cells (wC nw ev) 27)) ∧ (X5.heap[g5]? = some (.cells (btC ro ep le cvv) 32)) ∧ (X5.heap[g7]? = some (.cells (rpC 0 0 0) 37)) := by subst hX; exact ⟨below4 BB Fgeg7 _, (by rw [setRow_other _ _ _ _ (ne_type Fg7 Fg3 (by decide))]; exact Fg3), (by rw [setRow_other _ _ _ _ (ne_type Fg7 Fg4 (by decide))]; exact Fg4), (by rw [setRow_other _ _ _ _ (ne_type Fg7 Fg5 (by decide))]; exact Fg5), setRow_heap _ _ _ _ _ _ Fg7⟩
    clear Fg7 hX ee a
    refine rf_ [(6, .slice none 0 0), (8, .int .i64 ((rkE m ep : Nat) : Int))] (h1_ t7) ?_
    rintro a A ⟨t6, t8, -⟩ ⟨t7, -⟩
    have hz : ∀ x, z0 (sfE m q ep) x = 0 := fun x => if_neg (by rw [hE0]; exact h1)
    refine wp_ret ?_
    repeat (first | with_reducible refine ret_in ?_ | with_reducible refine ret_then ?_)
    refine bodyPost_ret (res_tct _ _ g7 37 _ (0, 0) _ Tryz.results6 t7 Fg7s Tryz.underlying37 rfl (by show _ = some 5; kernel_rfl)) A.2 ⟨⟨.slice none 0 0, fun _ => undef, ?_, ?_⟩, BB⟩
    · show Ending.returned (.tuple #[a.eval (.tmp 6), .agg _, a.eval (.tmp 8)]) = _
      rw [t6, t8]
      rw [hz, hz, hz, hE0]
    · rw [hz]
      exact PeL.nil _ _ _ _ _ _
  have h1b := Classical.not_not.1 h1
  have hE : (sfE m q ep) = 0 := hE0.trans h1b
  refine wi_ A (h6_ t3 t4 t5 t7 t9 t10) (rv_ 1 (.bool false) (fun a ee => execDec (exIneq3 (p := ((rkE m ep : Nat) : Int)) (q := 0) rfl (ee _) rfl) (decide_eq_false (by omega))) (rf_ [(30, .bool false)] (h6_ t3 t4 t5 t7 t9 t10) ?_))
  rintro a A ⟨t30, -⟩ ⟨t3, t4, t5, t7, t9, t10, -⟩
  refine wp_cond_false t30 ?_
  refine wp_skip ?_
  clear t30
  replace FK := FK h1b
  refine wp_seq ?_
  refine wi_ A (h6_ t3 t4 t5 t7 t9 t10) (rv_ 1 (.pointer (some ⟨g3, 1, none⟩)) (fun a ee => execFC1 rfl (ee _)) (rv_ 2 (.int .i64 q.l) (fun a ee => execL1 rfl (Or.inl rfl) (ee _) (row_1 Fg3 rfl)) (rv_ 3 (.agg (wC nw ev)) (fun a ee => execLdWn rfl (ee _) Fg4) (rv_ 4 (.pointer (some ⟨g5, 3, none⟩)) (fun a ee => execFB1 rfl (ee _)) (rv_ 5 (cvv) (fun a ee => execLL rfl (ee _) (row_1 Fg5 rfl)) (rc_ 6 (rfate q nw ev wn nu tw lw t kv cvv n xv ky EE TT CC X3 (hW.on BB) (hC.on BB) hn hTb FK (fun i hi W kv hb hk => hP i hi W kv ((BB).trans (hb.mono (BB).size)) hk)) fun e X6 hh => ?_))))))
  obtain ⟨⟨fv, av, cw, he, hi_, ha_⟩, hb⟩ := hh
  refine ⟨_, he, ?_⟩
  have bQ : Below X3.heap.size X3 X6 := hb
  have FI : (X6.ownsRow V.heap.size 3 1 fv (n) (Drw.intsL (n) (fun i => (((ft EE TT (wAll (esL wn nu lw t))) i : Nat) : Int)))) := ownW_base hi_ (BB).size
  have FA : (PeL V.heap.size X6 av n cw TT (fun i => peN (EE i)) CC) := ha_.base (BB).size
  replace Fg3 := (on9 Fg3 bQ)
  replace Fg4 := (on9 Fg4 bQ)
  replace Fg5 := (on9 Fg5 bQ)
  replace Fg7 := (on9 Fg7 bQ)
  replace FK := (FK.on bQ)
  replace BB := BB.trans (bQ.mono BB.size)
  clear bQ
  refine rf_ [(11, fv), (12, av)] (h2_ t5 t7) ?_
  rintro a A ⟨t11, t12, -⟩ ⟨t5, t7, -⟩
  have BV := BB
  clear BB
  have BB : Below X6.heap.size X6 X6 := Below.refl _ _
  refine wp_seq ?_
  obtain ⟨g13, egg13⟩ : ∃ z_ : Nat, X6.heap.size = z_ := ⟨_, rfl⟩
  refine wi_ A (h4_ t5 t7 t11 t12) (rv_ 0 (.pointer (some ⟨g5, 3, none⟩)) (fun a ee => execFB1 rfl (ee _)) (rv_ 1 (cvv) (fun a ee => execLL rfl (ee _) (row_1 (on9 Fg5 BB) rfl)) (rv_ 2 (.int .i64 ((n : Nat) : Int)) (fun a ee => execLnCl (len := n) rfl (ee _) (by obtain ⟨g_, c_, e_, _⟩ := hC.shape; exact ⟨g_, c_, e_⟩)) (rv_ 3 (.agg (rpC n 0 0)) (fun a ee => execBdR1 (n := n) rfl (ee _)) (rs_ 4 (fun a ee => ?_))))))
  refine stepV rfl rfl (execAlR rfl) ⟨.pointer (some ⟨g13, 0, none⟩), ⟨_, rfl, by subst egg13; rfl⟩, fun X7_1 hX => ?_⟩
  have bQ : Below X6.heap.size X6 X7_1 := by subst hX egg13; exact (belNew X6 _)
  have Fg13 : (X7_1.heap[g13]? = some (.cells (rpC 0 0 0) 37)) := by subst hX egg13; exact heapNew X6 _
  have Fgeg13 : (X6.heap.size ≤ g13) := by subst hX egg13; exact (BB).size
  replace BB := BB.trans (bQ.mono BB.size)
  clear bQ hX egg13 ee a
  refine rs_ 5 (fun a ee => ?_)
  refine stepS rfl rfl (execStRp rfl (ee _) (ee _) Fg13) ⟨_, ⟨_, rfl, rfl⟩, fun X7 hX => ?_⟩
  obtain ⟨BB, FR⟩ : Below X6.heap.size X6 X7 ∧ (X7.heap[g13]? = some (.cells (rpC n 0 0) 37)) := by subst hX; exact ⟨below4 BB Fgeg13 _, setRow_heap _ _ _ _ _ _ Fg13⟩
  clear Fg13 hX ee a
  refine rf_ [(13, .pointer (some ⟨g13, 0, none⟩))] (h3_ t7 t11 t12) ?_
  rintro a A ⟨t13, -⟩ ⟨t7, t11, t12, -⟩
  refine wp_seq ?_
  refine wi_ A (h4_ t7 t11 t12 t13) (rf_ [(14, .slice none 0 0)] (h4_ t7 t11 t12 t13) ?_)
  rintro a A ⟨t14, -⟩ ⟨t7, t11, t12, t13, -⟩
  refine wp_seq ?_
  refine wp_seq ?_
  refine wi_ A (h5_ t7 t11 t12 t13 t14) (rf_ [(15, .int .i64 ((0 : Nat) : Int))] (h5_ t7 t11 t12 t13 t14) ?_)
  rintro a A ⟨t15, -⟩ ⟨t7, t11, t12, t13, t14, -⟩
  have FO : X7.ownsRow X6.heap.size 46 17 (.slice none 0 0) 0 (yL (fun m => (pC (cw (fr (ft EE TT (wAll (esL wn nu lw t))) n m)) (TT (fr (ft EE TT (wAll (esL wn nu lw t))) n m))).toList) 0) := ⟨rfl, Or.inl ⟨rfl, rfl⟩⟩
  refine wp_block ?_
  refine wp_loop (fun a W => ∃ (i : Nat) (vf : Value), i ≤ n ∧ (a.tmps.size = 80 ∧ a.defers = []) ∧ a.eval (.tmp 7) = .pointer (some ⟨g7, 0, none⟩) ∧ a.eval (.tmp 11) = fv ∧ a.eval (.tmp 12) = av ∧ a.eval (.tmp 13) = .pointer (some ⟨g13, 0, none⟩) ∧ a.eval (.tmp 14) = vf ∧ a.eval (.tmp 15) = .int .i64 ((i : Nat) : Int) ∧ Below X6.heap.size X6 W ∧ (W.heap[g13]? = some (.cells (rpC n (cn (ft EE TT (wAll (esL wn nu lw t))) 0 i) (cn (ft EE TT (wAll (esL wn nu lw t))) 1 i)) 37)) ∧ (W.ownsRow X6.heap.size 46 17 vf (cn (ft EE TT (wAll (esL wn nu lw t))) 2 i) (yL (fun m => (pC (cw (fr (ft EE TT (wAll (esL wn nu lw t))) n m)) (TT (fr (ft EE TT (wAll (esL wn nu lw t))) n m))).toList) (cn (ft EE TT (wAll (esL wn nu lw t))) 2 i)))) (fun a _ => n - (intOf (a.eval (.tmp 15))).toNat) ⟨0, .slice none 0 0, Nat.zero_le _, A, t7, t11, t12, t13, t14, t15, BB, FR, FO⟩ ?_
  clear A t7 t11 t12 t13 t14 t15 BB FR FO a
  rintro a XL10 ⟨i, vf, hi, A, t7, t11, t12, t13, t14, t15, BB, FR, FO⟩
  have esi := t15
  refine wp_seq ?_
  refine wp_seq ?_
  refine wi_ A (h6_ t7 t11 t12 t13 t14 t15) (rv_ 2 (.int .i64 ((n : Nat) : Int)) (fun a ee => Drw.execLenI (len := n) rfl (ee _) (own_shp FI)) (rv_ 3 (.bool (decide (i < n))) (fun a ee => execLtW (p := i) (q := n) rfl (ee _) (ee _)) (rf_ [(50, .bool (decide (i < n)))] (h6_ t7 t11 t12 t13 t14 t15) ?_)))
  rintro a A ⟨t50, -⟩ ⟨t7, t11, t12, t13, t14, t15, -⟩
  by_cases lti : i < n
  · rw [decide_eq_true lti] at t50
    refine wp_cond_true t50 ?_
    refine wp_skip ?_
    clear t50
    refine wp_seq ?_
    refine wp_block ?_
    obtain ⟨fb, fcap, efv, hfb, hfc⟩ := own_openI FI (by omega)
    obtain ⟨ab, acap, eav, _, hab, hac⟩ := FA.at (by omega)
    have hci := cn_le (F := (ft EE TT (wAll (esL wn nu lw t)))) (c := 0) i
    have hcj := cn_le (F := (ft EE TT (wAll (esL wn nu lw t)))) (c := 1) i
    have hck := cn_le (F := (ft EE TT (wAll (esL wn nu lw t)))) (c := 2) i
    refine wp_seq ?_
    refine wi_ A (h6_ t7 t11 t12 t13 t14 t15) (rv_ 2 (.pointer (some ⟨fb, 0 + i, none⟩)) (fun a ee => Drw.execIdxN (k := i) rfl ((ee _).trans efv) (ee _) lti) (rv_ 3 (.int .i64 (((ft EE TT (wAll (esL wn nu lw t))) i : Nat) : Int)) (fun a ee => execL1 rfl (Or.inl rfl) (ee _) ((cell_below BB hfb).trans (hfc i lti))) (rf_ [(56, .int .i64 (((ft EE TT (wAll (esL wn nu lw t))) i : Nat) : Int))] (h6_ t7 t11 t12 t13 t14 t15) ?_)))
    rintro a A ⟨t56, -⟩ ⟨t7, t11, t12, t13, t14, t15, -⟩
    refine wp_block ?_
    rcases ft_le (E := EE) (T := TT) (A := (wAll (esL wn nu lw t))) (i := i) with hf | hf | hf
    · refine wp_seq ?_
      refine wi_ A (h7_ t7 t11 t12 t13 t14 t15 t56) (rv_ 0 (.bool true) (fun a ee => execDec (exIeql3 (p := (((ft EE TT (wAll (esL wn nu lw t))) i : Nat) : Int)) (q := 0) rfl (ee _) rfl) (decide_eq_true (by rw [hf]; rfl))) (rf_ [(57, .bool true)] (h7_ t7 t11 t12 t13 t14 t15 t56) ?_))
      rintro a A ⟨t57, -⟩ ⟨t7, t11, t12, t13, t14, t15, t56, -⟩
      refine wp_cond_true t57 ?_
      clear t57
      clear t56
      refine wi_ A (h6_ t7 t11 t12 t13 t14 t15) (rv_ 0 (.pointer (some ⟨g13, 1, none⟩)) (fun a ee => execFR (Or.inr (Or.inl rfl)) rfl (ee _)) (rv_ 1 (.int .i64 (((cn (ft EE TT (wAll (esL wn nu lw t))) 0 i) : Nat) : Int)) (fun a ee => execL1 rfl (Or.inl rfl) (ee _) (row_1 FR rfl)) (rv_ 2 (.int .i64 (((cn (ft EE TT (wAll (esL wn nu lw t))) 0 i) + 1 : Nat) : Int)) (fun a ee => execAd8 (p := (cn (ft EE TT (wAll (esL wn nu lw t))) 0 i)) (q := 1) rfl (ee _) rfl (by omega)) (rv_ 3 (.pointer (some ⟨g13, 1, none⟩)) (fun a ee => execFR (Or.inr (Or.inl rfl)) rfl (ee _)) (rs_ 4 (fun a ee => ?_))))))
      refine stepS rfl rfl (execStR1 (z := (cn (ft EE TT (wAll (esL wn nu lw t))) 0 i) + 1) rfl (ee _) (ee _) FR (by show 1 < 5; omega)) ⟨_, ⟨_, rfl, rfl⟩, fun X14 hX => ?_⟩
      obtain ⟨BB, FO, FRn⟩ : Below X6.heap.size X6 X14 ∧ (X14.ownsRow X6.heap.size 46 17 vf (cn (ft EE TT (wAll (esL wn nu lw t))) 2 i) (yL (fun m => (pC (cw (fr (ft EE TT (wAll (esL wn nu lw t))) n m)) (TT (fr (ft EE TT (wAll (esL wn nu lw t))) n m))).toList) (cn (ft EE TT (wAll (esL wn nu lw t))) 2 i))) ∧ (X14.heap[g13]? = some (.cells (rpC n ((cn (ft EE TT (wAll (esL wn nu lw t))) 0 i) + 1) (cn (ft EE TT (wAll (esL wn nu lw t))) 1 i)) 37)) := by subst hX; exact ⟨below4 BB Fgeg13 _, (ownG_T FO FR (by decide) (grown_row FR)), setRow_heap _ _ _ _ _ _ FR⟩
      clear FR hX ee a
      refine rf_ [] (h6_ t7 t11 t12 t13 t14 t15) ?_
      rintro a A - ⟨t7, t11, t12, t13, t14, t15, -⟩
      refine wi_ A (h6_ t7 t11 t12 t13 t14 t15) (rv_ 1 (.int .i64 ((i + 1 : Nat) : Int)) (fun a ee => execAd8 (p := i) (q := 1) rfl (ee _) rfl (by omega)) (rf_ [(15, .int .i64 ((i + 1 : Nat) : Int))] (h5_ t7 t11 t12 t13 t14) ?_))
      rintro a A ⟨t15, -⟩ ⟨t7, t11, t12, t13, t14, -⟩
      exact ⟨⟨i + 1, vf, lti, A, t7, t11, t12, t13, t14, t15, BB, (by rw [cn_y hf, cn_n (show (ft EE TT (wAll (esL wn nu lw t))) i ≠ 1 by rw [hf]; decide)]; exact FRn), (by rw [cn_n (show (ft EE TT (wAll (esL wn nu lw t))) i ≠ 2 by rw [hf]; decide)]; exact FO)⟩, by show n - (intOf (a.eval (.tmp 15))).toNat < n - (intOf (Act.eval _ (.tmp 15))).toNat; rw [t15, esi]; show n - (i + 1) < n - i; omega⟩
    · refine wp_seq ?_
      refine wi_ A (h7_ t7 t11 t12 t13 t14 t15 t56) (rv_ 0 (.bool false) (fun a ee => execDec (exIeql3 (p := (((ft EE TT (wAll (esL wn nu lw t))) i : Nat) : Int)) (q := 0) rfl (ee _) rfl) (decide_eq_false (by rw [hf]; decide))) (rf_ [(57, .bool false)] (h7_ t7 t11 t12 t13 t14 t15 t56) ?_))
      rintro a A ⟨t57, -⟩ ⟨t7, t11, t12, t13, t14, t15, t56, -⟩
      refine wp_cond_false t57 ?_
      clear t57
      refine wp_seq ?_
      refine wi_ A (h7_ t7 t11 t12 t13 t14 t15 t56) (rv_ 0 (.bool true) (fun a ee => execDec (exIeql3 (p := (((ft EE TT (wAll (esL wn nu lw t))) i : Nat) : Int)) (q := 1) rfl (ee _) rfl) (decide_eq_true (by rw [hf]; rfl))) (rf_ [(63, .bool true)] (h7_ t7 t11 t12 t13 t14 t15 t56) ?_))
      rintro a A ⟨t63, -⟩ ⟨t7, t11, t12, t13, t14, t15, t56, -⟩
      refine wp_cond_true t63 ?_
      clear t63
      clear t56
      refine wi_ A (h6_ t7 t11 t12 t13 t14 t15) (rv_ 0 (.pointer (some ⟨g13, 2, none⟩)) (fun a ee => execFR (Or.inr (Or.inr rfl)) rfl (ee _)) (rv_ 1 (.int .i64 (((cn (ft EE TT (wAll (esL wn nu lw t))) 1 i) : Nat) : Int)) (fun a ee => execL1 rfl (Or.inl rfl) (ee _) (row_1 FR rfl)) (rv_ 2 (.int .i64 (((cn (ft EE TT (wAll (esL wn nu lw t))) 1 i) + 1 : Nat) : Int)) (fun a ee => execAd8 (p := (cn (ft EE TT (wAll (esL wn nu lw t))) 1 i)) (q := 1) rfl (ee _) rfl (by omega)) (rv_ 3 (.pointer (some ⟨g13, 2, none⟩)) (fun a ee => execFR (Or.inr (Or.inr rfl)) rfl (ee _)) (rs_ 4 (fun a ee => ?_))))))
      refine stepS rfl rfl (execStR1 (z := (cn (ft EE TT (wAll (esL wn nu lw t))) 1 i) + 1) rfl (ee _) (ee _) FR (by show 2 < 5; omega)) ⟨_, ⟨_, rfl, rfl⟩, fun X16 hX => ?_⟩
      obtain ⟨BB, FO, FRn⟩ : Below X6.heap.size X6 X16 ∧ (X16.ownsRow X6.heap.size 46 17 vf (cn (ft EE TT (wAll (esL wn nu lw t))) 2 i) (yL (fun m => (pC (cw (fr (ft EE TT (wAll (esL wn nu lw t))) n m)) (TT (fr (ft EE TT (wAll (esL wn nu lw t))) n m))).toList) (cn (ft EE TT (wAll (esL wn nu lw t))) 2 i))) ∧ (X16.heap[g13]? = some (.cells (rpC n (cn (ft EE TT (wAll (esL wn nu lw t))) 0 i) ((cn (ft EE TT (wAll (esL wn nu lw t))) 1 i) + 1)) 37)) := by subst hX; exact ⟨below4 BB Fgeg13 _, (ownG_T FO FR (by decide) (grown_row FR)), setRow_heap _ _ _ _ _ _ FR⟩
      clear FR hX ee a
      refine rf_ [] (h6_ t7 t11 t12 t13 t14 t15) ?_
      rintro a A - ⟨t7, t11, t12, t13, t14, t15, -⟩
      refine wi_ A (h6_ t7 t11 t12 t13 t14 t15) (rv_ 1 (.int .i64 ((i + 1 : Nat) : Int)) (fun a ee => execAd8 (p := i) (q := 1) rfl (ee _) rfl (by omega)) (rf_ [(15, .int .i64 ((i + 1 : Nat) : Int))] (h5_ t7 t11 t12 t13 t14) ?_))
      rintro a A ⟨t15, -⟩ ⟨t7, t11, t12, t13, t14, -⟩
      exact ⟨⟨i + 1, vf, lti, A, t7, t11, t12, t13, t14, t15, BB, (by rw [cn_n (show (ft EE TT (wAll (esL wn nu lw t))) i ≠ 0 by rw [hf]; decide), cn_y hf]; exact FRn), (by rw [cn_n (show (ft EE TT (wAll (esL wn nu lw t))) i ≠ 2 by rw [hf]; decide)]; exact FO)⟩, by show n - (intOf (a.eval (.tmp 15))).toNat < n - (intOf (Act.eval _ (.tmp 15))).toNat; rw [t15, esi]; show n - (i + 1) < n - i; omega⟩
    · refine wp_seq ?_
      refine wi_ A (h7_ t7 t11 t12 t13 t14 t15 t56) (rv_ 0 (.bool false) (fun a ee => execDec (exIeql3 (p := (((ft EE TT (wAll (esL wn nu lw t))) i : Nat) : Int)) (q := 0) rfl (ee _) rfl) (decide_eq_false (by rw [hf]; decide))) (rf_ [(57, .bool false)] (h7_ t7 t11 t12 t13 t14 t15 t56) ?_))
      rintro a A ⟨t57, -⟩ ⟨t7, t11, t12, t13, t14, t15, t56, -⟩
      refine wp_cond_false t57 ?_
      clear t57
      refine wp_seq ?_
      refine wi_ A (h7_ t7 t11 t12 t13 t14 t15 t56) (rv_ 0 (.bool false) (fun a ee => execDec (exIeql3 (p := (((ft EE TT (wAll (esL wn nu lw t))) i : Nat) : Int)) (q := 1) rfl (ee _) rfl) (decide_eq_false (by rw [hf]; decide))) (rf_ [(63, .bool false)] (h7_ t7 t11 t12 t13 t14 t15 t56) ?_))
      rintro a A ⟨t63, -⟩ ⟨t7, t11, t12, t13, t14, t15, t56, -⟩
      refine wp_cond_false t63 ?_
      clear t63
      refine wp_seq ?_
      refine wi_ A (h7_ t7 t11 t12 t13 t14 t15 t56) (rv_ 0 (.bool true) (fun a ee => execDec (exIeql3 (p := (((ft EE TT (wAll (esL wn nu lw t))) i : Nat) : Int)) (q := 2) rfl (ee _) rfl) (decide_eq_true (by rw [hf]; rfl))) (rf_ [(69, .bool true)] (h7_ t7 t11 t12 t13 t14 t15 t56) ?_))
      rintro a A ⟨t69, -⟩ ⟨t7, t11, t12, t13, t14, t15, t56, -⟩
      refine wp_cond_true t69 ?_
      clear t69
      clear t56
      obtain ⟨g76, egg76⟩ : ∃ z_ : Nat, XL10.heap.size = z_ := ⟨_, rfl⟩
      refine wi_ A (h6_ t7 t11 t12 t13 t14 t15) (rv_ 3 (.pointer (some ⟨ab, i * 17, none⟩)) (fun a ee => execIxPe (k := i) rfl ((ee _).trans eav) (ee _) lti) (rv_ 4 (.agg (pC (cw i) (TT i))) (fun a ee => execLdPe rfl (ee _) (fun j_ hj_ => (cell_below BB hab).trans (hac i lti j_ hj_))) (rs_ 5 (fun a ee => ?_))))
      refine stepV rfl rfl (execBsP rfl (ee _)) ⟨.slice (some ⟨g76, 0, none⟩) 1 1, ⟨_, rfl, by subst egg76; rfl⟩, fun X18_1 hX => ?_⟩
      have bQ : Below XL10.heap.size XL10 X18_1 := by subst hX egg76; exact (belNew XL10 _)
      have Fg76 : (X18_1.heap[g76]? = some (.cells (pC (cw i) (TT i)) 46)) := by subst hX egg76; exact heapNew XL10 _
      replace FR := (on9 FR bQ)
      replace FO := (ownW_below FO bQ)
      replace BB := BB.trans (bQ.mono BB.size)
      clear bQ hX egg76 ee a
      refine rs_ 6 (fun a ee => ?_)
      refine stepAppQ (P := (fun m => (pC (cw (fr (ft EE TT (wAll (esL wn nu lw t))) n m)) (TT (fr (ft EE TT (wAll (esL wn nu lw t))) n m))).toList)) (u := cw i) (r := TT i) rfl rfl rfl (ee _) (ee _) FO Fg76 (by show (pC (cw (fr (ft EE TT (wAll (esL wn nu lw t))) n (cn (ft EE TT (wAll (esL wn nu lw t))) 2 i))) (TT (fr (ft EE TT (wAll (esL wn nu lw t))) n (cn (ft EE TT (wAll (esL wn nu lw t))) 2 i)))).toList = _; rw [fr_at lti hf]) (own_one (FA.cel i lti)) (by omega) (BB).size fun v2 X18 own' gr => ⟨_, ⟨_, rfl, rfl⟩, eqw ?_⟩
      obtain ⟨BB, FR, FOn⟩ : Below X6.heap.size X6 X18 ∧ (X18.heap[g13]? = some (.cells (rpC n (cn (ft EE TT (wAll (esL wn nu lw t))) 0 i) (cn (ft EE TT (wAll (esL wn nu lw t))) 1 i)) 37)) ∧ (X18.ownsRow X6.heap.size 46 17 v2 (cn (ft EE TT (wAll (esL wn nu lw t))) 2 i + 1) (yL (fun m => (pC (cw (fr (ft EE TT (wAll (esL wn nu lw t))) n m)) (TT (fr (ft EE TT (wAll (esL wn nu lw t))) n m))).toList) (cn (ft EE TT (wAll (esL wn nu lw t))) 2 i + 1))) := ⟨(BB).grown gr (BB).size (fun b hb => (ownI_lt FO hb).1), (by rw [gr.block _ (Array.getElem?_eq_some_iff.1 FR).1 (fun e => by obtain ⟨_, c2, q2⟩ := own_blk FO e.symm; rw [FR] at q2; cases q2)]; exact FR), own'⟩
      clear FO Fg76 ee a
      refine rf_ [(14, v2)] (h5_ t7 t11 t12 t13 t15) ?_
      rintro a A ⟨t14, -⟩ ⟨t7, t11, t12, t13, t15, -⟩
      refine wi_ A (h6_ t7 t11 t12 t13 t15 t14) (rv_ 1 (.int .i64 ((i + 1 : Nat) : Int)) (fun a ee => execAd8 (p := i) (q := 1) rfl (ee _) rfl (by omega)) (rf_ [(15, .int .i64 ((i + 1 : Nat) : Int))] (h5_ t7 t11 t12 t13 t14) ?_))
      rintro a A ⟨t15, -⟩ ⟨t7, t11, t12, t13, t14, -⟩
      exact ⟨⟨i + 1, v2, lti, A, t7, t11, t12, t13, t14, t15, BB, (by rw [cn_n (show (ft EE TT (wAll (esL wn nu lw t))) i ≠ 0 by rw [hf]; decide), cn_n (show (ft EE TT (wAll (esL wn nu lw t))) i ≠ 1 by rw [hf]; decide)]; exact FR), (by rw [cn_y hf]; exact FOn)⟩, by show n - (intOf (a.eval (.tmp 15))).toNat < n - (intOf (Act.eval _ (.tmp 15))).toNat; rw [t15, esi]; show n - (i + 1) < n - i; omega⟩
  · rw [decide_eq_false lti] at t50
    refine wp_cond_false t50 ?_
    refine wp_exit ?_
    first | with_reducible refine exit_in ?_ | with_reducible refine exit_then (exit_in ?_) | with_reducible refine exit_then (exit_then (exit_in ?_)) | refine exit_in ?_ | refine exit_then (exit_in ?_) | refine exit_then (exit_then (exit_in ?_))
    clear t50 esi
    have ein : i = n := by omega
    rw [ein] at FR FO
    have n713 : g7 ≠ g13 := by have := (Array.getElem?_eq_some_iff.1 Fg7).1; omega
    replace Fg7 := on9 Fg7 BB
    have FA2 := FA.on BB
    replace BB := BV.trans (BB.mono BV.size)
    refine wp_seq ?_
    refine wj_ [0, 1, 2, 3, 4] [3] [1] [3] A (h3_ t7 t13 t14) (fun X19_0 bD => ?_)
    refine dv_ 1 (.agg (rpC n (cn (ft EE TT (wAll (esL wn nu lw t))) 0 n) (cn (ft EE TT (wAll (esL wn nu lw t))) 1 n))) (fun a X ee hb => execLdRp rfl (ee _) (on9 FR hb)) (ds_ 3 (fun a ee => ?_))
    refine stepS rfl rfl (execStRp rfl (ee _) (ee _) (on9 Fg7 bD)) ⟨_, ⟨_, rfl, rfl⟩, fun X19 hX => ?_⟩
    obtain ⟨BB, FR, FO, FA2, Fg7s⟩ : Below V.heap.size V X19 ∧ (X19.heap[g13]? = some (.cells (rpC n (cn (ft EE TT (wAll (esL wn nu lw t))) 0 n) (cn (ft EE TT (wAll (esL wn nu lw t))) 1 n)) 37)) ∧ (X19.ownsRow X6.heap.size 46 17 vf (cn (ft EE TT (wAll (esL wn nu lw t))) 2 n) (yL (fun m => (pC (cw (fr (ft EE TT (wAll (esL wn nu lw t))) n m)) (TT (fr (ft EE TT (wAll (esL wn nu lw t))) n m))).toList) (cn (ft EE TT (wAll (esL wn nu lw t))) 2 n))) ∧ (PeL V.heap.size X19 av n cw TT (fun i => peN (EE i)) CC) ∧ (X19.heap[g7]? = some (.cells (rpC n (cn (ft EE TT (wAll (esL wn nu lw t))) 0 n) (cn (ft EE TT (wAll (esL wn nu lw t))) 1 n)) 37)) := by subst hX; exact ⟨below4 (BB.trans (bD.mono BB.size)) Fgeg7 _, (by rw [setRow_other _ _ _ _ (Ne.symm n713)]; exact (on9 FR bD)), (ownG_T (ownW_below FO bD) (on9 Fg7 bD) (by decide) (grown_row (on9 Fg7 bD))), ((FA2.on bD).grT (grown_row (on9 Fg7 bD)) (on9 Fg7 bD) (by decide)), setRow_heap _ _ _ _ _ _ (on9 Fg7 bD)⟩
    clear bD Fg7 hX ee a
    refine ⟨Or.inl rfl, ?_⟩
    refine dz_ [(6, vf), (8, .int .i64 ((0 : Nat) : Int))] (h1_ t7) ?_
    rintro a A ⟨t6, t8, -⟩ ⟨t7, -⟩
    have hz : ∀ x, z0 (sfE m q ep) x = x := fun x => if_pos hE
    refine wp_ret ?_
    refine bodyPost_ret (res_tct _ _ g7 37 _ (0, 0) _ Tryz.results6 t7 Fg7s Tryz.underlying37 rfl (by show _ = some 5; kernel_rfl)) A.2 ⟨⟨vf, fun m => cw (fr (ft EE TT (wAll (esL wn nu lw t))) n m), ?_, ?_⟩, BB⟩
    · show Ending.returned (.tuple #[a.eval (.tmp 6), .agg _, a.eval (.tmp 8)]) = _
      rw [t6, t8]
      rw [hz, hz, hz, hE]
      first | done | rfl
    · rw [hz]
      refine ⟨ownW_base FO BV.size, fun m hm => ?_⟩
      obtain ⟨q1, q2⟩ := fr_is hm
      have q3 := FA2.cel _ q1
      rw [show peN (EE (fr (ft EE TT (wAll (esL wn nu lw t))) n m)) = 320 by rw [ft_E (E := EE) (T := TT) (A := (wAll (esL wn nu lw t))) (i := fr (ft EE TT (wAll (esL wn nu lw t))) n m) (by rw [q2]; decide)]; rfl] at q3
      exact q3
end Go.Proofs.YtejhbfbnljioeaaGreatDoor.Rnd
