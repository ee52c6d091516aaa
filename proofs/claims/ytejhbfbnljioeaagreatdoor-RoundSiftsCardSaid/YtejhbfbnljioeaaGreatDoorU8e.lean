import Derived.Test.YtejhbfbnljioeaaGreatDoorU8d
import Derived.Test.YtejhbfbnljioeaaGreatDoorB7e
namespace Go.Proofs.YtejhbfbnljioeaaGreatDoor.Rnd
open Go.RowKit Gf8 Aes By8 Cel Cf Win Oni Rou
open Go.ChangeMaps Go.MapKept
/- The landed round's Sift. Written by tools/mkU8e.py. -/

def sfE (m : Nat) (q : Cg) (ep : Int) : Nat := if cfQ m q = true then rkE m ep else 210
/-- A list of n lists of bytes, as values. -/
structure Cvs (W : World) (cv : Value) (n : Nat) (xv : Nat → Value) : Prop where
  shape : ∃ a cap, cv = .slice a n cap ∧ (0 < n → ∃ b off, a = some ⟨b, off, none⟩ ∧ b < W.heap.size ∧ ∀ i, i < n → W.cell? ⟨b, off + i, none⟩ = some (xv i))
section
variable {B k g b : Nat} {W X : World} {v : Value} {cv : Nat → Value} {r c : Nat → Nat → Nat} {l : Nat → Nat} {t : TypeId} {d : Array Value} {S : List (Nat → Nat)} {o : Obj}
theorem grown_set (_ : MS W b S) : W.grownBy (setBlock W b o) (some b) := ⟨rfl, rfl, rfl, by simp [setBlock], fun k _ hne => by
  show (W.heap.setIfInBounds b o)[k]? = W.heap[k]?
  rw [Array.getElem?_setIfInBounds_ne (fun e => hne (by rw [e]))]⟩
theorem own_one {u : Value} {n s : Nat} {xs : List Value} (h : W.ownsRow B t s u n xs) : u.oneCell' = true := by rcases h.2 with ⟨rfl, _⟩ | ⟨_, _, _, rfl, _⟩ <;> rfl
theorem PeL.stays (h : PeL B W v k cv r l c) (gr : W.grownBy X v.ownBlock) (hg : W.heap[g]? = some (.cells d t)) (ht : t ≠ 46) : X.heap[g]? = some (.cells d t) := by
  rw [gr.block g (Array.getElem?_eq_some_iff.1 hg).1 (fun e => by
    obtain ⟨_, cur, q⟩ := own_blk h.own e.symm
    rw [hg] at q
    cases q
    exact ht rfl)]
  exact hg
theorem PeL.ms (h : PeL B W v k cv r l c) (gr : W.grownBy X v.ownBlock) (hM : MS W b S) : MS X b S := by
  obtain ⟨es, clock, q, r2⟩ := hM.map
  refine ⟨⟨es, clock, ?_, r2⟩, hM.byt, hM.nod⟩
  rw [gr.block b hM.lt (fun e => by
    obtain ⟨_, cur, q⟩ := own_blk h.own e.symm
    exact set_ne hM q rfl)]
  exact q
theorem res_tct {P : Program} {fn : Func} {p u v : Tmp} {ty : TypeId} (tmps : Array Value) (w : World) (g : Nat) (t : TypeId) (cs : Array Value) (fr : Nat × Nat) (d : TypeDesc) (h : fn.results = #[.tmp v, .cell p ty, .tmp u]) (hp : tmps.getD p undef = .pointer (some ⟨g, 0, none⟩)) (hg : w.heap[g]? = some (.cells cs t fr)) (hu : P.underlying ty = some d) (hd : (match d with | .struct _ | .array _ _ => true | _ => false) = true) (hi : (P.info? ty).map (·.size) = some cs.size) :
    (results fn tmps).run P w = .ok (.tuple #[tmps.getD v undef, .agg cs, tmps.getD u undef]) w := by
  have hp' : tmps[p]?.getD undef = .pointer (some ⟨g, 0, none⟩) := by simpa using hp
  simp [results, h, hp', asAddr, run_loadVar_row w g t ty cs fr d hg hu hd hi]
end
theorem execStU {o : Oper} {a : Act} {w : World} {x y : Operand} {ad : Addr} (ho : o.op = .store 54 x y) (hx : a.eval x = .pointer (some ad)) (hy : a.eval y = .agg #[]) : (execOp a.eval o).run Tryz.prog w = .ok .skip w := by
  unfold execOp
  simp only [ho, hx, hy]
  simp [go_sem]
theorem execAlU {o : Oper} {a : Act} {w : World} (ho : o.op = .alloc 54) : (execOp a.eval o).run Tryz.prog w = .ok (.value (.pointer (some ⟨w.heap.size, 0, none⟩))) (w.alloc (.cells #[] 54)) := by
  unfold execOp
  simp only [ho]
  simp [go_sem]
theorem hs_n {F : Nat → Nat} {T : Nat → Nat → Nat} {S : List (Nat → Nat)} {i : Nat} (h : ∀ x, x ∈ tvs S ↔ ∃ j, j < i ∧ F j = 2 ∧ tv (T j) 16 = x) (hf : F i ≠ 2) : ∀ x, x ∈ tvs S ↔ ∃ j, j < i + 1 ∧ F j = 2 ∧ tv (T j) 16 = x := fun x => by
  rw [h x]
  constructor
  · rintro ⟨j, hj, q⟩; exact ⟨j, by omega, q⟩
  · rintro ⟨j, hj, q1, q2⟩
    by_cases e : j = i
    · subst e; exact absurd q1 hf
    · exact ⟨j, by omega, q1, q2⟩
theorem hs_y {F : Nat → Nat} {T : Nat → Nat → Nat} {S : List (Nat → Nat)} {i : Nat} (h : ∀ x, x ∈ tvs S ↔ ∃ j, j < i ∧ F j = 2 ∧ tv (T j) 16 = x) (hf : F i = 2) : ∀ x, x ∈ tvs (insM S (T i)) ↔ ∃ j, j < i + 1 ∧ F j = 2 ∧ tv (T j) 16 = x := fun x => by
  rw [mem_insM, h x]
  constructor
  · rintro (⟨j, hj, q⟩ | q)
    · exact ⟨j, by omega, q⟩
    · exact ⟨i, by omega, hf, q.symm⟩
  · rintro ⟨j, hj, q1, q2⟩
    by_cases e : j = i
    · subst e; exact Or.inr q2.symm
    · exact Or.inl ⟨j, by omega, q1, q2⟩
theorem Cvs.open {W : World} {cv : Value} {n : Nat} {xv : Nat → Value} (h : Cvs W cv n xv) (hn : 0 < n) : ∃ b o c, cv = .slice (some ⟨b, o, none⟩) n c ∧ b < W.heap.size ∧ ∀ i, i < n → W.cell? ⟨b, o + i, none⟩ = some (xv i) := by
  obtain ⟨a, cap, e, q⟩ := h.shape
  obtain ⟨b, o, rfl, h1, h2⟩ := q hn
  exact ⟨b, o, cap, e, h1, h2⟩
set_option maxRecDepth 100000 in
set_option maxHeartbeats 4000000 in
/-- The landed Sift. -/
theorem psift (mv : Value) (m : Nat) (q : Cg) (nw : Int) (ev : Value) (wn : Nat) (nu : Nat → Int) (tw : Nat → Value) (lw : Nat → Nat) (t : Nat → Nat → Nat → Nat) (ro ep le : Int) (cvv : Value) (n : Nat) (xv : Nat → Value) (ky : Nat → Nat) (EE : Nat → Nat) (TT CC : Nat → Nat → Nat) (V : World) (hW : Wd V nw ev wn nu tw lw t) (hm : ∃ g n c, mv = .slice g n c) (hmv : ∃ ao c, mv = .slice ao m c) (hC : Cvs V cvv n xv) (hn : n ≤ 1000000) (hTb : ∀ i j, j < 16 → TT i j < 256) (hK : ∀ W, Below V.heap.size V W → Calls Tryz.prog 8 #[mv, .int .i64 ep] W fun e w' => ∃ r, e = .returned (.tuple #[r, .int .i64 ((rkE m ep : Nat) : Int)]) ∧ (rkE m ep = 0 → SliceN w' r 32 ky) ∧ Below W.heap.size W w') (hP : ∀ i, i < n → ∀ W kv, Below V.heap.size V W → SliceN W kv 32 ky → Calls Tryz.prog 9 #[kv, .int .i64 q.l, xv i] W fun e w' => ∃ cu, e = .returned (.tuple #[.agg (pC cu (TT i)), .int .i64 ((EE i : Nat) : Int)]) ∧ w'.ownsRow W.heap.size 5 1 cu (peN (EE i)) (bytesL (peN (EE i)) (CC i)) ∧ Below W.heap.size W w') :
    Calls Tryz.prog 4 #[.agg (cfC mv q), .agg (wC nw ev), .agg (btC ro ep le cvv)] V fun e w' => (∃ v cw, e = .returned (.tuple #[v, .agg (rpC (z0 (sfE m q ep) n) (z0 (sfE m q ep) (cn (ft EE TT (wAll (esL wn nu lw t))) 0 n)) (z0 (sfE m q ep) (cn (ft EE TT (wAll (esL wn nu lw t))) 1 n))), .int .i64 (((sfE m q ep) : Nat) : Int)]) ∧ PeL V.heap.size w' v (z0 (sfE m q ep) (cn (ft EE TT (wAll (esL wn nu lw t))) 2 n)) cw (fun m => TT (fr (ft EE TT (wAll (esL wn nu lw t))) n m)) (fun _ => 320) (fun m => CC (fr (ft EE TT (wAll (esL wn nu lw t))) n m))) ∧ Below V.heap.size V w' := by
  have hev : ∃ g n c, ev = .slice g n c := by obtain ⟨g, c, e, _⟩ := hW.eps.shape; exact ⟨g, wn, c, e⟩
  have hcv : ∃ g n c, cvv = .slice g n c := by obtain ⟨g, c, e, _⟩ := hC.shape; exact ⟨g, n, c, e⟩
  go_enter Tryz.func4, Tryz.ntmps4
  refine wo_ 92 [(0, .agg (cfC mv q)), (1, .agg (wC nw ev)), (2, .agg (btC ro ep le cvv))] ?_
  rintro a A ⟨t0, t1, t2, -⟩
  have BW : Below V.heap.size V V := Below.refl _ _
  have BB := BW
  refine wp_seq ?_
  obtain ⟨g3, egg3⟩ : ∃ z_ : Nat, V.heap.size = z_ := ⟨_, rfl⟩
  refine wi_ A (h3_ t0 t1 t2) (rs_ 0 (fun a ee => ?_))
  refine stepV rfl rfl (execBxC hm rfl (ee _)) ⟨.pointer (some ⟨g3, 0, none⟩), ⟨_, rfl, by subst egg3; rfl⟩, fun X0_1 hX => ?_⟩
  have bQ : Below V.heap.size V X0_1 := by subst hX egg3; exact (belNew V _)
  have Fg3 : (X0_1.heap[g3]? = some (.cells (cfC mv q) 24)) := by subst hX egg3; exact heapNew V _
  replace BB := BB.trans (bQ.mono BB.size)
  clear bQ hX egg3 ee a
  obtain ⟨g4, egg4⟩ : ∃ z_ : Nat, X0_1.heap.size = z_ := ⟨_, rfl⟩
  refine rs_ 1 (fun a ee => ?_)
  refine stepV rfl rfl (execBoxW rfl (ee _)) ⟨.pointer (some ⟨g4, 0, none⟩), ⟨_, rfl, by subst egg4; rfl⟩, fun X0_2 hX => ?_⟩
  have bQ : Below X0_1.heap.size X0_1 X0_2 := by subst hX egg4; exact (belNew X0_1 _)
  have Fg4 : (X0_2.heap[g4]? = some (.cells (wC nw ev) 27)) := by subst hX egg4; exact heapNew X0_1 _
  replace Fg3 := (on9 Fg3 bQ)
  replace BB := BB.trans (bQ.mono BB.size)
  clear bQ hX egg4 ee a
  obtain ⟨g5, egg5⟩ : ∃ z_ : Nat, X0_2.heap.size = z_ := ⟨_, rfl⟩
  refine rs_ 2 (fun a ee => ?_)
  refine stepV rfl rfl (execBxB hcv rfl (ee _)) ⟨.pointer (some ⟨g5, 0, none⟩), ⟨_, rfl, by subst egg5; rfl⟩, fun X0_3 hX => ?_⟩
  have bQ : Below X0_2.heap.size X0_2 X0_3 := by subst hX egg5; exact (belNew X0_2 _)
  have Fg5 : (X0_3.heap[g5]? = some (.cells (btC ro ep le cvv) 32)) := by subst hX egg5; exact heapNew X0_2 _
  replace Fg3 := (on9 Fg3 bQ)
  replace Fg4 := (on9 Fg4 bQ)
  replace BB := BB.trans (bQ.mono BB.size)
  clear bQ hX egg5 ee a
  obtain ⟨g7, egg7⟩ : ∃ z_ : Nat, X0_3.heap.size = z_ := ⟨_, rfl⟩
  refine rs_ 4 (fun a ee => ?_)
  refine stepV rfl rfl (execAlR rfl) ⟨.pointer (some ⟨g7, 0, none⟩), ⟨_, rfl, by subst egg7; rfl⟩, fun X0 hX => ?_⟩
  have bQ : Below X0_3.heap.size X0_3 X0 := by subst hX egg7; exact (belNew X0_3 _)
  have Fg7 : (X0.heap[g7]? = some (.cells (rpC 0 0 0) 37)) := by subst hX egg7; exact heapNew X0_3 _
  have Fgeg7 : (V.heap.size ≤ g7) := by subst hX egg7; exact (BB).size
  replace Fg3 := (on9 Fg3 bQ)
  replace Fg4 := (on9 Fg4 bQ)
  replace Fg5 := (on9 Fg5 bQ)
  replace BB := BB.trans (bQ.mono BB.size)
  clear bQ hX egg7 ee a
  refine rg_ [(3, .pointer (some ⟨g3, 0, none⟩)), (4, .pointer (some ⟨g4, 0, none⟩)), (5, .pointer (some ⟨g5, 0, none⟩)), (7, .pointer (some ⟨g7, 0, none⟩))] ?_
  rintro a A ⟨t3, t4, t5, t7, -⟩
  refine wp_seq ?_
  refine wp_seq ?_
  by_cases h0 : cfQ m q = false
  · refine wi_ A (h4_ t3 t4 t5 t7) (rv_ 0 (.agg (cfC mv q)) (fun a ee => execLdC rfl (ee _) Fg3) (rc_ 1 ((h0 ▸ pright21 mv m q X0 hm hmv)) (cb_ fun X1 bQ => ?_)))
    replace Fg3 := (on9 Fg3 bQ)
    replace Fg4 := (on9 Fg4 bQ)
    replace Fg5 := (on9 Fg5 bQ)
    replace Fg7 := (on9 Fg7 bQ)
    replace BB := BB.trans (bQ.mono BB.size)
    clear bQ
    refine rv_ 2 (.bool true) (fun a ee => execNot8 (b := false) rfl (ee _)) (rf_ [(22, .bool true)] (h4_ t3 t4 t5 t7) ?_)
    rintro a A ⟨t22, -⟩ ⟨t3, t4, t5, t7, -⟩
    refine wp_cond_true t22 ?_
    clear t22
    refine wp_seq ?_
    refine wi_ A (h4_ t3 t4 t5 t7) (rv_ 0 (.agg (rpC 0 0 0)) (fun a ee => execBdR0 rfl) (rs_ 2 (fun a ee => ?_)))
    refine stepS rfl rfl (execStRp rfl (ee _) (ee _) Fg7) ⟨_, ⟨_, rfl, rfl⟩, fun X2 hX => ?_⟩
    obtain ⟨BB, Fg3, Fg4, Fg5, Fg7s⟩ : Below V.heap.size V X2 ∧ (X2.heap[g3]? = some (.cells (cfC mv q) 24)) ∧ (X2.heap[g4]? = some (.cells (wC nw ev) 27)) ∧ (X2.heap[g5]? = some (.cells (btC ro ep le cvv) 32)) ∧ (X2.heap[g7]? = some (.cells (rpC 0 0 0) 37)) := by subst hX; exact ⟨below4 BB Fgeg7 _, (by rw [setRow_other _ _ _ _ (ne_type Fg7 Fg3 (by decide))]; exact Fg3), (by rw [setRow_other _ _ _ _ (ne_type Fg7 Fg4 (by decide))]; exact Fg4), (by rw [setRow_other _ _ _ _ (ne_type Fg7 Fg5 (by decide))]; exact Fg5), setRow_heap _ _ _ _ _ _ Fg7⟩
    clear Fg7 hX ee a
    refine rf_ [(6, .slice none 0 0), (8, .int .i64 ((210 : Nat) : Int))] (h1_ t7) ?_
    rintro a A ⟨t6, t8, -⟩ ⟨t7, -⟩
    have hE : (sfE m q ep) = 210 := if_neg (by rw [h0]; decide)
    refine wp_ret ?_
    repeat (first | with_reducible refine ret_in ?_ | with_reducible refine ret_then ?_)
    refine bodyPost_ret (res_tct _ _ g7 37 _ (0, 0) _ Tryz.results4 t7 Fg7s Tryz.underlying37 rfl (by show _ = some 5; kernel_rfl)) A.2 ⟨⟨.slice none 0 0, fun _ => undef, ?_, ?_⟩, BB⟩
    · show Ending.returned (.tuple #[a.eval (.tmp 6), .agg _, a.eval (.tmp 8)]) = _
      rw [t6, t8]
      rw [hE]
      rfl
    · rw [hE]
      exact PeL.nil _ _ _ _ _ _
  replace h0 := bnf h0
  have hE0 : (sfE m q ep) = rkE m ep := if_pos h0
  refine wi_ A (h4_ t3 t4 t5 t7) (rv_ 0 (.agg (cfC mv q)) (fun a ee => execLdC rfl (ee _) Fg3) (rc_ 1 ((h0 ▸ pright21 mv m q X0 hm hmv)) (cb_ fun X1 bQ => ?_)))
  replace Fg3 := (on9 Fg3 bQ)
  replace Fg4 := (on9 Fg4 bQ)
  replace Fg5 := (on9 Fg5 bQ)
  replace Fg7 := (on9 Fg7 bQ)
  replace BB := BB.trans (bQ.mono BB.size)
  clear bQ
  refine rv_ 2 (.bool false) (fun a ee => execNot8 (b := true) rfl (ee _)) (rf_ [(22, .bool false)] (h4_ t3 t4 t5 t7) ?_)
  rintro a A ⟨t22, -⟩ ⟨t3, t4, t5, t7, -⟩
  refine wp_cond_false t22 ?_
  refine wp_skip ?_
  clear t22
  refine wp_seq ?_
  refine wi_ A (h4_ t3 t4 t5 t7) (rv_ 0 (.pointer (some ⟨g3, 0, none⟩)) (fun a ee => execFC0 rfl (ee _)) (rv_ 1 (mv) (fun a ee => execL1 rfl (Or.inr (Or.inr rfl)) (ee _) (row_1 Fg3 rfl)) (rv_ 2 (.pointer (some ⟨g5, 0, none⟩)) (fun a ee => execFB0 rfl (ee _)) (rv_ 3 (.pointer (some ⟨g5, 1, none⟩)) (fun a ee => execFH1 rfl (ee _)) (rv_ 4 (.int .i64 ep) (fun a ee => execL1 rfl (Or.inr (Or.inl rfl)) (ee _) (row_1 Fg5 rfl)) (rc_ 5 (hK X1 BB) fun e X3 hh => ?_))))))
  obtain ⟨kv, he, hk_, hb⟩ := hh
  refine ⟨_, he, ?_⟩
  have bQ : Below X1.heap.size X1 X3 := hb
  have FK : ((rkE m ep = 0 → SliceN X3 kv 32 ky)) := hk_
  replace Fg3 := (on9 Fg3 bQ)
  replace Fg4 := (on9 Fg4 bQ)
  replace Fg5 := (on9 Fg5 bQ)
  replace Fg7 := (on9 Fg7 bQ)
  replace BB := BB.trans (bQ.mono BB.size)
  clear bQ
  refine rf_ [(9, kv), (10, .int .i64 ((rkE m ep : Nat) : Int))] (h4_ t3 t4 t5 t7) ?_
  rintro a A ⟨t9, t10, -⟩ ⟨t3, t4, t5, t7, -⟩
  refine wp_seq ?_
  refine wp_seq ?_
  by_cases h1 : rkE m ep ≠ 0
  · refine wi_ A (h6_ t3 t4 t5 t7 t9 t10) (rv_ 1 (.bool true) (fun a ee => execDec (execNeE (p := rkE m ep) (q := 0) rfl (ee _) rfl) (decide_eq_true h1)) (rf_ [(34, .bool true)] (h6_ t3 t4 t5 t7 t9 t10) ?_))
    rintro a A ⟨t34, -⟩ ⟨t3, t4, t5, t7, t9, t10, -⟩
    refine wp_cond_true t34 ?_
    clear t34
    refine wp_seq ?_
    refine wi_ A (h6_ t3 t4 t5 t7 t9 t10) (rv_ 0 (.agg (rpC 0 0 0)) (fun a ee => execBdR0 rfl) (rs_ 3 (fun a ee => ?_)))
    refine stepS rfl rfl (execStRp rfl (ee _) (ee _) Fg7) ⟨_, ⟨_, rfl, rfl⟩, fun X5 hX => ?_⟩
    obtain ⟨BB, Fg3, Fg4, Fg5, Fg7s⟩ : Below V.heap.size V X5 ∧ (X5.heap[g3]? = some (.cells (cfC mv q) 24)) ∧ (X5.heap[g4]? = some (.cells (wC nw ev) 27)) ∧ (X5.heap[g5]? = some (.cells (btC ro ep le cvv) 32)) ∧ (X5.heap[g7]? = some (.cells (rpC 0 0 0) 37)) := by subst hX; exact ⟨below4 BB Fgeg7 _, (by rw [setRow_other _ _ _ _ (ne_type Fg7 Fg3 (by decide))]; exact Fg3), (by rw [setRow_other _ _ _ _ (ne_type Fg7 Fg4 (by decide))]; exact Fg4), (by rw [setRow_other _ _ _ _ (ne_type Fg7 Fg5 (by decide))]; exact Fg5), setRow_heap _ _ _ _ _ _ Fg7⟩
    clear Fg7 hX ee a
    refine rf_ [(6, .slice none 0 0), (8, .int .i64 ((rkE m ep : Nat) : Int))] (h1_ t7) ?_
    rintro a A ⟨t6, t8, -⟩ ⟨t7, -⟩
    have hz : ∀ x, z0 (sfE m q ep) x = 0 := fun x => if_neg (by rw [hE0]; exact h1)
    refine wp_ret ?_
    repeat (first | with_reducible refine ret_in ?_ | with_reducible refine ret_then ?_)
    refine bodyPost_ret (res_tct _ _ g7 37 _ (0, 0) _ Tryz.results4 t7 Fg7s Tryz.underlying37 rfl (by show _ = some 5; kernel_rfl)) A.2 ⟨⟨.slice none 0 0, fun _ => undef, ?_, ?_⟩, BB⟩
    · show Ending.returned (.tuple #[a.eval (.tmp 6), .agg _, a.eval (.tmp 8)]) = _
      rw [t6, t8]
      rw [hz, hz, hz, hE0]
    · rw [hz]
      exact PeL.nil _ _ _ _ _ _
  have h1b := Classical.not_not.1 h1
  have hE : (sfE m q ep) = 0 := hE0.trans h1b
  refine wi_ A (h6_ t3 t4 t5 t7 t9 t10) (rv_ 1 (.bool false) (fun a ee => execDec (execNeE (p := rkE m ep) (q := 0) rfl (ee _) rfl) (decide_eq_false h1)) (rf_ [(34, .bool false)] (h6_ t3 t4 t5 t7 t9 t10) ?_))
  rintro a A ⟨t34, -⟩ ⟨t3, t4, t5, t7, t9, t10, -⟩
  refine wp_cond_false t34 ?_
  refine wp_skip ?_
  clear t34
  replace FK := FK h1b
  refine wp_seq ?_
  refine wi_ A (h6_ t3 t4 t5 t7 t9 t10) (rf_ [(11, .slice none 0 0)] (h5_ t3 t4 t5 t7 t9) ?_)
  rintro a A ⟨t11, -⟩ ⟨t3, t4, t5, t7, t9, -⟩
  have BV := BB
  clear BB
  have BB : Below X3.heap.size X3 X3 := Below.refl _ _
  refine wp_seq ?_
  obtain ⟨g12, egg12⟩ : ∃ z_ : Nat, X3.heap.size = z_ := ⟨_, rfl⟩
  refine wi_ A (h6_ t3 t4 t5 t7 t9 t11) (rv_ 0 (.pointer (some ⟨g5, 3, none⟩)) (fun a ee => execFB1 rfl (ee _)) (rv_ 1 (cvv) (fun a ee => execLL rfl (ee _) (row_1 (on9 Fg5 BB) rfl)) (rv_ 2 (.int .i64 ((n : Nat) : Int)) (fun a ee => execLnCl (len := n) rfl (ee _) (by obtain ⟨g_, c_, e_, _⟩ := hC.shape; exact ⟨g_, c_, e_⟩)) (rv_ 3 (.agg (rpC n 0 0)) (fun a ee => execBdR1 (n := n) rfl (ee _)) (rs_ 4 (fun a ee => ?_))))))
  refine stepV rfl rfl (execAlR rfl) ⟨.pointer (some ⟨g12, 0, none⟩), ⟨_, rfl, by subst egg12; rfl⟩, fun X7_1 hX => ?_⟩
  have bQ : Below X3.heap.size X3 X7_1 := by subst hX egg12; exact (belNew X3 _)
  have Fg12 : (X7_1.heap[g12]? = some (.cells (rpC 0 0 0) 37)) := by subst hX egg12; exact heapNew X3 _
  have Fgeg12 : (X3.heap.size ≤ g12) := by subst hX egg12; exact (BB).size
  replace BB := BB.trans (bQ.mono BB.size)
  clear bQ hX egg12 ee a
  refine rs_ 5 (fun a ee => ?_)
  refine stepS rfl rfl (execStRp rfl (ee _) (ee _) Fg12) ⟨_, ⟨_, rfl, rfl⟩, fun X7 hX => ?_⟩
  obtain ⟨BB, FR⟩ : Below X3.heap.size X3 X7 ∧ (X7.heap[g12]? = some (.cells (rpC n 0 0) 37)) := by subst hX; exact ⟨below4 BB Fgeg12 _, setRow_heap _ _ _ _ _ _ Fg12⟩
  clear Fg12 hX ee a
  refine rf_ [(12, .pointer (some ⟨g12, 0, none⟩))] (h6_ t3 t4 t5 t7 t9 t11) ?_
  rintro a A ⟨t12, -⟩ ⟨t3, t4, t5, t7, t9, t11, -⟩
  refine wp_seq ?_
  obtain ⟨b41, egb41⟩ : ∃ z_ : Nat, X7.heap.size = z_ := ⟨_, rfl⟩
  refine wi_ A (h7_ t3 t4 t5 t7 t9 t11 t12) (rs_ 0 (fun a ee => ?_))
  refine stepV rfl rfl (execMkM rfl) ⟨.map (some b41), ⟨_, rfl, by subst egb41; rfl⟩, fun X8 hX => ?_⟩
  have bQ : Below X7.heap.size X7 X8 := by subst hX egb41; exact (belNew X7 _)
  have FM : (MS X8 b41 []) := by subst hX egb41; exact ms_new X7
  have FMg : (X3.heap.size ≤ b41) := by subst hX egb41; exact (BB).size
  replace FR := (on9 FR bQ)
  replace BB := BB.trans (bQ.mono BB.size)
  clear bQ hX egb41 ee a
  refine rf_ [(13, .map (some b41))] (h7_ t3 t4 t5 t7 t9 t11 t12) ?_
  rintro a A ⟨t13, -⟩ ⟨t3, t4, t5, t7, t9, t11, t12, -⟩
  refine wp_seq ?_
  refine wp_seq ?_
  refine wi_ A (h8_ t3 t4 t5 t7 t9 t11 t12 t13) (rv_ 0 (.pointer (some ⟨g5, 3, none⟩)) (fun a ee => execFB1 rfl (ee _)) (rv_ 1 (cvv) (fun a ee => execLL rfl (ee _) (row_1 (on9 Fg5 BB) rfl)) (rv_ 2 (.int .i64 ((n : Nat) : Int)) (fun a ee => execLnCl (len := n) rfl (ee _) (by obtain ⟨g_, c_, e_, _⟩ := hC.shape; exact ⟨g_, c_, e_⟩)) (rf_ [(43, cvv), (44, .int .i64 ((n : Nat) : Int)), (45, .int .i64 ((0 : Nat) : Int))] (h8_ t3 t4 t5 t7 t9 t11 t12 t13) ?_))))
  rintro a A ⟨t43, t44, t45, -⟩ ⟨t3, t4, t5, t7, t9, t11, t12, t13, -⟩
  have FL : PeL X3.heap.size X8 (.slice none 0 0) 0 (fun _ => undef) (fun m => TT (fr (ft EE TT (wAll (esL wn nu lw t))) n m)) (fun _ => 320) (fun m => CC (fr (ft EE TT (wAll (esL wn nu lw t))) n m)) := PeL.nil _ _ _ _ _ _
  refine wp_block ?_
  refine wp_loop (fun a W => ∃ (i : Nat) (Sa : List (Nat → Nat)) (vf : Value) (cw : Nat → Value), i ≤ n ∧ (∀ x, x ∈ tvs Sa ↔ ∃ j, j < i ∧ (ft EE TT (wAll (esL wn nu lw t))) j = 2 ∧ tv (TT j) 16 = x) ∧ (a.tmps.size = 92 ∧ a.defers = []) ∧ a.eval (.tmp 3) = .pointer (some ⟨g3, 0, none⟩) ∧ a.eval (.tmp 4) = .pointer (some ⟨g4, 0, none⟩) ∧ a.eval (.tmp 5) = .pointer (some ⟨g5, 0, none⟩) ∧ a.eval (.tmp 7) = .pointer (some ⟨g7, 0, none⟩) ∧ a.eval (.tmp 9) = kv ∧ a.eval (.tmp 11) = vf ∧ a.eval (.tmp 12) = .pointer (some ⟨g12, 0, none⟩) ∧ a.eval (.tmp 13) = .map (some b41) ∧ a.eval (.tmp 43) = cvv ∧ a.eval (.tmp 44) = .int .i64 ((n : Nat) : Int) ∧ a.eval (.tmp 45) = .int .i64 ((i : Nat) : Int) ∧ Below X3.heap.size X3 W ∧ (W.heap[g12]? = some (.cells (rpC n (cn (ft EE TT (wAll (esL wn nu lw t))) 0 i) (cn (ft EE TT (wAll (esL wn nu lw t))) 1 i)) 37)) ∧ (MS W b41 Sa) ∧ (PeL X3.heap.size W vf (cn (ft EE TT (wAll (esL wn nu lw t))) 2 i) cw (fun m => TT (fr (ft EE TT (wAll (esL wn nu lw t))) n m)) (fun _ => 320) (fun m => CC (fr (ft EE TT (wAll (esL wn nu lw t))) n m)))) (fun a _ => n - (intOf (a.eval (.tmp 45))).toNat) ⟨0, [], .slice none 0 0, fun _ => undef, Nat.zero_le _, fun x => ⟨fun z => absurd z (by simp [tvs]), fun ⟨j, hj, _⟩ => absurd hj (Nat.not_lt_zero j)⟩, A, t3, t4, t5, t7, t9, t11, t12, t13, t43, t44, t45, BB, FR, FM, FL⟩ ?_
  clear A t3 t4 t5 t7 t9 t11 t12 t13 t43 t44 t45 BB FR FM FL a
  rintro a XL10 ⟨i, Sa, vf, cw, hi, hS, A, t3, t4, t5, t7, t9, t11, t12, t13, t43, t44, t45, BB, FR, FM, FL⟩
  have esi := t45
  refine wp_seq ?_
  refine wi_ A (h11_ t3 t4 t5 t7 t9 t11 t12 t13 t43 t44 t45) (rv_ 0 (.bool (decide (i < n))) (fun a ee => execLtW (p := i) (q := n) rfl (ee _) (ee _)) (rf_ [(46, .bool (decide (i < n)))] (h11_ t3 t4 t5 t7 t9 t11 t12 t13 t43 t44 t45) ?_))
  rintro a A ⟨t46, -⟩ ⟨t3, t4, t5, t7, t9, t11, t12, t13, t43, t44, t45, -⟩
  refine wp_seq ?_
  by_cases lti : i < n
  · rw [decide_eq_true lti] at t46
    refine wp_cond_true t46 ?_
    refine wp_skip ?_
    clear t46
    refine wp_seq ?_
    refine wp_block ?_
    obtain ⟨cb, co, cc, ecv, hcb, hcc⟩ := hC.open (by omega)
    have cX : ∀ X, Below X3.heap.size X3 X → X.cell? ⟨cb, co + i, none⟩ = some (xv i) := fun X hX => by rw [cell_below hX (Nat.lt_of_lt_of_le hcb BV.size), cell_below BV hcb]; exact hcc i lti
    have hci := cn_le (F := (ft EE TT (wAll (esL wn nu lw t)))) (c := 0) i
    have hcj := cn_le (F := (ft EE TT (wAll (esL wn nu lw t)))) (c := 1) i
    have hck := cn_le (F := (ft EE TT (wAll (esL wn nu lw t)))) (c := 2) i
    refine wp_seq ?_
    refine wi_ A (h11_ t3 t4 t5 t7 t9 t11 t12 t13 t43 t44 t45) (rv_ 0 (.pointer (some ⟨cb, co + i, none⟩)) (fun a ee => Cf.execIdxL (k := i) rfl ((ee _).trans ecv) (ee _) lti) (rv_ 1 (xv i) (fun a ee => execL1 rfl (Or.inr (Or.inr rfl)) (ee _) (cX XL10 BB)) (rf_ [(15, xv i)] (h11_ t3 t4 t5 t7 t9 t11 t12 t13 t43 t44 t45) ?_)))
    rintro a A ⟨t15, -⟩ ⟨t3, t4, t5, t7, t9, t11, t12, t13, t43, t44, t45, -⟩
    refine wp_seq ?_
    refine wi_ A (h12_ t3 t4 t5 t7 t9 t11 t12 t13 t43 t44 t45 t15) (rv_ 1 (.pointer (some ⟨g3, 1, none⟩)) (fun a ee => execFC1 rfl (ee _)) (rv_ 2 (.int .i64 q.l) (fun a ee => execL1 rfl (Or.inl rfl) (ee _) (row_1 (on9 Fg3 BB) rfl)) (rc_ 4 (hP i lti XL10 kv (BV.trans ((BB).mono BV.size)) (FK.on BB)) fun e X12_1 hh => ?_)))
    obtain ⟨cu, he, hu_, hb⟩ := hh
    refine ⟨_, he, ?_⟩
    have bQ : Below XL10.heap.size XL10 X12_1 := hb
    have FU : (X12_1.ownsRow X3.heap.size 5 1 cu (peN (EE i)) (bytesL (peN (EE i)) (CC i))) := ownW_base hu_ (BB).size
    replace FR := (on9 FR bQ)
    replace FM := (FM.on bQ)
    replace FL := (FL.on bQ)
    replace BB := BB.trans (bQ.mono BB.size)
    clear bQ
    obtain ⟨g16, egg16⟩ : ∃ z_ : Nat, X12_1.heap.size = z_ := ⟨_, rfl⟩
    refine rs_ 8 (fun a ee => ?_)
    refine stepV rfl rfl (execAlPe rfl) ⟨.pointer (some ⟨g16, 0, none⟩), ⟨_, rfl, by subst egg16; rfl⟩, fun X12_2 hX => ?_⟩
    have bQ : Below X12_1.heap.size X12_1 X12_2 := by subst hX egg16; exact (belNew X12_1 _)
    have Fg16 : (X12_2.heap[g16]? = some (.cells (pC (.slice none 0 0) fun _ => 0) 46)) := by subst hX egg16; exact heapNew X12_1 _
    have FgP : (X3.heap.size ≤ g16) := by subst hX egg16; exact (BB).size
    have FLn : (vf.ownBlock ≠ some g16) := by subst hX egg16; exact fun q_ => Nat.lt_irrefl _ (FL.lt q_).2
    replace FR := (on9 FR bQ)
    replace FM := (FM.on bQ)
    replace FL := (FL.on bQ)
    replace FU := (ownW_below FU bQ)
    replace BB := BB.trans (bQ.mono BB.size)
    clear bQ hX egg16 ee a
    refine rs_ 9 (fun a ee => ?_)
    refine stepS rfl rfl (execStPe rfl (ee _) (ee _) Fg16 (own_one FU)) ⟨_, ⟨_, rfl, rfl⟩, fun X12 hX => ?_⟩
    obtain ⟨BB, FR, FM, FL, FU, Fg16s⟩ : Below X3.heap.size X3 X12 ∧ (X12.heap[g12]? = some (.cells (rpC n (cn (ft EE TT (wAll (esL wn nu lw t))) 0 i) (cn (ft EE TT (wAll (esL wn nu lw t))) 1 i)) 37)) ∧ (MS X12 b41 Sa) ∧ (PeL X3.heap.size X12 vf (cn (ft EE TT (wAll (esL wn nu lw t))) 2 i) cw (fun m => TT (fr (ft EE TT (wAll (esL wn nu lw t))) n m)) (fun _ => 320) (fun m => CC (fr (ft EE TT (wAll (esL wn nu lw t))) n m))) ∧ (X12.ownsRow X3.heap.size 5 1 cu (peN (EE i)) (bytesL (peN (EE i)) (CC i))) ∧ (X12.heap[g16]? = some (.cells (pC cu (TT i)) 46)) := by subst hX; exact ⟨below4 BB FgP _, (by rw [setRow_other _ _ _ _ (ne_type Fg16 FR (by decide))]; exact FR), (onRowM FM Fg16), (FL.gr (grown_row Fg16) (fun d q => by rw [Fg16] at q; cases q) FLn), (ownG_T FU Fg16 (by decide) (grown_row Fg16)), setRow_heap _ _ _ _ _ _ Fg16⟩
    clear Fg16 hX ee a
    refine rf_ [(16, .pointer (some ⟨g16, 0, none⟩)), (17, .int .i64 ((EE i : Nat) : Int))] (h11_ t3 t4 t5 t7 t9 t11 t12 t13 t43 t44 t45) ?_
    rintro a A ⟨t16, t17, -⟩ ⟨t3, t4, t5, t7, t9, t11, t12, t13, t43, t44, t45, -⟩
    refine wp_seq ?_
    refine wp_seq ?_
    by_cases hE1 : EE i ≠ 0
    · have hf : (ft EE TT (wAll (esL wn nu lw t))) i = 0 := ft_0 hE1
      refine wi_ A (h13_ t3 t4 t5 t7 t9 t11 t12 t13 t43 t44 t45 t16 t17) (rv_ 1 (.bool true) (fun a ee => execDec (execNeE (p := EE i) (q := 0) rfl (ee _) rfl) (decide_eq_true hE1)) (rf_ [(58, .bool true)] (h11_ t3 t4 t5 t7 t9 t11 t12 t13 t43 t44 t45) ?_))
      rintro a A ⟨t58, -⟩ ⟨t3, t4, t5, t7, t9, t11, t12, t13, t43, t44, t45, -⟩
      refine wp_cond_true t58 ?_
      clear t58
      refine wp_seq ?_
      refine wi_ A (h11_ t3 t4 t5 t7 t9 t11 t12 t13 t43 t44 t45) (rv_ 0 (.pointer (some ⟨g12, 1, none⟩)) (fun a ee => execFR (Or.inr (Or.inl rfl)) rfl (ee _)) (rv_ 1 (.int .i64 (((cn (ft EE TT (wAll (esL wn nu lw t))) 0 i) : Nat) : Int)) (fun a ee => execL1 rfl (Or.inl rfl) (ee _) (row_1 FR rfl)) (rv_ 2 (.int .i64 (((cn (ft EE TT (wAll (esL wn nu lw t))) 0 i) + 1 : Nat) : Int)) (fun a ee => execAd8 (p := (cn (ft EE TT (wAll (esL wn nu lw t))) 0 i)) (q := 1) rfl (ee _) rfl (by omega)) (rv_ 3 (.pointer (some ⟨g12, 1, none⟩)) (fun a ee => execFR (Or.inr (Or.inl rfl)) rfl (ee _)) (rs_ 4 (fun a ee => ?_))))))
      refine stepS rfl rfl (execStR1 (z := (cn (ft EE TT (wAll (esL wn nu lw t))) 0 i) + 1) rfl (ee _) (ee _) FR (by show 1 < 5; omega)) ⟨_, ⟨_, rfl, rfl⟩, fun X14 hX => ?_⟩
      obtain ⟨BB, FM, FL, FRn⟩ : Below X3.heap.size X3 X14 ∧ (MS X14 b41 Sa) ∧ (PeL X3.heap.size X14 vf (cn (ft EE TT (wAll (esL wn nu lw t))) 2 i) cw (fun m => TT (fr (ft EE TT (wAll (esL wn nu lw t))) n m)) (fun _ => 320) (fun m => CC (fr (ft EE TT (wAll (esL wn nu lw t))) n m))) ∧ (X14.heap[g12]? = some (.cells (rpC n ((cn (ft EE TT (wAll (esL wn nu lw t))) 0 i) + 1) (cn (ft EE TT (wAll (esL wn nu lw t))) 1 i)) 37)) := by subst hX; exact ⟨below4 BB Fgeg12 _, (onRowM FM FR), (FL.grT (grown_row FR) FR (by decide)), setRow_heap _ _ _ _ _ _ FR⟩
      clear FR hX ee a
      refine rf_ [] (h11_ t3 t4 t5 t7 t9 t11 t12 t13 t43 t44 t45) ?_
      rintro a A - ⟨t3, t4, t5, t7, t9, t11, t12, t13, t43, t44, t45, -⟩
      refine wp_exit ?_
      repeat (first | with_reducible refine exit_then ?_ | with_reducible refine exit_out (by decide) ?_)
      refine exit_in ?_
      have hS2 := hs_n hS (show (ft EE TT (wAll (esL wn nu lw t))) i ≠ 2 by rw [hf]; decide)
      refine wi_ A (h11_ t3 t4 t5 t7 t9 t11 t12 t13 t43 t44 t45) (rv_ 0 (.int .i64 ((i + 1 : Nat) : Int)) (fun a ee => execAd8 (p := i) (q := 1) rfl (ee _) rfl (by omega)) (rf_ [(45, .int .i64 ((i + 1 : Nat) : Int))] (h10_ t3 t4 t5 t7 t9 t11 t12 t13 t43 t44) ?_))
      rintro a A ⟨t45, -⟩ ⟨t3, t4, t5, t7, t9, t11, t12, t13, t43, t44, -⟩
      exact ⟨⟨i + 1, Sa, vf, cw, lti, hS2, A, t3, t4, t5, t7, t9, t11, t12, t13, t43, t44, t45, BB, (by rw [cn_y hf, cn_n (show (ft EE TT (wAll (esL wn nu lw t))) i ≠ 1 by rw [hf]; decide)]; exact FRn), FM, (by rw [cn_n (show (ft EE TT (wAll (esL wn nu lw t))) i ≠ 2 by rw [hf]; decide)]; exact FL)⟩, by show n - (intOf (a.eval (.tmp 45))).toNat < n - (intOf (Act.eval _ (.tmp 45))).toNat; rw [t45, esi]; show n - (i + 1) < n - i; omega⟩
    have hE2 := Classical.not_not.1 hE1
    refine wi_ A (h13_ t3 t4 t5 t7 t9 t11 t12 t13 t43 t44 t45 t16 t17) (rv_ 1 (.bool false) (fun a ee => execDec (execNeE (p := EE i) (q := 0) rfl (ee _) rfl) (decide_eq_false hE1)) (rf_ [(58, .bool false)] (h12_ t3 t4 t5 t7 t9 t11 t12 t13 t43 t44 t45 t16) ?_))
    rintro a A ⟨t58, -⟩ ⟨t3, t4, t5, t7, t9, t11, t12, t13, t43, t44, t45, t16, -⟩
    refine wp_cond_false t58 ?_
    refine wp_skip ?_
    clear t58
    refine wp_seq ?_
    refine wp_seq ?_
    by_cases hin : tv (TT i) 16 ∈ tvs Sa
    · have hf : (ft EE TT (wAll (esL wn nu lw t))) i = 1 := (seen_iff hE2).1 (Or.inr ((hS _).1 hin))
      obtain ⟨g18, egg18⟩ : ∃ z_ : Nat, X12.heap.size = z_ := ⟨_, rfl⟩
      refine wi_ A (h12_ t3 t4 t5 t7 t9 t11 t12 t13 t43 t44 t45 t16) (rv_ 1 (.pointer (some ⟨g16, 0 + 1, none⟩)) (fun a ee => execFP rfl (ee _)) (rv_ 2 (.agg (bA 16 (TT i))) (fun a ee => execLdT rfl (ee _) (fun j_ hj_ => by rw [cell_of_row _ _ _ _ _ _ Fg16s, Nat.zero_add]; exact pC_r _ _ hj_)) (rv_ 3 (.tuple #[.agg #[], .bool true]) (fun a ee => execLkMt rfl (ee _) (ee _) FM (hTb i) hin) (rs_ 7 (fun a ee => ?_)))))
      refine stepV rfl rfl (execAlU rfl) ⟨.pointer (some ⟨g18, 0, none⟩), ⟨_, rfl, by subst egg18; rfl⟩, fun X15_1 hX => ?_⟩
      have bQ : Below X12.heap.size X12 X15_1 := by subst hX egg18; exact (belNew X12 _)
      replace FR := (on9 FR bQ)
      replace FM := (FM.on bQ)
      replace FL := (FL.on bQ)
      replace FU := (ownW_below FU bQ)
      replace Fg16s := (on9 Fg16s bQ)
      replace BB := BB.trans (bQ.mono BB.size)
      clear bQ hX egg18 ee a
      refine rs_ 8 (fun a ee => ?_)
      refine stepS rfl rfl (execStU rfl (ee _) (ee _)) ⟨_, ⟨_, rfl, rfl⟩, fun X15 hX => ?_⟩
      have bQ : Below X15_1.heap.size X15_1 X15 := by subst hX; exact (Below.refl _ _)
      replace FR := (on9 FR bQ)
      replace FM := (FM.on bQ)
      replace FL := (FL.on bQ)
      replace FU := (ownW_below FU bQ)
      replace Fg16s := (on9 Fg16s bQ)
      replace BB := BB.trans (bQ.mono BB.size)
      clear bQ hX ee a
      refine rf_ [(19, .bool true)] (h12_ t3 t4 t5 t7 t9 t11 t12 t13 t43 t44 t45 t16) ?_
      rintro a A ⟨t19, -⟩ ⟨t3, t4, t5, t7, t9, t11, t12, t13, t43, t44, t45, t16, -⟩
      refine wp_seq ?_
      refine wi_ A (h13_ t3 t4 t5 t7 t9 t11 t12 t13 t43 t44 t45 t16 t19) (rf_ [(76, .bool true)] (h12_ t3 t4 t5 t7 t9 t11 t12 t13 t43 t44 t45 t16) ?_)
      rintro a A ⟨t76, -⟩ ⟨t3, t4, t5, t7, t9, t11, t12, t13, t43, t44, t45, t16, -⟩
      refine wp_cond_true t76 ?_
      clear t76
      refine wp_seq ?_
      refine wi_ A (h11_ t3 t4 t5 t7 t9 t11 t12 t13 t43 t44 t45) (rv_ 0 (.pointer (some ⟨g12, 2, none⟩)) (fun a ee => execFR (Or.inr (Or.inr rfl)) rfl (ee _)) (rv_ 1 (.int .i64 (((cn (ft EE TT (wAll (esL wn nu lw t))) 1 i) : Nat) : Int)) (fun a ee => execL1 rfl (Or.inl rfl) (ee _) (row_1 FR rfl)) (rv_ 2 (.int .i64 (((cn (ft EE TT (wAll (esL wn nu lw t))) 1 i) + 1 : Nat) : Int)) (fun a ee => execAd8 (p := (cn (ft EE TT (wAll (esL wn nu lw t))) 1 i)) (q := 1) rfl (ee _) rfl (by omega)) (rv_ 3 (.pointer (some ⟨g12, 2, none⟩)) (fun a ee => execFR (Or.inr (Or.inr rfl)) rfl (ee _)) (rs_ 4 (fun a ee => ?_))))))
      refine stepS rfl rfl (execStR1 (z := (cn (ft EE TT (wAll (esL wn nu lw t))) 1 i) + 1) rfl (ee _) (ee _) FR (by show 2 < 5; omega)) ⟨_, ⟨_, rfl, rfl⟩, fun X17 hX => ?_⟩
      obtain ⟨BB, FM, FL, FRn⟩ : Below X3.heap.size X3 X17 ∧ (MS X17 b41 Sa) ∧ (PeL X3.heap.size X17 vf (cn (ft EE TT (wAll (esL wn nu lw t))) 2 i) cw (fun m => TT (fr (ft EE TT (wAll (esL wn nu lw t))) n m)) (fun _ => 320) (fun m => CC (fr (ft EE TT (wAll (esL wn nu lw t))) n m))) ∧ (X17.heap[g12]? = some (.cells (rpC n (cn (ft EE TT (wAll (esL wn nu lw t))) 0 i) ((cn (ft EE TT (wAll (esL wn nu lw t))) 1 i) + 1)) 37)) := by subst hX; exact ⟨below4 BB Fgeg12 _, (onRowM FM FR), (FL.grT (grown_row FR) FR (by decide)), setRow_heap _ _ _ _ _ _ FR⟩
      clear FR hX ee a
      refine rf_ [] (h11_ t3 t4 t5 t7 t9 t11 t12 t13 t43 t44 t45) ?_
      rintro a A - ⟨t3, t4, t5, t7, t9, t11, t12, t13, t43, t44, t45, -⟩
      refine wp_exit ?_
      repeat (first | with_reducible refine exit_then ?_ | with_reducible refine exit_out (by decide) ?_)
      refine exit_in ?_
      have hS2 := hs_n hS (show (ft EE TT (wAll (esL wn nu lw t))) i ≠ 2 by rw [hf]; decide)
      refine wi_ A (h11_ t3 t4 t5 t7 t9 t11 t12 t13 t43 t44 t45) (rv_ 0 (.int .i64 ((i + 1 : Nat) : Int)) (fun a ee => execAd8 (p := i) (q := 1) rfl (ee _) rfl (by omega)) (rf_ [(45, .int .i64 ((i + 1 : Nat) : Int))] (h10_ t3 t4 t5 t7 t9 t11 t12 t13 t43 t44) ?_))
      rintro a A ⟨t45, -⟩ ⟨t3, t4, t5, t7, t9, t11, t12, t13, t43, t44, -⟩
      exact ⟨⟨i + 1, Sa, vf, cw, lti, hS2, A, t3, t4, t5, t7, t9, t11, t12, t13, t43, t44, t45, BB, (by rw [cn_n (show (ft EE TT (wAll (esL wn nu lw t))) i ≠ 0 by rw [hf]; decide), cn_y hf]; exact FRn), FM, (by rw [cn_n (show (ft EE TT (wAll (esL wn nu lw t))) i ≠ 2 by rw [hf]; decide)]; exact FL)⟩, by show n - (intOf (a.eval (.tmp 45))).toNat < n - (intOf (Act.eval _ (.tmp 45))).toNat; rw [t45, esi]; show n - (i + 1) < n - i; omega⟩
    obtain ⟨g18, egg18⟩ : ∃ z_ : Nat, X12.heap.size = z_ := ⟨_, rfl⟩
    refine wi_ A (h12_ t3 t4 t5 t7 t9 t11 t12 t13 t43 t44 t45 t16) (rv_ 1 (.pointer (some ⟨g16, 0 + 1, none⟩)) (fun a ee => execFP rfl (ee _)) (rv_ 2 (.agg (bA 16 (TT i))) (fun a ee => execLdT rfl (ee _) (fun j_ hj_ => by rw [cell_of_row _ _ _ _ _ _ Fg16s, Nat.zero_add]; exact pC_r _ _ hj_)) (rv_ 3 (.tuple #[.agg #[], .bool false]) (fun a ee => execLkMf rfl (ee _) (ee _) FM (hTb i) hin) (rs_ 7 (fun a ee => ?_)))))
    refine stepV rfl rfl (execAlU rfl) ⟨.pointer (some ⟨g18, 0, none⟩), ⟨_, rfl, by subst egg18; rfl⟩, fun X15_1 hX => ?_⟩
    have bQ : Below X12.heap.size X12 X15_1 := by subst hX egg18; exact (belNew X12 _)
    replace FR := (on9 FR bQ)
    replace FM := (FM.on bQ)
    replace FL := (FL.on bQ)
    replace FU := (ownW_below FU bQ)
    replace Fg16s := (on9 Fg16s bQ)
    replace BB := BB.trans (bQ.mono BB.size)
    clear bQ hX egg18 ee a
    refine rs_ 8 (fun a ee => ?_)
    refine stepS rfl rfl (execStU rfl (ee _) (ee _)) ⟨_, ⟨_, rfl, rfl⟩, fun X15 hX => ?_⟩
    have bQ : Below X15_1.heap.size X15_1 X15 := by subst hX; exact (Below.refl _ _)
    replace FR := (on9 FR bQ)
    replace FM := (FM.on bQ)
    replace FL := (FL.on bQ)
    replace FU := (ownW_below FU bQ)
    replace Fg16s := (on9 Fg16s bQ)
    replace BB := BB.trans (bQ.mono BB.size)
    clear bQ hX ee a
    refine rf_ [(19, .bool false)] (h12_ t3 t4 t5 t7 t9 t11 t12 t13 t43 t44 t45 t16) ?_
    rintro a A ⟨t19, -⟩ ⟨t3, t4, t5, t7, t9, t11, t12, t13, t43, t44, t45, t16, -⟩
    refine wp_seq ?_
    by_cases hA : decide (tv (TT i) 16 ∈ (wAll (esL wn nu lw t))) = true
    · have hf : (ft EE TT (wAll (esL wn nu lw t))) i = 1 := (seen_iff hE2).1 (Or.inl (of_decide_eq_true hA))
      refine wi_ A (h13_ t3 t4 t5 t7 t9 t11 t12 t13 t43 t44 t45 t16 t19) (rv_ 2 (.agg (wC nw ev)) (fun a ee => execLdWn rfl (ee _) (on9 Fg4 BB)) (rv_ 3 (.pointer (some ⟨g16, 0 + 1, none⟩)) (fun a ee => execFP rfl (ee _)) (rv_ 4 (.agg (bA 16 (TT i))) (fun a ee => execLdT rfl (ee _) (fun j_ hj_ => by rw [cell_of_row _ _ _ _ _ _ Fg16s, Nat.zero_add]; exact pC_r _ _ hj_)) (rc_ 5 ((hA ▸ phas16 nw ev wn nu tw lw t X15 (hW.on (BV.trans ((BB).mono BV.size))).eps hW.n63 hW.ln43 (TT i) (hTb i))) (cb_ fun X16 bQ => ?_)))))
      replace FR := (on9 FR bQ)
      replace FM := (FM.on bQ)
      replace FL := (FL.on bQ)
      replace FU := (ownW_below FU bQ)
      replace Fg16s := (on9 Fg16s bQ)
      replace BB := BB.trans (bQ.mono BB.size)
      clear bQ
      refine rf_ [(76, .bool true)] (h12_ t3 t4 t5 t7 t9 t11 t12 t13 t43 t44 t45 t16) ?_
      rintro a A ⟨t76, -⟩ ⟨t3, t4, t5, t7, t9, t11, t12, t13, t43, t44, t45, t16, -⟩
      refine wp_cond_true t76 ?_
      clear t76
      refine wp_seq ?_
      refine wi_ A (h11_ t3 t4 t5 t7 t9 t11 t12 t13 t43 t44 t45) (rv_ 0 (.pointer (some ⟨g12, 2, none⟩)) (fun a ee => execFR (Or.inr (Or.inr rfl)) rfl (ee _)) (rv_ 1 (.int .i64 (((cn (ft EE TT (wAll (esL wn nu lw t))) 1 i) : Nat) : Int)) (fun a ee => execL1 rfl (Or.inl rfl) (ee _) (row_1 FR rfl)) (rv_ 2 (.int .i64 (((cn (ft EE TT (wAll (esL wn nu lw t))) 1 i) + 1 : Nat) : Int)) (fun a ee => execAd8 (p := (cn (ft EE TT (wAll (esL wn nu lw t))) 1 i)) (q := 1) rfl (ee _) rfl (by omega)) (rv_ 3 (.pointer (some ⟨g12, 2, none⟩)) (fun a ee => execFR (Or.inr (Or.inr rfl)) rfl (ee _)) (rs_ 4 (fun a ee => ?_))))))
      refine stepS rfl rfl (execStR1 (z := (cn (ft EE TT (wAll (esL wn nu lw t))) 1 i) + 1) rfl (ee _) (ee _) FR (by show 2 < 5; omega)) ⟨_, ⟨_, rfl, rfl⟩, fun X17 hX => ?_⟩
      obtain ⟨BB, FM, FL, FRn⟩ : Below X3.heap.size X3 X17 ∧ (MS X17 b41 Sa) ∧ (PeL X3.heap.size X17 vf (cn (ft EE TT (wAll (esL wn nu lw t))) 2 i) cw (fun m => TT (fr (ft EE TT (wAll (esL wn nu lw t))) n m)) (fun _ => 320) (fun m => CC (fr (ft EE TT (wAll (esL wn nu lw t))) n m))) ∧ (X17.heap[g12]? = some (.cells (rpC n (cn (ft EE TT (wAll (esL wn nu lw t))) 0 i) ((cn (ft EE TT (wAll (esL wn nu lw t))) 1 i) + 1)) 37)) := by subst hX; exact ⟨below4 BB Fgeg12 _, (onRowM FM FR), (FL.grT (grown_row FR) FR (by decide)), setRow_heap _ _ _ _ _ _ FR⟩
      clear FR hX ee a
      refine rf_ [] (h11_ t3 t4 t5 t7 t9 t11 t12 t13 t43 t44 t45) ?_
      rintro a A - ⟨t3, t4, t5, t7, t9, t11, t12, t13, t43, t44, t45, -⟩
      refine wp_exit ?_
      repeat (first | with_reducible refine exit_then ?_ | with_reducible refine exit_out (by decide) ?_)
      refine exit_in ?_
      have hS2 := hs_n hS (show (ft EE TT (wAll (esL wn nu lw t))) i ≠ 2 by rw [hf]; decide)
      refine wi_ A (h11_ t3 t4 t5 t7 t9 t11 t12 t13 t43 t44 t45) (rv_ 0 (.int .i64 ((i + 1 : Nat) : Int)) (fun a ee => execAd8 (p := i) (q := 1) rfl (ee _) rfl (by omega)) (rf_ [(45, .int .i64 ((i + 1 : Nat) : Int))] (h10_ t3 t4 t5 t7 t9 t11 t12 t13 t43 t44) ?_))
      rintro a A ⟨t45, -⟩ ⟨t3, t4, t5, t7, t9, t11, t12, t13, t43, t44, -⟩
      exact ⟨⟨i + 1, Sa, vf, cw, lti, hS2, A, t3, t4, t5, t7, t9, t11, t12, t13, t43, t44, t45, BB, (by rw [cn_n (show (ft EE TT (wAll (esL wn nu lw t))) i ≠ 0 by rw [hf]; decide), cn_y hf]; exact FRn), FM, (by rw [cn_n (show (ft EE TT (wAll (esL wn nu lw t))) i ≠ 2 by rw [hf]; decide)]; exact FL)⟩, by show n - (intOf (a.eval (.tmp 45))).toNat < n - (intOf (Act.eval _ (.tmp 45))).toNat; rw [t45, esi]; show n - (i + 1) < n - i; omega⟩
    replace hA := Bool.eq_false_iff.2 hA
    have hf : (ft EE TT (wAll (esL wn nu lw t))) i = 2 := by
      rcases ft_le (E := EE) (T := TT) (A := (wAll (esL wn nu lw t))) (i := i) with z_ | z_ | z_
      · exact absurd z_ (fun z2 => by unfold ft at z2; rw [if_neg (fun z3 => z3 hE2)] at z2; split at z2 <;> omega)
      · exact absurd ((seen_iff hE2).2 z_) (fun z2 => z2.elim (of_decide_eq_false hA) (fun z3 => hin ((hS _).2 z3)))
      · exact z_
    refine wi_ A (h13_ t3 t4 t5 t7 t9 t11 t12 t13 t43 t44 t45 t16 t19) (rv_ 2 (.agg (wC nw ev)) (fun a ee => execLdWn rfl (ee _) (on9 Fg4 BB)) (rv_ 3 (.pointer (some ⟨g16, 0 + 1, none⟩)) (fun a ee => execFP rfl (ee _)) (rv_ 4 (.agg (bA 16 (TT i))) (fun a ee => execLdT rfl (ee _) (fun j_ hj_ => by rw [cell_of_row _ _ _ _ _ _ Fg16s, Nat.zero_add]; exact pC_r _ _ hj_)) (rc_ 5 ((hA ▸ phas16 nw ev wn nu tw lw t X15 (hW.on (BV.trans ((BB).mono BV.size))).eps hW.n63 hW.ln43 (TT i) (hTb i))) (cb_ fun X16 bQ => ?_)))))
    replace FR := (on9 FR bQ)
    replace FM := (FM.on bQ)
    replace FL := (FL.on bQ)
    replace FU := (ownW_below FU bQ)
    replace Fg16s := (on9 Fg16s bQ)
    replace BB := BB.trans (bQ.mono BB.size)
    clear bQ
    refine rf_ [(76, .bool false)] (h12_ t3 t4 t5 t7 t9 t11 t12 t13 t43 t44 t45 t16) ?_
    rintro a A ⟨t76, -⟩ ⟨t3, t4, t5, t7, t9, t11, t12, t13, t43, t44, t45, t16, -⟩
    refine wp_cond_false t76 ?_
    refine wp_skip ?_
    clear t76
    refine wp_seq ?_
    refine wi_ A (h12_ t3 t4 t5 t7 t9 t11 t12 t13 t43 t44 t45 t16) (rv_ 1 (.pointer (some ⟨g16, 0 + 1, none⟩)) (fun a ee => execFP rfl (ee _)) (rv_ 2 (.agg (bA 16 (TT i))) (fun a ee => execLdT rfl (ee _) (fun j_ hj_ => by rw [cell_of_row _ _ _ _ _ _ Fg16s, Nat.zero_add]; exact pC_r _ _ hj_)) (rv_ 3 (.agg #[]) (fun a ee => execUnit rfl) (rs_ 4 (fun a ee => ?_)))))
    obtain ⟨o_, ho_, hM_⟩ := FM.put (hTb i)
    refine stepS rfl rfl (execMU rfl (ee _) (ee _) (ee _) ho_) ⟨_, ⟨_, rfl, rfl⟩, fun X18 hX => ?_⟩
    obtain ⟨BB, FR, FL, FU, Fg16s, FMn⟩ : Below X3.heap.size X3 X18 ∧ (X18.heap[g12]? = some (.cells (rpC n (cn (ft EE TT (wAll (esL wn nu lw t))) 0 i) (cn (ft EE TT (wAll (esL wn nu lw t))) 1 i)) 37)) ∧ (PeL X3.heap.size X18 vf (cn (ft EE TT (wAll (esL wn nu lw t))) 2 i) cw (fun m => TT (fr (ft EE TT (wAll (esL wn nu lw t))) n m)) (fun _ => 320) (fun m => CC (fr (ft EE TT (wAll (esL wn nu lw t))) n m))) ∧ (X18.ownsRow X3.heap.size 5 1 cu (peN (EE i)) (bytesL (peN (EE i)) (CC i))) ∧ (X18.heap[g16]? = some (.cells (pC cu (TT i)) 46)) ∧ (MS X18 b41 (insM Sa (TT i))) := by subst hX; exact ⟨belSet BB FMg, (onSet FM FR), (FL.gr (grown_set FM) (fun d q => set_ne FM q rfl) (fun q => by obtain ⟨_, _, q2⟩ := own_blk FL.own q; exact set_ne FM q2 rfl)), (ownG FU (grown_set FM) (fun b hb e => by obtain ⟨_, _, q2⟩ := own_blk FU hb; cases e; exact set_ne FM q2 rfl)), (onSet FM Fg16s), hM_⟩
    clear FM hX ee a
    refine rf_ [] (h12_ t3 t4 t5 t7 t9 t11 t12 t13 t43 t44 t45 t16) ?_
    rintro a A - ⟨t3, t4, t5, t7, t9, t11, t12, t13, t43, t44, t45, t16, -⟩
    have hpe : peN (EE i) = 320 := by rw [hE2]; rfl
    rw [hpe] at FU
    obtain ⟨g87, egg87⟩ : ∃ z_ : Nat, X18.heap.size = z_ := ⟨_, rfl⟩
    refine wi_ A (h12_ t3 t4 t5 t7 t9 t11 t12 t13 t43 t44 t45 t16) (rv_ 1 (.agg (pC cu (TT i))) (fun a ee => execLdPe rfl (ee _) (fun j_ _ => by rw [cell_of_row _ _ _ _ _ _ Fg16s, Nat.zero_add])) (rs_ 2 (fun a ee => ?_)))
    refine stepV rfl rfl (execBsP rfl (ee _)) ⟨.slice (some ⟨g87, 0, none⟩) 1 1, ⟨_, rfl, by subst egg87; rfl⟩, fun X19_1 hX => ?_⟩
    have bQ : Below X18.heap.size X18 X19_1 := by subst hX egg87; exact (belNew X18 _)
    have Fg87 : (X19_1.heap[g87]? = some (.cells (pC cu (TT i)) 46)) := by subst hX egg87; exact heapNew X18 _
    replace FR := (on9 FR bQ)
    replace FL := (FL.on bQ)
    replace FU := (ownW_below FU bQ)
    replace Fg16s := (on9 Fg16s bQ)
    replace FMn := (FMn.on bQ)
    replace BB := BB.trans (bQ.mono BB.size)
    clear bQ hX egg87 ee a
    refine rs_ 3 (fun a ee => ?_)
    refine stepAppP (k := cn (ft EE TT (wAll (esL wn nu lw t))) 2 i) (u := cu) rfl rfl rfl (ee _) (ee _) FL (by rw [fr_at lti hf]; exact Fg87) (by rw [fr_at lti hf]; exact FU) (by omega) (BB).size fun v2 X19 own' gr => ⟨_, ⟨_, rfl, rfl⟩, eqw ?_⟩
    obtain ⟨BB, FR, FU, FMn, FLn2⟩ : Below X3.heap.size X3 X19 ∧ (X19.heap[g12]? = some (.cells (rpC n (cn (ft EE TT (wAll (esL wn nu lw t))) 0 i) (cn (ft EE TT (wAll (esL wn nu lw t))) 1 i)) 37)) ∧ (X19.ownsRow X3.heap.size 5 1 cu 320 (bytesL 320 (CC i))) ∧ (MS X19 b41 (insM Sa (TT i))) ∧ (PeL X3.heap.size X19 v2 (cn (ft EE TT (wAll (esL wn nu lw t))) 2 i + 1) (cvx cw (cn (ft EE TT (wAll (esL wn nu lw t))) 2 i) cu) (fun m => TT (fr (ft EE TT (wAll (esL wn nu lw t))) n m)) (fun _ => 320) (fun m => CC (fr (ft EE TT (wAll (esL wn nu lw t))) n m))) := ⟨(BB).grown gr (BB).size (fun b hb => (FL.lt hb).1), ((FL.stays gr FR (by decide))), (own5_grown FU FL.own (by decide) gr), (FL.ms gr FMn), own'⟩
    clear FL FLn Fg16s Fg87 ee a
    refine rf_ [(11, v2)] (h10_ t3 t4 t5 t7 t9 t12 t13 t43 t44 t45) ?_
    rintro a A ⟨t11, -⟩ ⟨t3, t4, t5, t7, t9, t12, t13, t43, t44, t45, -⟩
    have hS2 := hs_y hS hf
    refine wi_ A (h11_ t3 t4 t5 t7 t9 t12 t13 t43 t44 t45 t11) (rv_ 0 (.int .i64 ((i + 1 : Nat) : Int)) (fun a ee => execAd8 (p := i) (q := 1) rfl (ee _) rfl (by omega)) (rf_ [(45, .int .i64 ((i + 1 : Nat) : Int))] (h10_ t3 t4 t5 t7 t9 t11 t12 t13 t43 t44) ?_))
    rintro a A ⟨t45, -⟩ ⟨t3, t4, t5, t7, t9, t11, t12, t13, t43, t44, -⟩
    exact ⟨⟨i + 1, (insM Sa (TT i)), v2, (cvx cw (cn (ft EE TT (wAll (esL wn nu lw t))) 2 i) cu), lti, hS2, A, t3, t4, t5, t7, t9, t11, t12, t13, t43, t44, t45, BB, (by rw [cn_n (show (ft EE TT (wAll (esL wn nu lw t))) i ≠ 0 by rw [hf]; decide), cn_n (show (ft EE TT (wAll (esL wn nu lw t))) i ≠ 1 by rw [hf]; decide)]; exact FR), FMn, (by rw [cn_y hf]; exact FLn2)⟩, by show n - (intOf (a.eval (.tmp 45))).toNat < n - (intOf (Act.eval _ (.tmp 45))).toNat; rw [t45, esi]; show n - (i + 1) < n - i; omega⟩
  · rw [decide_eq_false lti] at t46
    refine wp_cond_false t46 ?_
    refine wp_exit ?_
    first | with_reducible refine exit_in ?_ | with_reducible refine exit_then (exit_in ?_) | with_reducible refine exit_then (exit_then (exit_in ?_)) | refine exit_in ?_ | refine exit_then (exit_in ?_) | refine exit_then (exit_then (exit_in ?_))
    clear t46 esi
    have ein : i = n := by omega
    rw [ein] at FR FL
    have n712 : g7 ≠ g12 := by have := (Array.getElem?_eq_some_iff.1 Fg7).1; omega
    replace Fg7 := on9 Fg7 BB
    replace BB := BV.trans (BB.mono BV.size)
    refine wp_seq ?_
    refine wj_ [0, 1, 2, 3, 4] [3] [1] [3] A (h3_ t7 t11 t12) (fun X21_0 bD => ?_)
    refine dv_ 1 (.agg (rpC n (cn (ft EE TT (wAll (esL wn nu lw t))) 0 n) (cn (ft EE TT (wAll (esL wn nu lw t))) 1 n))) (fun a X ee hb => execLdRp rfl (ee _) (on9 FR hb)) (ds_ 3 (fun a ee => ?_))
    refine stepS rfl rfl (execStRp rfl (ee _) (ee _) (on9 Fg7 bD)) ⟨_, ⟨_, rfl, rfl⟩, fun X21 hX => ?_⟩
    obtain ⟨BB, FR, FL, Fg7s⟩ : Below V.heap.size V X21 ∧ (X21.heap[g12]? = some (.cells (rpC n (cn (ft EE TT (wAll (esL wn nu lw t))) 0 n) (cn (ft EE TT (wAll (esL wn nu lw t))) 1 n)) 37)) ∧ (PeL X3.heap.size X21 vf (cn (ft EE TT (wAll (esL wn nu lw t))) 2 n) cw (fun m => TT (fr (ft EE TT (wAll (esL wn nu lw t))) n m)) (fun _ => 320) (fun m => CC (fr (ft EE TT (wAll (esL wn nu lw t))) n m))) ∧ (X21.heap[g7]? = some (.cells (rpC n (cn (ft EE TT (wAll (esL wn nu lw t))) 0 n) (cn (ft EE TT (wAll (esL wn nu lw t))) 1 n)) 37)) := by subst hX; exact ⟨below4 (BB.trans (bD.mono BB.size)) Fgeg7 _, (by rw [setRow_other _ _ _ _ (Ne.symm n712)]; exact (on9 FR bD)), ((FL.on bD).grT (grown_row (on9 Fg7 bD)) (on9 Fg7 bD) (by decide)), setRow_heap _ _ _ _ _ _ (on9 Fg7 bD)⟩
    clear bD Fg7 hX ee a
    refine ⟨Or.inl rfl, ?_⟩
    refine dz_ [(6, vf), (8, .int .i64 ((0 : Nat) : Int))] (h1_ t7) ?_
    rintro a A ⟨t6, t8, -⟩ ⟨t7, -⟩
    have hz : ∀ x, z0 (sfE m q ep) x = x := fun x => if_pos hE
    refine wp_ret ?_
    refine bodyPost_ret (res_tct _ _ g7 37 _ (0, 0) _ Tryz.results4 t7 Fg7s Tryz.underlying37 rfl (by show _ = some 5; kernel_rfl)) A.2 ⟨⟨vf, cw, ?_, ?_⟩, BB⟩
    · show Ending.returned (.tuple #[a.eval (.tmp 6), .agg _, a.eval (.tmp 8)]) = _
      rw [t6, t8]
      rw [hz, hz, hz, hE]
      first | done | rfl
    · rw [hz]
      exact FL.base BV.size
end Go.Proofs.YtejhbfbnljioeaaGreatDoor.Rnd
