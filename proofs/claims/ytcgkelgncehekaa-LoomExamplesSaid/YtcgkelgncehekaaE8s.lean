import Derived.Test.YtcgkelgncehekaaE8r
namespace Go.Proofs.Ytcgkelgncehekaa.Loo
open Go.RowKit Gf8 Aes By8 Cel Cf Win Drw Prm
/- LoomExamples. Written by tools/mkE8s.py. -/

theorem execBs3I {o : Oper} {a : Act} {w : World} {x0 x1 x2 : Operand} (f : Nat → Int) (ho : o.op = .buildSlice 23 3 #[(0, x0), (1, x1), (2, x2)]) (h0 : a.eval x0 = .int .i64 (f 0)) (h1 : a.eval x1 = .int .i64 (f 1)) (h2 : a.eval x2 = .int .i64 (f 2)) : (execOp a.eval o).run Try.prog w = .ok (.value (.slice (some ⟨w.heap.size, 0, none⟩) 3 3)) (w.alloc (.cells (iR 3 f) 3)) := by
  unfold execOp
  simp only [ho, List.map_toArray, List.map_cons, List.map_nil, h0, h1, h2]
  kernel_rfl
theorem exA_picks {B : Nat} {W : World} {pk tk : Value} {tv : Nat → Value} {T : Nat → List Int} (hh : His B W pk tk tv 3 2 (fun i => (Loo.pk (pairP 0) sc0 i : Int)) T) : SliceI W pk 3 (fun _ => 0) :=
  hh.picks.cg fun j hj => by
    show ((Loo.pk (pairP 0) sc0 j : Nat) : Int) = 0
    rw [exA_is.2.1 j hj]
    rfl
def fill (i j : Nat) : Op3 := if j < i then ⟨10, 0, 0⟩ else ⟨0, 0, 0⟩
theorem fill_next (i : Nat) : upf (fill i) i ⟨10, 0, 0⟩ = fill (i + 1) := funext fun j => by
  unfold upf fill
  by_cases e : j = i
  · rw [if_pos e, if_pos (by omega)]
  · rw [if_neg e]
    by_cases e2 : j < i
    · rw [if_pos e2, if_pos (by omega)]
    · rw [if_neg e2, if_neg (by omega)]
theorem fill_all {W : World} {g n : Nat} (h : W.heap[g]? = some (.cells (oR 257 (fill 257)) 35)) (hn : n ≤ 257) : SliceO W (.slice (some ⟨g, 0, none⟩) n 257) n (fun _ => ⟨10, 0, 0⟩) := by
  have h1 := oR_slice h (fun j _ => by unfold fill; split <;> decide)
  obtain ⟨⟨a, c, e, h2⟩, _⟩ := h1
  injection e with e1 e2 e3
  subst e1
  obtain ⟨b, off, e4, e5, e6⟩ := h2 (by omega)
  injection e4 with e4
  injection e4 with e7 e8 _
  subst e7 e8
  refine ⟨⟨_, _, rfl, fun _ => ⟨g, 0, rfl, e5, fun j hj => ?_⟩⟩, fun j _ => by decide⟩
  have h3 := e6 j (by omega)
  rw [show fill 257 j = ⟨10, 0, 0⟩ from if_pos (by omega)] at h3
  exact h3
theorem sl256 {W : World} (g : Nat) : (Instr.sliceAt 36 (.slice (some ⟨g, 0, none⟩) 257 257) none (some (.int .i64 ((256 : Nat) : Int))) none).run Try.prog W = .ok (.slice (some ⟨g, 0, none⟩) 256 257) W := by
  obtain ⟨i, i1, _⟩ := infoOp
  simp [Instr.sliceAt, Instr.slice, run_underlying Try.underlying36, Instr.sliceBounds, run_sliceBound, sizeOf, typeInfo, i1, Addr.add_mid]
theorem execSlOh {o : Oper} {a : Act} {w : World} {x l : Operand} {v vl r : Value} (ho : o.op = .slice 36 x none (some l) none) (hx : a.eval x = v) (hl : a.eval l = vl) (hr : (Instr.sliceAt 36 v none (some vl) none).run Try.prog w = .ok r w) : (execOp a.eval o).run Try.prog w = .ok (.value r) w := by
  unfold execOp
  simp only [ho, hx, hl, Option.map_some, Option.map_none, Sem.run_bind, hr, Result.andThen_ok, Sem.run_pure]
set_option maxRecDepth 100000 in
set_option maxHeartbeats 4000000 in
/-- LoomExamples. -/
theorem examples19 (I : LImpl) (V : World) :
    Calls Try.prog 3 #[] V fun e w' => e = .returned (.bool true) ∧ Below V.heap.size V w' := by
  go_enter Try.func3, Try.ntmps3
  refine wo_ 166 [] ?_
  rintro a A -
  have BW : Below V.heap.size V V := Below.refl _ _
  have BB : Below V.heap.size V V := Below.refl _ _
  refine wp_seq ?_
  refine wi_ A h0_ (rg_ [] ?_)
  rintro a A -
  refine wp_seq ?_
  refine wp_seq ?_
  refine wi_ A h0_ (rc_ 1 (alive19 I V) (cb_ fun X1 bQ => ?_))
  replace BB := BB.trans (bQ.mono BB.size)
  clear bQ
  refine rv_ 2 (.bool false) (fun a ee => execNot8 (b := true) rfl (ee _)) (rg_ [(20, .bool false)] ?_)
  rintro a A ⟨t20, -⟩
  refine wp_cond_false t20 ?_
  refine wp_skip ?_
  clear t20
  refine wp_seq ?_
  refine wi_ A h0_ (rc_ 0 (pair19 0 X1 ⟨by omega, by omega⟩) fun e X3_1 hh => ?_)
  obtain ⟨⟨v22, he, hP⟩, hb⟩ := hh
  refine ⟨_, he, ?_⟩
  have bQ : Below X1.heap.size X1 X3_1 := hb
  have FP : (PlA X3_1 v22 (pairP 0)) := hP
  replace BB := BB.trans (bQ.mono BB.size)
  clear bQ
  refine rc_ 1 (play_of I (pairP 0) _ _ 0 3 0 0 (fun _ => 0) true false X3_1 (FP) slice_nilI exA_is.1 exA_run exA_is.2.2.1 (by rw [show scr 0 (fun _ => 0) = sc0 from rfl, exA_is.2.2.2.1]; rfl) (by rw [show scr 0 (fun _ => 0) = sc0 from rfl, exA_is.2.2.2.1]; rfl) exA_is.2.2.2.2) fun e X3_2 hh => ?_
  obtain ⟨pk1, tk1, tv1, he, hH, hb⟩ := hh
  refine ⟨_, he, ?_⟩
  have bQ : Below X3_1.heap.size X3_1 X3_2 := hb
  have FH1 : (His V.heap.size X3_2 pk1 tk1 tv1 3 (pairP 0).n (fun i => (Loo.pk (pairP 0) sc0 i : Int)) (rk (pairP 0) sc0 3).tk) := hH.base (BB).size
  replace BB := BB.trans (bQ.mono BB.size)
  clear FP bQ
  obtain ⟨g1, egg1⟩ : ∃ z_ : Nat, X3_2.heap.size = z_ := ⟨_, rfl⟩
  refine rs_ 5 (fun a ee => ?_)
  refine stepV rfl rfl (execAlH rfl) ⟨.pointer (some ⟨g1, 0, none⟩), ⟨_, rfl, by subst egg1; rfl⟩, fun X3_3 hX => ?_⟩
  have bQ : Below X3_2.heap.size X3_2 X3_3 := by subst hX egg1; exact (belNew X3_2 _)
  have Fg1 : (X3_3.heap[g1]? = some (.cells (hC (.slice none 0 0) 0 false false 0 (.slice none 0 0)) 26)) := by subst hX egg1; exact heapNew X3_2 _
  have Fgeg1 : (V.heap.size ≤ g1) := by subst hX egg1; exact (BB).size
  replace FH1 := (FH1.on bQ)
  replace BB := BB.trans (bQ.mono BB.size)
  clear bQ hX egg1 ee a
  refine rs_ 6 (fun a ee => ?_)
  refine stepS rfl rfl (execStH rfl (ee _) (ee _) Fg1 (sl3 FH1.picks.shp) (sl3 FH1.lists.shp)) ⟨_, ⟨_, rfl, rfl⟩, fun X3 hX => ?_⟩
  obtain ⟨BB, FH1, Fg1s⟩ : Below V.heap.size V X3 ∧ (His V.heap.size X3 pk1 tk1 tv1 3 (pairP 0).n (fun i => (Loo.pk (pairP 0) sc0 i : Int)) (rk (pairP 0) sc0 3).tk) ∧ (X3.heap[g1]? = some (.cells (hC pk1 0 true false 0 tk1) 26)) := by subst hX; exact ⟨below4 BB Fgeg1 _, (FH1.keepT Fg1 (by decide) (by decide) grR18), setRow_heap _ _ _ _ _ _ Fg1⟩
  clear Fg1 hX ee a
  refine rg_ [(1, .pointer (some ⟨g1, 0, none⟩))] ?_
  rintro a A ⟨t1, -⟩
  refine wp_seq ?_
  obtain ⟨g28, egg28⟩ : ∃ z_ : Nat, X3.heap.size = z_ := ⟨_, rfl⟩
  refine wi_ A (h1_ t1) (rv_ 0 (.agg (oC 9 1 0)) (fun a ee => execBo01 rfl rfl rfl) (rs_ 1 (fun a ee => ?_)))
  refine stepV rfl rfl (execBs1O (exBo 0) rfl (ee _)) ⟨.slice (some ⟨g28, 0, none⟩) 1 1, ⟨_, rfl, by subst egg28; rfl⟩, fun X4_1 hX => ?_⟩
  have bQ : Below X3.heap.size X3 X4_1 := by subst hX egg28; exact (belNew X3 _)
  have Fg28 : (X4_1.heap[g28]? = some (.cells (oR 1 (exBo 0)) 35)) := by subst hX egg28; exact heapNew X3 _
  have Fgeg28 : (V.heap.size ≤ g28) := by subst hX egg28; exact (BB).size
  replace FH1 := (FH1.on bQ)
  replace Fg1s := (on9 Fg1s bQ)
  replace BB := BB.trans (bQ.mono BB.size)
  clear bQ hX egg28 ee a
  obtain ⟨g30, egg30⟩ : ∃ z_ : Nat, X4_1.heap.size = z_ := ⟨_, rfl⟩
  refine rv_ 2 (.agg (oC 9 0 0)) (fun a ee => execBo0 rfl rfl) (rs_ 3 (fun a ee => ?_))
  refine stepV rfl rfl (execBs1O (exBo 1) rfl (ee _)) ⟨.slice (some ⟨g30, 0, none⟩) 1 1, ⟨_, rfl, by subst egg30; rfl⟩, fun X4_2 hX => ?_⟩
  have bQ : Below X4_1.heap.size X4_1 X4_2 := by subst hX egg30; exact (belNew X4_1 _)
  have Fg30 : (X4_2.heap[g30]? = some (.cells (oR 1 (exBo 1)) 35)) := by subst hX egg30; exact heapNew X4_1 _
  have Fgeg30 : (V.heap.size ≤ g30) := by subst hX egg30; exact (BB).size
  replace FH1 := (FH1.on bQ)
  replace Fg1s := (on9 Fg1s bQ)
  replace Fg28 := (on9 Fg28 bQ)
  replace BB := BB.trans (bQ.mono BB.size)
  clear bQ hX egg30 ee a
  obtain ⟨g31, egg31⟩ : ∃ z_ : Nat, X4_2.heap.size = z_ := ⟨_, rfl⟩
  refine rs_ 4 (fun a ee => ?_)
  refine stepV rfl rfl (execBs2V (fun i => if i = 0 then .slice (some ⟨g28, 0, none⟩) 1 1 else .slice (some ⟨g30, 0, none⟩) 1 1) rfl (ee _) (ee _) (fun i hi => by rcases (show i = 0 ∨ i = 1 by omega) with rfl | rfl <;> exact ⟨_, _, _, rfl⟩)) ⟨.slice (some ⟨g31, 0, none⟩) 2 2, ⟨_, rfl, by subst egg31; rfl⟩, fun X4_3 hX => ?_⟩
  have bQ : Below X4_2.heap.size X4_2 X4_3 := by subst hX egg31; exact (belNew X4_2 _)
  have Fg31 : (X4_3.heap[g31]? = some (.cells (vR 2 (fun i => if i = 0 then .slice (some ⟨g28, 0, none⟩) 1 1 else .slice (some ⟨g30, 0, none⟩) 1 1)) 36)) := by subst hX egg31; exact heapNew X4_2 _
  have Fgeg31 : (V.heap.size ≤ g31) := by subst hX egg31; exact (BB).size
  replace FH1 := (FH1.on bQ)
  replace Fg1s := (on9 Fg1s bQ)
  replace Fg28 := (on9 Fg28 bQ)
  replace Fg30 := (on9 Fg30 bQ)
  replace BB := BB.trans (bQ.mono BB.size)
  clear bQ hX egg31 ee a
  refine rv_ 5 (.agg #[.slice none 0 0, .slice (some ⟨g31, 0, none⟩) 2 2]) (fun a ee => execBp1 rfl (ee _) ⟨_, _, _, rfl⟩) (rc_ 6 (play_of I exB _ _ 0 0 0 0 (fun _ => 0) false true X4_3 (pla_b Fg28 Fg30 Fg31) slice_nilI exB_is.1 exB_run exB_is.2.1 (by rw [show scr 0 (fun _ => 0) = sc0 from rfl, exB_is.2.2.1]; rfl) (by rw [show scr 0 (fun _ => 0) = sc0 from rfl, exB_is.2.2.1, exB_is.2.2.2.2]; rfl) exB_is.2.2.2.1) fun e X4_4 hh => ?_)
  obtain ⟨pk3, tk3, tv3, he, hH, hb⟩ := hh
  refine ⟨_, he, ?_⟩
  have bQ : Below X4_3.heap.size X4_3 X4_4 := hb
  have FH3 : (His V.heap.size X4_4 pk3 tk3 tv3 0 exB.n (fun i => (Loo.pk exB sc0 i : Int)) (rk exB sc0 0).tk) := hH.base (BB).size
  replace FH1 := (FH1.on bQ)
  replace Fg1s := (on9 Fg1s bQ)
  replace BB := BB.trans (bQ.mono BB.size)
  clear Fg28 Fg30 Fg31 bQ
  obtain ⟨g3, egg3⟩ : ∃ z_ : Nat, X4_4.heap.size = z_ := ⟨_, rfl⟩
  refine rs_ 10 (fun a ee => ?_)
  refine stepV rfl rfl (execAlH rfl) ⟨.pointer (some ⟨g3, 0, none⟩), ⟨_, rfl, by subst egg3; rfl⟩, fun X4_5 hX => ?_⟩
  have bQ : Below X4_4.heap.size X4_4 X4_5 := by subst hX egg3; exact (belNew X4_4 _)
  have Fg3 : (X4_5.heap[g3]? = some (.cells (hC (.slice none 0 0) 0 false false 0 (.slice none 0 0)) 26)) := by subst hX egg3; exact heapNew X4_4 _
  have Fgeg3 : (V.heap.size ≤ g3) := by subst hX egg3; exact (BB).size
  have Fng3g1 : (g1 ≠ g3) := by subst hX egg3; exact Nat.ne_of_lt (Array.getElem?_eq_some_iff.1 Fg1s).1
  replace FH1 := (FH1.on bQ)
  replace Fg1s := (on9 Fg1s bQ)
  replace FH3 := (FH3.on bQ)
  replace BB := BB.trans (bQ.mono BB.size)
  clear bQ hX egg3 ee a
  refine rs_ 11 (fun a ee => ?_)
  refine stepS rfl rfl (execStH rfl (ee _) (ee _) Fg3 (sl3 FH3.picks.shp) (sl3 FH3.lists.shp)) ⟨_, ⟨_, rfl, rfl⟩, fun X4 hX => ?_⟩
  obtain ⟨BB, FH1, Fg1s, FH3, Fg3s⟩ : Below V.heap.size V X4 ∧ (His V.heap.size X4 pk1 tk1 tv1 3 (pairP 0).n (fun i => (Loo.pk (pairP 0) sc0 i : Int)) (rk (pairP 0) sc0 3).tk) ∧ (X4.heap[g1]? = some (.cells (hC pk1 0 true false 0 tk1) 26)) ∧ (His V.heap.size X4 pk3 tk3 tv3 0 exB.n (fun i => (Loo.pk exB sc0 i : Int)) (rk exB sc0 0).tk) ∧ (X4.heap[g3]? = some (.cells (hC pk3 0 false true 0 tk3) 26)) := by subst hX; exact ⟨below4 BB Fgeg3 _, (FH1.keepT Fg3 (by decide) (by decide) grR18), (by rw [setRow_other _ _ _ _ Fng3g1]; exact Fg1s), (FH3.keepT Fg3 (by decide) (by decide) grR18), setRow_heap _ _ _ _ _ _ Fg3⟩
  clear Fg3 hX ee a
  refine rf_ [(3, .pointer (some ⟨g3, 0, none⟩))] (h1_ t1) ?_
  rintro a A ⟨t3, -⟩ ⟨t1, -⟩
  refine wp_seq ?_
  obtain ⟨g37, egg37⟩ : ∃ z_ : Nat, X4.heap.size = z_ := ⟨_, rfl⟩
  refine wi_ A (h2_ t1 t3) (rs_ 0 (fun a ee => ?_))
  refine stepV rfl rfl (execBs1I (fun _ => 0) rfl rfl) ⟨.slice (some ⟨g37, 0, none⟩) 1 1, ⟨_, rfl, by subst egg37; rfl⟩, fun X5_1 hX => ?_⟩
  have bQ : Below X4.heap.size X4 X5_1 := by subst hX egg37; exact (belNew X4 _)
  have Fg37 : (X5_1.heap[g37]? = some (.cells (iR 1 (fun _ => 0)) 3)) := by subst hX egg37; exact heapNew X4 _
  have Fgeg37 : (V.heap.size ≤ g37) := by subst hX egg37; exact (BB).size
  replace FH1 := (FH1.on bQ)
  replace Fg1s := (on9 Fg1s bQ)
  replace FH3 := (FH3.on bQ)
  replace Fg3s := (on9 Fg3s bQ)
  replace BB := BB.trans (bQ.mono BB.size)
  clear bQ hX egg37 ee a
  obtain ⟨g41, egg41⟩ : ∃ z_ : Nat, X5_1.heap.size = z_ := ⟨_, rfl⟩
  refine rv_ 1 (.agg (oC 3 0 0)) (fun a ee => execBo0 rfl rfl) (rv_ 2 (.agg (oC 3 0 0)) (fun a ee => execBo0 rfl rfl) (rv_ 3 (.agg (oC 1 0 0)) (fun a ee => execBo0 rfl rfl) (rs_ 4 (fun a ee => ?_))))
  refine stepV rfl rfl (execBs3O exCo rfl (ee _) (ee _) (ee _)) ⟨.slice (some ⟨g41, 0, none⟩) 3 3, ⟨_, rfl, by subst egg41; rfl⟩, fun X5_2 hX => ?_⟩
  have bQ : Below X5_1.heap.size X5_1 X5_2 := by subst hX egg41; exact (belNew X5_1 _)
  have Fg41 : (X5_2.heap[g41]? = some (.cells (oR 3 exCo) 35)) := by subst hX egg41; exact heapNew X5_1 _
  have Fgeg41 : (V.heap.size ≤ g41) := by subst hX egg41; exact (BB).size
  replace FH1 := (FH1.on bQ)
  replace Fg1s := (on9 Fg1s bQ)
  replace FH3 := (FH3.on bQ)
  replace Fg3s := (on9 Fg3s bQ)
  replace Fg37 := (on9 Fg37 bQ)
  replace BB := BB.trans (bQ.mono BB.size)
  clear bQ hX egg41 ee a
  obtain ⟨g42, egg42⟩ : ∃ z_ : Nat, X5_2.heap.size = z_ := ⟨_, rfl⟩
  refine rs_ 5 (fun a ee => ?_)
  refine stepV rfl rfl (execBs1V (fun _ => .slice (some ⟨g41, 0, none⟩) 3 3) rfl (ee _) (fun _ _ => ⟨_, _, _, rfl⟩)) ⟨.slice (some ⟨g42, 0, none⟩) 1 1, ⟨_, rfl, by subst egg42; rfl⟩, fun X5_3 hX => ?_⟩
  have bQ : Below X5_2.heap.size X5_2 X5_3 := by subst hX egg42; exact (belNew X5_2 _)
  have Fg42 : (X5_3.heap[g42]? = some (.cells (vR 1 (fun _ => .slice (some ⟨g41, 0, none⟩) 3 3)) 36)) := by subst hX egg42; exact heapNew X5_2 _
  have Fgeg42 : (V.heap.size ≤ g42) := by subst hX egg42; exact (BB).size
  replace FH1 := (FH1.on bQ)
  replace Fg1s := (on9 Fg1s bQ)
  replace FH3 := (FH3.on bQ)
  replace Fg3s := (on9 Fg3s bQ)
  replace Fg37 := (on9 Fg37 bQ)
  replace Fg41 := (on9 Fg41 bQ)
  replace BB := BB.trans (bQ.mono BB.size)
  clear bQ hX egg42 ee a
  refine rv_ 6 (.agg #[.slice (some ⟨g37, 0, none⟩) 1 1, .slice (some ⟨g42, 0, none⟩) 1 1]) (fun a ee => execBp01 rfl (ee _) (ee _) ⟨_, _, _, rfl⟩ ⟨_, _, _, rfl⟩) (rc_ 7 (play_of I exC _ _ 0 3 0 2 (fun _ => 0) true false X5_3 (pla_c Fg37 Fg41 Fg42) slice_nilI exC_is.1 exC_run exC_is.2.1 (by rw [show scr 0 (fun _ => 0) = sc0 from rfl, exC_is.2.2.1]; rfl) (by rw [show scr 0 (fun _ => 0) = sc0 from rfl, exC_is.2.2.1]; rfl) exC_is.2.2.2) fun e X5_4 hh => ?_)
  obtain ⟨pk5, tk5, tv5, he, hH, hb⟩ := hh
  refine ⟨_, he, ?_⟩
  have bQ : Below X5_3.heap.size X5_3 X5_4 := hb
  have FH5 : (His V.heap.size X5_4 pk5 tk5 tv5 3 exC.n (fun i => (Loo.pk exC sc0 i : Int)) (rk exC sc0 3).tk) := hH.base (BB).size
  replace FH1 := (FH1.on bQ)
  replace Fg1s := (on9 Fg1s bQ)
  replace FH3 := (FH3.on bQ)
  replace Fg3s := (on9 Fg3s bQ)
  replace BB := BB.trans (bQ.mono BB.size)
  clear Fg37 Fg41 Fg42 bQ
  obtain ⟨g5, egg5⟩ : ∃ z_ : Nat, X5_4.heap.size = z_ := ⟨_, rfl⟩
  refine rs_ 11 (fun a ee => ?_)
  refine stepV rfl rfl (execAlH rfl) ⟨.pointer (some ⟨g5, 0, none⟩), ⟨_, rfl, by subst egg5; rfl⟩, fun X5_5 hX => ?_⟩
  have bQ : Below X5_4.heap.size X5_4 X5_5 := by subst hX egg5; exact (belNew X5_4 _)
  have Fg5 : (X5_5.heap[g5]? = some (.cells (hC (.slice none 0 0) 0 false false 0 (.slice none 0 0)) 26)) := by subst hX egg5; exact heapNew X5_4 _
  have Fgeg5 : (V.heap.size ≤ g5) := by subst hX egg5; exact (BB).size
  have Fng5g1 : (g1 ≠ g5) := by subst hX egg5; exact Nat.ne_of_lt (Array.getElem?_eq_some_iff.1 Fg1s).1
  have Fng5g3 : (g3 ≠ g5) := by subst hX egg5; exact Nat.ne_of_lt (Array.getElem?_eq_some_iff.1 Fg3s).1
  replace FH1 := (FH1.on bQ)
  replace Fg1s := (on9 Fg1s bQ)
  replace FH3 := (FH3.on bQ)
  replace Fg3s := (on9 Fg3s bQ)
  replace FH5 := (FH5.on bQ)
  replace BB := BB.trans (bQ.mono BB.size)
  clear bQ hX egg5 ee a
  refine rs_ 12 (fun a ee => ?_)
  refine stepS rfl rfl (execStH rfl (ee _) (ee _) Fg5 (sl3 FH5.picks.shp) (sl3 FH5.lists.shp)) ⟨_, ⟨_, rfl, rfl⟩, fun X5 hX => ?_⟩
  obtain ⟨BB, FH1, Fg1s, FH3, Fg3s, FH5, Fg5s⟩ : Below V.heap.size V X5 ∧ (His V.heap.size X5 pk1 tk1 tv1 3 (pairP 0).n (fun i => (Loo.pk (pairP 0) sc0 i : Int)) (rk (pairP 0) sc0 3).tk) ∧ (X5.heap[g1]? = some (.cells (hC pk1 0 true false 0 tk1) 26)) ∧ (His V.heap.size X5 pk3 tk3 tv3 0 exB.n (fun i => (Loo.pk exB sc0 i : Int)) (rk exB sc0 0).tk) ∧ (X5.heap[g3]? = some (.cells (hC pk3 0 false true 0 tk3) 26)) ∧ (His V.heap.size X5 pk5 tk5 tv5 3 exC.n (fun i => (Loo.pk exC sc0 i : Int)) (rk exC sc0 3).tk) ∧ (X5.heap[g5]? = some (.cells (hC pk5 0 true false 2 tk5) 26)) := by subst hX; exact ⟨below4 BB Fgeg5 _, (FH1.keepT Fg5 (by decide) (by decide) grR18), (by rw [setRow_other _ _ _ _ Fng5g1]; exact Fg1s), (FH3.keepT Fg5 (by decide) (by decide) grR18), (by rw [setRow_other _ _ _ _ Fng5g3]; exact Fg3s), (FH5.keepT Fg5 (by decide) (by decide) grR18), setRow_heap _ _ _ _ _ _ Fg5⟩
  clear Fg5 hX ee a
  refine rf_ [(5, .pointer (some ⟨g5, 0, none⟩))] (h2_ t1 t3) ?_
  rintro a A ⟨t5, -⟩ ⟨t1, t3, -⟩
  refine wp_seq ?_
  obtain ⟨g49, egg49⟩ : ∃ z_ : Nat, X5.heap.size = z_ := ⟨_, rfl⟩
  refine wi_ A (h3_ t1 t3 t5) (rv_ 0 (.agg (oC 6 0 0)) (fun a ee => execBo0 rfl rfl) (rs_ 1 (fun a ee => ?_)))
  refine stepV rfl rfl (execBs1O exDo rfl (ee _)) ⟨.slice (some ⟨g49, 0, none⟩) 1 1, ⟨_, rfl, by subst egg49; rfl⟩, fun X6_1 hX => ?_⟩
  have bQ : Below X5.heap.size X5 X6_1 := by subst hX egg49; exact (belNew X5 _)
  have Fg49 : (X6_1.heap[g49]? = some (.cells (oR 1 exDo) 35)) := by subst hX egg49; exact heapNew X5 _
  have Fgeg49 : (V.heap.size ≤ g49) := by subst hX egg49; exact (BB).size
  replace FH1 := (FH1.on bQ)
  replace Fg1s := (on9 Fg1s bQ)
  replace FH3 := (FH3.on bQ)
  replace Fg3s := (on9 Fg3s bQ)
  replace FH5 := (FH5.on bQ)
  replace Fg5s := (on9 Fg5s bQ)
  replace BB := BB.trans (bQ.mono BB.size)
  clear bQ hX egg49 ee a
  obtain ⟨g50, egg50⟩ : ∃ z_ : Nat, X6_1.heap.size = z_ := ⟨_, rfl⟩
  refine rs_ 2 (fun a ee => ?_)
  refine stepV rfl rfl (execBs1V (fun _ => .slice (some ⟨g49, 0, none⟩) 1 1) rfl (ee _) (fun _ _ => ⟨_, _, _, rfl⟩)) ⟨.slice (some ⟨g50, 0, none⟩) 1 1, ⟨_, rfl, by subst egg50; rfl⟩, fun X6_2 hX => ?_⟩
  have bQ : Below X6_1.heap.size X6_1 X6_2 := by subst hX egg50; exact (belNew X6_1 _)
  have Fg50 : (X6_2.heap[g50]? = some (.cells (vR 1 (fun _ => .slice (some ⟨g49, 0, none⟩) 1 1)) 36)) := by subst hX egg50; exact heapNew X6_1 _
  have Fgeg50 : (V.heap.size ≤ g50) := by subst hX egg50; exact (BB).size
  replace FH1 := (FH1.on bQ)
  replace Fg1s := (on9 Fg1s bQ)
  replace FH3 := (FH3.on bQ)
  replace Fg3s := (on9 Fg3s bQ)
  replace FH5 := (FH5.on bQ)
  replace Fg5s := (on9 Fg5s bQ)
  replace Fg49 := (on9 Fg49 bQ)
  replace BB := BB.trans (bQ.mono BB.size)
  clear bQ hX egg50 ee a
  refine rv_ 3 (.agg #[.slice none 0 0, .slice (some ⟨g50, 0, none⟩) 1 1]) (fun a ee => execBp1 rfl (ee _) ⟨_, _, _, rfl⟩) (rc_ 4 (play_of I exD _ _ 0 65536 0 0 (fun _ => 0) false false X6_2 (pla_d Fg49 Fg50) slice_nilI exD_chk (exD_run _) (exD_mx _ _) (by rw [(exD_live _ _).1]; rfl) (by rw [(exD_live _ _).1, (exD_live _ _).2]; rfl) (exD_rk _ _).2.2) fun e X6_3 hh => ?_)
  obtain ⟨pk7, tk7, tv7, he, hH, hb⟩ := hh
  refine ⟨_, he, ?_⟩
  have bQ : Below X6_2.heap.size X6_2 X6_3 := hb
  have FH7 : (His V.heap.size X6_3 pk7 tk7 tv7 65536 exD.n (fun i => (Loo.pk exD sc0 i : Int)) (rk exD sc0 65536).tk) := hH.base (BB).size
  replace FH1 := (FH1.on bQ)
  replace Fg1s := (on9 Fg1s bQ)
  replace FH3 := (FH3.on bQ)
  replace Fg3s := (on9 Fg3s bQ)
  replace FH5 := (FH5.on bQ)
  replace Fg5s := (on9 Fg5s bQ)
  replace BB := BB.trans (bQ.mono BB.size)
  clear Fg49 Fg50 bQ
  obtain ⟨g7, egg7⟩ : ∃ z_ : Nat, X6_3.heap.size = z_ := ⟨_, rfl⟩
  refine rs_ 8 (fun a ee => ?_)
  refine stepV rfl rfl (execAlH rfl) ⟨.pointer (some ⟨g7, 0, none⟩), ⟨_, rfl, by subst egg7; rfl⟩, fun X6_4 hX => ?_⟩
  have bQ : Below X6_3.heap.size X6_3 X6_4 := by subst hX egg7; exact (belNew X6_3 _)
  have Fg7 : (X6_4.heap[g7]? = some (.cells (hC (.slice none 0 0) 0 false false 0 (.slice none 0 0)) 26)) := by subst hX egg7; exact heapNew X6_3 _
  have Fgeg7 : (V.heap.size ≤ g7) := by subst hX egg7; exact (BB).size
  have Fng7g1 : (g1 ≠ g7) := by subst hX egg7; exact Nat.ne_of_lt (Array.getElem?_eq_some_iff.1 Fg1s).1
  have Fng7g3 : (g3 ≠ g7) := by subst hX egg7; exact Nat.ne_of_lt (Array.getElem?_eq_some_iff.1 Fg3s).1
  have Fng7g5 : (g5 ≠ g7) := by subst hX egg7; exact Nat.ne_of_lt (Array.getElem?_eq_some_iff.1 Fg5s).1
  replace FH1 := (FH1.on bQ)
  replace Fg1s := (on9 Fg1s bQ)
  replace FH3 := (FH3.on bQ)
  replace Fg3s := (on9 Fg3s bQ)
  replace FH5 := (FH5.on bQ)
  replace Fg5s := (on9 Fg5s bQ)
  replace FH7 := (FH7.on bQ)
  replace BB := BB.trans (bQ.mono BB.size)
  clear bQ hX egg7 ee a
  refine rs_ 9 (fun a ee => ?_)
  refine stepS rfl rfl (execStH rfl (ee _) (ee _) Fg7 (sl3 FH7.picks.shp) (sl3 FH7.lists.shp)) ⟨_, ⟨_, rfl, rfl⟩, fun X6 hX => ?_⟩
  obtain ⟨BB, FH1, Fg1s, FH3, Fg3s, FH5, Fg5s, FH7, Fg7s⟩ : Below V.heap.size V X6 ∧ (His V.heap.size X6 pk1 tk1 tv1 3 (pairP 0).n (fun i => (Loo.pk (pairP 0) sc0 i : Int)) (rk (pairP 0) sc0 3).tk) ∧ (X6.heap[g1]? = some (.cells (hC pk1 0 true false 0 tk1) 26)) ∧ (His V.heap.size X6 pk3 tk3 tv3 0 exB.n (fun i => (Loo.pk exB sc0 i : Int)) (rk exB sc0 0).tk) ∧ (X6.heap[g3]? = some (.cells (hC pk3 0 false true 0 tk3) 26)) ∧ (His V.heap.size X6 pk5 tk5 tv5 3 exC.n (fun i => (Loo.pk exC sc0 i : Int)) (rk exC sc0 3).tk) ∧ (X6.heap[g5]? = some (.cells (hC pk5 0 true false 2 tk5) 26)) ∧ (His V.heap.size X6 pk7 tk7 tv7 65536 exD.n (fun i => (Loo.pk exD sc0 i : Int)) (rk exD sc0 65536).tk) ∧ (X6.heap[g7]? = some (.cells (hC pk7 0 false false 0 tk7) 26)) := by subst hX; exact ⟨below4 BB Fgeg7 _, (FH1.keepT Fg7 (by decide) (by decide) grR18), (by rw [setRow_other _ _ _ _ Fng7g1]; exact Fg1s), (FH3.keepT Fg7 (by decide) (by decide) grR18), (by rw [setRow_other _ _ _ _ Fng7g3]; exact Fg3s), (FH5.keepT Fg7 (by decide) (by decide) grR18), (by rw [setRow_other _ _ _ _ Fng7g5]; exact Fg5s), (FH7.keepT Fg7 (by decide) (by decide) grR18), setRow_heap _ _ _ _ _ _ Fg7⟩
  clear Fg7 hX ee a
  refine rf_ [(7, .pointer (some ⟨g7, 0, none⟩)), (8, .int .i64 ((0 : Nat) : Int))] (h3_ t1 t3 t5) ?_
  rintro a A ⟨t7, t8, -⟩ ⟨t1, t3, t5, -⟩
  refine wp_seq ?_
  refine wp_seq ?_
  obtain ⟨g57, egg57⟩ : ∃ z_ : Nat, X6.heap.size = z_ := ⟨_, rfl⟩
  refine wi_ A (h5_ t1 t3 t5 t7 t8) (rv_ 0 (.pointer (some ⟨g1, 0, none⟩)) (fun a ee => execFh0 rfl (ee _)) (rv_ 1 (pk1) (fun a ee => execLdG rfl (Or.inl rfl) (ee _) (hC_at Fg1s).1) (rs_ 2 (fun a ee => ?_))))
  refine stepV rfl rfl (execBs3I (fun _ => 0) rfl rfl rfl rfl) ⟨.slice (some ⟨g57, 0, none⟩) 3 3, ⟨_, rfl, by subst egg57; rfl⟩, fun X7_1 hX => ?_⟩
  have bQ : Below X6.heap.size X6 X7_1 := by subst hX egg57; exact (belNew X6 _)
  have Fg57 : (X7_1.heap[g57]? = some (.cells (iR 3 (fun _ => 0)) 3)) := by subst hX egg57; exact heapNew X6 _
  have Fgeg57 : (V.heap.size ≤ g57) := by subst hX egg57; exact (BB).size
  replace FH1 := (FH1.on bQ)
  replace Fg1s := (on9 Fg1s bQ)
  replace FH3 := (FH3.on bQ)
  replace Fg3s := (on9 Fg3s bQ)
  replace FH5 := (FH5.on bQ)
  replace Fg5s := (on9 Fg5s bQ)
  replace FH7 := (FH7.on bQ)
  replace Fg7s := (on9 Fg7s bQ)
  replace BB := BB.trans (bQ.mono BB.size)
  clear bQ hX egg57 ee a
  refine rc_ 3 (same19 _ _ 3 _ _ X7_1 (exA_picks FH1) (iR_slice (f := fun _ => 0) Fg57 (by omega) (fun _ _ => (by decide : I64 (0 : Int)))) (fun _ _ => rfl) (by omega)) (cb_ fun X7 bQ => ?_)
  replace FH1 := (FH1.on bQ)
  replace Fg1s := (on9 Fg1s bQ)
  replace FH3 := (FH3.on bQ)
  replace Fg3s := (on9 Fg3s bQ)
  replace FH5 := (FH5.on bQ)
  replace Fg5s := (on9 Fg5s bQ)
  replace FH7 := (FH7.on bQ)
  replace Fg7s := (on9 Fg7s bQ)
  replace Fg57 := (on9 Fg57 bQ)
  replace BB := BB.trans (bQ.mono BB.size)
  clear bQ
  refine rv_ 4 (.bool false) (fun a ee => execNot8 (b := true) rfl (ee _)) (rv_ 6 (.pointer (some ⟨g1, 1, none⟩)) (fun a ee => execFh1 rfl (ee _)) (rv_ 7 (.int .i64 ((0 : Nat) : Int)) (fun a ee => execLdG rfl (Or.inr (Or.inl rfl)) (ee _) (hC_at Fg1s).2.1) (rv_ 8 (.bool false) (fun a ee => execDec (execNeN (p := 0) (q := 0) rfl (ee _) rfl) (decide_eq_false (by decide))) (rv_ 11 (.pointer (some ⟨g1, 2, none⟩)) (fun a ee => execFh2 rfl (ee _)) (rv_ 12 (.bool true) (fun a ee => execLdG rfl (Or.inr (Or.inr (Or.inl rfl))) (ee _) (hC_at Fg1s).2.2.1) (rv_ 13 (.bool false) (fun a ee => execNot8 (b := true) rfl (ee _)) (rv_ 16 (.pointer (some ⟨g3, 3, none⟩)) (fun a ee => execFh3 rfl (ee _)) (rv_ 17 (.bool true) (fun a ee => execLdG rfl (Or.inr (Or.inr (Or.inl rfl))) (ee _) (hC_at Fg3s).2.2.2.1) (rv_ 18 (.bool false) (fun a ee => execNot8 (b := true) rfl (ee _)) (rv_ 21 (.pointer (some ⟨g3, 2, none⟩)) (fun a ee => execFh2 rfl (ee _)) (rv_ 22 (.bool false) (fun a ee => execLdG rfl (Or.inr (Or.inr (Or.inl rfl))) (ee _) (hC_at Fg3s).2.2.1) (rv_ 25 (.pointer (some ⟨g3, 0, none⟩)) (fun a ee => execFh0 rfl (ee _)) (rv_ 26 (pk3) (fun a ee => execLdG rfl (Or.inl rfl) (ee _) (hC_at Fg3s).1) (rv_ 27 (.int .i64 ((0 : Nat) : Int)) (fun a ee => execLenI (len := 0) rfl (ee _) (FH3.picks.shp)) (rv_ 28 (.bool false) (fun a ee => execDec (execNeN (p := 0) (q := 0) rfl (ee _) rfl) (decide_eq_false (by decide))) (rv_ 31 (.pointer (some ⟨g5, 4, none⟩)) (fun a ee => execFh4 rfl (ee _)) (rv_ 32 (.int .i64 ((2 : Nat) : Int)) (fun a ee => execLdG rfl (Or.inr (Or.inl rfl)) (ee _) (hC_at Fg5s).2.2.2.2.1) (rv_ 33 (.bool false) (fun a ee => execDec (execNeN (p := 2) (q := 2) rfl (ee _) rfl) (decide_eq_false (by decide))) (rv_ 36 (.pointer (some ⟨g5, 2, none⟩)) (fun a ee => execFh2 rfl (ee _)) (rv_ 37 (.bool true) (fun a ee => execLdG rfl (Or.inr (Or.inr (Or.inl rfl))) (ee _) (hC_at Fg5s).2.2.1) (rv_ 38 (.bool false) (fun a ee => execNot8 (b := true) rfl (ee _)) (rf_ [(94, .bool false)] (h2_ t7 t8) ?_))))))))))))))))))))))
  rintro a A ⟨t94, -⟩ ⟨t7, t8, -⟩
  refine wp_cond_false t94 ?_
  refine wp_skip ?_
  clear t94
  refine wp_seq ?_
  refine wp_seq ?_
  refine wi_ A (h2_ t7 t8) (rv_ 1 (.bool false) (fun a ee => execDec (execErneq (p := 0) (q := 0) rfl (ee _)) (by decide)) (rv_ 3 (.pointer (some ⟨g7, 0, none⟩)) (fun a ee => execFh0 rfl (ee _)) (rv_ 4 (pk7) (fun a ee => execLdG rfl (Or.inl rfl) (ee _) (hC_at Fg7s).1) (rv_ 5 (.int .i64 ((65536 : Nat) : Int)) (fun a ee => execLenI (len := 65536) rfl (ee _) (FH7.picks.shp)) (rv_ 6 (.bool false) (fun a ee => execDec (execNeN (p := 65536) (q := 65536) rfl (ee _) rfl) (decide_eq_false (by decide))) (rv_ 9 (.pointer (some ⟨g7, 2, none⟩)) (fun a ee => execFh2 rfl (ee _)) (rv_ 10 (.bool false) (fun a ee => execLdG rfl (Or.inr (Or.inr (Or.inl rfl))) (ee _) (hC_at Fg7s).2.2.1) (rv_ 13 (.pointer (some ⟨g7, 3, none⟩)) (fun a ee => execFh3 rfl (ee _)) (rv_ 14 (.bool false) (fun a ee => execLdG rfl (Or.inr (Or.inr (Or.inl rfl))) (ee _) (hC_at Fg7s).2.2.2.1) (rg_ [(110, .bool false)] ?_))))))))))
  rintro a A ⟨t110, -⟩
  refine wp_cond_false t110 ?_
  refine wp_skip ?_
  clear t110
  clear FH1 Fg1s FH3 Fg3s FH5 Fg5s FH7 Fg7s Fg57
  refine wp_seq ?_
  obtain ⟨lb, eglb⟩ : ∃ z_ : Nat, X7.heap.size = z_ := ⟨_, rfl⟩
  refine wi_ A h0_ (rs_ 0 (fun a ee => ?_))
  refine stepV rfl rfl (execMkOp (n := 257) rfl (by omega)) ⟨.slice (some ⟨lb, 0, none⟩) 257 257, ⟨_, rfl, by subst eglb; rfl⟩, fun X11 hX => ?_⟩
  have bQ : Below X7.heap.size X7 X11 := by subst hX eglb; exact (belNew X7 _)
  have FL : (X11.heap[lb]? = some (.cells (oR 257 (fill 0)) 35)) := by subst hX eglb; exact (by rw [mk_ops]; exact heapNew X7 _)
  have Fgelb : (V.heap.size ≤ lb) := by subst hX eglb; exact (BB).size
  replace BB := BB.trans (bQ.mono BB.size)
  clear bQ hX eglb ee a
  refine rg_ [(9, .slice (some ⟨lb, 0, none⟩) 257 257)] ?_
  rintro a A ⟨t9, -⟩
  refine wp_seq ?_
  refine wp_seq ?_
  refine wi_ A (h1_ t9) (rf_ [(10, .int .i64 ((0 : Nat) : Int))] (h1_ t9) ?_)
  rintro a A ⟨t10, -⟩ ⟨t9, -⟩
  refine wp_block ?_
  refine wp_loop (fun a W => ∃ (i : Nat), i ≤ 257 ∧ (a.tmps.size = 166 ∧ a.defers = []) ∧ a.eval (.tmp 9) = .slice (some ⟨lb, 0, none⟩) 257 257 ∧ a.eval (.tmp 10) = .int .i64 ((i : Nat) : Int) ∧ Below V.heap.size V W ∧ (W.heap[lb]? = some (.cells (oR 257 (fill i)) 35))) (fun a _ => 257 - (intOf (a.eval (.tmp 10))).toNat) ⟨0, Nat.zero_le _, A, t9, t10, BB, FL⟩ ?_
  clear A t9 t10 BB FL a
  rintro a XL13 ⟨i, hi, A, t9, t10, BB, FL⟩
  have es := t10
  refine wp_seq ?_
  refine wp_seq ?_
  refine wi_ A (h2_ t9 t10) (rv_ 1 (.bool (decide (i < 257))) (fun a ee => execLtW (p := i) (q := 257) rfl (ee _) rfl) (rf_ [(113, .bool (decide (i < 257)))] (h2_ t9 t10) ?_))
  rintro a A ⟨t113, -⟩ ⟨t9, t10, -⟩
  by_cases hlt : i < 257
  · rw [decide_eq_true hlt] at t113
    refine wp_cond_true t113 ?_
    refine wp_skip ?_
    clear t113
    refine wp_seq ?_
    refine wp_block ?_
    refine wi_ A (h2_ t9 t10) (rv_ 2 (.agg (oC 10 0 0)) (fun a ee => execBo0 rfl rfl) (rv_ 3 (.pointer (some ⟨lb, i * 3, none⟩)) (fun a ee => execIxO (k := i) rfl (ee _) (ee _) hlt) (rs_ 4 (fun a ee => ?_))))
    refine stepS rfl rfl (execStOp rfl (ee _) (ee _) FL hlt) ⟨_, ⟨_, rfl, rfl⟩, fun X15 hX => ?_⟩
    obtain ⟨BB, FL2⟩ : Below V.heap.size V X15 ∧ (X15.heap[lb]? = some (.cells (oR 257 (fill (i + 1))) 35)) := by subst hX; exact ⟨below4 BB Fgelb _, (by rw [← fill_next]; exact setRow_heap _ _ _ _ _ _ FL)⟩
    clear FL hX ee a
    refine rf_ [] (h2_ t9 t10) ?_
    rintro a A - ⟨t9, t10, -⟩
    refine wi_ A (h2_ t9 t10) (rv_ 1 (.int .i64 ((i + 1 : Nat) : Int)) (fun a ee => execAd8 (p := i) (q := 1) rfl (ee _) rfl (by omega)) (rf_ [(10, .int .i64 ((i + 1 : Nat) : Int))] (h1_ t9) ?_))
    rintro a A ⟨t10, -⟩ ⟨t9, -⟩
    exact ⟨⟨i + 1, hlt, A, t9, t10, BB, FL2⟩, by show 257 - (intOf (a.eval (.tmp 10))).toNat < 257 - (intOf (Act.eval _ (.tmp 10))).toNat; rw [t10, es]; show 257 - (i + 1) < 257 - i; omega⟩
  · rw [decide_eq_false hlt] at t113
    refine wp_cond_false t113 ?_
    refine wp_exit ?_
    first | with_reducible refine exit_in ?_ | with_reducible refine exit_then (exit_in ?_) | with_reducible refine exit_then (exit_then (exit_in ?_)) | refine exit_in ?_ | refine exit_then (exit_in ?_) | refine exit_then (exit_then (exit_in ?_))
    clear t113 es
    have hi7 : i = 257 := by omega
    subst hi7
    refine wp_seq ?_
    refine wp_region_stB (σ := Nat × Nat) 166 [(0, 120), (1, 121), (2, 122), (3, 123), (4, 11)] (fun l_ s X => Below V.heap.size V X ∧ ((X.heap[lb]? = some (.cells (oR 257 (fill 257)) 35))) ∧ (l_ 0 = true → (X.heap[s.1]? = some (.cells (madeCells #[.int .i64 0] 64) 3))) ∧ (l_ 0 = true → (V.heap.size ≤ s.1)) ∧ (l_ 1 = true → (X.heap[s.2]? = some (.cells (madeCells #[.slice none 0 0] 128) 36))) ∧ (l_ 1 = true → (V.heap.size ≤ s.2))) (fun s => fun i_ => match i_ with | 0 => .slice (some ⟨s.1, 0, none⟩) 64 64 | 1 => .slice (some ⟨s.2, 0, none⟩) 128 128 | 2 => .agg #[.slice (some ⟨s.1, 0, none⟩) 64 64, .slice (some ⟨s.2, 0, none⟩) 128 128] | 3 => .int .i64 ((0 : Nat) : Int) | 4 => .int .i64 ((0 : Nat) : Int) | _ => undef) (0, 0) (by kernel_rfl) (by kernel_rfl) A.1 (by kernel_rfl) (by decide) (by decide) ⟨(BB.drew), ((on9 FL (Below.refl _ _).drew)), (fun q0_ => by cases q0_), (fun q0_ => by cases q0_), (fun q0_ => by cases q0_), (fun q0_ => by cases q0_)⟩ ?_ ?_
    · intro i_ hi_ l_ s a X hl_ hf hdep hl2 hcl hno hT
      have up : ∀ j x, x ≠ j → updB l_ j x = l_ x := fun j x hj => by unfold updB; simp [hj]
      match i_, hi_ with
      | 0, _ =>
        refine stepV rfl rfl (execMkI19 (n := 64) rfl (by omega)) ⟨(X.heap.size, s.2), ⟨_, rfl, rfl⟩, ⟨hT.1.trans (((belNew X _)).mono hT.1.size), ((on9 hT.2.1 (belNew X _))), (fun _q0_ => heapNew X _), (fun _q0_ => (hT.1).size), (fun q0_ => (on9 (hT.2.2.2.2.1 (by rw [up 0 1 (by decide)] at q0_; exact q0_)) (belNew X _))), (fun q0_ => (hT.2.2.2.2.2 (by rw [up 0 1 (by decide)] at q0_; exact q0_)))⟩, fun i hi hli => ?_⟩
        match i, hi with
        | 0, _ => exact absurd (hl_.symm.trans hli) (by decide)
        | 1, _ => rfl
        | 2, _ => exact absurd (hl_.symm.trans (hcl 2 _ rfl hli 0 rfl)) (by decide)
        | 3, _ => rfl
        | 4, _ => rfl
        | k_ + 5, h_ => exact absurd h_ (by simp)
      | 1, _ =>
        refine stepV rfl rfl (execMkVO (n := 128) rfl (by omega)) ⟨(s.1, X.heap.size), ⟨_, rfl, rfl⟩, ⟨hT.1.trans (((belNew X _)).mono hT.1.size), ((on9 hT.2.1 (belNew X _))), (fun q0_ => (on9 (hT.2.2.1 (by rw [up 1 0 (by decide)] at q0_; exact q0_)) (belNew X _))), (fun q0_ => (hT.2.2.2.1 (by rw [up 1 0 (by decide)] at q0_; exact q0_))), (fun _q0_ => heapNew X _), (fun _q0_ => (hT.1).size)⟩, fun i hi hli => ?_⟩
        match i, hi with
        | 0, _ => rfl
        | 1, _ => exact absurd (hl_.symm.trans hli) (by decide)
        | 2, _ => exact absurd (hl_.symm.trans (hcl 2 _ rfl hli 1 rfl)) (by decide)
        | 3, _ => rfl
        | 4, _ => rfl
        | k_ + 5, h_ => exact absurd h_ (by simp)
      | 2, _ => exact stepV rfl rfl (execBp01 rfl (hdep _ rfl 0 rfl _ rfl _ rfl) (hdep _ rfl 1 rfl _ rfl _ rfl) ⟨_, _, _, rfl⟩ ⟨_, _, _, rfl⟩) ⟨s, ⟨_, rfl, rfl⟩, ⟨hT.1, (hT.2.1), (fun q0_ => (hT.2.2.1 (by rw [up 2 0 (by decide)] at q0_; exact q0_))), (fun q0_ => (hT.2.2.2.1 (by rw [up 2 0 (by decide)] at q0_; exact q0_))), (fun q0_ => (hT.2.2.2.2.1 (by rw [up 2 1 (by decide)] at q0_; exact q0_))), (fun q0_ => (hT.2.2.2.2.2 (by rw [up 2 1 (by decide)] at q0_; exact q0_)))⟩, fun _ _ _ => rfl⟩
      | 3, _ => exact stepC rfl rfl (execCall1 Try.func13 (by kernel_rfl) (by kernel_rfl) rfl (hdep _ rfl 2 rfl _ rfl _ rfl)) (chk_of I (p := exP 64 128 0 0 (⟨0, 0, 0⟩ : Op3)) (⟨_, _, _, rfl, mk_ints (hT.2.2.1 (hcl 2 _ rfl (hl2 _ rfl 2 rfl) 0 rfl)) (by omega), mk_lists (hT.2.2.2.2.1 (hcl 2 _ rfl (hl2 _ rfl 2 rfl) 1 rfl)), fun t ht => nil_ops⟩) exP_is.1) fun e w' hh => ⟨_, hh.1, s, ⟨_, rfl, rfl⟩, ⟨hT.1.trans (hh.2.mono hT.1.size), ((on9 hT.2.1 hh.2)), (fun q0_ => (on9 (hT.2.2.1 (by rw [up 3 0 (by decide)] at q0_; exact q0_)) hh.2)), (fun q0_ => (hT.2.2.2.1 (by rw [up 3 0 (by decide)] at q0_; exact q0_))), (fun q0_ => (on9 (hT.2.2.2.2.1 (by rw [up 3 1 (by decide)] at q0_; exact q0_)) hh.2)), (fun q0_ => (hT.2.2.2.2.2 (by rw [up 3 1 (by decide)] at q0_; exact q0_)))⟩, fun _ _ _ => rfl⟩
      | 4, _ => exact stepV rfl rfl (Cf.execAsgB rfl (hdep _ rfl 3 rfl _ rfl _ rfl)) ⟨s, ⟨_, rfl, rfl⟩, ⟨hT.1, (hT.2.1), (fun q0_ => (hT.2.2.1 (by rw [up 4 0 (by decide)] at q0_; exact q0_))), (fun q0_ => (hT.2.2.2.1 (by rw [up 4 0 (by decide)] at q0_; exact q0_))), (fun q0_ => (hT.2.2.2.2.1 (by rw [up 4 1 (by decide)] at q0_; exact q0_))), (fun q0_ => (hT.2.2.2.2.2 (by rw [up 4 1 (by decide)] at q0_; exact q0_)))⟩, fun _ _ _ => rfl⟩
      | k_ + 5, h_ => exact absurd h_ (by simp)
    rintro l_ ⟨g120, g121⟩ a X16 h1 h2 h3 h4 hall hT
    clear BB
    clear FL
    obtain ⟨BB, FL, Fg120, Fgeg120, Fg121, Fgeg121⟩ := hT
    replace FL : (X16.heap[lb]? = some (.cells (oR 257 (fill 257)) 35)) := FL
    replace Fg120 : (X16.heap[g120]? = some (.cells (madeCells #[.int .i64 0] 64) 3)) := Fg120 (hall 0 (by decide))
    replace Fgeg120 : (V.heap.size ≤ g120) := Fgeg120 (hall 0 (by decide))
    replace Fg121 : (X16.heap[g121]? = some (.cells (madeCells #[.slice none 0 0] 128) 36)) := Fg121 (hall 1 (by decide))
    replace Fgeg121 : (V.heap.size ≤ g121) := Fgeg121 (hall 1 (by decide))
    clear hall
    replace t9 := (h3 9 (by decide)).trans t9
    have t11 : a.eval (.tmp 11) = .int .i64 ((0 : Nat) : Int) := h4 (4, 11) (by decide)
    replace A := (⟨h1, h2.trans A.2⟩ : a.tmps.size = 166 ∧ a.defers = [])
    clear h1 h2 h3 h4
    refine wp_seq ?_
    obtain ⟨g124, egg124⟩ : ∃ z_ : Nat, X16.heap.size = z_ := ⟨_, rfl⟩
    refine wi_ A (h2_ t9 t11) (rs_ 0 (fun a ee => ?_))
    refine stepV rfl rfl (execMkI19 (n := 65) rfl (by omega)) ⟨.slice (some ⟨g124, 0, none⟩) 65 65, ⟨_, rfl, by subst egg124; rfl⟩, fun X17_1 hX => ?_⟩
    have bQ : Below X16.heap.size X16 X17_1 := by subst hX egg124; exact (belNew X16 _)
    have Fg124 : (X17_1.heap[g124]? = some (.cells (madeCells #[.int .i64 0] 65) 3)) := by subst hX egg124; exact heapNew X16 _
    have Fgeg124 : (V.heap.size ≤ g124) := by subst hX egg124; exact (BB).size
    replace FL := (on9 FL bQ)
    replace Fg120 := (on9 Fg120 bQ)
    replace Fg121 := (on9 Fg121 bQ)
    replace BB := BB.trans (bQ.mono BB.size)
    clear bQ hX egg124 ee a
    refine rv_ 1 (.agg #[.slice (some ⟨g124, 0, none⟩) 65 65, .slice none 0 0]) (fun a ee => execBp0 rfl (ee _) ⟨_, _, _, rfl⟩) (rc_ 2 (chk_of I (p := exP 65 0 0 0 (⟨0, 0, 0⟩ : Op3)) (⟨_, _, fun _ => undef, rfl, mk_ints Fg124 (by omega), nil_vals, fun t ht => absurd ht (Nat.not_lt_zero t)⟩) exP_is.2.1) (cb_ fun X17 bQ => ?_))
    replace FL := (on9 FL bQ)
    replace Fg120 := (on9 Fg120 bQ)
    replace Fg121 := (on9 Fg121 bQ)
    replace Fg124 := (on9 Fg124 bQ)
    replace BB := BB.trans (bQ.mono BB.size)
    clear bQ
    refine rf_ [(12, .int .i64 ((1 : Nat) : Int))] (h2_ t9 t11) ?_
    rintro a A ⟨t12, -⟩ ⟨t9, t11, -⟩
    refine wp_seq ?_
    obtain ⟨g127, egg127⟩ : ∃ z_ : Nat, X17.heap.size = z_ := ⟨_, rfl⟩
    refine wi_ A (h3_ t9 t11 t12) (rs_ 0 (fun a ee => ?_))
    refine stepV rfl rfl (execMkVO (n := 129) rfl (by omega)) ⟨.slice (some ⟨g127, 0, none⟩) 129 129, ⟨_, rfl, by subst egg127; rfl⟩, fun X18_1 hX => ?_⟩
    have bQ : Below X17.heap.size X17 X18_1 := by subst hX egg127; exact (belNew X17 _)
    have Fg127 : (X18_1.heap[g127]? = some (.cells (madeCells #[.slice none 0 0] 129) 36)) := by subst hX egg127; exact heapNew X17 _
    have Fgeg127 : (V.heap.size ≤ g127) := by subst hX egg127; exact (BB).size
    replace FL := (on9 FL bQ)
    replace Fg120 := (on9 Fg120 bQ)
    replace Fg121 := (on9 Fg121 bQ)
    replace Fg124 := (on9 Fg124 bQ)
    replace BB := BB.trans (bQ.mono BB.size)
    clear bQ hX egg127 ee a
    refine rv_ 1 (.agg #[.slice none 0 0, .slice (some ⟨g127, 0, none⟩) 129 129]) (fun a ee => execBp1 rfl (ee _) ⟨_, _, _, rfl⟩) (rc_ 2 (chk_of I (p := exP 0 129 0 0 (⟨0, 0, 0⟩ : Op3)) (⟨_, _, _, rfl, slice_nilI, mk_lists Fg127, fun t ht => nil_ops⟩) exP_is.2.2.1) (cb_ fun X18 bQ => ?_))
    replace FL := (on9 FL bQ)
    replace Fg120 := (on9 Fg120 bQ)
    replace Fg121 := (on9 Fg121 bQ)
    replace Fg124 := (on9 Fg124 bQ)
    replace Fg127 := (on9 Fg127 bQ)
    replace BB := BB.trans (bQ.mono BB.size)
    clear bQ
    refine rf_ [(13, .int .i64 ((1 : Nat) : Int))] (h3_ t9 t11 t12) ?_
    rintro a A ⟨t13, -⟩ ⟨t9, t11, t12, -⟩
    refine wp_seq ?_
    obtain ⟨g130, egg130⟩ : ∃ z_ : Nat, X18.heap.size = z_ := ⟨_, rfl⟩
    refine wi_ A (h4_ t9 t11 t12 t13) (rs_ 0 (fun a ee => ?_))
    refine stepV rfl rfl (execBs1I (fun _ => 1024) rfl rfl) ⟨.slice (some ⟨g130, 0, none⟩) 1 1, ⟨_, rfl, by subst egg130; rfl⟩, fun X19_1 hX => ?_⟩
    have bQ : Below X18.heap.size X18 X19_1 := by subst hX egg130; exact (belNew X18 _)
    have Fg130 : (X19_1.heap[g130]? = some (.cells (iR 1 (fun _ => 1024)) 3)) := by subst hX egg130; exact heapNew X18 _
    have Fgeg130 : (V.heap.size ≤ g130) := by subst hX egg130; exact (BB).size
    replace FL := (on9 FL bQ)
    replace Fg120 := (on9 Fg120 bQ)
    replace Fg121 := (on9 Fg121 bQ)
    replace Fg124 := (on9 Fg124 bQ)
    replace Fg127 := (on9 Fg127 bQ)
    replace BB := BB.trans (bQ.mono BB.size)
    clear bQ hX egg130 ee a
    obtain ⟨g133, egg133⟩ : ∃ z_ : Nat, X19_1.heap.size = z_ := ⟨_, rfl⟩
    refine rv_ 2 (.slice (some ⟨lb, 0, none⟩) 256 257) (fun a ee => execSlOh rfl (ee _) rfl (sl256 lb)) (rs_ 3 (fun a ee => ?_))
    refine stepV rfl rfl (execBs1V (fun _ => .slice (some ⟨lb, 0, none⟩) 256 257) rfl (ee _) (fun _ _ => ⟨_, _, _, rfl⟩)) ⟨.slice (some ⟨g133, 0, none⟩) 1 1, ⟨_, rfl, by subst egg133; rfl⟩, fun X19_2 hX => ?_⟩
    have bQ : Below X19_1.heap.size X19_1 X19_2 := by subst hX egg133; exact (belNew X19_1 _)
    have Fg133 : (X19_2.heap[g133]? = some (.cells (vR 1 (fun _ => .slice (some ⟨lb, 0, none⟩) 256 257)) 36)) := by subst hX egg133; exact heapNew X19_1 _
    have Fgeg133 : (V.heap.size ≤ g133) := by subst hX egg133; exact (BB).size
    replace FL := (on9 FL bQ)
    replace Fg120 := (on9 Fg120 bQ)
    replace Fg121 := (on9 Fg121 bQ)
    replace Fg124 := (on9 Fg124 bQ)
    replace Fg127 := (on9 Fg127 bQ)
    replace Fg130 := (on9 Fg130 bQ)
    replace BB := BB.trans (bQ.mono BB.size)
    clear bQ hX egg133 ee a
    refine rv_ 4 (.agg #[.slice (some ⟨g130, 0, none⟩) 1 1, .slice (some ⟨g133, 0, none⟩) 1 1]) (fun a ee => execBp01 rfl (ee _) (ee _) ⟨_, _, _, rfl⟩ ⟨_, _, _, rfl⟩) (rc_ 5 (chk_of I (p := exP 1 1 256 1024 (⟨10, 0, 0⟩ : Op3)) (⟨_, _, _, rfl, iR_slice (f := fun _ => 1024) Fg130 (by omega) (fun _ _ => (by decide : I64 (1024 : Int))), vR_slice Fg133, fun t ht => fill_all FL (by omega)⟩) exP_is.2.2.2.1) (cb_ fun X19 bQ => ?_))
    replace FL := (on9 FL bQ)
    replace Fg120 := (on9 Fg120 bQ)
    replace Fg121 := (on9 Fg121 bQ)
    replace Fg124 := (on9 Fg124 bQ)
    replace Fg127 := (on9 Fg127 bQ)
    replace Fg130 := (on9 Fg130 bQ)
    replace Fg133 := (on9 Fg133 bQ)
    replace BB := BB.trans (bQ.mono BB.size)
    clear bQ
    refine rf_ [(14, .int .i64 ((0 : Nat) : Int))] (h4_ t9 t11 t12 t13) ?_
    rintro a A ⟨t14, -⟩ ⟨t9, t11, t12, t13, -⟩
    refine wp_seq ?_
    obtain ⟨g136, egg136⟩ : ∃ z_ : Nat, X19.heap.size = z_ := ⟨_, rfl⟩
    refine wi_ A (h5_ t9 t11 t12 t13 t14) (rs_ 0 (fun a ee => ?_))
    refine stepV rfl rfl (execBs1I (fun _ => 1025) rfl rfl) ⟨.slice (some ⟨g136, 0, none⟩) 1 1, ⟨_, rfl, by subst egg136; rfl⟩, fun X20_1 hX => ?_⟩
    have bQ : Below X19.heap.size X19 X20_1 := by subst hX egg136; exact (belNew X19 _)
    have Fg136 : (X20_1.heap[g136]? = some (.cells (iR 1 (fun _ => 1025)) 3)) := by subst hX egg136; exact heapNew X19 _
    have Fgeg136 : (V.heap.size ≤ g136) := by subst hX egg136; exact (BB).size
    replace FL := (on9 FL bQ)
    replace Fg120 := (on9 Fg120 bQ)
    replace Fg121 := (on9 Fg121 bQ)
    replace Fg124 := (on9 Fg124 bQ)
    replace Fg127 := (on9 Fg127 bQ)
    replace Fg130 := (on9 Fg130 bQ)
    replace Fg133 := (on9 Fg133 bQ)
    replace BB := BB.trans (bQ.mono BB.size)
    clear bQ hX egg136 ee a
    obtain ⟨g138, egg138⟩ : ∃ z_ : Nat, X20_1.heap.size = z_ := ⟨_, rfl⟩
    refine rs_ 2 (fun a ee => ?_)
    refine stepV rfl rfl (execBs1V (fun _ => .slice (some ⟨lb, 0, none⟩) 257 257) rfl (ee _) (fun _ _ => ⟨_, _, _, rfl⟩)) ⟨.slice (some ⟨g138, 0, none⟩) 1 1, ⟨_, rfl, by subst egg138; rfl⟩, fun X20_2 hX => ?_⟩
    have bQ : Below X20_1.heap.size X20_1 X20_2 := by subst hX egg138; exact (belNew X20_1 _)
    have Fg138 : (X20_2.heap[g138]? = some (.cells (vR 1 (fun _ => .slice (some ⟨lb, 0, none⟩) 257 257)) 36)) := by subst hX egg138; exact heapNew X20_1 _
    have Fgeg138 : (V.heap.size ≤ g138) := by subst hX egg138; exact (BB).size
    replace FL := (on9 FL bQ)
    replace Fg120 := (on9 Fg120 bQ)
    replace Fg121 := (on9 Fg121 bQ)
    replace Fg124 := (on9 Fg124 bQ)
    replace Fg127 := (on9 Fg127 bQ)
    replace Fg130 := (on9 Fg130 bQ)
    replace Fg133 := (on9 Fg133 bQ)
    replace Fg136 := (on9 Fg136 bQ)
    replace BB := BB.trans (bQ.mono BB.size)
    clear bQ hX egg138 ee a
    refine rv_ 3 (.agg #[.slice (some ⟨g136, 0, none⟩) 1 1, .slice (some ⟨g138, 0, none⟩) 1 1]) (fun a ee => execBp01 rfl (ee _) (ee _) ⟨_, _, _, rfl⟩ ⟨_, _, _, rfl⟩) (rc_ 4 (chk_of I (p := exP 1 1 257 1025 (⟨10, 0, 0⟩ : Op3)) (⟨_, _, _, rfl, iR_slice (f := fun _ => 1025) Fg136 (by omega) (fun _ _ => (by decide : I64 (1025 : Int))), vR_slice Fg138, fun t ht => fill_all FL (by omega)⟩) exP_is.2.2.2.2.1) (cb_ fun X20 bQ => ?_))
    replace FL := (on9 FL bQ)
    replace Fg120 := (on9 Fg120 bQ)
    replace Fg121 := (on9 Fg121 bQ)
    replace Fg124 := (on9 Fg124 bQ)
    replace Fg127 := (on9 Fg127 bQ)
    replace Fg130 := (on9 Fg130 bQ)
    replace Fg133 := (on9 Fg133 bQ)
    replace Fg136 := (on9 Fg136 bQ)
    replace Fg138 := (on9 Fg138 bQ)
    replace BB := BB.trans (bQ.mono BB.size)
    clear bQ
    refine rf_ [(15, .int .i64 ((1 : Nat) : Int))] (h4_ t11 t12 t13 t14) ?_
    rintro a A ⟨t15, -⟩ ⟨t11, t12, t13, t14, -⟩
    refine wp_seq ?_
    obtain ⟨g141, egg141⟩ : ∃ z_ : Nat, X20.heap.size = z_ := ⟨_, rfl⟩
    refine wi_ A (h5_ t11 t12 t13 t14 t15) (rs_ 0 (fun a ee => ?_))
    refine stepV rfl rfl (execBs1I (fun _ => 1025) rfl rfl) ⟨.slice (some ⟨g141, 0, none⟩) 1 1, ⟨_, rfl, by subst egg141; rfl⟩, fun X21_1 hX => ?_⟩
    have bQ : Below X20.heap.size X20 X21_1 := by subst hX egg141; exact (belNew X20 _)
    have Fg141 : (X21_1.heap[g141]? = some (.cells (iR 1 (fun _ => 1025)) 3)) := by subst hX egg141; exact heapNew X20 _
    have Fgeg141 : (V.heap.size ≤ g141) := by subst hX egg141; exact (BB).size
    replace FL := (on9 FL bQ)
    replace Fg120 := (on9 Fg120 bQ)
    replace Fg121 := (on9 Fg121 bQ)
    replace Fg124 := (on9 Fg124 bQ)
    replace Fg127 := (on9 Fg127 bQ)
    replace Fg130 := (on9 Fg130 bQ)
    replace Fg133 := (on9 Fg133 bQ)
    replace Fg136 := (on9 Fg136 bQ)
    replace Fg138 := (on9 Fg138 bQ)
    replace BB := BB.trans (bQ.mono BB.size)
    clear bQ hX egg141 ee a
    refine rv_ 1 (.agg #[.slice (some ⟨g141, 0, none⟩) 1 1, .slice none 0 0]) (fun a ee => execBp0 rfl (ee _) ⟨_, _, _, rfl⟩) (rc_ 2 (chk_of I (p := exP 1 0 0 1025 (⟨0, 0, 0⟩ : Op3)) (⟨_, _, fun _ => undef, rfl, iR_slice (f := fun _ => 1025) Fg141 (by omega) (fun _ _ => (by decide : I64 (1025 : Int))), nil_vals, fun t ht => absurd ht (Nat.not_lt_zero t)⟩) exP_is.2.2.2.2.2) (cb_ fun X21 bQ => ?_))
    replace FL := (on9 FL bQ)
    replace Fg120 := (on9 Fg120 bQ)
    replace Fg121 := (on9 Fg121 bQ)
    replace Fg124 := (on9 Fg124 bQ)
    replace Fg127 := (on9 Fg127 bQ)
    replace Fg130 := (on9 Fg130 bQ)
    replace Fg133 := (on9 Fg133 bQ)
    replace Fg136 := (on9 Fg136 bQ)
    replace Fg138 := (on9 Fg138 bQ)
    replace Fg141 := (on9 Fg141 bQ)
    replace BB := BB.trans (bQ.mono BB.size)
    clear bQ
    refine rf_ [(16, .int .i64 ((190 : Nat) : Int))] (h5_ t11 t12 t13 t14 t15) ?_
    rintro a A ⟨t16, -⟩ ⟨t11, t12, t13, t14, t15, -⟩
    refine wp_seq ?_
    refine wi_ A (h6_ t11 t12 t13 t14 t15 t16) (rv_ 1 (.bool true) (fun a ee => execDec (execEreql (p := 0) (q := 0) rfl (ee _)) (by decide)) (rv_ 4 (.bool true) (fun a ee => execDec (execEreql (p := 1) (q := 1) rfl (ee _)) (by decide)) (rv_ 8 (.bool true) (fun a ee => execDec (execEreql (p := 1) (q := 1) rfl (ee _)) (by decide)) (rv_ 12 (.bool true) (fun a ee => execDec (execEreql (p := 0) (q := 0) rfl (ee _)) (by decide)) (rv_ 16 (.bool true) (fun a ee => execDec (execEreql (p := 1) (q := 1) rfl (ee _)) (by decide)) (rv_ 20 (.bool true) (fun a ee => execDec (execEreql (p := 190) (q := 190) rfl (ee _)) (by decide)) (rg_ [(0, .bool true)] ?_)))))))
    rintro a A ⟨t0, -⟩
    refine wp_ret ?_
    refine bodyPost_ret (results_tmp rfl _ _ _) A.2 ⟨?_, BB⟩
    show Ending.returned (a.eval (.tmp 0)) = _
    rw [t0]
end Go.Proofs.Ytcgkelgncehekaa.Loo
