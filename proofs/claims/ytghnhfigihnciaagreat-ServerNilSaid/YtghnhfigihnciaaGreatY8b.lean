import Derived.Test.YtghnhfigihnciaaGreatY8a
import Derived.Test.YtghnhfigihnciaaGreatU8b
import Derived.Test.YtghnhfigihnciaaGreatC9t
import Derived.Test.YtghnhfigihnciaaGreatY2
import Derived.Test.YtghnhfigihnciaaGreatX2
import Derived.Lib.SmallJoins
import Derived.Deep.Slices
import Derived.Deep.SlicePairs
namespace Go.Proofs.YtghnhfigihnciaaGreat.Srv
open Go.RowKit Gf8 Aes By8 Cel Cf Win Rnd
/- What a package of servers keeps; the laws' awake. Written by tools/mkY8b.py. -/

/-- An outcome with an error and the zero state, all else zero. -/
def oZ (e : Int) : Array Value := #[.slice none 0 0, .int .i64 0, .int .i64 0, .slice none 0 0, .int .i64 0, .int .i64 0, .int .i64 0, .int .i64 0, .int .i64 0, .int .i64 e, .int .i64 0]
/-- What a package of servers keeps, nil ones and such as were just made. -/
structure Impl where
  live : World → Value → Int → Int → Nat → (Nat → Int) → (Nat → Nat) → (Nat → Nat → Nat → Nat) → Prop
  on : ∀ {W X v nx nw n nu ln t}, live W v nx nw n nu ln t → Below W.heap.size W X → live X v nx nw n nu ln t
  round : ∀ (en : Int) (rv tv sv : Value) (V : World), (∃ g n c, rv = .slice g n c) → (∃ g n c, tv = .slice g n c) → (∃ g n c, sv = .slice g n c) → Calls Tryz.prog 7 #[.pointer none, .int .i64 en, rv, tv, sv] V fun e w' => e = .returned (.agg (oZ 210)) ∧ Below V.heap.size V w'
  put : ∀ (pv : Value) (V : World), (∃ g n c, pv = .slice g n c) → Calls Tryz.prog 6 #[.pointer none, pv] V fun e w' => e = .returned (.tuple #[]) ∧ Below V.heap.size V w'
  finish : ∀ (tv : Value) (V : World), (∃ g n c, tv = .slice g n c) → Calls Tryz.prog 8 #[.pointer none, tv] V fun e w' => e = .returned (.agg (oZ 210)) ∧ Below V.heap.size V w'
  state0 : ∀ (V : World), Calls Tryz.prog 9 #[.pointer none] V fun e w' => e = .returned (.agg (sC 0 0 (.slice none 0 0))) ∧ Below V.heap.size V w'
section
variable {o : Oper} {a : Act} {w : World}
theorem execAlO (ho : o.op = .alloc 42) : (execOp a.eval o).run Tryz.prog w = .ok (.value (.pointer (some ⟨w.heap.size, 0, none⟩))) (w.alloc (.cells (oZ 0) 42)) := by
  unfold execOp
  simp only [ho]
  simp [go_sem, oZ]
theorem execStO {x y : Operand} {g : Nat} {e e' : Int} (ho : o.op = .store 42 x y) (hx : a.eval x = .pointer (some ⟨g, 0, none⟩)) (hy : a.eval y = .agg (oZ e')) (hg : w.heap[g]? = some (.cells (oZ e) 42)) : (execOp a.eval o).run Tryz.prog w = .ok .skip (w.setRow g (oZ e')) := by
  have h := execStMid (P := Tryz.prog) ho hx hy hg (Nat.le_refl _) (show (Tryz.prog.info? 42).map (·.size) = some (oZ e').size from by show _ = some 11; kernel_rfl) (by simp [oZ, Value.oneCell'])
  exact h
theorem execFO0 {x : Operand} {b : Nat} (ho : o.op = .fieldAddr 42 x 0) (hx : a.eval x = .pointer (some ⟨b, 0, none⟩)) : (execOp a.eval o).run Tryz.prog w = .ok (.value (.pointer (some ⟨b, 0, none⟩))) w := by
  unfold execOp
  simp only [ho, hx]
  simp [go_sem]
theorem execFO3 {x : Operand} {b : Nat} (ho : o.op = .fieldAddr 42 x 3) (hx : a.eval x = .pointer (some ⟨b, 0, none⟩)) : (execOp a.eval o).run Tryz.prog w = .ok (.value (.pointer (some ⟨b, 9, none⟩))) w := by
  unfold execOp
  simp only [ho, hx]
  simp [go_sem]
theorem execLdEr {x : Operand} {b k : Nat} {z : Int} (ho : o.op = .load 40 x) (hx : a.eval x = .pointer (some ⟨b, k, none⟩)) (hc : w.cell? ⟨b, k, none⟩ = some (.int .i64 z)) : (execOp a.eval o).run Tryz.prog w = .ok (.value (.int .i64 z)) w := by
  unfold execOp
  simp only [ho, hx]
  simp [go_sem, hc]
theorem execFdS {x : Operand} {nx nw : Int} {ev : Value} (ho : o.op = .field 33 x 0) (hx : a.eval x = .agg (sC nx nw ev)) : (execOp a.eval o).run Tryz.prog w = .ok (.value (.int .i64 nx)) w := by
  unfold execOp
  simp only [ho, hx]
  kernel_rfl
theorem execBs1 (ho : o.op = .buildSlice 26 1 #[(0, .const (.int .u8 1))]) : (execOp a.eval o).run Tryz.prog w = .ok (.value (.slice (some ⟨w.heap.size, 0, none⟩) 1 1)) (w.alloc (.cells #[.int .u8 1] 5)) := by
  unfold execOp
  simp only [ho]
  simp [go_sem]
end
theorem sl_nil : ∃ g n c, Value.slice none 0 0 = .slice g n c := ⟨_, _, _, rfl⟩
set_option maxRecDepth 100000 in
set_option maxHeartbeats 4000000 in
/-- The laws' awake. -/
theorem awake24 (I : Impl) (V : World) :
    Calls Tryz.prog 4 #[] V fun e w' => e = .returned (.bool true) ∧ Below V.heap.size V w' := by
  go_enter Tryz.func4, Tryz.ntmps4
  refine wo_ 31 [] ?_
  rintro a A -
  have BW : Below V.heap.size V V := Below.refl _ _
  have BB := BW
  refine wp_seq ?_
  refine wi_ A h0_ (rg_ [] ?_)
  rintro a A -
  refine wp_seq ?_
  refine wi_ A h0_ (rg_ [(1, .pointer none)] ?_)
  rintro a A ⟨t1, -⟩
  refine wp_seq ?_
  obtain ⟨b5, egb5⟩ : ∃ z_ : Nat, V.heap.size = z_ := ⟨_, rfl⟩
  refine wi_ A (h1_ t1) (rs_ 1 (fun a ee => ?_))
  refine stepV rfl rfl (execBs1 rfl) ⟨.slice (some ⟨b5, 0, none⟩) 1 1, ⟨_, rfl, by subst egb5; rfl⟩, fun X2_1 hX => ?_⟩
  have bQ : Below V.heap.size V X2_1 := by subst hX egb5; exact (belNew V _)
  replace BB := BB.trans (bQ.mono BB.size)
  clear bQ hX egb5 ee a
  refine rc_ 2 (I.put _ X2_1 ⟨_, _, _, rfl⟩) (cb_ fun X2 bQ => ?_)
  replace BB := BB.trans (bQ.mono BB.size)
  clear bQ
  refine rf_ [] (h1_ t1) ?_
  rintro a A - ⟨t1, -⟩
  refine wp_seq ?_
  refine wi_ A (h1_ t1) (rc_ 1 (I.round 0 _ _ _ X2 sl_nil sl_nil sl_nil) (cb_ fun X3_1 bQ => ?_))
  replace BB := BB.trans (bQ.mono BB.size)
  clear bQ
  obtain ⟨g2, egg2⟩ : ∃ z_ : Nat, X3_1.heap.size = z_ := ⟨_, rfl⟩
  refine rs_ 2 (fun a ee => ?_)
  refine stepV rfl rfl (execAlO rfl) ⟨.pointer (some ⟨g2, 0, none⟩), ⟨_, rfl, by subst egg2; rfl⟩, fun X3_2 hX => ?_⟩
  have bQ : Below X3_1.heap.size X3_1 X3_2 := by subst hX egg2; exact (belNew X3_1 _)
  have Fg2 : (X3_2.heap[g2]? = some (.cells (oZ 0) 42)) := by subst hX egg2; exact heapNew X3_1 _
  have Fgeg2 : (V.heap.size ≤ g2) := by subst hX egg2; exact (BB).size
  replace BB := BB.trans (bQ.mono BB.size)
  clear bQ hX egg2 ee a
  refine rs_ 3 (fun a ee => ?_)
  refine stepS rfl rfl (execStO rfl (ee _) (ee _) Fg2) ⟨_, ⟨_, rfl, rfl⟩, fun X3 hX => ?_⟩
  obtain ⟨BB, FOg2⟩ : Below V.heap.size V X3 ∧ (X3.heap[g2]? = some (.cells (oZ 210) 42)) := by subst hX; exact ⟨below4 BB Fgeg2 _, setRow_heap _ _ _ _ _ _ Fg2⟩
  clear Fg2 hX ee a
  refine rf_ [(2, .pointer (some ⟨g2, 0, none⟩))] (h1_ t1) ?_
  rintro a A ⟨t2, -⟩ ⟨t1, -⟩
  have FLg2 : g2 < X3.heap.size := (Array.getElem?_eq_some_iff.1 FOg2).1
  refine wp_seq ?_
  refine wi_ A (h2_ t1 t2) (rc_ 1 (I.finish _ X3 sl_nil) (cb_ fun X4_1 bQ => ?_))
  replace FOg2 := (on9 FOg2 bQ)
  replace FLg2 := (Nat.lt_of_lt_of_le FLg2 (bQ).size)
  replace BB := BB.trans (bQ.mono BB.size)
  clear bQ
  obtain ⟨g3, egg3⟩ : ∃ z_ : Nat, X4_1.heap.size = z_ := ⟨_, rfl⟩
  refine rs_ 2 (fun a ee => ?_)
  refine stepV rfl rfl (execAlO rfl) ⟨.pointer (some ⟨g3, 0, none⟩), ⟨_, rfl, by subst egg3; rfl⟩, fun X4_2 hX => ?_⟩
  have bQ : Below X4_1.heap.size X4_1 X4_2 := by subst hX egg3; exact (belNew X4_1 _)
  have Fg3 : (X4_2.heap[g3]? = some (.cells (oZ 0) 42)) := by subst hX egg3; exact heapNew X4_1 _
  have Fgeg3 : (V.heap.size ≤ g3) := by subst hX egg3; exact (BB).size
  have FN : (g2 ≠ g3) := by subst hX egg3; exact Nat.ne_of_lt FLg2
  replace FOg2 := (on9 FOg2 bQ)
  replace FLg2 := (Nat.lt_of_lt_of_le FLg2 (bQ).size)
  replace BB := BB.trans (bQ.mono BB.size)
  clear bQ hX egg3 ee a
  refine rs_ 3 (fun a ee => ?_)
  refine stepS rfl rfl (execStO rfl (ee _) (ee _) Fg3) ⟨_, ⟨_, rfl, rfl⟩, fun X4 hX => ?_⟩
  obtain ⟨BB, FOg2, FOg3⟩ : Below V.heap.size V X4 ∧ (X4.heap[g2]? = some (.cells (oZ 210) 42)) ∧ (X4.heap[g3]? = some (.cells (oZ 210) 42)) := by subst hX; exact ⟨below4 BB Fgeg3 _, (by rw [setRow_other _ _ _ _ FN]; exact FOg2), setRow_heap _ _ _ _ _ _ Fg3⟩
  clear FLg2 Fg3 hX ee a
  refine rf_ [(3, .pointer (some ⟨g3, 0, none⟩))] (h2_ t1 t2) ?_
  rintro a A ⟨t3, -⟩ ⟨t1, t2, -⟩
  refine wp_seq ?_
  refine wi_ A (h3_ t1 t2 t3) (rv_ 0 (.pointer (some ⟨g2, 9, none⟩)) (fun a ee => execFO3 rfl (ee _)) (rv_ 1 (.int .i64 210) (fun a ee => execLdEr rfl (ee _) (row_1 FOg2 rfl)) (rv_ 2 (.bool true) (fun a ee => execDec (execEqE (p := 210) (q := 210) rfl (ee _) rfl) (decide_eq_true rfl)) (rv_ 4 (.pointer (some ⟨g3, 9, none⟩)) (fun a ee => execFO3 rfl (ee _)) (rv_ 5 (.int .i64 210) (fun a ee => execLdEr rfl (ee _) (row_1 FOg3 rfl)) (rv_ 6 (.bool true) (fun a ee => execDec (execEqE (p := 210) (q := 210) rfl (ee _) rfl) (decide_eq_true rfl)) (rv_ 9 (.pointer (some ⟨g2, 0, none⟩)) (fun a ee => execFO0 rfl (ee _)) (rv_ 10 (.slice none 0 0) (fun a ee => execL1 rfl (Or.inr (Or.inr rfl)) (ee _) (row_1 FOg2 rfl)) (rv_ 11 (.int .i64 ((0 : Nat) : Int)) (fun a ee => execLenV (len := 0) rfl (ee _) ⟨_, _, rfl⟩) (rv_ 12 (.bool true) (fun a ee => execDec (exIeql3 (p := 0) (q := 0) rfl (ee _) rfl) (decide_eq_true rfl)) (rc_ 16 (I.state0 X4) (cb_ fun X5 bQ => ?_))))))))))))
  replace FOg2 := (on9 FOg2 bQ)
  replace FOg3 := (on9 FOg3 bQ)
  replace BB := BB.trans (bQ.mono BB.size)
  clear bQ
  refine rv_ 17 (.int .i64 0) (fun a ee => execFdS rfl (ee _)) (rv_ 18 (.bool true) (fun a ee => execDec (exIeql2 (p := 0) (q := 0) rfl (ee _) rfl) (decide_eq_true rfl)) (rg_ [(0, .bool true)] ?_))
  rintro a A ⟨t0, -⟩
  refine wp_ret ?_
  refine bodyPost_ret (results_tmp rfl _ _ _) A.2 ⟨?_, BB⟩
  show Ending.returned (a.eval (.tmp 0)) = _
  rw [t0]
end Go.Proofs.YtghnhfigihnciaaGreat.Srv
