import Derived.Test.YtjoffdaknacbpaaO8f
import Derived.Test.YtjoffdaknacbpaaO8h
namespace Go.Proofs.Ytjoffdaknacbpaa.Sha
open Go.RowKit Gf8 Aes By8 Cel Cf Win Drw
/- ShardsOf; the laws' awake. Written by tools/mkO8i.py. -/

def f8 (i : Nat) : Nat := if i = 7 then 5 else 0
theorem f8_lt (i : Nat) (_ : i < 16) : f8 i < 256 := by unfold f8; split <;> omega
section
variable {o : Oper} {a : Act} {w : World}
theorem execB8 (ho : o.op = .build 31 #[(0, .const (.int .u8 0)), (1, .const (.int .u8 0)), (2, .const (.int .u8 0)), (3, .const (.int .u8 0)), (4, .const (.int .u8 0)), (5, .const (.int .u8 0)), (6, .const (.int .u8 0)), (7, .const (.int .u8 5))]) : (execOp a.eval o).run Try.prog w = .ok (.value (.agg (bA 16 f8))) w := by
  unfold execOp
  simp only [ho]
  rw [show bA 16 f8 = #[.int .u8 0, .int .u8 0, .int .u8 0, .int .u8 0, .int .u8 0, .int .u8 0, .int .u8 0, .int .u8 5, .int .u8 0, .int .u8 0, .int .u8 0, .int .u8 0, .int .u8 0, .int .u8 0, .int .u8 0, .int .u8 0] from by kernel_rfl]
  simp [go_sem]
theorem execMax3 {x y : Operand} {p q : Int} (ho : o.op = .call { callee := .builtin .max, args := #[x, y], argTypes := #[3, 3] }) (hx : a.eval x = .int .i64 p) (hy : a.eval y = .int .i64 q) : (execOp a.eval o).run Try.prog w = .ok (.value (.int .i64 (max p q))) w := by
  unfold execOp
  simp only [ho, resolve, invoke, builtin, List.map_toArray, List.map_cons, List.map_nil, hx, hy]
  simp [go_sem]
  split <;> omega
end
theorem sh8 : tv f8 8 % 4 = 1 := by kernel_rfl
set_option maxRecDepth 100000 in
set_option maxHeartbeats 4000000 in
/-- ShardsOf. -/
theorem of17t (f : Nat → Nat) (n : Nat) (V : World) (hf : ∀ i, i < 16 → f i < 256) (h1 : 1 ≤ n) (h2 : n ≤ 64) :
    Calls Try.prog 4 #[.agg (bA 16 f), .int .i64 ((n : Nat) : Int)] V fun e w' => e = .returned (.bool true) ∧ Below V.heap.size V w' := by
  go_enter Try.func4, Try.ntmps4
  refine wo_ 27 [(0, .agg (bA 16 f)), (1, .int .i64 ((n : Nat) : Int))] ?_
  rintro a A ⟨t0, t1, -⟩
  have BW : Below V.heap.size V V := Below.refl _ _
  refine wp_seq ?_
  obtain ⟨g2, egg2⟩ : ∃ z_ : Nat, V.heap.size = z_ := ⟨_, rfl⟩
  refine wi_ A (h2_ t0 t1) (rs_ 0 (fun a ee => ?_))
  refine stepV rfl rfl (execBox16 rfl (ee _)) ⟨.pointer (some ⟨g2, 0, none⟩), ⟨_, rfl, by subst egg2; rfl⟩, fun X0 hX => ?_⟩
  have bQ : Below V.heap.size V X0 := by subst hX egg2; exact (belNew V _)
  have Fg2 : (X0.heap[g2]? = some (.cells (bA 16 f) 31)) := by subst hX egg2; exact heapNew V _
  have Fgeg2 : (V.heap.size ≤ g2) := by subst hX egg2; exact ((Below.refl V.heap.size V)).size
  have bX := bQ
  clear bQ hX egg2 ee a
  refine rf_ [(2, .pointer (some ⟨g2, 0, none⟩))] (h1_ t1) ?_
  rintro a A ⟨t2, -⟩ ⟨t1, -⟩
  have ZX0 := bX.size
  replace BW := BW.trans (bX.mono BW.size)
  clear bX
  have BB : Below X0.heap.size X0 X0 := Below.refl _ _
  refine wp_seq ?_
  refine wp_seq ?_
  refine wi_ A (h2_ t1 t2) (rv_ 0 (.agg (bA 16 f8)) (fun a ee => execB8 rfl) (rc_ 1 (pshardt f8 4 X0 f8_lt (by omega) (by omega)) (cb_ fun X1 bQ => ?_)))
  replace BB := BB.trans (bQ.mono BB.size)
  clear bQ
  refine rv_ 2 (.bool false) (fun a ee => execDec (execNeN (p := tv f8 8 % 4) (q := 1) rfl (ee _) rfl) (decide_eq_false (by exact fun h => h sh8))) (rf_ [(8, .bool false)] (h2_ t1 t2) ?_)
  rintro a A ⟨t8, -⟩ ⟨t1, t2, -⟩
  refine wp_cond_false t8 ?_
  refine wp_skip ?_
  clear t8
  refine wp_seq ?_
  refine wi_ A (h2_ t1 t2) (rv_ 0 (.agg (bA 16 f)) (fun a ee => execLdT rfl (ee _) (fun j_ hj_ => at16 (on9 Fg2 BB) hj_)) (rc_ 2 (pshardt f n X1 hf (by omega) (by omega)) (cb_ fun X3 bQ => ?_)))
  replace BB := BB.trans (bQ.mono BB.size)
  clear bQ
  refine rf_ [(5, .int .i64 ((tv f 8 % n : Nat) : Int))] (h2_ t1 t2) ?_
  rintro a A ⟨t5, -⟩ ⟨t1, t2, -⟩
  have hm := Nat.mod_lt (tv f 8) (show 0 < n by omega)
  refine wp_seq ?_
  refine wi_ A (h3_ t1 t2 t5) (rv_ 1 (.agg (bA 16 f)) (fun a ee => execLdT rfl (ee _) (fun j_ hj_ => at16 (on9 Fg2 BB) hj_)) (rc_ 3 (rshardt f n X3 hf (by omega) (by omega)) (cb_ fun X4 bQ => ?_)))
  replace BB := BB.trans (bQ.mono BB.size)
  clear bQ
  refine rv_ 4 (.bool true) (fun a ee => execDec (exIeql3 (p := ((tv f 8 % n : Nat) : Int)) (q := ((tv f 8 % n : Nat) : Int)) rfl (ee _) (ee _)) (decide_eq_true rfl)) (rv_ 7 (.bool true) (fun a ee => execDec (exIgeq3 (p := ((tv f 8 % n : Nat) : Int)) (q := 0) rfl (ee _) rfl) (decide_eq_true (by omega))) (rv_ 12 (.int .i64 (max ((n : Nat) : Int) 1)) (fun a ee => execMax3 (p := ((n : Nat) : Int)) (q := 1) rfl (ee _) rfl) (rv_ 13 (.bool true) (fun a ee => execDec (exIlss3 (p := ((tv f 8 % n : Nat) : Int)) (q := (max ((n : Nat) : Int) 1)) rfl (ee _) (ee _)) (decide_eq_true (by omega))) (rg_ [(4, .bool true)] ?_))))
  rintro a A ⟨t4, -⟩
  have BW2 := BW.trans (BB.mono BW.size)
  refine wp_ret ?_
  refine bodyPost_ret (results_tmp rfl _ _ _) A.2 ⟨?_, BW2⟩
  show Ending.returned (a.eval (.tmp 4)) = _
  rw [t4]
set_option maxRecDepth 100000 in
set_option maxHeartbeats 4000000 in
/-- ShardsOf. -/
theorem of17f (f : Nat → Nat) (s : Int) (V : World) (hn : ¬ fitS s) :
    Calls Try.prog 4 #[.agg (bA 16 f), .int .i64 s] V fun e w' => e = .returned (.bool true) ∧ Below V.heap.size V w' := by
  go_enter Try.func4, Try.ntmps4
  refine wo_ 27 [(0, .agg (bA 16 f)), (1, .int .i64 s)] ?_
  rintro a A ⟨t0, t1, -⟩
  have BW : Below V.heap.size V V := Below.refl _ _
  refine wp_seq ?_
  obtain ⟨g2, egg2⟩ : ∃ z_ : Nat, V.heap.size = z_ := ⟨_, rfl⟩
  refine wi_ A (h2_ t0 t1) (rs_ 0 (fun a ee => ?_))
  refine stepV rfl rfl (execBox16 rfl (ee _)) ⟨.pointer (some ⟨g2, 0, none⟩), ⟨_, rfl, by subst egg2; rfl⟩, fun X0 hX => ?_⟩
  have bQ : Below V.heap.size V X0 := by subst hX egg2; exact (belNew V _)
  have Fg2 : (X0.heap[g2]? = some (.cells (bA 16 f) 31)) := by subst hX egg2; exact heapNew V _
  have Fgeg2 : (V.heap.size ≤ g2) := by subst hX egg2; exact ((Below.refl V.heap.size V)).size
  have bX := bQ
  clear bQ hX egg2 ee a
  refine rf_ [(2, .pointer (some ⟨g2, 0, none⟩))] (h1_ t1) ?_
  rintro a A ⟨t2, -⟩ ⟨t1, -⟩
  have ZX0 := bX.size
  replace BW := BW.trans (bX.mono BW.size)
  clear bX
  have BB : Below X0.heap.size X0 X0 := Below.refl _ _
  refine wp_seq ?_
  refine wp_seq ?_
  refine wi_ A (h2_ t1 t2) (rv_ 0 (.agg (bA 16 f8)) (fun a ee => execB8 rfl) (rc_ 1 (pshardt f8 4 X0 f8_lt (by omega) (by omega)) (cb_ fun X1 bQ => ?_)))
  replace BB := BB.trans (bQ.mono BB.size)
  clear bQ
  refine rv_ 2 (.bool false) (fun a ee => execDec (execNeN (p := tv f8 8 % 4) (q := 1) rfl (ee _) rfl) (decide_eq_false (by exact fun h => h sh8))) (rf_ [(8, .bool false)] (h2_ t1 t2) ?_)
  rintro a A ⟨t8, -⟩ ⟨t1, t2, -⟩
  refine wp_cond_false t8 ?_
  refine wp_skip ?_
  clear t8
  refine wp_seq ?_
  refine wi_ A (h2_ t1 t2) (rv_ 0 (.agg (bA 16 f)) (fun a ee => execLdT rfl (ee _) (fun j_ hj_ => at16 (on9 Fg2 BB) hj_)) (rc_ 2 (pshardf f s X1 hn) (cb_ fun X3 bQ => ?_)))
  replace BB := BB.trans (bQ.mono BB.size)
  clear bQ
  refine rf_ [(5, .int .i64 ((0 : Nat) : Int))] (h2_ t1 t2) ?_
  rintro a A ⟨t5, -⟩ ⟨t1, t2, -⟩
  refine wp_seq ?_
  refine wi_ A (h3_ t1 t2 t5) (rv_ 1 (.agg (bA 16 f)) (fun a ee => execLdT rfl (ee _) (fun j_ hj_ => at16 (on9 Fg2 BB) hj_)) (rc_ 3 (rshardf f s X3 hn) (cb_ fun X4 bQ => ?_)))
  replace BB := BB.trans (bQ.mono BB.size)
  clear bQ
  refine rv_ 4 (.bool true) (fun a ee => execDec (exIeql3 (p := ((0 : Nat) : Int)) (q := ((0 : Nat) : Int)) rfl (ee _) (ee _)) (decide_eq_true rfl)) (rv_ 7 (.bool true) (fun a ee => execDec (exIgeq3 (p := ((0 : Nat) : Int)) (q := 0) rfl (ee _) rfl) (decide_eq_true (by omega))) (rv_ 12 (.int .i64 (max s 1)) (fun a ee => execMax3 (p := s) (q := 1) rfl (ee _) rfl) (rv_ 13 (.bool true) (fun a ee => execDec (exIlss3 (p := ((0 : Nat) : Int)) (q := (max s 1)) rfl (ee _) (ee _)) (decide_eq_true (by omega))) (rg_ [(4, .bool true)] ?_))))
  rintro a A ⟨t4, -⟩
  have BW2 := BW.trans (BB.mono BW.size)
  refine wp_ret ?_
  refine bodyPost_ret (results_tmp rfl _ _ _) A.2 ⟨?_, BW2⟩
  show Ending.returned (a.eval (.tmp 4)) = _
  rw [t4]
theorem of17 (f : Nat → Nat) (s : Int) (V : World) (hf : ∀ i, i < 16 → f i < 256) : Calls Try.prog 4 #[.agg (bA 16 f), .int .i64 s] V fun e w' => e = .returned (.bool true) ∧ Below V.heap.size V w' := by
  by_cases h : fitS s
  · obtain ⟨n, rfl⟩ : ∃ n : Nat, s = n := ⟨s.toNat, by have := h.1; omega⟩
    exact of17t f n V hf (by have := h.1; omega) (by have := h.2; omega)
  · exact of17f f s V h
end Go.Proofs.Ytjoffdaknacbpaa.Sha
