import Derived.Test.YtejhbfbnljioeaaGreatDoorU8a
namespace Go.Proofs.YtejhbfbnljioeaaGreatDoor.Rnd
open Go.RowKit Gf8 Aes By8 Cel Cf Win
/- The laws' plain; RoundChecks. Written by tools/mkU8b.py. -/

theorem wd0 (V : World) : Wd V 0 (.slice none 0 0) 0 (fun _ => 0) (fun _ => undef) (fun _ => 0) (fun _ _ _ => 0) := ⟨⟨⟨none, 0, rfl, Nat.le_refl _, by omega, fun h => absurd h (Nat.lt_irrefl _)⟩, fun j hj => absurd hj (Nat.not_lt_zero j), fun j hj => absurd hj (Nat.not_lt_zero j)⟩, by omega, fun j hj => absurd hj (Nat.not_lt_zero j), ⟨by omega, by omega⟩⟩
theorem res_c1 {P : Program} {fn : Func} {p : Tmp} {ty : TypeId} (tmps : Array Value) (w : World) (g : Nat) (t : TypeId) (cs : Array Value) (fr : Nat × Nat) (d : TypeDesc) (h : fn.results = #[.cell p ty]) (hp : tmps.getD p undef = .pointer (some ⟨g, 0, none⟩)) (hg : w.heap[g]? = some (.cells cs t fr)) (hu : P.underlying ty = some d) (hd : (match d with | .struct _ | .array _ _ => true | _ => false) = true) (hi : (P.info? ty).map (·.size) = some cs.size) :
    (results fn tmps).run P w = .ok (.agg cs) w := by
  have hp' : tmps[p]?.getD undef = .pointer (some ⟨g, 0, none⟩) := by simpa using hp
  simp [results, h, hp', asAddr, run_loadVar_row w g t ty cs fr d hg hu hd hi]
section
variable {o : Oper} {a : Act} {w : World}
theorem execAlC (ho : o.op = .alloc 24) : (execOp a.eval o).run Tryz.prog w = .ok (.value (.pointer (some ⟨w.heap.size, 0, none⟩))) (w.alloc (.cells (cfC (.slice none 0 0) q0) 24)) := by
  unfold execOp
  simp only [ho]
  simp [go_sem, cfC, q0]
theorem execBdP {x : Operand} {g n c : Nat} (ho : o.op = .build 24 #[(0, x), (1, .const (.int .i64 2)), (2, .const (.int .i64 1)), (5, .const (.int .i64 1)), (7, .const (.int .i64 1)), (8, .const (.int .i64 1)), (10, .const (.int .i64 1))]) (hx : a.eval x = .slice (some ⟨g, 0, none⟩) n c) : (execOp a.eval o).run Tryz.prog w = .ok (.value (.agg (cfC (.slice (some ⟨g, 0, none⟩) n c) qp))) w := by
  unfold execOp
  simp only [ho, List.map_toArray, List.map_cons, List.map_nil, hx]
  simp [go_sem, cfC, qp]
theorem execMk32 (ho : o.op = .makeSlice 22 (.const (.int .i64 32)) (.const (.int .i64 32))) : (execOp a.eval o).run Tryz.prog w = .ok (.value (.slice (some ⟨w.heap.size, 0, none⟩) 32 32)) (w.alloc (.cells (bA 32 fun _ => 0) 5)) := by
  have h := run_mk 32 32 (by omega) (by omega) w
  have e : a.eval (.const (.int .i64 32)) = .int .i64 ((32 : Nat) : Int) := rfl
  unfold execOp
  simp only [ho, e, Sem.run_bind, h, Result.andThen_ok, Sem.run_pure]
theorem execStC {x y : Operand} {g : Nat} {mv mv' : Value} {q q' : Cg} (ho : o.op = .store 24 x y) (hx : a.eval x = .pointer (some ⟨g, 0, none⟩)) (hy : a.eval y = .agg (cfC mv' q')) (hg : w.heap[g]? = some (.cells (cfC mv q) 24)) (hm : ∃ g n c, mv' = .slice g n c) : (execOp a.eval o).run Tryz.prog w = .ok .skip (w.setRow g (cfC mv' q')) := by
  obtain ⟨b, n, c, rfl⟩ := hm
  have h := execStMid (P := Tryz.prog) ho hx hy hg (Nat.le_refl _) (show (Tryz.prog.info? 24).map (·.size) = some (cfC (.slice b n c) q').size from by show _ = some 11; kernel_rfl) (by simp [cfC, Value.oneCell'])
  exact h
end
set_option maxRecDepth 100000 in
set_option maxHeartbeats 4000000 in
/-- The laws' plain. -/
theorem plain21 (V : World) :
    Calls Tryz.prog 5 #[] V fun e w' => (∃ g, e = .returned (.agg (cfC (.slice (some ⟨g, 0, none⟩) 32 32) qp)) ∧ V.heap.size ≤ g ∧ w'.heap[g]? = some (.cells (bA 32 fun _ => 0) 5)) ∧ Below V.heap.size V w' := by
  go_enter Tryz.func5, Tryz.ntmps5
  refine wo_ 3 [] ?_
  rintro a A -
  have BW : Below V.heap.size V V := Below.refl _ _
  have BB := BW
  refine wp_seq ?_
  obtain ⟨g0, egg0⟩ : ∃ z_ : Nat, V.heap.size = z_ := ⟨_, rfl⟩
  refine wi_ A h0_ (rs_ 0 (fun a ee => ?_))
  refine stepV rfl rfl (execAlC rfl) ⟨.pointer (some ⟨g0, 0, none⟩), ⟨_, rfl, by subst egg0; rfl⟩, fun X0 hX => ?_⟩
  have bQ : Below V.heap.size V X0 := by subst hX egg0; exact (belNew V _)
  have Fg0 : (X0.heap[g0]? = some (.cells (cfC (.slice none 0 0) q0) 24)) := by subst hX egg0; exact heapNew V _
  have Fge : (V.heap.size ≤ g0) := by subst hX egg0; exact (BB).size
  replace BB := BB.trans (bQ.mono BB.size)
  clear bQ hX egg0 ee a
  refine rg_ [(0, .pointer (some ⟨g0, 0, none⟩))] ?_
  rintro a A ⟨t0, -⟩
  refine wp_seq ?_
  obtain ⟨g1, egg1⟩ : ∃ z_ : Nat, X0.heap.size = z_ := ⟨_, rfl⟩
  refine wi_ A (h1_ t0) (rs_ 0 (fun a ee => ?_))
  refine stepV rfl rfl (execMk32 rfl) ⟨.slice (some ⟨g1, 0, none⟩) 32 32, ⟨_, rfl, by subst egg1; rfl⟩, fun X1_1 hX => ?_⟩
  have bQ : Below X0.heap.size X0 X1_1 := by subst hX egg1; exact (belNew X0 _)
  have Fg1 : (X1_1.heap[g1]? = some (.cells (bA 32 fun _ => 0) 5)) := by subst hX egg1; exact heapNew X0 _
  have Fg1e : (V.heap.size ≤ g1) := by subst hX egg1; exact (BB).size
  replace Fg0 := (on9 Fg0 bQ)
  replace BB := BB.trans (bQ.mono BB.size)
  clear bQ hX egg1 ee a
  refine rv_ 1 (.agg (cfC (.slice (some ⟨g1, 0, none⟩) 32 32) qp)) (fun a ee => execBdP rfl (ee _)) (rs_ 2 (fun a ee => ?_))
  refine stepS rfl rfl (execStC rfl (ee _) (ee _) Fg0 ⟨_, _, _, rfl⟩) ⟨_, ⟨_, rfl, rfl⟩, fun X1 hX => ?_⟩
  obtain ⟨BB, Fg1, Fc⟩ : Below V.heap.size V X1 ∧ (X1.heap[g1]? = some (.cells (bA 32 fun _ => 0) 5)) ∧ (X1.heap[g0]? = some (.cells (cfC (.slice (some ⟨g1, 0, none⟩) 32 32) qp) 24)) := by subst hX; exact ⟨below4 BB Fge _, (by rw [setRow_other _ _ _ _ (ne_type Fg0 Fg1 (by decide))]; exact Fg1), setRow_heap _ _ _ _ _ _ Fg0⟩
  clear Fg0 hX ee a
  refine rf_ [] (h1_ t0) ?_
  rintro a A - ⟨t0, -⟩
  refine wp_ret ?_
  exact bodyPost_ret (res_c1 _ _ g0 24 _ (0, 0) _ Tryz.results5 t0 Fc Tryz.underlying24 rfl (by show _ = some 11; kernel_rfl)) A.2 ⟨⟨g1, rfl, Fg1e, Fg1⟩, BB⟩
end Go.Proofs.YtejhbfbnljioeaaGreatDoor.Rnd
