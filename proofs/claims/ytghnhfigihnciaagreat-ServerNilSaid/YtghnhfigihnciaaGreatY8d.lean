import Derived.Test.YtghnhfigihnciaaGreatY8b
namespace Go.Proofs.YtghnhfigihnciaaGreat.Srv
open Go.RowKit Gf8 Aes By8 Cel Cf Win Rnd
/- The reference's Round, Put, Finish of the zero server, SameOutcome of two refused outcomes. Written by tools/mkY8d.py. -/

/-- The zero server's cells. -/
def zS : Array Value := #[.bool false, .slice none 0 0, .int .i64 0, .int .i64 0, .int .i64 0, .int .i64 0, .int .i64 0, .int .i64 0, .int .i64 0, .int .i64 0, .int .i64 0, .int .i64 0, .int .i64 0, .int .i64 0, .slice none 0 0, .slice none 0 0]
theorem ne24 {X : World} {g : Nat} {c : Obj} (h : X.heap[g]? = some c) : g ≠ X.heap.size := by have := (Array.getElem?_eq_some_iff.1 h).1; omega
theorem res_cc {P : Program} {fn : Func} {p u : Tmp} {ty tu : TypeId} (tmps : Array Value) (w : World) (g k : Nat) (t s : TypeId) (cs ds : Array Value) (fr fs : Nat × Nat) (d b : TypeDesc) (h : fn.results = #[.cell p ty, .cell u tu]) (hp : tmps.getD p undef = .pointer (some ⟨g, 0, none⟩)) (hq : tmps.getD u undef = .pointer (some ⟨k, 0, none⟩)) (hg : w.heap[g]? = some (.cells cs t fr)) (hk : w.heap[k]? = some (.cells ds s fs)) (hu : P.underlying ty = some d) (hd : (match d with | .struct _ | .array _ _ => true | _ => false) = true) (hi : (P.info? ty).map (·.size) = some cs.size) (hv : P.underlying tu = some b) (hb : (match b with | .struct _ | .array _ _ => true | _ => false) = true) (hj : (P.info? tu).map (·.size) = some ds.size) :
    (results fn tmps).run P w = .ok (.tuple #[.agg cs, .agg ds]) w := by
  have hp' : tmps[p]?.getD undef = .pointer (some ⟨g, 0, none⟩) := by simpa using hp
  have hq' : tmps[u]?.getD undef = .pointer (some ⟨k, 0, none⟩) := by simpa using hq
  simp [results, h, hp', hq', asAddr, run_loadVar_row w g t ty cs fr d hg hu hd hi, run_loadVar_row w k s tu ds fs b hk hv hb hj]
section
variable {o : Oper} {a : Act} {w : World}
theorem execBxZ {x : Operand} (ho : o.op = .box 35 x) (hx : a.eval x = .agg zS) : (execOp a.eval o).run Tryz.prog w = .ok (.value (.pointer (some ⟨w.heap.size, 0, none⟩))) (w.alloc (.cells zS 35)) := by
  unfold execOp
  simp only [ho, hx]
  simp [go_sem, zS]
theorem execAlZ (ho : o.op = .alloc 35) : (execOp a.eval o).run Tryz.prog w = .ok (.value (.pointer (some ⟨w.heap.size, 0, none⟩))) (w.alloc (.cells zS 35)) := by
  unfold execOp
  simp only [ho]
  simp [go_sem, zS]
theorem execFZ0 {x : Operand} {b : Nat} (ho : o.op = .fieldAddr 35 x 0) (hx : a.eval x = .pointer (some ⟨b, 0, none⟩)) : (execOp a.eval o).run Tryz.prog w = .ok (.value (.pointer (some ⟨b, 0, none⟩))) w := by
  unfold execOp
  simp only [ho, hx]
  simp [go_sem]
theorem execFZ2 {x : Operand} {b : Nat} (ho : o.op = .fieldAddr 35 x 2) (hx : a.eval x = .pointer (some ⟨b, 0, none⟩)) : (execOp a.eval o).run Tryz.prog w = .ok (.value (.pointer (some ⟨b, 12, none⟩))) w := by
  unfold execOp
  simp only [ho, hx]
  simp [go_sem]
theorem execFZ3 {x : Operand} {b : Nat} (ho : o.op = .fieldAddr 35 x 3) (hx : a.eval x = .pointer (some ⟨b, 0, none⟩)) : (execOp a.eval o).run Tryz.prog w = .ok (.value (.pointer (some ⟨b, 15, none⟩))) w := by
  unfold execOp
  simp only [ho, hx]
  simp [go_sem]
theorem execFO1 {x : Operand} {b : Nat} (ho : o.op = .fieldAddr 42 x 1) (hx : a.eval x = .pointer (some ⟨b, 0, none⟩)) : (execOp a.eval o).run Tryz.prog w = .ok (.value (.pointer (some ⟨b, 1, none⟩))) w := by
  unfold execOp
  simp only [ho, hx]
  simp [go_sem]
theorem execFO2 {x : Operand} {b : Nat} (ho : o.op = .fieldAddr 42 x 2) (hx : a.eval x = .pointer (some ⟨b, 0, none⟩)) : (execOp a.eval o).run Tryz.prog w = .ok (.value (.pointer (some ⟨b, 4, none⟩))) w := by
  unfold execOp
  simp only [ho, hx]
  simp [go_sem]
theorem execFO4 {x : Operand} {b : Nat} (ho : o.op = .fieldAddr 42 x 4) (hx : a.eval x = .pointer (some ⟨b, 0, none⟩)) : (execOp a.eval o).run Tryz.prog w = .ok (.value (.pointer (some ⟨b, 10, none⟩))) w := by
  unfold execOp
  simp only [ho, hx]
  simp [go_sem]
theorem execLdBo {x : Operand} {b k : Nat} {z : Bool} (ho : o.op = .load 4 x) (hx : a.eval x = .pointer (some ⟨b, k, none⟩)) (hc : w.cell? ⟨b, k, none⟩ = some (.bool z)) : (execOp a.eval o).run Tryz.prog w = .ok (.value (.bool z)) w := by
  unfold execOp
  simp only [ho, hx]
  simp [go_sem, hc]
theorem execBdO (ho : o.op = .build 42 #[(3, .const (.int .i64 210))]) : (execOp a.eval o).run Tryz.prog w = .ok (.value (.agg (oZ 210))) w := by
  unfold execOp
  simp only [ho, List.map_toArray, List.map_cons, List.map_nil]
  kernel_rfl
theorem execBdZ (ho : o.op = .build 35 #[]) : (execOp a.eval o).run Tryz.prog w = .ok (.value (.agg zS)) w := by
  unfold execOp
  simp only [ho, List.map_toArray, List.map_nil]
  kernel_rfl
theorem execBxO {x : Operand} {e : Int} (ho : o.op = .box 42 x) (hx : a.eval x = .agg (oZ e)) : (execOp a.eval o).run Tryz.prog w = .ok (.value (.pointer (some ⟨w.heap.size, 0, none⟩))) (w.alloc (.cells (oZ e) 42)) := by
  unfold execOp
  simp only [ho, hx]
  simp [go_sem, oZ]
theorem execStZ {x y : Operand} {g : Nat} (ho : o.op = .store 35 x y) (hx : a.eval x = .pointer (some ⟨g, 0, none⟩)) (hy : a.eval y = .agg zS) (hg : w.heap[g]? = some (.cells zS 35)) : (execOp a.eval o).run Tryz.prog w = .ok .skip (w.setRow g zS) := by
  have h := execStMid (P := Tryz.prog) ho hx hy hg (Nat.le_refl _) (show (Tryz.prog.info? 35).map (·.size) = some zS.size from by show _ = some 16; kernel_rfl) (by simp [zS, Value.oneCell'])
  exact h
theorem execStH {x y : Operand} {g : Nat} (ho : o.op = .store 26 x y) (hx : a.eval x = .pointer (some ⟨g, 15, none⟩)) (hy : a.eval y = .slice none 0 0) (hg : w.heap[g]? = some (.cells zS 35)) : (execOp a.eval o).run Tryz.prog w = .ok .skip (w.setRow g zS) := by
  have h := execStL ho hx hy ⟨_, _, _, rfl⟩ (row_1 hg (show zS[15]? = some (.slice none 0 0) from rfl)) (frozen4 hg)
  rw [setCell_eq_setRow w g 15 _ _ _ _ hg] at h
  exact h
theorem execLdZ {x : Operand} {g : Nat} (ho : o.op = .load 35 x) (hx : a.eval x = .pointer (some ⟨g, 0, none⟩)) (h : w.heap[g]? = some (.cells zS 35)) : (execOp a.eval o).run Tryz.prog w = .ok (.value (.agg zS)) w := by
  have h := execLoadMid (P := Tryz.prog) (cs := zS.toList) ho hx (fun j z hv => by
    rw [cell_of_row _ _ _ _ _ _ h, Nat.zero_add]
    simpa using hv) Tryz.underlying35 rfl (by kernel_rfl)
  exact h
theorem execLdO {x : Operand} {g : Nat} {e : Int} (ho : o.op = .load 42 x) (hx : a.eval x = .pointer (some ⟨g, 0, none⟩)) (h : w.heap[g]? = some (.cells (oZ e) 42)) : (execOp a.eval o).run Tryz.prog w = .ok (.value (.agg (oZ e))) w := by
  have h := execLoadMid (P := Tryz.prog) (cs := [.slice none 0 0, .int .i64 0, .int .i64 0, .slice none 0 0, .int .i64 0, .int .i64 0, .int .i64 0, .int .i64 0, .int .i64 0, .int .i64 e, .int .i64 0]) ho hx (fun j z hv => by
    rw [cell_of_row _ _ _ _ _ _ h]
    match j, hv with
    | 0, hv => exact hv
    | 1, hv => exact hv
    | 2, hv => exact hv
    | 3, hv => exact hv
    | 4, hv => exact hv
    | 5, hv => exact hv
    | 6, hv => exact hv
    | 7, hv => exact hv
    | 8, hv => exact hv
    | 9, hv => exact hv
    | 10, hv => exact hv
    | _ + 11, hv => simp at hv) Tryz.underlying42 rfl (by kernel_rfl)
  exact h
theorem execLdOS {x : Operand} {g : Nat} {e : Int} (ho : o.op = .load 33 x) (hx : a.eval x = .pointer (some ⟨g, 1, none⟩)) (h : w.heap[g]? = some (.cells (oZ e) 42)) : (execOp a.eval o).run Tryz.prog w = .ok (.value (.agg (sC 0 0 (.slice none 0 0)))) w := by
  have h := execLoadMid (P := Tryz.prog) (cs := [.int .i64 0, .int .i64 0, .slice none 0 0]) ho hx (fun j z hv => by
    rw [cell_of_row _ _ _ _ _ _ h]
    match j, hv with
    | 0, hv => exact hv
    | 1, hv => exact hv
    | 2, hv => exact hv
    | _ + 3, hv => simp at hv) Tryz.underlying33 rfl (by kernel_rfl)
  exact h
theorem execLdZS {x : Operand} {g : Nat} (ho : o.op = .load 33 x) (hx : a.eval x = .pointer (some ⟨g, 12, none⟩)) (h : w.heap[g]? = some (.cells (zS) 35)) : (execOp a.eval o).run Tryz.prog w = .ok (.value (.agg (sC 0 0 (.slice none 0 0)))) w := by
  have h := execLoadMid (P := Tryz.prog) (cs := [.int .i64 0, .int .i64 0, .slice none 0 0]) ho hx (fun j z hv => by
    rw [cell_of_row _ _ _ _ _ _ h]
    match j, hv with
    | 0, hv => exact hv
    | 1, hv => exact hv
    | 2, hv => exact hv
    | _ + 3, hv => simp at hv) Tryz.underlying33 rfl (by kernel_rfl)
  exact h
theorem execLdOR {x : Operand} {g : Nat} {e : Int} (ho : o.op = .load 39 x) (hx : a.eval x = .pointer (some ⟨g, 4, none⟩)) (h : w.heap[g]? = some (.cells (oZ e) 42)) : (execOp a.eval o).run Tryz.prog w = .ok (.value (.agg (#[.int .i64 0, .int .i64 0, .int .i64 0, .int .i64 0, .int .i64 0]))) w := by
  have h := execLoadMid (P := Tryz.prog) (cs := [.int .i64 0, .int .i64 0, .int .i64 0, .int .i64 0, .int .i64 0]) ho hx (fun j z hv => by
    rw [cell_of_row _ _ _ _ _ _ h]
    match j, hv with
    | 0, hv => exact hv
    | 1, hv => exact hv
    | 2, hv => exact hv
    | 3, hv => exact hv
    | 4, hv => exact hv
    | _ + 5, hv => simp at hv) Tryz.underlying39 rfl (by kernel_rfl)
  exact h
theorem execEqR {x y : Operand} (ho : o.op = .binOp .eql 39 x y 39) (hx : a.eval x = .agg #[.int .i64 0, .int .i64 0, .int .i64 0, .int .i64 0, .int .i64 0]) (hy : a.eval y = .agg #[.int .i64 0, .int .i64 0, .int .i64 0, .int .i64 0, .int .i64 0]) : (execOp a.eval o).run Tryz.prog w = .ok (.value (.bool true)) w := by
  unfold execOp
  simp only [ho, hx, hy]
  kernel_rfl
theorem execStr0 {x : Operand} (ho : o.op = .convert 26 9 x) (hx : a.eval x = .slice none 0 0) : (execOp a.eval o).run Tryz.prog w = .ok (.value (.string ByteArray.empty)) w := by
  unfold execOp
  simp only [ho, hx]
  kernel_rfl
theorem execEqS0 {x y : Operand} (ho : o.op = .binOp .eql 9 x y 9) (hx : a.eval x = .string ByteArray.empty) (hy : a.eval y = .string ByteArray.empty) : (execOp a.eval o).run Tryz.prog w = .ok (.value (.bool true)) w := by
  unfold execOp
  simp only [ho, hx, hy]
  kernel_rfl
end
set_option maxRecDepth 100000 in
set_option maxHeartbeats 4000000 in
/-- The reference's Round of the zero server. -/
theorem rround24 (en : Int) (rv tv : Value) (V : World) :
    Calls Tryz.prog 10 #[.agg zS, .int .i64 en, rv, tv] V fun e w' => e = .returned (.tuple #[.agg (oZ 210), .agg zS]) ∧ Below V.heap.size V w' := by
  go_enter Tryz.func10, Tryz.ntmps10
  refine wo_ 41 [(0, .agg zS), (1, .int .i64 en), (2, rv), (3, tv)] ?_
  rintro a A ⟨t0, t1, t2, t3, -⟩
  have BW : Below V.heap.size V V := Below.refl _ _
  have BB := BW
  refine wp_seq ?_
  obtain ⟨g4, egg4⟩ : ∃ z_ : Nat, V.heap.size = z_ := ⟨_, rfl⟩
  refine wi_ A (h4_ t0 t1 t2 t3) (rs_ 0 (fun a ee => ?_))
  refine stepV rfl rfl (execBxZ rfl (ee _)) ⟨.pointer (some ⟨g4, 0, none⟩), ⟨_, rfl, by subst egg4; rfl⟩, fun X0_1 hX => ?_⟩
  have bQ : Below V.heap.size V X0_1 := by subst hX egg4; exact (belNew V _)
  have Fg4 : (X0_1.heap[g4]? = some (.cells (zS) 35)) := by subst hX egg4; exact heapNew V _
  have Fgeg4 : (V.heap.size ≤ g4) := by subst hX egg4; exact (BB).size
  replace BB := BB.trans (bQ.mono BB.size)
  clear bQ hX egg4 ee a
  obtain ⟨g8, egg8⟩ : ∃ z_ : Nat, X0_1.heap.size = z_ := ⟨_, rfl⟩
  refine rs_ 1 (fun a ee => ?_)
  refine stepV rfl rfl (execAlO rfl) ⟨.pointer (some ⟨g8, 0, none⟩), ⟨_, rfl, by subst egg8; rfl⟩, fun X0_2 hX => ?_⟩
  have bQ : Below X0_1.heap.size X0_1 X0_2 := by subst hX egg8; exact (belNew X0_1 _)
  have Fg8 : (X0_2.heap[g8]? = some (.cells (oZ 0) 42)) := by subst hX egg8; exact heapNew X0_1 _
  have Fgeg8 : (V.heap.size ≤ g8) := by subst hX egg8; exact (BB).size
  replace Fg4 := (on9 Fg4 bQ)
  replace BB := BB.trans (bQ.mono BB.size)
  clear bQ hX egg8 ee a
  obtain ⟨g9, egg9⟩ : ∃ z_ : Nat, X0_2.heap.size = z_ := ⟨_, rfl⟩
  refine rs_ 2 (fun a ee => ?_)
  refine stepV rfl rfl (execAlZ rfl) ⟨.pointer (some ⟨g9, 0, none⟩), ⟨_, rfl, by subst egg9; rfl⟩, fun X0 hX => ?_⟩
  have bQ : Below X0_2.heap.size X0_2 X0 := by subst hX egg9; exact (belNew X0_2 _)
  have Fg9 : (X0.heap[g9]? = some (.cells (zS) 35)) := by subst hX egg9; exact heapNew X0_2 _
  have Fgeg9 : (V.heap.size ≤ g9) := by subst hX egg9; exact (BB).size
  have FNg4g9 : (g4 ≠ g9) := by subst hX egg9; exact ne24 Fg4
  replace Fg4 := (on9 Fg4 bQ)
  replace Fg8 := (on9 Fg8 bQ)
  replace BB := BB.trans (bQ.mono BB.size)
  clear bQ hX egg9 ee a
  refine rg_ [(4, .pointer (some ⟨g4, 0, none⟩)), (8, .pointer (some ⟨g8, 0, none⟩)), (9, .pointer (some ⟨g9, 0, none⟩))] ?_
  rintro a A ⟨t4, t8, t9, -⟩
  refine wp_seq ?_
  refine wp_seq ?_
  refine wi_ A (h3_ t4 t8 t9) (rv_ 0 (.pointer (some ⟨g4, 0, none⟩)) (fun a ee => execFZ0 rfl (ee _)) (rv_ 1 (.bool false) (fun a ee => execLdBo rfl (ee _) (row_1 Fg4 rfl)) (rv_ 2 (.bool true) (fun a ee => execNot8 (b := false) rfl (ee _)) (rf_ [(13, .bool true)] (h3_ t4 t8 t9) ?_))))
  rintro a A ⟨t13, -⟩ ⟨t4, t8, t9, -⟩
  refine wp_cond_true t13 ?_
  clear t13
  refine wp_seq ?_
  refine wp_region_stB (σ := Unit) 41 [(0, 14), (1, 15)] (fun l_ s X => Below V.heap.size V X ∧ ((X.heap[g4]? = some (.cells (zS) 35))) ∧ ((V.heap.size ≤ g4)) ∧ (l_ 2 = false → (X.heap[g8]? = some (.cells (oZ 0) 42))) ∧ ((V.heap.size ≤ g8)) ∧ (l_ 3 = false → (X.heap[g9]? = some (.cells (zS) 35))) ∧ ((V.heap.size ≤ g9)) ∧ ((g4 ≠ g9)) ∧ (l_ 2 = true → (X.heap[g8]? = some (.cells (oZ 210) 42))) ∧ (l_ 3 = true → (X.heap[g9]? = some (.cells (zS) 35)))) (fun s => fun i_ => match i_ with | 0 => .agg (oZ 210) | 1 => .agg zS | 2 => undef | 3 => undef | _ => undef) () (by kernel_rfl) (by kernel_rfl) A.1 (by kernel_rfl) (by decide) (by decide) ⟨(BB.drew), ((on9 Fg4 (Below.refl _ _).drew)), (Fgeg4), (fun _ => (on9 Fg8 (Below.refl _ _).drew)), (Fgeg8), (fun _ => (on9 Fg9 (Below.refl _ _).drew)), (Fgeg9), (FNg4g9), (fun q0_ => by cases q0_), (fun q0_ => by cases q0_)⟩ ?_ ?_
  · intro i_ hi_ l_ s a X hl_ hf hdep hl2 hcl hno hT
    have up : ∀ j x, x ≠ j → updB l_ j x = l_ x := fun j x hj => by unfold updB; simp [hj]
    match i_, hi_ with
    | 0, _ => exact stepV rfl rfl (execBdO rfl) ⟨s, ⟨_, rfl, rfl⟩, ⟨hT.1, (hT.2.1), (hT.2.2.1), (fun q0_ => (hT.2.2.2.1 (by rw [up 0 2 (by decide)] at q0_; exact q0_))), (hT.2.2.2.2.1), (fun q0_ => (hT.2.2.2.2.2.1 (by rw [up 0 3 (by decide)] at q0_; exact q0_))), (hT.2.2.2.2.2.2.1), (hT.2.2.2.2.2.2.2.1), (fun q0_ => absurd (hl_.symm.trans (hcl 2 _ rfl ((up 0 2 (by decide)).symm.trans q0_) 0 rfl)) (by decide)), (fun q0_ => absurd (hl_.symm.trans (hcl 3 _ rfl ((up 0 3 (by decide)).symm.trans q0_) 0 rfl)) (by decide))⟩, fun _ _ _ => rfl⟩
    | 1, _ => exact stepV rfl rfl (execLdZ rfl ((hf 4 (by decide)).trans t4) hT.2.1) ⟨s, ⟨_, rfl, rfl⟩, ⟨hT.1, (hT.2.1), (hT.2.2.1), (fun q0_ => (hT.2.2.2.1 (by rw [up 1 2 (by decide)] at q0_; exact q0_))), (hT.2.2.2.2.1), (fun q0_ => (hT.2.2.2.2.2.1 (by rw [up 1 3 (by decide)] at q0_; exact q0_))), (hT.2.2.2.2.2.2.1), (hT.2.2.2.2.2.2.2.1), (fun q0_ => (hT.2.2.2.2.2.2.2.2.1 (by rw [up 1 2 (by decide)] at q0_; exact q0_))), (fun q0_ => absurd (hl_.symm.trans (hcl 3 _ rfl ((up 1 3 (by decide)).symm.trans q0_) 1 rfl)) (by decide))⟩, fun _ _ _ => rfl⟩
    | 2, _ =>
      refine stepS rfl rfl (execStO rfl ((hf 8 (by decide)).trans t8) (hdep _ rfl 0 rfl _ rfl _ rfl) (hT.2.2.2.1 hl_)) ⟨s, ⟨_, rfl, rfl⟩, ⟨below4 hT.1 hT.2.2.2.2.1 _, ((by rw [setRow_other _ _ _ _ (ne_type (hT.2.2.2.1 hl_) hT.2.1 (by decide))]; exact hT.2.1)), (hT.2.2.1), (fun q0_ => absurd q0_ (by unfold updB; simp)), (hT.2.2.2.2.1), (fun q0_ => (by rw [setRow_other _ _ _ _ (ne_type (hT.2.2.2.1 hl_) (hT.2.2.2.2.2.1 (by rw [up 2 3 (by decide)] at q0_; exact q0_)) (by decide))]; exact (hT.2.2.2.2.2.1 (by rw [up 2 3 (by decide)] at q0_; exact q0_)))), (hT.2.2.2.2.2.2.1), (hT.2.2.2.2.2.2.2.1), (fun _q0_ => setRow_heap _ _ _ _ _ _ (hT.2.2.2.1 hl_)), (fun q0_ => absurd (hl_.symm.trans (hcl 3 _ rfl ((up 2 3 (by decide)).symm.trans q0_) 2 rfl)) (by decide))⟩, fun i hi hli => ?_⟩
      match i, hi with
      | 0, _ => rfl
      | 1, _ => rfl
      | 2, _ => exact absurd (hl_.symm.trans hli) (by decide)
      | 3, _ => rfl
      | k_ + 4, h_ => exact absurd h_ (by simp)
    | 3, _ =>
      refine stepS rfl rfl (execStZ rfl ((hf 9 (by decide)).trans t9) (hdep _ rfl 1 rfl _ rfl _ rfl) (hT.2.2.2.2.2.1 hl_)) ⟨s, ⟨_, rfl, rfl⟩, ⟨below4 hT.1 hT.2.2.2.2.2.2.1 _, ((by rw [setRow_other _ _ _ _ hT.2.2.2.2.2.2.2.1]; exact hT.2.1)), (hT.2.2.1), (fun q0_ => absurd (q0_.symm.trans ((up 3 2 (by decide)).trans (hl2 _ rfl 2 rfl))) (by decide)), (hT.2.2.2.2.1), (fun q0_ => absurd q0_ (by unfold updB; simp)), (hT.2.2.2.2.2.2.1), (hT.2.2.2.2.2.2.2.1), (fun q0_ => (by rw [setRow_other _ _ _ _ (ne_type (hT.2.2.2.2.2.1 hl_) (hT.2.2.2.2.2.2.2.2.1 (by rw [up 3 2 (by decide)] at q0_; exact q0_)) (by decide))]; exact (hT.2.2.2.2.2.2.2.2.1 (by rw [up 3 2 (by decide)] at q0_; exact q0_)))), (fun _q0_ => setRow_heap _ _ _ _ _ _ (hT.2.2.2.2.2.1 hl_))⟩, fun i hi hli => ?_⟩
      match i, hi with
      | 0, _ => rfl
      | 1, _ => rfl
      | 2, _ => rfl
      | 3, _ => exact absurd (hl_.symm.trans hli) (by decide)
      | k_ + 4, h_ => exact absurd h_ (by simp)
    | k_ + 4, h_ => exact absurd h_ (by simp)
  rintro l_ _ a X2 h1 h2 h3 h4 hall hT
  clear BB
  clear Fg4
  clear Fgeg4
  clear Fg8
  clear Fgeg8
  clear Fg9
  clear Fgeg9
  clear FNg4g9
  obtain ⟨BB, Fg4, Fgeg4, Fg8, Fgeg8, Fg9, Fgeg9, FNg4g9, Fg8s, Fg9s⟩ := hT
  replace Fg4 : (X2.heap[g4]? = some (.cells (zS) 35)) := Fg4
  replace Fgeg4 : (V.heap.size ≤ g4) := Fgeg4
  clear Fg8
  replace Fgeg8 : (V.heap.size ≤ g8) := Fgeg8
  clear Fg9
  replace Fgeg9 : (V.heap.size ≤ g9) := Fgeg9
  replace FNg4g9 : (g4 ≠ g9) := FNg4g9
  replace Fg8s : (X2.heap[g8]? = some (.cells (oZ 210) 42)) := Fg8s (hall 2 (by decide))
  replace Fg9s : (X2.heap[g9]? = some (.cells (zS) 35)) := Fg9s (hall 3 (by decide))
  clear hall
  replace t8 := (h3 8 (by decide)).trans t8
  replace t9 := (h3 9 (by decide)).trans t9
  replace A := (⟨h1, h2.trans A.2⟩ : a.tmps.size = 41 ∧ a.defers = [])
  clear h1 h2 h3 h4
  clear t4
  refine wp_ret ?_
  repeat (first | with_reducible refine ret_in ?_ | with_reducible refine ret_then ?_)
  exact bodyPost_ret (res_cc _ _ _ _ 42 35 _ _ (0, 0) (0, 0) _ _ Tryz.results10 t8 t9 Fg8s Fg9s Tryz.underlying42 rfl (by show _ = some 11; kernel_rfl) Tryz.underlying35 rfl (by show _ = some 16; kernel_rfl)) A.2 ⟨rfl, BB⟩
set_option maxRecDepth 100000 in
set_option maxHeartbeats 4000000 in
/-- The reference's Put of the zero server. -/
theorem rput24 (pv : Value) (V : World) :
    Calls Tryz.prog 11 #[.agg zS, pv] V fun e w' => e = .returned (.agg zS) ∧ Below V.heap.size V w' := by
  go_enter Tryz.func11, Tryz.ntmps11
  refine wo_ 27 [(0, .agg zS), (1, pv)] ?_
  rintro a A ⟨t0, t1, -⟩
  have BW : Below V.heap.size V V := Below.refl _ _
  have BB := BW
  refine wp_seq ?_
  obtain ⟨g2, egg2⟩ : ∃ z_ : Nat, V.heap.size = z_ := ⟨_, rfl⟩
  refine wi_ A (h2_ t0 t1) (rs_ 0 (fun a ee => ?_))
  refine stepV rfl rfl (execBxZ rfl (ee _)) ⟨.pointer (some ⟨g2, 0, none⟩), ⟨_, rfl, by subst egg2; rfl⟩, fun X0_1 hX => ?_⟩
  have bQ : Below V.heap.size V X0_1 := by subst hX egg2; exact (belNew V _)
  have Fg2 : (X0_1.heap[g2]? = some (.cells (zS) 35)) := by subst hX egg2; exact heapNew V _
  have Fgeg2 : (V.heap.size ≤ g2) := by subst hX egg2; exact (BB).size
  replace BB := BB.trans (bQ.mono BB.size)
  clear bQ hX egg2 ee a
  obtain ⟨g4, egg4⟩ : ∃ z_ : Nat, X0_1.heap.size = z_ := ⟨_, rfl⟩
  refine rs_ 1 (fun a ee => ?_)
  refine stepV rfl rfl (execAlZ rfl) ⟨.pointer (some ⟨g4, 0, none⟩), ⟨_, rfl, by subst egg4; rfl⟩, fun X0 hX => ?_⟩
  have bQ : Below X0_1.heap.size X0_1 X0 := by subst hX egg4; exact (belNew X0_1 _)
  have Fg4 : (X0.heap[g4]? = some (.cells (zS) 35)) := by subst hX egg4; exact heapNew X0_1 _
  have Fgeg4 : (V.heap.size ≤ g4) := by subst hX egg4; exact (BB).size
  have FNg2g4 : (g2 ≠ g4) := by subst hX egg4; exact ne24 Fg2
  replace Fg2 := (on9 Fg2 bQ)
  replace BB := BB.trans (bQ.mono BB.size)
  clear bQ hX egg4 ee a
  refine rg_ [(2, .pointer (some ⟨g2, 0, none⟩)), (4, .pointer (some ⟨g4, 0, none⟩))] ?_
  rintro a A ⟨t2, t4, -⟩
  refine wp_seq ?_
  refine wp_seq ?_
  refine wi_ A (h2_ t2 t4) (rv_ 0 (.pointer (some ⟨g2, 0, none⟩)) (fun a ee => execFZ0 rfl (ee _)) (rv_ 1 (.bool false) (fun a ee => execLdBo rfl (ee _) (row_1 Fg2 rfl)) (rv_ 2 (.bool true) (fun a ee => execNot8 (b := false) rfl (ee _)) (rf_ [(8, .bool true)] (h2_ t2 t4) ?_))))
  rintro a A ⟨t8, -⟩ ⟨t2, t4, -⟩
  refine wp_cond_true t8 ?_
  clear t8
  refine wp_seq ?_
  refine wi_ A (h2_ t2 t4) (rv_ 0 (.agg zS) (fun a ee => execLdZ rfl (ee _) Fg2) (rs_ 1 (fun a ee => ?_)))
  refine stepS rfl rfl (execStZ rfl (ee _) (ee _) Fg4) ⟨_, ⟨_, rfl, rfl⟩, fun X2 hX => ?_⟩
  obtain ⟨BB, Fg2, Fg4s⟩ : Below V.heap.size V X2 ∧ (X2.heap[g2]? = some (.cells (zS) 35)) ∧ (X2.heap[g4]? = some (.cells (zS) 35)) := by subst hX; exact ⟨below4 BB Fgeg4 _, (by rw [setRow_other _ _ _ _ FNg2g4]; exact Fg2), setRow_heap _ _ _ _ _ _ Fg4⟩
  clear Fg4 hX ee a
  refine rf_ [] (h1_ t4) ?_
  rintro a A - ⟨t4, -⟩
  refine wp_ret ?_
  repeat (first | with_reducible refine ret_in ?_ | with_reducible refine ret_then ?_)
  exact bodyPost_ret (res_c1 _ _ _ 35 _ (0, 0) _ Tryz.results11 t4 Fg4s Tryz.underlying35 rfl (by show _ = some 16; kernel_rfl)) A.2 ⟨rfl, BB⟩
set_option maxRecDepth 100000 in
set_option maxHeartbeats 4000000 in
/-- The reference's Finish of the zero server. -/
theorem rfin24 (tv : Value) (V : World) :
    Calls Tryz.prog 12 #[.agg zS, tv] V fun e w' => e = .returned (.tuple #[.agg (oZ 210), .agg zS]) ∧ Below V.heap.size V w' := by
  go_enter Tryz.func12, Tryz.ntmps12
  refine wo_ 19 [(0, .agg zS), (1, tv)] ?_
  rintro a A ⟨t0, t1, -⟩
  have BW : Below V.heap.size V V := Below.refl _ _
  have BB := BW
  refine wp_seq ?_
  obtain ⟨g2, egg2⟩ : ∃ z_ : Nat, V.heap.size = z_ := ⟨_, rfl⟩
  refine wi_ A (h2_ t0 t1) (rs_ 0 (fun a ee => ?_))
  refine stepV rfl rfl (execBxZ rfl (ee _)) ⟨.pointer (some ⟨g2, 0, none⟩), ⟨_, rfl, by subst egg2; rfl⟩, fun X0_1 hX => ?_⟩
  have bQ : Below V.heap.size V X0_1 := by subst hX egg2; exact (belNew V _)
  have Fg2 : (X0_1.heap[g2]? = some (.cells (zS) 35)) := by subst hX egg2; exact heapNew V _
  have Fgeg2 : (V.heap.size ≤ g2) := by subst hX egg2; exact (BB).size
  replace BB := BB.trans (bQ.mono BB.size)
  clear bQ hX egg2 ee a
  obtain ⟨g4, egg4⟩ : ∃ z_ : Nat, X0_1.heap.size = z_ := ⟨_, rfl⟩
  refine rs_ 1 (fun a ee => ?_)
  refine stepV rfl rfl (execAlO rfl) ⟨.pointer (some ⟨g4, 0, none⟩), ⟨_, rfl, by subst egg4; rfl⟩, fun X0_2 hX => ?_⟩
  have bQ : Below X0_1.heap.size X0_1 X0_2 := by subst hX egg4; exact (belNew X0_1 _)
  have Fg4 : (X0_2.heap[g4]? = some (.cells (oZ 0) 42)) := by subst hX egg4; exact heapNew X0_1 _
  have Fgeg4 : (V.heap.size ≤ g4) := by subst hX egg4; exact (BB).size
  replace Fg2 := (on9 Fg2 bQ)
  replace BB := BB.trans (bQ.mono BB.size)
  clear bQ hX egg4 ee a
  obtain ⟨g5, egg5⟩ : ∃ z_ : Nat, X0_2.heap.size = z_ := ⟨_, rfl⟩
  refine rs_ 2 (fun a ee => ?_)
  refine stepV rfl rfl (execAlZ rfl) ⟨.pointer (some ⟨g5, 0, none⟩), ⟨_, rfl, by subst egg5; rfl⟩, fun X0 hX => ?_⟩
  have bQ : Below X0_2.heap.size X0_2 X0 := by subst hX egg5; exact (belNew X0_2 _)
  have Fg5 : (X0.heap[g5]? = some (.cells (zS) 35)) := by subst hX egg5; exact heapNew X0_2 _
  have Fgeg5 : (V.heap.size ≤ g5) := by subst hX egg5; exact (BB).size
  have FNg2g5 : (g2 ≠ g5) := by subst hX egg5; exact ne24 Fg2
  replace Fg2 := (on9 Fg2 bQ)
  replace Fg4 := (on9 Fg4 bQ)
  replace BB := BB.trans (bQ.mono BB.size)
  clear bQ hX egg5 ee a
  refine rf_ [(2, .pointer (some ⟨g2, 0, none⟩)), (4, .pointer (some ⟨g4, 0, none⟩)), (5, .pointer (some ⟨g5, 0, none⟩))] (h1_ t1) ?_
  rintro a A ⟨t2, t4, t5, -⟩ ⟨t1, -⟩
  refine wp_seq ?_
  refine wi_ A (h4_ t1 t2 t4 t5) (rv_ 0 (.agg zS) (fun a ee => execLdZ rfl (ee _) Fg2) (rv_ 1 (.pointer (some ⟨g2, 15, none⟩)) (fun a ee => execFZ3 rfl (ee _)) (rv_ 2 (.slice none 0 0) (fun a ee => execL1 rfl (Or.inr (Or.inr rfl)) (ee _) (row_1 Fg2 rfl)) (rc_ 4 (rround24 1 _ _ X0) (cb_ fun X1_1 bQ => ?_)))))
  replace Fg2 := (on9 Fg2 bQ)
  replace Fg4 := (on9 Fg4 bQ)
  replace Fg5 := (on9 Fg5 bQ)
  replace BB := BB.trans (bQ.mono BB.size)
  clear bQ
  obtain ⟨g6, egg6⟩ : ∃ z_ : Nat, X1_1.heap.size = z_ := ⟨_, rfl⟩
  refine rs_ 8 (fun a ee => ?_)
  refine stepV rfl rfl (execAlO rfl) ⟨.pointer (some ⟨g6, 0, none⟩), ⟨_, rfl, by subst egg6; rfl⟩, fun X1_2 hX => ?_⟩
  have bQ : Below X1_1.heap.size X1_1 X1_2 := by subst hX egg6; exact (belNew X1_1 _)
  have Fg6 : (X1_2.heap[g6]? = some (.cells (oZ 0) 42)) := by subst hX egg6; exact heapNew X1_1 _
  have Fgeg6 : (V.heap.size ≤ g6) := by subst hX egg6; exact (BB).size
  have FNg4g6 : (g4 ≠ g6) := by subst hX egg6; exact ne24 Fg4
  replace Fg2 := (on9 Fg2 bQ)
  replace Fg4 := (on9 Fg4 bQ)
  replace Fg5 := (on9 Fg5 bQ)
  replace BB := BB.trans (bQ.mono BB.size)
  clear bQ hX egg6 ee a
  obtain ⟨g7, egg7⟩ : ∃ z_ : Nat, X1_2.heap.size = z_ := ⟨_, rfl⟩
  refine rs_ 9 (fun a ee => ?_)
  refine stepV rfl rfl (execAlZ rfl) ⟨.pointer (some ⟨g7, 0, none⟩), ⟨_, rfl, by subst egg7; rfl⟩, fun X1_3 hX => ?_⟩
  have bQ : Below X1_2.heap.size X1_2 X1_3 := by subst hX egg7; exact (belNew X1_2 _)
  have Fg7 : (X1_3.heap[g7]? = some (.cells (zS) 35)) := by subst hX egg7; exact heapNew X1_2 _
  have Fgeg7 : (V.heap.size ≤ g7) := by subst hX egg7; exact (BB).size
  have FNg2g7 : (g2 ≠ g7) := by subst hX egg7; exact ne24 Fg2
  have FNg5g7 : (g5 ≠ g7) := by subst hX egg7; exact ne24 Fg5
  replace Fg2 := (on9 Fg2 bQ)
  replace Fg4 := (on9 Fg4 bQ)
  replace Fg5 := (on9 Fg5 bQ)
  replace Fg6 := (on9 Fg6 bQ)
  replace BB := BB.trans (bQ.mono BB.size)
  clear bQ hX egg7 ee a
  refine rs_ 10 (fun a ee => ?_)
  refine stepS rfl rfl (execStO rfl (ee _) (ee _) Fg6) ⟨_, ⟨_, rfl, rfl⟩, fun X1_4 hX => ?_⟩
  obtain ⟨BB, Fg2, Fg4, Fg5, Fg7, Fg6s⟩ : Below V.heap.size V X1_4 ∧ (X1_4.heap[g2]? = some (.cells (zS) 35)) ∧ (X1_4.heap[g4]? = some (.cells (oZ 0) 42)) ∧ (X1_4.heap[g5]? = some (.cells (zS) 35)) ∧ (X1_4.heap[g7]? = some (.cells (zS) 35)) ∧ (X1_4.heap[g6]? = some (.cells (oZ 210) 42)) := by subst hX; exact ⟨below4 BB Fgeg6 _, (by rw [setRow_other _ _ _ _ (ne_type Fg6 Fg2 (by decide))]; exact Fg2), (by rw [setRow_other _ _ _ _ FNg4g6]; exact Fg4), (by rw [setRow_other _ _ _ _ (ne_type Fg6 Fg5 (by decide))]; exact Fg5), (by rw [setRow_other _ _ _ _ (ne_type Fg6 Fg7 (by decide))]; exact Fg7), setRow_heap _ _ _ _ _ _ Fg6⟩
  clear Fg6 hX ee a
  refine rs_ 11 (fun a ee => ?_)
  refine stepS rfl rfl (execStZ rfl (ee _) (ee _) Fg7) ⟨_, ⟨_, rfl, rfl⟩, fun X1 hX => ?_⟩
  obtain ⟨BB, Fg2, Fg4, Fg5, Fg6s, Fg7s⟩ : Below V.heap.size V X1 ∧ (X1.heap[g2]? = some (.cells (zS) 35)) ∧ (X1.heap[g4]? = some (.cells (oZ 0) 42)) ∧ (X1.heap[g5]? = some (.cells (zS) 35)) ∧ (X1.heap[g6]? = some (.cells (oZ 210) 42)) ∧ (X1.heap[g7]? = some (.cells (zS) 35)) := by subst hX; exact ⟨below4 BB Fgeg7 _, (by rw [setRow_other _ _ _ _ FNg2g7]; exact Fg2), (by rw [setRow_other _ _ _ _ (ne_type Fg7 Fg4 (by decide))]; exact Fg4), (by rw [setRow_other _ _ _ _ FNg5g7]; exact Fg5), (by rw [setRow_other _ _ _ _ (ne_type Fg7 Fg6s (by decide))]; exact Fg6s), setRow_heap _ _ _ _ _ _ Fg7⟩
  clear Fg7 hX ee a
  refine rf_ [(6, .pointer (some ⟨g6, 0, none⟩)), (7, .pointer (some ⟨g7, 0, none⟩))] (h2_ t4 t5) ?_
  rintro a A ⟨t6, t7, -⟩ ⟨t4, t5, -⟩
  refine wp_seq ?_
  refine wi_ A (h4_ t4 t5 t6 t7) (rv_ 0 (.pointer (some ⟨g7, 15, none⟩)) (fun a ee => execFZ3 rfl (ee _)) (rs_ 1 (fun a ee => ?_)))
  refine stepS rfl rfl (execStH rfl (ee _) rfl Fg7s) ⟨_, ⟨_, rfl, rfl⟩, fun X2 hX => ?_⟩
  obtain ⟨BB, Fg2, Fg4, Fg5, Fg6s, Fg7ss⟩ : Below V.heap.size V X2 ∧ (X2.heap[g2]? = some (.cells (zS) 35)) ∧ (X2.heap[g4]? = some (.cells (oZ 0) 42)) ∧ (X2.heap[g5]? = some (.cells (zS) 35)) ∧ (X2.heap[g6]? = some (.cells (oZ 210) 42)) ∧ (X2.heap[g7]? = some (.cells (zS) 35)) := by subst hX; exact ⟨below4 BB Fgeg7 _, (by rw [setRow_other _ _ _ _ FNg2g7]; exact Fg2), (by rw [setRow_other _ _ _ _ (ne_type Fg7s Fg4 (by decide))]; exact Fg4), (by rw [setRow_other _ _ _ _ FNg5g7]; exact Fg5), (by rw [setRow_other _ _ _ _ (ne_type Fg7s Fg6s (by decide))]; exact Fg6s), setRow_heap _ _ _ _ _ _ Fg7s⟩
  clear Fg7s hX ee a
  refine rf_ [] (h4_ t4 t5 t6 t7) ?_
  rintro a A - ⟨t4, t5, t6, t7, -⟩
  refine wp_seq ?_
  refine wp_region_stB (σ := Unit) 19 [(0, 17), (1, 18)] (fun l_ s X => Below V.heap.size V X ∧ ((X.heap[g2]? = some (.cells (zS) 35))) ∧ ((V.heap.size ≤ g2)) ∧ (l_ 2 = false → (X.heap[g4]? = some (.cells (oZ 0) 42))) ∧ ((V.heap.size ≤ g4)) ∧ (l_ 3 = false → (X.heap[g5]? = some (.cells (zS) 35))) ∧ ((V.heap.size ≤ g5)) ∧ ((g2 ≠ g5)) ∧ ((V.heap.size ≤ g6)) ∧ ((g4 ≠ g6)) ∧ ((V.heap.size ≤ g7)) ∧ ((g2 ≠ g7)) ∧ ((g5 ≠ g7)) ∧ ((X.heap[g6]? = some (.cells (oZ 210) 42))) ∧ ((X.heap[g7]? = some (.cells (zS) 35))) ∧ (l_ 2 = true → (X.heap[g4]? = some (.cells (oZ 210) 42))) ∧ (l_ 3 = true → (X.heap[g5]? = some (.cells (zS) 35)))) (fun s => fun i_ => match i_ with | 0 => .agg (oZ 210) | 1 => .agg zS | 2 => undef | 3 => undef | _ => undef) () (by kernel_rfl) (by kernel_rfl) A.1 (by kernel_rfl) (by decide) (by decide) ⟨(BB.drew), ((on9 Fg2 (Below.refl _ _).drew)), (Fgeg2), (fun _ => (on9 Fg4 (Below.refl _ _).drew)), (Fgeg4), (fun _ => (on9 Fg5 (Below.refl _ _).drew)), (Fgeg5), (FNg2g5), (Fgeg6), (FNg4g6), (Fgeg7), (FNg2g7), (FNg5g7), ((on9 Fg6s (Below.refl _ _).drew)), ((on9 Fg7ss (Below.refl _ _).drew)), (fun q0_ => by cases q0_), (fun q0_ => by cases q0_)⟩ ?_ ?_
  · intro i_ hi_ l_ s a X hl_ hf hdep hl2 hcl hno hT
    have up : ∀ j x, x ≠ j → updB l_ j x = l_ x := fun j x hj => by unfold updB; simp [hj]
    match i_, hi_ with
    | 0, _ => exact stepV rfl rfl (execLdO rfl ((hf 6 (by decide)).trans t6) hT.2.2.2.2.2.2.2.2.2.2.2.2.2.1) ⟨s, ⟨_, rfl, rfl⟩, ⟨hT.1, (hT.2.1), (hT.2.2.1), (fun q0_ => (hT.2.2.2.1 (by rw [up 0 2 (by decide)] at q0_; exact q0_))), (hT.2.2.2.2.1), (fun q0_ => (hT.2.2.2.2.2.1 (by rw [up 0 3 (by decide)] at q0_; exact q0_))), (hT.2.2.2.2.2.2.1), (hT.2.2.2.2.2.2.2.1), (hT.2.2.2.2.2.2.2.2.1), (hT.2.2.2.2.2.2.2.2.2.1), (hT.2.2.2.2.2.2.2.2.2.2.1), (hT.2.2.2.2.2.2.2.2.2.2.2.1), (hT.2.2.2.2.2.2.2.2.2.2.2.2.1), (hT.2.2.2.2.2.2.2.2.2.2.2.2.2.1), (hT.2.2.2.2.2.2.2.2.2.2.2.2.2.2.1), (fun q0_ => absurd (hl_.symm.trans (hcl 2 _ rfl ((up 0 2 (by decide)).symm.trans q0_) 0 rfl)) (by decide)), (fun q0_ => absurd (hl_.symm.trans (hcl 3 _ rfl ((up 0 3 (by decide)).symm.trans q0_) 0 rfl)) (by decide))⟩, fun _ _ _ => rfl⟩
    | 1, _ => exact stepV rfl rfl (execLdZ rfl ((hf 7 (by decide)).trans t7) hT.2.2.2.2.2.2.2.2.2.2.2.2.2.2.1) ⟨s, ⟨_, rfl, rfl⟩, ⟨hT.1, (hT.2.1), (hT.2.2.1), (fun q0_ => (hT.2.2.2.1 (by rw [up 1 2 (by decide)] at q0_; exact q0_))), (hT.2.2.2.2.1), (fun q0_ => (hT.2.2.2.2.2.1 (by rw [up 1 3 (by decide)] at q0_; exact q0_))), (hT.2.2.2.2.2.2.1), (hT.2.2.2.2.2.2.2.1), (hT.2.2.2.2.2.2.2.2.1), (hT.2.2.2.2.2.2.2.2.2.1), (hT.2.2.2.2.2.2.2.2.2.2.1), (hT.2.2.2.2.2.2.2.2.2.2.2.1), (hT.2.2.2.2.2.2.2.2.2.2.2.2.1), (hT.2.2.2.2.2.2.2.2.2.2.2.2.2.1), (hT.2.2.2.2.2.2.2.2.2.2.2.2.2.2.1), (fun q0_ => (hT.2.2.2.2.2.2.2.2.2.2.2.2.2.2.2.1 (by rw [up 1 2 (by decide)] at q0_; exact q0_))), (fun q0_ => absurd (hl_.symm.trans (hcl 3 _ rfl ((up 1 3 (by decide)).symm.trans q0_) 1 rfl)) (by decide))⟩, fun _ _ _ => rfl⟩
    | 2, _ =>
      refine stepS rfl rfl (execStO rfl ((hf 4 (by decide)).trans t4) (hdep _ rfl 0 rfl _ rfl _ rfl) (hT.2.2.2.1 hl_)) ⟨s, ⟨_, rfl, rfl⟩, ⟨below4 hT.1 hT.2.2.2.2.1 _, ((by rw [setRow_other _ _ _ _ (ne_type (hT.2.2.2.1 hl_) hT.2.1 (by decide))]; exact hT.2.1)), (hT.2.2.1), (fun q0_ => absurd q0_ (by unfold updB; simp)), (hT.2.2.2.2.1), (fun q0_ => (by rw [setRow_other _ _ _ _ (ne_type (hT.2.2.2.1 hl_) (hT.2.2.2.2.2.1 (by rw [up 2 3 (by decide)] at q0_; exact q0_)) (by decide))]; exact (hT.2.2.2.2.2.1 (by rw [up 2 3 (by decide)] at q0_; exact q0_)))), (hT.2.2.2.2.2.2.1), (hT.2.2.2.2.2.2.2.1), (hT.2.2.2.2.2.2.2.2.1), (hT.2.2.2.2.2.2.2.2.2.1), (hT.2.2.2.2.2.2.2.2.2.2.1), (hT.2.2.2.2.2.2.2.2.2.2.2.1), (hT.2.2.2.2.2.2.2.2.2.2.2.2.1), ((by rw [setRow_other _ _ _ _ (fun e_ => hT.2.2.2.2.2.2.2.2.2.1 e_.symm)]; exact hT.2.2.2.2.2.2.2.2.2.2.2.2.2.1)), ((by rw [setRow_other _ _ _ _ (ne_type (hT.2.2.2.1 hl_) hT.2.2.2.2.2.2.2.2.2.2.2.2.2.2.1 (by decide))]; exact hT.2.2.2.2.2.2.2.2.2.2.2.2.2.2.1)), (fun _q0_ => setRow_heap _ _ _ _ _ _ (hT.2.2.2.1 hl_)), (fun q0_ => absurd (hl_.symm.trans (hcl 3 _ rfl ((up 2 3 (by decide)).symm.trans q0_) 2 rfl)) (by decide))⟩, fun i hi hli => ?_⟩
      match i, hi with
      | 0, _ => rfl
      | 1, _ => rfl
      | 2, _ => exact absurd (hl_.symm.trans hli) (by decide)
      | 3, _ => rfl
      | k_ + 4, h_ => exact absurd h_ (by simp)
    | 3, _ =>
      refine stepS rfl rfl (execStZ rfl ((hf 5 (by decide)).trans t5) (hdep _ rfl 1 rfl _ rfl _ rfl) (hT.2.2.2.2.2.1 hl_)) ⟨s, ⟨_, rfl, rfl⟩, ⟨below4 hT.1 hT.2.2.2.2.2.2.1 _, ((by rw [setRow_other _ _ _ _ hT.2.2.2.2.2.2.2.1]; exact hT.2.1)), (hT.2.2.1), (fun q0_ => absurd (q0_.symm.trans ((up 3 2 (by decide)).trans (hl2 _ rfl 2 rfl))) (by decide)), (hT.2.2.2.2.1), (fun q0_ => absurd q0_ (by unfold updB; simp)), (hT.2.2.2.2.2.2.1), (hT.2.2.2.2.2.2.2.1), (hT.2.2.2.2.2.2.2.2.1), (hT.2.2.2.2.2.2.2.2.2.1), (hT.2.2.2.2.2.2.2.2.2.2.1), (hT.2.2.2.2.2.2.2.2.2.2.2.1), (hT.2.2.2.2.2.2.2.2.2.2.2.2.1), ((by rw [setRow_other _ _ _ _ (ne_type (hT.2.2.2.2.2.1 hl_) hT.2.2.2.2.2.2.2.2.2.2.2.2.2.1 (by decide))]; exact hT.2.2.2.2.2.2.2.2.2.2.2.2.2.1)), ((by rw [setRow_other _ _ _ _ (fun e_ => hT.2.2.2.2.2.2.2.2.2.2.2.2.1 e_.symm)]; exact hT.2.2.2.2.2.2.2.2.2.2.2.2.2.2.1)), (fun q0_ => (by rw [setRow_other _ _ _ _ (ne_type (hT.2.2.2.2.2.1 hl_) (hT.2.2.2.2.2.2.2.2.2.2.2.2.2.2.2.1 (by rw [up 3 2 (by decide)] at q0_; exact q0_)) (by decide))]; exact (hT.2.2.2.2.2.2.2.2.2.2.2.2.2.2.2.1 (by rw [up 3 2 (by decide)] at q0_; exact q0_)))), (fun _q0_ => setRow_heap _ _ _ _ _ _ (hT.2.2.2.2.2.1 hl_))⟩, fun i hi hli => ?_⟩
      match i, hi with
      | 0, _ => rfl
      | 1, _ => rfl
      | 2, _ => rfl
      | 3, _ => exact absurd (hl_.symm.trans hli) (by decide)
      | k_ + 4, h_ => exact absurd h_ (by simp)
    | k_ + 4, h_ => exact absurd h_ (by simp)
  rintro l_ _ a X3 h1 h2 h3 h4 hall hT
  clear BB
  clear Fg2
  clear Fgeg2
  clear Fg4
  clear Fgeg4
  clear Fg5
  clear Fgeg5
  clear FNg2g5
  clear Fgeg6
  clear FNg4g6
  clear Fgeg7
  clear FNg2g7
  clear FNg5g7
  clear Fg6s
  clear Fg7ss
  obtain ⟨BB, Fg2, Fgeg2, Fg4, Fgeg4, Fg5, Fgeg5, FNg2g5, Fgeg6, FNg4g6, Fgeg7, FNg2g7, FNg5g7, Fg6s, Fg7ss, Fg4s, Fg5s⟩ := hT
  replace Fg2 : (X3.heap[g2]? = some (.cells (zS) 35)) := Fg2
  replace Fgeg2 : (V.heap.size ≤ g2) := Fgeg2
  clear Fg4
  replace Fgeg4 : (V.heap.size ≤ g4) := Fgeg4
  clear Fg5
  replace Fgeg5 : (V.heap.size ≤ g5) := Fgeg5
  replace FNg2g5 : (g2 ≠ g5) := FNg2g5
  replace Fgeg6 : (V.heap.size ≤ g6) := Fgeg6
  replace FNg4g6 : (g4 ≠ g6) := FNg4g6
  replace Fgeg7 : (V.heap.size ≤ g7) := Fgeg7
  replace FNg2g7 : (g2 ≠ g7) := FNg2g7
  replace FNg5g7 : (g5 ≠ g7) := FNg5g7
  replace Fg6s : (X3.heap[g6]? = some (.cells (oZ 210) 42)) := Fg6s
  replace Fg7ss : (X3.heap[g7]? = some (.cells (zS) 35)) := Fg7ss
  replace Fg4s : (X3.heap[g4]? = some (.cells (oZ 210) 42)) := Fg4s (hall 2 (by decide))
  replace Fg5s : (X3.heap[g5]? = some (.cells (zS) 35)) := Fg5s (hall 3 (by decide))
  clear hall
  replace t4 := (h3 4 (by decide)).trans t4
  replace t5 := (h3 5 (by decide)).trans t5
  replace A := (⟨h1, h2.trans A.2⟩ : a.tmps.size = 19 ∧ a.defers = [])
  clear h1 h2 h3 h4
  clear t6 t7
  refine wp_ret ?_
  exact bodyPost_ret (res_cc _ _ _ _ 42 35 _ _ (0, 0) (0, 0) _ _ Tryz.results12 t4 t5 Fg4s Fg5s Tryz.underlying42 rfl (by show _ = some 11; kernel_rfl) Tryz.underlying35 rfl (by show _ = some 16; kernel_rfl)) A.2 ⟨rfl, BB⟩
set_option maxRecDepth 100000 in
set_option maxHeartbeats 4000000 in
/-- The reference's SameOutcome of two refused outcomes. -/
theorem rsameo24 (V : World) :
    Calls Tryz.prog 14 #[.agg (oZ 210), .agg (oZ 210)] V fun e w' => e = .returned (.bool true) ∧ Below V.heap.size V w' := by
  go_enter Tryz.func14, Tryz.ntmps14
  refine wo_ 40 [(0, .agg (oZ 210)), (1, .agg (oZ 210))] ?_
  rintro a A ⟨t0, t1, -⟩
  have BW : Below V.heap.size V V := Below.refl _ _
  have BB := BW
  refine wp_seq ?_
  obtain ⟨g2, egg2⟩ : ∃ z_ : Nat, V.heap.size = z_ := ⟨_, rfl⟩
  refine wi_ A (h2_ t0 t1) (rs_ 0 (fun a ee => ?_))
  refine stepV rfl rfl (execBxO rfl (ee _)) ⟨.pointer (some ⟨g2, 0, none⟩), ⟨_, rfl, by subst egg2; rfl⟩, fun X0_1 hX => ?_⟩
  have bQ : Below V.heap.size V X0_1 := by subst hX egg2; exact (belNew V _)
  have Fg2 : (X0_1.heap[g2]? = some (.cells (oZ 210) 42)) := by subst hX egg2; exact heapNew V _
  have Fgeg2 : (V.heap.size ≤ g2) := by subst hX egg2; exact (BB).size
  replace BB := BB.trans (bQ.mono BB.size)
  clear bQ hX egg2 ee a
  obtain ⟨g3, egg3⟩ : ∃ z_ : Nat, X0_1.heap.size = z_ := ⟨_, rfl⟩
  refine rs_ 1 (fun a ee => ?_)
  refine stepV rfl rfl (execBxO rfl (ee _)) ⟨.pointer (some ⟨g3, 0, none⟩), ⟨_, rfl, by subst egg3; rfl⟩, fun X0 hX => ?_⟩
  have bQ : Below X0_1.heap.size X0_1 X0 := by subst hX egg3; exact (belNew X0_1 _)
  have Fg3 : (X0.heap[g3]? = some (.cells (oZ 210) 42)) := by subst hX egg3; exact heapNew X0_1 _
  have Fgeg3 : (V.heap.size ≤ g3) := by subst hX egg3; exact (BB).size
  have FNg2g3 : (g2 ≠ g3) := by subst hX egg3; exact ne24 Fg2
  replace Fg2 := (on9 Fg2 bQ)
  replace BB := BB.trans (bQ.mono BB.size)
  clear bQ hX egg3 ee a
  refine rg_ [(2, .pointer (some ⟨g2, 0, none⟩)), (3, .pointer (some ⟨g3, 0, none⟩))] ?_
  rintro a A ⟨t2, t3, -⟩
  refine wp_seq ?_
  refine wi_ A (h2_ t2 t3) (rv_ 0 (.pointer (some ⟨g2, 0, none⟩)) (fun a ee => execFO0 rfl (ee _)) (rv_ 1 (.slice none 0 0) (fun a ee => execL1 rfl (Or.inr (Or.inr rfl)) (ee _) (row_1 Fg2 rfl)) (rv_ 2 (.string ByteArray.empty) (fun a ee => execStr0 rfl (ee _)) (rv_ 3 (.pointer (some ⟨g3, 0, none⟩)) (fun a ee => execFO0 rfl (ee _)) (rv_ 4 (.slice none 0 0) (fun a ee => execL1 rfl (Or.inr (Or.inr rfl)) (ee _) (row_1 Fg3 rfl)) (rv_ 5 (.string ByteArray.empty) (fun a ee => execStr0 rfl (ee _)) (rv_ 6 (.bool true) (fun a ee => execEqS0 rfl (ee _) (ee _)) (rv_ 8 (.pointer (some ⟨g2, 4, none⟩)) (fun a ee => execFO2 rfl (ee _)) (rv_ 9 (.agg #[.int .i64 0, .int .i64 0, .int .i64 0, .int .i64 0, .int .i64 0]) (fun a ee => execLdOR rfl (ee _) Fg2) (rv_ 10 (.pointer (some ⟨g3, 4, none⟩)) (fun a ee => execFO2 rfl (ee _)) (rv_ 11 (.agg #[.int .i64 0, .int .i64 0, .int .i64 0, .int .i64 0, .int .i64 0]) (fun a ee => execLdOR rfl (ee _) Fg3) (rv_ 12 (.bool true) (fun a ee => execEqR rfl (ee _) (ee _)) (rv_ 15 (.pointer (some ⟨g2, 9, none⟩)) (fun a ee => execFO3 rfl (ee _)) (rv_ 16 (.int .i64 210) (fun a ee => execLdEr rfl (ee _) (row_1 Fg2 rfl)) (rv_ 17 (.pointer (some ⟨g3, 9, none⟩)) (fun a ee => execFO3 rfl (ee _)) (rv_ 18 (.int .i64 210) (fun a ee => execLdEr rfl (ee _) (row_1 Fg3 rfl)) (rv_ 19 (.bool true) (fun a ee => execDec (execEqE (p := 210) (q := 210) rfl (ee _) (ee _)) (decide_eq_true rfl)) (rv_ 22 (.pointer (some ⟨g2, 10, none⟩)) (fun a ee => execFO4 rfl (ee _)) (rv_ 23 (.int .i64 0) (fun a ee => execL1 rfl (Or.inl rfl) (ee _) (row_1 Fg2 rfl)) (rv_ 24 (.pointer (some ⟨g3, 10, none⟩)) (fun a ee => execFO4 rfl (ee _)) (rv_ 25 (.int .i64 0) (fun a ee => execL1 rfl (Or.inl rfl) (ee _) (row_1 Fg3 rfl)) (rv_ 26 (.bool true) (fun a ee => execDec (exIeql3 (p := 0) (q := 0) rfl (ee _) (ee _)) (decide_eq_true rfl)) (rv_ 29 (.pointer (some ⟨g2, 1, none⟩)) (fun a ee => execFO1 rfl (ee _)) (rv_ 30 (.agg (sC 0 0 (.slice none 0 0))) (fun a ee => execLdOS rfl (ee _) Fg2) (rv_ 31 (.pointer (some ⟨g3, 1, none⟩)) (fun a ee => execFO1 rfl (ee _)) (rv_ 32 (.agg (sC 0 0 (.slice none 0 0))) (fun a ee => execLdOS rfl (ee _) Fg3) (rc_ 33 (rsames24 0 0 (.slice none 0 0) (.slice none 0 0) 0 (fun _ => 0) (fun _ => undef) (fun _ => undef) (fun _ => 0) (fun _ _ _ => 0) (fun _ _ _ => 0) X0 (wd0 X0).eps (wd0 X0).eps (by omega) (fun j hj => absurd hj (Nat.not_lt_zero j))) (cb_ fun X1 bQ => ?_))))))))))))))))))))))))))))
  replace Fg2 := (on9 Fg2 bQ)
  replace Fg3 := (on9 Fg3 bQ)
  replace BB := BB.trans (bQ.mono BB.size)
  clear bQ
  refine rg_ [(4, .bool true)] ?_
  rintro a A ⟨t4, -⟩
  refine wp_ret ?_
  refine bodyPost_ret (results_tmp rfl _ _ _) A.2 ⟨?_, BB⟩
  show Ending.returned (a.eval (.tmp 4)) = _
  rw [t4]
end Go.Proofs.YtghnhfigihnciaaGreat.Srv
