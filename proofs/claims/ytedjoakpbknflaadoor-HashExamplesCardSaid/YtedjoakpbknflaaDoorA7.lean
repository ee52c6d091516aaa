import Derived.Test.YtedjoakpbknflaaDoorA6
namespace Go.Proofs.YtedjoakpbknflaaDoor
open Go.RowKit

/-- The eight words behind what was taken in. -/
def stW (g : Nat → Int) : Nat → Int := fun i => (hW i + g i) % 4294967296
/-- grown behind one block more. -/
def wkG (g r : Nat → Int) : Nat → Int := fun i => (g i + iterR kW (sched r) (stW g) 64 i) % 4294967296

theorem heap2 (w : World) (A B : Obj) : ((w.alloc A).alloc B).heap[w.heap.size]? = some A ∧ ((w.alloc A).alloc B).heap[w.heap.size + 1]? = some B := by
  have h := heap3 w A B B 0
  refine ⟨?_, ?_⟩
  · have := Below.heap_alloc ((w.alloc A).alloc B) B w.heap.size (by simp; omega)
    rw [← this]; exact h.1
  · have := Below.heap_alloc ((w.alloc A).alloc B) B (w.heap.size + 1) (by simp)
    rw [← this]; exact h.2.1

/-- THE CLASS OF WORLDS THROUGH WHICH A QUIET REGION GOES: below B as V was. -/
def CB (B : Nat) (V w' : World) : Prop := Below B V w'
theorem wp_region_cb {P : Program} {id : Nat} {Q : Exit → Act → World → Prop} {a : Act} {w V : World} {B : Nat} {l : List Oper} (hm : P.follows .mixedOrders = true) (hB : Region.lexB .any l.toArray = true) (h0 : CB B V w)
    (h : wpQuiet P l.toArray (CB B V) (fun a' => ∀ w', CB B V w' → Q .normal a' w') l a) : (Code.region id l.toArray true).wp P Q a w :=
  wp_region_quiet (C := CB B V) hm hB ⟨h0.os, h0.tape, h0.output, h0.size, h0.block⟩ (by simpa using h)
theorem wpQuiet_load_mid {P : Program} {ops : Array Oper} {C : World → Prop} {Q : Act → Prop} {rest : List Oper} {op : Oper} {a : Act} (hgd : op.guard = none) (ty : TypeId) (x : Operand) (ho : op.op = .load ty x)
    (b o : Nat) (hx : a.eval x = .pointer (some ⟨b, o, none⟩)) (cs : Array Value) (d : TypeDesc) (hc : ∀ w, C w → w.rangeAt b o cs.toList)
    (hu : P.underlying ty = some d) (hd : d.isRow = true) (hi : (P.info? ty).map (·.size) = some cs.size)
    (h : wpQuiet P ops C Q rest (a.put op.dst (.agg cs))) : wpQuiet P ops C Q (op :: rest) a := by
  have hw : Region.wanted op (yielded ops a.tmps) = true := by simp [Region.wanted, hgd]
  unfold wpQuiet
  rw [if_pos hw]
  refine ⟨_, fun w hC => ?_, h⟩
  unfold Oper.quietAt execOp
  have e := run_loadVar_mid (P := P) w b o ty cs.toList d (hc w hC) hu hd (by simpa using hi)
  simp only [ho, hx, Instr.loadAt, Instr.sureAddr, Sem.run_bind, Sem.run_pure, Result.andThen_ok, e]
  exact ⟨rfl, rfl⟩

theorem cb_call {P : Program} {f : FuncId} {args : Array Value} {V w1 : World} {B : Nat} {v : Value} (hC : CB B V w1) (hB : B ≤ V.heap.size)
    (h : Calls P f args w1 fun e w' => e = .returned v ∧ Below w1.heap.size w1 w') : Calls P f args w1 fun e w'' => e = .returned v ∧ CB B V w'' :=
  h.mono fun _ _ ⟨he, hb⟩ => ⟨he, Below.trans hC (hb.mono (Nat.le_trans hB (Below.size hC)))⟩

theorem frozen_of_row {W : World} {b o : Nat} {c : Array Value} {t : TypeId} (h : W.heap[b]? = some (.cells c t)) : W.frozen? ⟨b, o, none⟩ = false := by simp [World.frozen?, h]
theorem there_of_row {W : World} {b o n : Nat} {c : Array Value} {t : TypeId} (h : W.heap[b]? = some (.cells c t)) (hn : o + n ≤ c.size) : W.there b o n := fun j hj =>
  ⟨by rw [cell_of_row _ _ _ _ _ _ h]; simp; omega, frozen_of_row h⟩
theorem heap_setCell_row {W : World} {b k : Nat} {c : Array Value} {t : TypeId} (v : Value) (h : W.heap[b]? = some (.cells c t)) : (W.setCell ⟨b, k, none⟩ v).heap[b]? = some (.cells (c.setIfInBounds k v) t) := by
  rw [setCell_eq_setRow W b k c t _ v h]; exact setRow_heap _ _ _ _ _ _ h
theorem index23 (f : Nat → Int) (k : Nat) (h : k < 8) (W : World) : (Instr.index 23 (.agg (tab32 8 f)) (.int .i64 (k : Int))).run Tryd.prog W = .ok (.int .u32 (f k)) W := by
  have h1 := tab32_get 8 f k h
  have h2 : (k : Int) < 8 := by omega
  simp [Instr.index, asIntOf, run_underlying Tryd.underlying23, h1, go_sem]
  intro h'
  omega
theorem gk_step (g f : Nat → Int) (k : Nat) : upd (fun i => if i < k then f i else g i) k (f k) = fun i => if i < k + 1 then f i else g i := by
  funext i
  simp only [upd]
  by_cases h : i = k
  · subst h; simp
  · by_cases h2 : i < k
    · simp [h, h2, show i < k + 1 by omega]
    · simp [h, h2, show ¬ i < k + 1 by omega]

theorem heap_setCells_other (vs : List Value) : ∀ (W : World) (b o k : Nat), k ≠ b → (W.setCells b o vs).heap[k]? = W.heap[k]? := by
  induction vs with
  | nil => intro W b o k _; rfl
  | cons v vs ih =>
    intro W b o k h
    rw [World.setCells, ih _ _ _ _ h, Below.heap_setCell _ _ _ _ (by simpa using h)]

theorem isLoad {P : Program} {ops : Array Oper} {rest : List Oper} {o : Oper} {a : Act} {w : World} {Q : Exit → Act → World → Prop} (ty : TypeId) (x : Operand) (_ : o.op = .load ty x) (h : wpList P ops Q (o :: rest) a w) : wpList P ops Q (o :: rest) a w := h
theorem isStore {P : Program} {ops : Array Oper} {rest : List Oper} {o : Oper} {a : Act} {w : World} {Q : Exit → Act → World → Prop} (ty : TypeId) (x y : Operand) (_ : o.op = .store ty x y) (h : wpList P ops Q (o :: rest) a w) : wpList P ops Q (o :: rest) a w := h

theorem built24 : (Tryd.prog.built 24 []).getD #[] = tab8 64 (fun _ => 0) := by kernel_rfl
theorem isBuilt24 : (Tryd.prog.built 24 []).isSome = true := by kernel_rfl
theorem wpList_build24 {ops : Array Oper} {rest : List Oper} {o : Oper} {a : Act} {w : World} {Q : Exit → Act → World → Prop} (hg : o.guard = none) (ho : o.op = .build 24 #[])
    (h : wpList Tryd.prog ops Q rest (a.put o.dst (.agg (tab8 64 (fun _ => 0)))) w) : wpList Tryd.prog ops Q (o :: rest) a w := by
  have e0 : ((#[] : Array (Nat × Operand)).map fun (i, x) => (i, a.eval x)).toList = [] := by simp
  refine wpList_build hg 24 #[] ho (by rw [e0]; exact isBuilt24) ?_
  rw [e0, built24]
  exact h

theorem wpList_val {P : Program} {ops : Array Oper} {rest : List Oper} {op : Oper} {a : Act} {w : World} {Q : Exit → Act → World → Prop} (hgd : op.guard = none) (v : Value) (hv : (execOp a.eval op).run P w = .ok (.value v) w)
    (h : wpList P ops Q rest (a.put op.dst v) w) : wpList P ops Q (op :: rest) a w :=
  wpList_plain hgd fun K hK => by unfold Oper.wp; rw [hv]; exact hK _ _ h

theorem after_rest {W : World} {b : Nat} {g r : Nat → Int} {n : Int} (r' : Nat → Int) (h : W.heap[b]? = some (.cells (hcells g r n) 27)) : (W.setCells b 8 (tab8 64 r').toList).heap[b]? = some (.cells (hcells g r' n) 27) := by
  have e := heap_setCells (tab8 64 r').toList W b 8 _ 27 (0, 0) h
  rw [hc_splice] at e
  exact e.1

theorem zero27 : ∀ w, (zeroValue 27).run Tryd.prog w = .ok (.agg (hcells (fun _ => 0) (fun _ => 0) 0)) w :=
  (zero_of_info (n := 73) (by kernel_rfl)).1
theorem hc_len (g r : Nat → Int) (n : Int) : (hcells g r n).toList.length = 73 := by simp [hc_size]
theorem tab8_len (f : Nat → Int) : (tab8 64 f).toList.length = 64 := by simp [tab8_size]
/-- What the block B holds. -/
theorem range_g {W : World} {B : Nat} {g r : Nat → Int} {n : Int} {t : TypeId} (h : W.heap[B]? = some (.cells (hcells g r n) t)) : W.rangeAt B 0 (hcells g r n).toList := by
  intro j v hv
  rw [cell_of_row W B (0 + j) _ t (0, 0) h, Nat.zero_add]
  simpa using hv
theorem range_r {W : World} {B : Nat} {g r : Nat → Int} {n : Int} {t : TypeId} (h : W.heap[B]? = some (.cells (hcells g r n) t)) : W.rangeAt B 8 (tab8 64 r).toList := by
  intro j v hv
  have hj : j < 64 := by have := (List.getElem?_eq_some_iff.1 hv).1; simpa [tab8_size] using this
  rw [cell_of_row W B (8 + j) _ t (0, 0) h, hc_r _ _ _ _ hj]
  have := tab8_get 64 r j hj
  rw [← this]
  simpa using hv

set_option maxRecDepth 20000 in
set_option maxHeartbeats 300000 in
theorem workedIn_any (g r : Nat → Int) (n : Int) (w : World) (hG : Glob w) (hr0 : ∀ i, 0 ≤ r i) (hr1 : ∀ i, r i < 256) :
    Calls Tryd.prog 28 #[.agg (hcells g r n)] w fun e w' => e = .returned (.agg (hcells (wkG g r) (fun _ => 0) n)) ∧ Below w.heap.size w w' := by
  have HG : Hid (_) := hG
  clear hG
  go_enter Tryd.func28, Tryd.ntmps28
  have z27 := zero27
  go_wp2
  clear z27
  obtain ⟨V, hV⟩ : ∃ V, V = (w.alloc (.cells (hcells g r n) 27)).alloc (.cells (hcells (fun _ => 0) (fun _ => 0) 0) 27) := ⟨_, rfl⟩
  rw [← hV]
  have hB := heap2 w (.cells (hcells g r n) 27) (.cells (hcells (fun _ => 0) (fun _ => 0) 0) 27)
  rw [← hV] at hB
  have hVB : Below w.heap.size w V := by rw [hV]; exact ((Below.refl _ _).alloc (Nat.le_refl _) _).alloc (by simp) _
  have hVs : V.heap.size = w.heap.size + 2 := by rw [hV]; simp
  have hVG : Glob V := HG.out.below hVB HG.out.sz
  have A1 : Hid (_) := hB
  have A2 : Hid (_) := hVB
  have A3 : Hid (_) := hVs
  have A4 : Hid (_) := hVG
  clear hV hB hVB hVs hVG
  refine wp_region_cb (V := V) (B := w.heap.size + 2) (by kernel_rfl) (by kernel_rfl) (Below.refl _ _) ?_
  refine wpQuiet_load_mid rfl 27 _ rfl _ _ rfl (hcells g r n) _ (fun w1 hC => range_g (by rw [Below.block hC _ (by omega)]; exact A1.out.1)) Tryd.underlying27 rfl (size27' _ _ _) ?_
  simp only [Act.put, List.setIfInBounds_toArray, List.set_cons_succ, List.set_cons_zero]
  quiet_step ((intro hC; exact cb_call hC (Nat.le_of_eq A3.out.symm) (state_any (hcells g r n) g hW _ (A4.out.below hC (by omega)).sz (A4.out.below hC (by omega)).h (hc_g g r n))))
  quiet_step ((intro _; rfl))
  refine wpQuiet_load_mid rfl 24 _ rfl w.heap.size 8 (by first | rfl | simp [Act.eval]) (tab8 64 r) _ (fun w1 hC => range_r (by rw [Below.block hC _ (by omega)]; exact A1.out.1)) Tryd.underlying24 rfl (size24' _) ?_
  simp only [Act.put, List.setIfInBounds_toArray, List.set_cons_succ, List.set_cons_zero]
  quiet_step ((intro hC; exact cb_call hC (Nat.le_of_eq A3.out.symm) (stirred_any _ (stW g) r kW _ (A4.out.below hC (by omega)).sz hr0 hr1 (A4.out.below hC (by omega)).k (tab32_get 8 _))))
  quiet_step ((intro _; rfl))
  refine wpQuiet_nil ?_
  intro w1 hw1
  have b1 : w1.heap[w.heap.size]? = some (.cells (hcells g r n) 27) := by rw [Below.block hw1 _ (by omega)]; exact A1.out.1
  have b2 : w1.heap[w.heap.size + 1]? = some (.cells (hcells (fun _ => 0) (fun _ => 0) 0) 27) := by rw [Below.block hw1 _ (by omega)]; exact A1.out.2
  have b3 : Below w.heap.size w w1 := A2.out.trans (Below.mono hw1 (by omega))
  have C1 : Hid (_) := b1
  have C2 : Hid (_) := b2
  have C3 : Hid (_) := b3
  clear b1 b2 b3 hw1 A1 A2 A3 A4 HG hr0 hr1
  go_wp2
  go_loopw [10] (fun i W => ∃ k : Nat, k ≤ 8 ∧ i = .int .i64 k ∧ W.heap[w.heap.size]? = some (.cells (hcells (fun i => if i < k then wkG g r i else g i) r n) 27) ∧ W.heap[w.heap.size + 1]? = some (.cells (hcells (fun _ => 0) (fun _ => 0) 0) 27) ∧ Below w.heap.size w W) (fun i _ => 8 - (intOf i).toNat)
  case atStart => exact ⟨0, by omega, rfl, by simpa using C1.out, C2.out, C3.out⟩
  case round =>
    obtain ⟨k, hk, rfl, h1, h2, h3⟩ := hrel
    have D1 : Hid (_) := h1
    have D2 : Hid (_) := h2
    have D3 : Hid (_) := h3
    clear h1 h2 h3 C1 C2 C3
    by_cases hlt : k < 8
    · have q1 : wr.cell? ⟨w.heap.size, k, none⟩ = some (.int .u32 (g k)) := by
        rw [cell_of_row _ _ _ _ _ _ D1.out, hc_g _ _ _ _ hlt]; simp
      have q2 : wr.frozen? ⟨w.heap.size, k, none⟩ = false := frozen_of_row D1.out
      have q3 := index23 (iterR kW (sched r) (stW g) 64) k hlt
      have q4 : (k : Int) < 8 := by omega
      go_wp2
      go_roundw
      case rel =>
        refine ⟨k + 1, by omega, by go_num, ?_, ?_, ?_⟩
        · rw [heap_setCell_row _ D1.out, hc_set_g _ _ _ _ _ hlt]
          exact congrArg (fun f => some (Obj.cells (hcells f r n) 27)) (gk_step g (wkG g r) k)
        · rw [Below.heap_setCell _ _ _ _ (by simp)]; exact D2.out
        · exact D3.out.setCell (by simp) _
      case measure => simp [intOf]; omega
    · have hk8 : k = 8 := by omega
      have HK : Hid (k = 8) := hk8
      clear hk8
      go_wp2_with (first
        | (refine wpList_build24 rfl rfl ?_; simp only [Act.put, List.setIfInBounds_toArray, List.set_cons_succ, List.set_cons_zero])
        | (refine isStore 24 (.tmp 24) (.tmp 23) rfl ?_; refine wpList_store_mid rfl 24 (.tmp 24) (.tmp 23) rfl w.heap.size 8 (tab8 64 (fun _ => 0)) rfl rfl (there_of_row D1.out (by rw [hc_size, tab8_size]; omega)) (size24' _) (tab8_one _ _) ?_; simp only [Act.put])
        | (refine isLoad 27 (.tmp 1) rfl ?_; refine wpList_load_row rfl 27 (.tmp 1) rfl w.heap.size rfl 27 _ (0, 0) _ (after_rest _ D1.out) Tryd.underlying27 rfl (size27' _ _ _) ?_; simp only [Act.put, List.setIfInBounds_toArray, List.set_cons_succ, List.set_cons_zero])
        | (refine isStore 27 (.tmp 2) (.tmp 25) rfl ?_; refine wpList_store_row rfl 27 (.tmp 2) (.tmp 25) rfl (w.heap.size + 1) _ rfl rfl 27 _ (by rw [heap_setCells_other _ _ _ _ _ (by omega)]; exact D2.out) (size27' _ _ _) (by simp only [hc_size]) (hc_one _ _ _) ?_))
      have e1 := heap_setCells (tab8 64 (fun _ => 0)).toList wr w.heap.size 8 _ 27 (0, 0) D1.out
      have e2 : (wr.setCells w.heap.size 8 (tab8 64 (fun _ => 0)).toList).heap[w.heap.size + 1]? = some (.cells (hcells (fun _ => 0) (fun _ => 0) 0) 27) := by rw [heap_setCells_other _ _ _ _ _ (by omega)]; exact D2.out
      refine bodyPost_ret (v := .agg (hcells (fun i => if i < k then wkG g r i else g i) (fun _ => 0) n)) (results_cell_row Tryd.results28 _ _ (w.heap.size + 1) 27 _ (0, 0) _ rfl (setRow_heap _ _ _ _ _ _ e2) Tryd.underlying27 rfl (size27' _ _ _)) rfl ⟨?_, ?_⟩
      · refine congrArg (fun c => Ending.returned (Value.agg c)) ?_
        refine hc_ext (hc_size _ _ _) ?_ (hc_r _ _ _) (hc_n _ _ _)
        intro i hi
        rw [hc_g _ _ _ i hi, HK.out]
        simp [hi]
      · exact below_setRow (D3.out.trans e1.2.1) (by omega) _
end Go.Proofs.YtedjoakpbknflaaDoor
