import Derived.Test.YtmjpneaccjlpkaaF9c
import Derived.Test.YtmjpneaccjlpkaaF9b
import Derived.Test.YtmjpneaccjlpkaaF9a
import Derived.Test.YtmjpneaccjlpkaaX9h
import Derived.Test.YtmjpneaccjlpkaaQ9x
namespace Go.Proofs.Ytmjpneaccjlpkaa.Rif
open Go.RowKit Gf8 Aes By8 Cel Cf Tap Drw Prm Brd
/- Stage 13's RiffleAlone. Written by tools/mkX9m.py. -/
def otC (pv : Value) (nz : Nat → Nat) (lv : Value) (ch : Int) : Array Value := #[pv] ++ (bytesL 18 nz).toArray ++ #[lv, .int .i64 ch]
def pN (L : Nat) (nz p : Nat → Nat) (j : Nat) : Nat := if j < min L 18 then nz j else p j
theorem pN_hi {L : Nat} {nz p : Nat → Nat} {x : Nat} (h : 18 ≤ x) : pN L nz p x = p x := if_neg (by omega)
theorem pN_byte {L : Nat} {nz p : Nat → Nat} (hnz : ∀ j, j < 18 → nz j < 256) (hp : ∀ j, j < L → p j < 256) : ∀ j, j < L → pN L nz p j < 256 := fun j hj => by
 unfold pN
 by_cases h : j < min L 18
 ·rw [if_pos h]; exact hnz j (by omega)
 ·rw [if_neg h]; exact hp j hj
section
variable {W : World} {g : Nat} {pv lv : Value} {nz : Nat → Nat} {ch : Int} {t : TypeId}
theorem ot_0 (h : W.heap[g]? = some (.cells (otC pv nz lv ch) t)) : W.cell? ⟨g, 0, none⟩ = some pv := by rw [cell_of_row _ _ _ _ _ _ h]; simp [otC]
theorem ot_19 (h : W.heap[g]? = some (.cells (otC pv nz lv ch) t)) : W.cell? ⟨g, 19, none⟩ = some lv := by
 rw [cell_of_row _ _ _ _ _ _ h]
 unfold otC
 rw [Array.getElem?_append_right (by simp [bytesL_len])]
 simp [bytesL_len]
theorem ot_20 (h : W.heap[g]? = some (.cells (otC pv nz lv ch) t)) : W.cell? ⟨g, 20, none⟩ = some (.int .i64 ch) := by
 rw [cell_of_row _ _ _ _ _ _ h]
 unfold otC
 rw [Array.getElem?_append_right (by simp [bytesL_len])]
 simp [bytesL_len]
theorem ot_range (h : W.heap[g]? = some (.cells (otC pv nz lv ch) t)) : W.rangeAt g 1 (bytesL 18 nz) := fun j v hj => by
 have hl : j < 18 := by have := (List.getElem?_eq_some_iff.1 hj).1; rw [bytesL_len] at this; exact this
 rw [cell_of_row _ _ _ _ _ _ h]
 unfold otC
 rw [Array.getElem?_append_left (by simp [bytesL_len]; omega), Array.getElem?_append_right (by simp)]
 simp only [List.size_toArray, List.length_cons, List.length_nil, Nat.zero_add, Nat.add_sub_cancel_left, List.getElem?_toArray]
 exact hj
end
theorem sl18 (b : Nat) (W : World) : (Instr.sliceAt 46 (.pointer (some ⟨b, 0, none⟩)) none none none).run Try.prog W = .ok (.slice (some ⟨b, 0, none⟩) 18 18) W := by
 simp [go_sem]
theorem sl18N {W : World} {g : Nat} {f : Nat → Nat} {t : TypeId} (h : W.heap[g]? = some (.cells (bytesL 18 f).toArray t)) (hf : ∀ j, j < 18 → f j < 256) : SliceN W (.slice (some ⟨g, 0, none⟩) 18 18) 18 f := by
 refine ⟨⟨_, _, rfl, Nat.le_refl _, by omega, fun _ => ⟨g, 0, rfl, (Array.getElem?_eq_some_iff.1 h).1, fun j hj => ?_⟩⟩, hf⟩
 rw [cell_of_row _ _ _ _ _ _ h, Nat.zero_add, List.getElem?_toArray, bytesL_at 18 f hj]
theorem zero18 : ∀ w, (zeroValue 46).run Try.prog w = .ok (.agg (bA 18 fun _ => 0)) w :=
 (zero_of_info (n := 18) (by kernel_rfl)).1
section
variable {o : Oper} {a : Act} {w : World}
theorem execBoxOt {x : Operand} {pv lv : Value} {nz : Nat → Nat} {ch : Int} (ho : o.op = .box 48 x) (hx : a.eval x = .agg (otC pv nz lv ch)) : (execOp a.eval o).run Try.prog w = .ok (.value (.pointer (some ⟨w.heap.size, 0, none⟩))) (w.alloc (.cells (otC pv nz lv ch) 48)) := by
 unfold execOp
 simp only [ho, hx]
 simp [go_sem]
theorem execFldOt0 {x : Operand} {b : Nat} (ho : o.op = .fieldAddr 48 x 0) (hx : a.eval x = .pointer (some ⟨b, 0, none⟩)) : (execOp a.eval o).run Try.prog w = .ok (.value (.pointer (some ⟨b, 0, none⟩))) w := by
 unfold execOp
 simp only [ho, hx]
 simp [go_sem]
theorem execFldOt1 {x : Operand} {b : Nat} (ho : o.op = .fieldAddr 48 x 1) (hx : a.eval x = .pointer (some ⟨b, 0, none⟩)) : (execOp a.eval o).run Try.prog w = .ok (.value (.pointer (some ⟨b, 1, none⟩))) w := by
 unfold execOp
 simp only [ho, hx]
 simp [go_sem]
theorem execFldOt2 {x : Operand} {b : Nat} (ho : o.op = .fieldAddr 48 x 2) (hx : a.eval x = .pointer (some ⟨b, 0, none⟩)) : (execOp a.eval o).run Try.prog w = .ok (.value (.pointer (some ⟨b, 19, none⟩))) w := by
 unfold execOp
 simp only [ho, hx]
 simp [go_sem]
theorem execFldOt3 {x : Operand} {b : Nat} (ho : o.op = .fieldAddr 48 x 3) (hx : a.eval x = .pointer (some ⟨b, 0, none⟩)) : (execOp a.eval o).run Try.prog w = .ok (.value (.pointer (some ⟨b, 20, none⟩))) w := by
 unfold execOp
 simp only [ho, hx]
 simp [go_sem]
theorem execLd18 {x : Operand} {g : Nat} {pv lv : Value} {nz : Nat → Nat} {ch : Int} {t : TypeId} (ho : o.op = .load 46 x) (hx : a.eval x = .pointer (some ⟨g, 1, none⟩)) (hg : w.heap[g]? = some (.cells (otC pv nz lv ch) t)) : (execOp a.eval o).run Try.prog w = .ok (.value (.agg (bytesL 18 nz).toArray)) w :=
 execLoadMid ho hx (ot_range hg) Try.underlying46 rfl (by rw [bytesL_len]; kernel_rfl)
theorem execAll18 (ho : o.op = .alloc 46) : (execOp a.eval o).run Try.prog w = .ok (.value (.pointer (some ⟨w.heap.size, 0, none⟩))) (w.alloc (.cells (bA 18 fun _ => 0) 46)) := by
 have h := zero18
 unfold execOp
 simp only [ho]
 simp [go_sem, h]
theorem execSt18 {x y : Operand} {g : Nat} {nz : Nat → Nat} {t : TypeId} (ho : o.op = .store 46 x y) (hx : a.eval x = .pointer (some ⟨g, 0, none⟩)) (hy : a.eval y = .agg (bytesL 18 nz).toArray) (hg : w.heap[g]? = some (.cells (bA 18 fun _ => 0) t)) : (execOp a.eval o).run Try.prog w = .ok .skip (w.setRow g (bytesL 18 nz).toArray) := by
 have hl : (bytesL 18 nz).toArray.size = 18 := by simp [bytesL_len]
 have h := execStMid (P := Try.prog) (a := a) (w := w) ho hx hy hg (by rw [hl, bA_size]; omega) (by rw [hl]; kernel_rfl) (by
  rw [Array.all_eq_true_iff_forall_mem]
  intro v hv
  have hv2 : v ∈ bytesL 18 nz := by simpa using hv
  obtain ⟨i, hi⟩ := List.getElem?_of_mem hv2
  have hl2 : i < 18 := by have := (List.getElem?_eq_some_iff.1 hi).1; rw [bytesL_len] at this; exact this
  rw [bytesL_at 18 nz hl2] at hi
  injection hi with hi
  subst hi
  rfl)
 rw [h]
 congr 2
end
theorem stepCopy18 {ops : Array Oper} {Q : Exit → Act → World → Prop} {K : Act → World → Prop} {j0 : Nat} {o : Oper} {a : Act} {w : World} {x y : Operand} {B L c n4 : Nat} {v : Value} {qa : Option Addr} {nz p : Nat → Nat} (hos : ops[j0]? = some o) (hgd : Region.wanted o (yielded ops a.tmps) = true) (ho : o.op = .call { callee := .builtin .copy, args := #[x, y], argTypes := #[23, 23] })
  (hx : a.eval x = sliced qa 0 (min L 18) c 1) (hy : a.eval y = .slice (some ⟨n4, 0, none⟩) 18 18) (ev : v = .slice qa L c) (own : w.ownsRow B 5 1 v L (bytesL L p)) (hn : SliceN w (.slice (some ⟨n4, 0, none⟩) 18 18) 18 nz)
  (hK : ∀ W', W'.ownsRow B 5 1 v L (bytesL L (pN L nz p)) → w.grownBy W' v.ownBlock → K (a.put o.dst (.int .i64 ((min L 18 : Nat) : Int))) W') : wpOp Try.prog ops Q j0 K a w := by
 subst ev
 have hcell : ∀ j, j < 18 → w.cell? ⟨n4, j, none⟩ = some (.int .u8 (nz j : Nat)) := fun j hj => by
  obtain ⟨_, _, e, _, _, h3⟩ := hn.shape
  injection e with e1 _ _
  subst e1
  obtain ⟨b, off, e2, _, h5⟩ := h3 (by omega)
  injection e2 with e2
  injection e2 with e3 e4 _
  have h6 := h5 j hj
  rw [← e3, ← e4, Nat.zero_add] at h6
  exact h6
 rcases own.2 with ⟨e, e0⟩ | ⟨g, cap', cur, e, hB, hg, h1, h2, h3, h4⟩
 ·injection e with e1 e2 e3
  subst e1 e2 e3
  have hs : sliced none 0 (min 0 18) 0 1 = .slice none 0 0 := rfl
  rw [hs] at hx
  have hrun := run_copy_none (P := Try.prog) w 23 23 o.type 5 none (some ⟨n4, 0, none⟩) 0 0 18 18 Try.underlying23 (by kernel_rfl) rfl
  refine stepV hos hgd (v := .int .i64 ((min 0 18 : Nat) : Int)) (w' := w) ?_ (hK w own ⟨rfl, rfl, rfl, Nat.le_refl _, fun _ _ _ => rfl⟩)
  unfold execOp
  simp only [ho, resolve, invoke, builtin, Sem.run_bind, Sem.run_pure, Result.andThen_ok, List.map_toArray, List.map_cons, List.map_nil, hx, hy, hrun]
  rfl
 ·injection e with e1 e2 e3
  subst e1 e3
  have hs : sliced (some ⟨g, 0, none⟩) 0 (min L 18) c 1 = .slice (some ⟨g, 0, none⟩) (min L 18) c := by
   unfold sliced
   split <;> simp [Addr.add_mid]
  rw [hs] at hx
  have hl : (bytesL (min L 18) nz).length = min L 18 := bytesL_len _ _
  have hc : c = cur.size := by omega
  have h1v : ∀ v ∈ bytesL (min L 18) nz, v.oneCell' = true := fun v hv => by
   obtain ⟨i, hi⟩ := List.getElem?_of_mem hv
   have hl2 : i < min L 18 := by have := (List.getElem?_eq_some_iff.1 hi).1; rw [bytesL_len] at this; exact this
   rw [bytesL_at _ nz hl2] at hi
   injection hi with hi
   subst hi
   rfl
  have hrun := run_copy_row Try.prog w 23 23 o.type 5 g 0 (min L 18) c ⟨n4, 0, none⟩ 18 18 cur 5 (bytesL (min L 18) nz) Try.underlying23 (by kernel_rfl) hg (by rw [hl]; show min L 18 = Nat.min 18 (min L 18); exact (Nat.min_eq_right (by omega)).symm) (fun j v hv => by
   have hj : j < min L 18 := by have := (List.getElem?_eq_some_iff.1 hv).1; rw [bytesL_len] at this; exact this
   rw [bytesL_at _ nz hj] at hv
   rw [Go.WideShapes.add_plain, Nat.zero_add, hcell j (by omega)]
   exact hv) (by rw [hl]; omega) h1v
  refine stepV hos hgd (v := .int .i64 ((min L 18 : Nat) : Int)) (w' := w.setRow g (cur.toList.take 0 ++ bytesL (min L 18) nz ++ cur.toList.drop (0 + (bytesL (min L 18) nz).length)).toArray) ?_ (hK _ ?_ ?_)
  ·unfold execOp
   simp only [ho, resolve, invoke, builtin, Sem.run_bind, Sem.run_pure, Result.andThen_ok, List.map_toArray, List.map_cons, List.map_nil, hx, hy, hrun, hl]
   rfl
  ·refine ⟨by rw [bytesL_len, Nat.mul_one], Or.inr ⟨g, c, _, rfl, hB, setRow_heap _ _ _ _ _ _ hg, h1, h2, ?_, ?_⟩⟩
   ·simp [hl]
    omega
   ·apply List.ext_getElem?
    intro j
    by_cases hj : j < L
    ·rw [bytesL_at L _ hj, List.getElem?_take_of_lt (by omega), hl, Nat.zero_add]
     simp only [List.take_zero, List.nil_append]
     unfold pN
     by_cases q : j < min L 18
     ·rw [List.getElem?_append_left (by omega), bytesL_at _ nz q, if_pos q]
     ·rw [List.getElem?_append_right (by omega), hl, List.getElem?_drop, show min L 18 + (j - min L 18) = j by omega, if_neg q]
      have h5 : (cur.toList.take (L * 1))[j]? = (bytesL L p)[j]? := by rw [h4]
      rw [List.getElem?_take_of_lt (by omega), bytesL_at L p hj] at h5
      exact h5
    ·rw [List.getElem?_eq_none (by rw [List.length_take]; omega), List.getElem?_eq_none (by rw [bytesL_len]; omega)]
  ·exact ⟨rfl, rfl, rfl, by simp [World.setRow], fun k _ hk => setRow_other w g k _ (fun e => hk (by rw [e]; rfl))⟩
set_option maxRecDepth 100000 in
set_option maxHeartbeats 4000000 in
theorem alone13 (p nz : Nat → Nat) (L m : Nat) (ch : Int) (lf : Nat → Int) (pv lv : Value) (V : World) (FP : SliceN V pv L p) (hl : L ≤ 140737488351232) (hz : ∀ l c, pv = .slice none l c → c = 0) (hnz : ∀ j, j < 18 → nz j < 256) (FI : SliceI V lv m lf) (hm17 : m ≤ 17592186043904) :
  Calls Try.prog 7 #[.agg (otC pv nz lv ch)] V fun e w' => e = .returned (.bool true) ∧ Below V.heap.size V w' := by
 go_enter Try.func7, Try.ntmps7
 refine wp_open (fun a => (a.tmps.size = 119 ∧ a.defers = []) ∧ a.eval (.tmp 0) = .agg (otC pv nz lv ch)) ⟨⟨rfl, rfl⟩, rfl⟩ ?_
 rintro a ⟨A, t0⟩
 have BW : Below V.heap.size V V := Below.refl _ _
 refine wp_seq ?_
 obtain ⟨gq, eggq⟩ : ∃ z_ : Nat, V.heap.size = z_ := ⟨_, rfl⟩
 refine wi_ A (h1_ t0) (rs_ 0 (fun a e => ?_))
 refine stepV rfl rfl (execBoxOt rfl (e _)) ⟨.pointer (some ⟨gq, 0, none⟩), ⟨_, rfl, by subst eggq; rfl⟩, fun X0 hX => ?_⟩
 have bQ : Below V.heap.size V X0 := by subst hX eggq; exact (belNew V _)
 have FQ : (X0.heap[gq]? = some (.cells (otC pv nz lv ch) 48)) := by subst hX eggq; exact heapNew V _
 have bX := bQ
 clear bQ hX eggq e a
 refine rg_ [(1, .pointer (some ⟨gq, 0, none⟩))] ?_
 rintro a A ⟨t1, -⟩
 replace FP := (FP.on bX)
 replace FI := (FI.on bX)
 have ZX0 := bX.size
 replace BW := BW.trans (bX.mono BW.size)
 clear bX
 refine wp_seq (wp_seq ?_)
 refine wi_ A (h1_ t1) (rc_ 0 (alive13 X0) (cb_ fun X1 bQ => ?_))
 have bX := bQ
 clear bQ
 refine rv_ 1 (.bool false) (fun a e => execNot8 (b := true) rfl (e _)) (rf_ [(16, .bool false)] (h1_ t1) ?_)
 rintro a A ⟨t16, -⟩ ⟨t1, -⟩
 replace FP := (FP.on bX)
 replace FI := (FI.on bX)
 replace FQ := (on9 FQ bX)
 have ZX1 := bX.size
 replace BW := BW.trans (bX.mono BW.size)
 clear bX
 refine wp_cond_false t16 (wp_skip ?_)
 clear t16
 refine wp_seq ?_
 refine wj_ [0, 1, 2, 3, 4, 5, 6, 7, 8, 9, 10, 11, 12] [8, 10] [1, 3, 5, 7] [] A (h1_ t1) (fun X3_0 bD => ?_)
 obtain ⟨g4, egg4⟩ : ∃ z_ : Nat, X3_0.heap.size = z_ := ⟨_, rfl⟩
 refine dw_ 0 (.pointer (some ⟨gq, 0, none⟩)) (fun a X e => execFldOt0 rfl (e _)) (dv_ 1 (pv) (fun a X e hb => execLdL rfl (e _) (ot_0 (on9 FQ hb))) (dw_ 2 (.pointer (some ⟨gq, 1, none⟩)) (fun a X e => execFldOt1 rfl (e _)) (dv_ 3 (.agg (bytesL 18 nz).toArray) (fun a X e hb => execLd18 rfl (e _) (on9 FQ hb)) (dw_ 4 (.pointer (some ⟨gq, 19, none⟩)) (fun a X e => execFldOt2 rfl (e _)) (dv_ 5 (lv) (fun a X e hb => execLdLI (v := lv) rfl (e _) (ot_19 (on9 FQ hb))) (dw_ 6 (.pointer (some ⟨gq, 20, none⟩)) (fun a X e => execFldOt3 rfl (e _)) (dv_ 7 (.int .i64 ch) (fun a X e hb => execLd3 rfl (e _) (ot_20 (on9 FQ hb))) (ds_ 8 (fun a e => ?_)))))))))
 refine stepV rfl rfl (execAll18 rfl) ⟨.pointer (some ⟨g4, 0, none⟩), ⟨_, rfl, by subst egg4; rfl⟩, fun X3_1 hX => ?_⟩
 have bQ : Below X3_0.heap.size X3_0 X3_1 := by subst hX egg4; exact (belNew X3_0 _)
 have FZ : (X3_1.heap[g4]? = some (.cells (bA 18 fun _ => 0) 46)) := by subst hX egg4; exact heapNew X3_0 _
 have Fg : (X1.heap.size ≤ g4) := by subst hX egg4; exact (bD).size
 replace bD := bD.trans (bQ.mono bD.size)
 clear bQ hX egg4 e a
 refine ⟨Or.inr bD, ?_⟩
 refine ds_ 10 (fun a e => ?_)
 refine stepS rfl rfl (execSt18 rfl (e _) (e _) FZ) ⟨_, ⟨_, rfl, rfl⟩, fun X3 hX => ?_⟩
 obtain ⟨bD, FA⟩ : Below X1.heap.size X1 X3 ∧ (X3.heap[g4]? = some (.cells (bytesL 18 nz).toArray 46)) := by subst hX; exact ⟨below4 bD Fg _, setRow_heap _ _ _ _ _ _ FZ⟩
 clear FZ hX e a
 refine ⟨Or.inr bD, ?_⟩
 refine dy_ [(3, pv), (4, .pointer (some ⟨g4, 0, none⟩)), (5, lv), (6, .int .i64 ch)] ?_
 rintro a A ⟨t3, t4, t5, t6, -⟩
 replace FP := (FP.on bD)
 replace FI := (FI.on bD)
 replace FQ := (on9 FQ bD)
 have ZX3 := bD.size
 replace BW := BW.trans (bD.mono BW.size)
 clear bD
 have FN : SliceN X3 (.slice (some ⟨g4, 0, none⟩) 18 18) 18 nz := sl18N FA hnz
 clear FA FQ
 refine wp_seq ?_
 refine wi_ A (h4_ t3 t4 t5 t6) (rv_ 2 (.int .i64 ((m : Nat) : Int)) (fun a e => execLenI (len := m) rfl (e _) (FI).shp) (rc_ 4 (porder p L ((m : Nat) : Int) ch _ X3 FP (by omega)) fun e X4 hh => ?_))
 obtain ⟨v30, he, hk, hb⟩ := hh
 refine ⟨_, he, ?_⟩
 have bQ : Below X3.heap.size X3 X4 := hb
 have Fv30 : (SliceI X4 v30 (zl (riE L ((m : Nat) : Int) ch p) (((m : Nat) : Int)).toNat) (orF L ((m : Nat) : Int) ch p)) := own_ints hk or_fits
 have bX := bQ
 clear bQ
 refine rf_ [(7, v30), (8, .int .i64 ((riE L ((m : Nat) : Int) ch p : Nat) : Int))] (h4_ t3 t4 t5 t6) ?_
 rintro a A ⟨t7, t8, -⟩ ⟨t3, t4, t5, t6, -⟩
 replace FP := (FP.on bX)
 replace FI := (FI.on bX)
 replace FN := (FN.on bX)
 have ZX4 := bX.size
 replace BW := BW.trans (bX.mono BW.size)
 clear bX
 refine wp_seq ?_
 refine wi_ A (h6_ t3 t4 t5 t6 t7 t8) (rc_ 3 (pshuffleI p L m ch lf _ _ X4 FP (by omega) FI) fun e X5 hh => ?_)
 obtain ⟨v37, he, hk, hb⟩ := hh
 refine ⟨_, he, ?_⟩
 have bQ : Below X4.heap.size X4 X5 := hb
 have Fv37 : (SliceI X5 v37 (zl (riE L ((m : Nat) : Int) ch p) m) (fun i => lf (orF L ((m : Nat) : Int) ch p i).toNat)) := own_ints hk (shf_fits (FI).fits)
 have bX := bQ
 clear bQ
 refine rf_ [(9, v37), (10, .int .i64 ((riE L ((m : Nat) : Int) ch p : Nat) : Int))] (h6_ t3 t4 t5 t6 t7 t8) ?_
 rintro a A ⟨t9, t10, -⟩ ⟨t3, t4, t5, t6, t7, t8, -⟩
 replace FP := (FP.on bX)
 replace FI := (FI.on bX)
 replace FN := (FN.on bX)
 replace Fv30 := (Fv30.on bX)
 have ZX5 := bX.size
 replace BW := BW.trans (bX.mono BW.size)
 clear bX
 replace Fv30 : SliceI X5 v30 (zl (riE L ((m : Nat) : Int) ch p) m) (orF L ((m : Nat) : Int) ch p) := (by have h_ := Fv30; exact h_)
 refine wp_seq (wp_seq ?_)
 refine wi_ A (h8_ t3 t4 t5 t6 t7 t8 t9 t10) (rv_ 2 (.bool false) (fun a e => execDec (execNeE (p := riE L ((m : Nat) : Int) ch p) (q := riE L ((m : Nat) : Int) ch p) rfl (e _) (e _)) (decide_eq_false (by omega))) (rv_ 5 (.int .i64 ((zl (riE L ((m : Nat) : Int) ch p) m : Nat) : Int)) (fun a e => execLenI (len := zl (riE L ((m : Nat) : Int) ch p) m) rfl (e _) (Fv37).shp) (rv_ 7 (.int .i64 ((zl (riE L ((m : Nat) : Int) ch p) m : Nat) : Int)) (fun a e => execLenI (len := zl (riE L ((m : Nat) : Int) ch p) m) rfl (e _) (Fv30).shp) (rv_ 8 (.bool false) (fun a e => execDec (execNeN (p := zl (riE L ((m : Nat) : Int) ch p) m) (q := zl (riE L ((m : Nat) : Int) ch p) m) rfl (e _) (e _)) (decide_eq_false (by omega))) (rf_ [(49, .bool false)] (h7_ t3 t4 t5 t6 t7 t8 t9) ?_)))))
 rintro a A ⟨t49, -⟩ ⟨t3, t4, t5, t6, t7, t8, t9, -⟩
 refine wp_cond_false t49 (wp_skip ?_)
 clear t49
 refine wp_seq (wp_seq ?_)
 by_cases hE : riE L ((m : Nat) : Int) ch p = 0
 ·have hm256 : m ≤ 256 := (ri_ok hE).le
  refine wi_ A (h7_ t3 t4 t5 t6 t7 t8 t9) (rv_ 1 (.bool true) (fun a e => execDec (execEqE (p := riE L ((m : Nat) : Int) ch p) (q := 0) rfl (e _) rfl) (decide_eq_true (by omega))) (rv_ 4 (.int .i64 ((zl (riE L ((m : Nat) : Int) ch p) m : Nat) : Int)) (fun a e => execLenI (len := zl (riE L ((m : Nat) : Int) ch p) m) rfl (e _) (Fv30).shp) (rv_ 6 (.int .i64 ((m : Nat) : Int)) (fun a e => execLenI (len := m) rfl (e _) (FI).shp) (rv_ 7 (.bool false) (fun a e => execDec (execNeN (p := zl (riE L ((m : Nat) : Int) ch p) m) (q := m) rfl (e _) (e _)) (decide_eq_false (by rw [hE, zl_ok]; omega))) (rf_ [(58, .bool false)] (h7_ t3 t4 t5 t6 t7 t8 t9) ?_)))))
  rintro a A ⟨t58, -⟩ ⟨t3, t4, t5, t6, t7, t8, t9, -⟩
  refine wp_cond_false t58 (wp_skip ?_)
  clear t58
  replace Fv30 : SliceI X5 v30 (m) (orF L ((m : Nat) : Int) ch p) := (by have h_ := Fv30; rw [hE, zl_ok] at h_; exact h_)
  replace Fv37 : SliceI X5 v37 (m) (fun i => lf (orF L ((m : Nat) : Int) ch p i).toNat) := (by have h_ := Fv37; rw [hE, zl_ok] at h_; exact h_)
  have hft := ri_ok hE
  refine wp_seq (wp_seq ?_)
  refine wi_ A (h7_ t3 t4 t5 t6 t7 t8 t9) (rf_ [(11, .int .i64 ((0 : Nat) : Int))] (h7_ t3 t4 t5 t6 t7 t8 t9) ?_)
  rintro a A ⟨t11, -⟩ ⟨t3, t4, t5, t6, t7, t8, t9, -⟩
  have BB : Below X5.heap.size X5 X5 := Below.refl _ _
  refine wp_block ?_
  refine wp_loop (fun a W => ∃ (i : Nat), i ≤ m ∧ (a.tmps.size = 119 ∧ a.defers = []) ∧ a.eval (.tmp 3) = pv ∧ a.eval (.tmp 4) = .pointer (some ⟨g4, 0, none⟩) ∧ a.eval (.tmp 5) = lv ∧ a.eval (.tmp 6) = .int .i64 ch ∧ a.eval (.tmp 7) = v30 ∧ a.eval (.tmp 8) = .int .i64 ((riE L ((m : Nat) : Int) ch p : Nat) : Int) ∧ a.eval (.tmp 9) = v37 ∧ a.eval (.tmp 11) = .int .i64 ((i : Nat) : Int) ∧ Below X5.heap.size X5 W) (fun a _ => m - (intOf (a.eval (.tmp 11))).toNat) ⟨0, Nat.zero_le _, A, t3, t4, t5, t6, t7, t8, t9, t11, BB⟩ ?_
  rintro a XL11 ⟨i, hi, A, t3, t4, t5, t6, t7, t8, t9, t11, BB⟩
  have esi := t11
  refine wp_seq (wp_seq ?_)
  refine wi_ A (h8_ t3 t4 t5 t6 t7 t8 t9 t11) (rv_ 2 (.int .i64 ((m : Nat) : Int)) (fun a e => execLenI (len := m) rfl (e _) ((Fv30.on BB)).shp) (rv_ 3 (.bool (decide (i < m))) (fun a e => execLtW (p := i) (q := m) rfl (e _) (e _)) (rf_ [(62, .bool (decide (i < m)))] (h8_ t3 t4 t5 t6 t7 t8 t9 t11) ?_)))
  rintro a A ⟨t62, -⟩ ⟨t3, t4, t5, t6, t7, t8, t9, t11, -⟩
  by_cases lti : i < m
  ·rw [decide_eq_true lti] at t62
   refine wp_cond_true t62 (wp_skip ?_)
   clear t62
   refine wp_seq (wp_block ?_)
   obtain ⟨oob, ooo, ooc, eoo, hoob, hooc⟩ := open_sl Fv30 (by omega)
   have coo : ∀ k, k < m → ∀ X, Below X5.heap.size X5 X → X.cell? ⟨oob, ooo + k, none⟩ = some (.int .i64 ((orF L ((m : Nat) : Int) ch p) k)) := fun k hk X hX => by rw [cell_below hX hoob]; exact hooc k hk
   obtain ⟨llb, llo, llc, ell, hllb, hllc⟩ := open_sl Fv37 (by omega)
   have cll : ∀ k, k < m → ∀ X, Below X5.heap.size X5 X → X.cell? ⟨llb, llo + k, none⟩ = some (.int .i64 ((fun i => lf (orF L ((m : Nat) : Int) ch p i).toNat) k)) := fun k hk X hX => by rw [cell_below hX hllb]; exact hllc k hk
   obtain ⟨iib, iio, iic, eii, hiib, hiic⟩ := open_sl FI (by omega)
   have cii : ∀ k, k < m → ∀ X, Below X5.heap.size X5 X → X.cell? ⟨iib, iio + k, none⟩ = some (.int .i64 ((lf) k)) := fun k hk X hX => by rw [cell_below hX hiib]; exact hiic k hk
   have hor := hft.or_lt lti
   obtain ⟨w, ew⟩ : ∃ w : Nat, orF L ((m : Nat) : Int) ch p i = w := ⟨(orF L ((m : Nat) : Int) ch p i).toNat, by omega⟩
   have hwm : w < m := by omega
   refine wp_seq ?_
   refine wj_ [0, 1, 2, 3, 4, 5, 6, 7, 8, 9, 10, 11, 12, 13, 14, 15, 16, 17, 18, 19, 20, 21, 22, 23, 24, 25, 26, 27] [] [3, 9, 11, 18, 23, 25] [] A (h8_ t3 t4 t5 t6 t7 t8 t9 t11) (fun X13 bD => ?_)
   refine dw_ 2 (.pointer (some ⟨oob, ooo + i, none⟩)) (fun a X e => execIdxN (k := i) rfl ((e _).trans eoo) (e _) lti) (dv_ 3 (.int .i64 ((w : Nat) : Int)) (fun a X e hb => execLd3 rfl (e _) ((coo i lti X (BB.trans (hb.mono BB.size))).trans (by rw [ew]))) (dw_ 4 (.bool false) (fun a X e => execDec (execLtW (p := w) (q := 0) rfl (e _) rfl) (decide_eq_false (by omega))) (dw_ 8 (.pointer (some ⟨oob, ooo + i, none⟩)) (fun a X e => execIdxN (k := i) rfl ((e _).trans eoo) (e _) lti) (dv_ 9 (.int .i64 ((w : Nat) : Int)) (fun a X e hb => execLd3 rfl (e _) ((coo i lti X (BB.trans (hb.mono BB.size))).trans (by rw [ew]))) (dv_ 11 (.int .i64 ((m : Nat) : Int)) (fun a X e hb => execLenI (len := m) rfl (e _) ((FI.on (BB.trans (hb.mono BB.size)))).shp) (dw_ 12 (.bool false) (fun a X e => execDec (execGe8 (p := w) (q := m) rfl (e _) (e _)) (decide_eq_false (by omega))) (dw_ 17 (.pointer (some ⟨llb, llo + i, none⟩)) (fun a X e => execIdxN (k := i) rfl ((e _).trans ell) (e _) lti) (dv_ 18 (.int .i64 (lf w)) (fun a X e hb => execLd3 rfl (e _) ((cll i lti X (BB.trans (hb.mono BB.size))).trans (by show some (Value.int .i64 (lf (orF L ((m : Nat) : Int) ch p i).toNat)) = _; rw [ew]; rfl))) (dw_ 22 (.pointer (some ⟨oob, ooo + i, none⟩)) (fun a X e => execIdxN (k := i) rfl ((e _).trans eoo) (e _) lti) (dv_ 23 (.int .i64 ((w : Nat) : Int)) (fun a X e hb => execLd3 rfl (e _) ((coo i lti X (BB.trans (hb.mono BB.size))).trans (by rw [ew]))) (dw_ 24 (.pointer (some ⟨iib, iio + w, none⟩)) (fun a X e => execIdxN (k := w) rfl ((e _).trans eii) (e _) hwm) (dv_ 25 (.int .i64 (lf w)) (fun a X e hb => execLd3 rfl (e _) (cii w hwm X (BB.trans (hb.mono BB.size)))) (dw_ 26 (.bool false) (fun a X e => execNeI rfl (e _) (e _)) (dz_ [(92, .bool false)] (h8_ t3 t4 t5 t6 t7 t8 t9 t11) ?_))))))))))))))
   rintro a A ⟨t92, -⟩ ⟨t3, t4, t5, t6, t7, t8, t9, t11, -⟩
   replace BB := BB.trans (bD.mono BB.size)
   clear bD
   refine wp_cond_false t92 (wp_skip ?_)
   clear t92
   refine wi_ A (h8_ t3 t4 t5 t6 t7 t8 t9 t11) (rv_ 1 (.int .i64 ((i + 1 : Nat) : Int)) (fun a e => execAd8 (p := i) (q := 1) rfl (e _) rfl (by omega)) (rf_ [(11, .int .i64 ((i + 1 : Nat) : Int))] (h7_ t3 t4 t5 t6 t7 t8 t9) ?_))
   rintro a A ⟨t11, -⟩ ⟨t3, t4, t5, t6, t7, t8, t9, -⟩
   exact ⟨⟨i + 1, lti, A, t3, t4, t5, t6, t7, t8, t9, t11, BB⟩, by show m - (intOf (a.eval (.tmp 11))).toNat < m - (intOf (Act.eval _ (.tmp 11))).toNat; rw [t11, esi]; show m - (i + 1) < m - i; omega⟩
  ·rw [decide_eq_false lti] at t62
   refine wp_cond_false t62 ?_
   refine wp_exit ?_
   first | with_reducible refine exit_in ?_ | with_reducible refine exit_then (exit_in ?_) | with_reducible refine exit_then (exit_then (exit_in ?_)) | refine exit_in ?_ | refine exit_then (exit_in ?_) | refine exit_then (exit_then (exit_in ?_))
   clear t62 esi
   clear t11
   replace FP := (FP.on BB)
   replace FI := (FI.on BB)
   replace FN := (FN.on BB)
   replace Fv30 := (Fv30.on BB)
   replace Fv37 := (Fv37.on BB)
   replace BW := BW.trans (BB.mono BW.size)
   clear BB
   have BB : Below XL11.heap.size XL11 XL11 := Below.refl _ _
   refine wp_seq ?_
   obtain ⟨g93, egg93⟩ : ∃ z_ : Nat, XL11.heap.size = z_ := ⟨_, rfl⟩
   refine wi_ A (h7_ t3 t4 t5 t6 t7 t8 t9) (rs_ 0 (fun a e => ?_))
   refine stepV rfl rfl (execBs0 rfl) ⟨.slice (some ⟨g93, 0, none⟩) 0 0, ⟨_, rfl, by subst egg93; rfl⟩, fun X15_1 hX => ?_⟩
   have bQ : Below XL11.heap.size XL11 X15_1 := by subst hX egg93; exact (belNew XL11 _)
   have F93 : (X15_1.ownsRow XL11.heap.size 5 1 (.slice (some ⟨g93, 0, none⟩) 0 0) 0 (bytesL 0 p)) := by subst hX egg93; exact own_base (own_none XL11 _) (BB).size
   replace BB := BB.trans (bQ.mono BB.size)
   clear bQ hX egg93 e a
   refine rs_ 2 (fun a e => ?_)
   refine stepAppN (n := 0) (m := L) (p := p) rfl rfl rfl (e _) (e _) F93 (sliceN_cg (FP.on BB) (fun j hj => by rw [Nat.zero_add])) hz (by omega) (BB).size fun v95 X15 own' gr => ⟨_, ⟨_, rfl, rfl⟩, eqw ?_⟩
   obtain ⟨BB, FO⟩ : Below XL11.heap.size XL11 X15 ∧ (X15.ownsRow XL11.heap.size 5 1 v95 L (bytesL L p)) := ⟨(BB).grown gr (BB).size (fun k hk => (F93.lt k hk).1), (by rw [Nat.zero_add] at own'; exact own')⟩
   clear F93 e a
   refine rf_ [(12, v95)] (h5_ t4 t5 t6 t7 t8) ?_
   rintro a A ⟨t12, -⟩ ⟨t4, t5, t6, t7, t8, -⟩
   obtain ⟨qa, qc, eq⟩ := shpO FO
   have hqc : min L 18 ≤ qc := by
    have h_ := own_slice FO FP.bytes
    rw [eq] at h_
    obtain ⟨_, c_, e_, g1, _⟩ := h_.shape
    injection e_ with _ _ e3
    omega
   refine wp_seq ?_
   refine wj_ [0, 1, 2, 3, 4, 5, 6] [6] [] [6] A (h6_ t4 t5 t6 t7 t8 t12) (fun X16_0 bD => ?_)
   refine dw_ 2 (.int .i64 ((L : Nat) : Int)) (fun a X e => execLenV (len := L) rfl (e _) ⟨_, _, eq⟩) (dw_ 3 (.int .i64 ((min L 18 : Nat) : Int)) (fun a X e => execMinI rfl (e _) rfl) (dw_ 4 (sliced qa 0 (min L 18) qc 1) (fun a X e => By8.execSlH rfl ((e _).trans eq) (e _) (By8.slice_h qa L qc (min L 18) hqc X)) (dw_ 5 (.slice (some ⟨g4, 0, none⟩) 18 18) (fun a X e => execSlice rfl (e _) (sl18 g4 X)) (ds_ 6 (fun a e => ?_)))))
   refine stepCopy18 rfl rfl rfl (e _) (e _) eq (ownsRow_below FO bD) (FN.on (BB.trans (bD.mono BB.size))) fun X16 own' gr => ⟨_, ⟨_, rfl, rfl⟩, eqw ?_⟩
   obtain ⟨BB, FO2⟩ : Below XL11.heap.size XL11 X16 ∧ (X16.ownsRow XL11.heap.size 5 1 v95 L (bytesL L (pN L nz p))) := ⟨((BB.trans (bD.mono BB.size))).grown gr ((BB.trans (bD.mono BB.size))).size (fun k hk => ((ownsRow_below FO bD).lt k hk).1), own'⟩
   clear bD FO
   refine ⟨Or.inl rfl, ?_⟩
   refine dz_ [] (h5_ t5 t6 t7 t8 t12) ?_
   rintro a A - ⟨t5, t6, t7, t8, t12, -⟩
   have FL : SliceN X16 v95 L (pN L nz p) := own_slice FO2 (pN_byte hnz FP.bytes)
   clear FO2 FN
   replace FP := (FP.on BB)
   replace FI := (FI.on BB)
   replace Fv30 := (Fv30.on BB)
   replace Fv37 := (Fv37.on BB)
   replace BW := BW.trans (BB.mono BW.size)
   clear BB
   have hR : riE L ((m : Nat) : Int) ch (pN L nz p) = riE L ((m : Nat) : Int) ch p := ri_eq (fun x h1 _ => pN_hi h1)
   refine wp_seq ?_
   refine wi_ A (h5_ t5 t6 t7 t8 t12) (rv_ 2 (.int .i64 ((m : Nat) : Int)) (fun a e => execLenI (len := m) rfl (e _) (FI).shp) (rc_ 4 (porder (pN L nz p) L ((m : Nat) : Int) ch _ X16 FL (by omega)) fun e X17 hh => ?_))
   obtain ⟨v108, he, hk, hb⟩ := hh
   refine ⟨_, he, ?_⟩
   have bQ : Below X16.heap.size X16 X17 := hb
   have Fv108 : (SliceI X17 v108 (zl (riE L ((m : Nat) : Int) ch (pN L nz p)) (((m : Nat) : Int)).toNat) (orF L ((m : Nat) : Int) ch (pN L nz p))) := own_ints hk or_fits
   have bX := bQ
   clear bQ
   refine rf_ [(13, v108), (14, .int .i64 ((riE L ((m : Nat) : Int) ch (pN L nz p) : Nat) : Int))] (h2_ t7 t8) ?_
   rintro a A ⟨t13, t14, -⟩ ⟨t7, t8, -⟩
   replace FP := (FP.on bX)
   replace FI := (FI.on bX)
   replace Fv30 := (Fv30.on bX)
   replace Fv37 := (Fv37.on bX)
   replace FL := (FL.on bX)
   have ZX17 := bX.size
   replace BW := BW.trans (bX.mono BW.size)
   clear bX
   rw [hR] at t14
   replace Fv108 : SliceI X17 v108 (m) (orF L ((m : Nat) : Int) ch (pN L nz p)) := (by have h_ := Fv108; rw [hR, hE, zl_ok] at h_; exact h_)
   refine wp_seq ?_
   refine wi_ A (h4_ t7 t8 t13 t14) (rv_ 2 (.bool true) (fun a e => execDec (execEqE (p := riE L ((m : Nat) : Int) ch p) (q := riE L ((m : Nat) : Int) ch p) rfl (e _) (e _)) (decide_eq_true (by omega))) (rc_ 6 (sm_t _ _ (m) _ _ X17 Fv108 Fv30 (fun j hj => or_eq (fun x h1 _ => pN_hi h1) (by rw [hR, hE, zl_ok]; exact hj)) (by omega)) (cb_ fun X18 bQ => ?_)))
   have bX := bQ
   clear bQ
   refine rg_ [(2, .bool true)] ?_
   rintro a A ⟨t2, -⟩
   replace FP := (FP.on bX)
   replace FI := (FI.on bX)
   replace Fv30 := (Fv30.on bX)
   replace Fv37 := (Fv37.on bX)
   replace FL := (FL.on bX)
   replace Fv108 := (Fv108.on bX)
   have ZX18 := bX.size
   replace BW := BW.trans (bX.mono BW.size)
   clear bX
   refine wp_ret ?_
   repeat (first | with_reducible refine ret_in ?_ | with_reducible refine ret_then ?_)
   refine bodyPost_ret (results_tmp rfl _ _ _) A.2 ⟨?_, BW⟩
   show Ending.returned (a.eval (.tmp 2)) = _
   rw [t2]
 ·refine wi_ A (h7_ t3 t4 t5 t6 t7 t8 t9) (rv_ 1 (.bool false) (fun a e => execDec (execEqE (p := riE L ((m : Nat) : Int) ch p) (q := 0) rfl (e _) rfl) (decide_eq_false (by omega))) (rf_ [(58, .bool false)] (h7_ t3 t4 t5 t6 t7 t8 t9) ?_))
  rintro a A ⟨t58, -⟩ ⟨t3, t4, t5, t6, t7, t8, t9, -⟩
  refine wp_cond_false t58 (wp_skip ?_)
  clear t58
  replace Fv30 : SliceI X5 v30 (0) (orF L ((m : Nat) : Int) ch p) := (by have h_ := Fv30; rw [zl_no hE] at h_; exact h_)
  replace Fv37 : SliceI X5 v37 (0) (fun i => lf (orF L ((m : Nat) : Int) ch p i).toNat) := (by have h_ := Fv37; rw [zl_no hE] at h_; exact h_)
  refine wp_seq (wp_seq ?_)
  refine wi_ A (h7_ t3 t4 t5 t6 t7 t8 t9) (rf_ [(11, .int .i64 ((0 : Nat) : Int))] (h7_ t3 t4 t5 t6 t7 t8 t9) ?_)
  rintro a A ⟨t11, -⟩ ⟨t3, t4, t5, t6, t7, t8, t9, -⟩
  have BB : Below X5.heap.size X5 X5 := Below.refl _ _
  refine wp_block ?_
  refine wp_loop (fun a W => ∃ (i : Nat), i ≤ 0 ∧ (a.tmps.size = 119 ∧ a.defers = []) ∧ a.eval (.tmp 3) = pv ∧ a.eval (.tmp 4) = .pointer (some ⟨g4, 0, none⟩) ∧ a.eval (.tmp 5) = lv ∧ a.eval (.tmp 6) = .int .i64 ch ∧ a.eval (.tmp 7) = v30 ∧ a.eval (.tmp 8) = .int .i64 ((riE L ((m : Nat) : Int) ch p : Nat) : Int) ∧ a.eval (.tmp 9) = v37 ∧ a.eval (.tmp 11) = .int .i64 ((i : Nat) : Int) ∧ Below X5.heap.size X5 W) (fun a _ => 0 - (intOf (a.eval (.tmp 11))).toNat) ⟨0, Nat.zero_le _, A, t3, t4, t5, t6, t7, t8, t9, t11, BB⟩ ?_
  rintro a XL11 ⟨i, hi, A, t3, t4, t5, t6, t7, t8, t9, t11, BB⟩
  have esi := t11
  refine wp_seq (wp_seq ?_)
  refine wi_ A (h8_ t3 t4 t5 t6 t7 t8 t9 t11) (rv_ 2 (.int .i64 ((0 : Nat) : Int)) (fun a e => execLenI (len := 0) rfl (e _) ((Fv30.on BB)).shp) (rv_ 3 (.bool (decide (i < 0))) (fun a e => execLtW (p := i) (q := 0) rfl (e _) (e _)) (rf_ [(62, .bool (decide (i < 0)))] (h8_ t3 t4 t5 t6 t7 t8 t9 t11) ?_)))
  rintro a A ⟨t62, -⟩ ⟨t3, t4, t5, t6, t7, t8, t9, t11, -⟩
  by_cases lti : i < 0
  ·rw [decide_eq_true lti] at t62
   refine wp_cond_true t62 (wp_skip ?_)
   clear t62
   refine wp_seq (wp_block ?_)
   exact absurd lti (Nat.not_lt_zero _)
  ·rw [decide_eq_false lti] at t62
   refine wp_cond_false t62 ?_
   refine wp_exit ?_
   first | with_reducible refine exit_in ?_ | with_reducible refine exit_then (exit_in ?_) | with_reducible refine exit_then (exit_then (exit_in ?_)) | refine exit_in ?_ | refine exit_then (exit_in ?_) | refine exit_then (exit_then (exit_in ?_))
   clear t62 esi
   clear t11
   replace FP := (FP.on BB)
   replace FI := (FI.on BB)
   replace FN := (FN.on BB)
   replace Fv30 := (Fv30.on BB)
   replace Fv37 := (Fv37.on BB)
   replace BW := BW.trans (BB.mono BW.size)
   clear BB
   have BB : Below XL11.heap.size XL11 XL11 := Below.refl _ _
   refine wp_seq ?_
   obtain ⟨g93, egg93⟩ : ∃ z_ : Nat, XL11.heap.size = z_ := ⟨_, rfl⟩
   refine wi_ A (h7_ t3 t4 t5 t6 t7 t8 t9) (rs_ 0 (fun a e => ?_))
   refine stepV rfl rfl (execBs0 rfl) ⟨.slice (some ⟨g93, 0, none⟩) 0 0, ⟨_, rfl, by subst egg93; rfl⟩, fun X15_1 hX => ?_⟩
   have bQ : Below XL11.heap.size XL11 X15_1 := by subst hX egg93; exact (belNew XL11 _)
   have F93 : (X15_1.ownsRow XL11.heap.size 5 1 (.slice (some ⟨g93, 0, none⟩) 0 0) 0 (bytesL 0 p)) := by subst hX egg93; exact own_base (own_none XL11 _) (BB).size
   replace BB := BB.trans (bQ.mono BB.size)
   clear bQ hX egg93 e a
   refine rs_ 2 (fun a e => ?_)
   refine stepAppN (n := 0) (m := L) (p := p) rfl rfl rfl (e _) (e _) F93 (sliceN_cg (FP.on BB) (fun j hj => by rw [Nat.zero_add])) hz (by omega) (BB).size fun v95 X15 own' gr => ⟨_, ⟨_, rfl, rfl⟩, eqw ?_⟩
   obtain ⟨BB, FO⟩ : Below XL11.heap.size XL11 X15 ∧ (X15.ownsRow XL11.heap.size 5 1 v95 L (bytesL L p)) := ⟨(BB).grown gr (BB).size (fun k hk => (F93.lt k hk).1), (by rw [Nat.zero_add] at own'; exact own')⟩
   clear F93 e a
   refine rf_ [(12, v95)] (h5_ t4 t5 t6 t7 t8) ?_
   rintro a A ⟨t12, -⟩ ⟨t4, t5, t6, t7, t8, -⟩
   obtain ⟨qa, qc, eq⟩ := shpO FO
   have hqc : min L 18 ≤ qc := by
    have h_ := own_slice FO FP.bytes
    rw [eq] at h_
    obtain ⟨_, c_, e_, g1, _⟩ := h_.shape
    injection e_ with _ _ e3
    omega
   refine wp_seq ?_
   refine wj_ [0, 1, 2, 3, 4, 5, 6] [6] [] [6] A (h6_ t4 t5 t6 t7 t8 t12) (fun X16_0 bD => ?_)
   refine dw_ 2 (.int .i64 ((L : Nat) : Int)) (fun a X e => execLenV (len := L) rfl (e _) ⟨_, _, eq⟩) (dw_ 3 (.int .i64 ((min L 18 : Nat) : Int)) (fun a X e => execMinI rfl (e _) rfl) (dw_ 4 (sliced qa 0 (min L 18) qc 1) (fun a X e => By8.execSlH rfl ((e _).trans eq) (e _) (By8.slice_h qa L qc (min L 18) hqc X)) (dw_ 5 (.slice (some ⟨g4, 0, none⟩) 18 18) (fun a X e => execSlice rfl (e _) (sl18 g4 X)) (ds_ 6 (fun a e => ?_)))))
   refine stepCopy18 rfl rfl rfl (e _) (e _) eq (ownsRow_below FO bD) (FN.on (BB.trans (bD.mono BB.size))) fun X16 own' gr => ⟨_, ⟨_, rfl, rfl⟩, eqw ?_⟩
   obtain ⟨BB, FO2⟩ : Below XL11.heap.size XL11 X16 ∧ (X16.ownsRow XL11.heap.size 5 1 v95 L (bytesL L (pN L nz p))) := ⟨((BB.trans (bD.mono BB.size))).grown gr ((BB.trans (bD.mono BB.size))).size (fun k hk => ((ownsRow_below FO bD).lt k hk).1), own'⟩
   clear bD FO
   refine ⟨Or.inl rfl, ?_⟩
   refine dz_ [] (h5_ t5 t6 t7 t8 t12) ?_
   rintro a A - ⟨t5, t6, t7, t8, t12, -⟩
   have FL : SliceN X16 v95 L (pN L nz p) := own_slice FO2 (pN_byte hnz FP.bytes)
   clear FO2 FN
   replace FP := (FP.on BB)
   replace FI := (FI.on BB)
   replace Fv30 := (Fv30.on BB)
   replace Fv37 := (Fv37.on BB)
   replace BW := BW.trans (BB.mono BW.size)
   clear BB
   have hR : riE L ((m : Nat) : Int) ch (pN L nz p) = riE L ((m : Nat) : Int) ch p := ri_eq (fun x h1 _ => pN_hi h1)
   refine wp_seq ?_
   refine wi_ A (h5_ t5 t6 t7 t8 t12) (rv_ 2 (.int .i64 ((m : Nat) : Int)) (fun a e => execLenI (len := m) rfl (e _) (FI).shp) (rc_ 4 (porder (pN L nz p) L ((m : Nat) : Int) ch _ X16 FL (by omega)) fun e X17 hh => ?_))
   obtain ⟨v108, he, hk, hb⟩ := hh
   refine ⟨_, he, ?_⟩
   have bQ : Below X16.heap.size X16 X17 := hb
   have Fv108 : (SliceI X17 v108 (zl (riE L ((m : Nat) : Int) ch (pN L nz p)) (((m : Nat) : Int)).toNat) (orF L ((m : Nat) : Int) ch (pN L nz p))) := own_ints hk or_fits
   have bX := bQ
   clear bQ
   refine rf_ [(13, v108), (14, .int .i64 ((riE L ((m : Nat) : Int) ch (pN L nz p) : Nat) : Int))] (h2_ t7 t8) ?_
   rintro a A ⟨t13, t14, -⟩ ⟨t7, t8, -⟩
   replace FP := (FP.on bX)
   replace FI := (FI.on bX)
   replace Fv30 := (Fv30.on bX)
   replace Fv37 := (Fv37.on bX)
   replace FL := (FL.on bX)
   have ZX17 := bX.size
   replace BW := BW.trans (bX.mono BW.size)
   clear bX
   rw [hR] at t14
   replace Fv108 : SliceI X17 v108 (0) (orF L ((m : Nat) : Int) ch (pN L nz p)) := (by have h_ := Fv108; rw [hR, zl_no hE] at h_; exact h_)
   refine wp_seq ?_
   refine wi_ A (h4_ t7 t8 t13 t14) (rv_ 2 (.bool true) (fun a e => execDec (execEqE (p := riE L ((m : Nat) : Int) ch p) (q := riE L ((m : Nat) : Int) ch p) rfl (e _) (e _)) (decide_eq_true (by omega))) (rc_ 6 (sm_t _ _ (0) _ _ X17 Fv108 Fv30 (fun j hj => absurd hj (Nat.not_lt_zero _)) (by omega)) (cb_ fun X18 bQ => ?_)))
   have bX := bQ
   clear bQ
   refine rg_ [(2, .bool true)] ?_
   rintro a A ⟨t2, -⟩
   replace FP := (FP.on bX)
   replace FI := (FI.on bX)
   replace Fv30 := (Fv30.on bX)
   replace Fv37 := (Fv37.on bX)
   replace FL := (FL.on bX)
   replace Fv108 := (Fv108.on bX)
   have ZX18 := bX.size
   replace BW := BW.trans (bX.mono BW.size)
   clear bX
   refine wp_ret ?_
   repeat (first | with_reducible refine ret_in ?_ | with_reducible refine ret_then ?_)
   refine bodyPost_ret (results_tmp rfl _ _ _) A.2 ⟨?_, BW⟩
   show Ending.returned (a.eval (.tmp 2)) = _
   rw [t2]
end Go.Proofs.Ytmjpneaccjlpkaa.Rif
