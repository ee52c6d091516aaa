import Derived.Test.YtmjpneaccjlpkaaX9h
import Derived.Test.YtmjpneaccjlpkaaQ9u
namespace Go.Proofs.Ytmjpneaccjlpkaa.Rif
open Go.RowKit Gf8 Aes By8 Cel Cf Tap Drw Prm Brd
/- Stage 13's RiffleAlone. Written by tools/mkX9m.py. -/
def otC (pv : Value) (nz : Nat → Nat) (lv : Value) (ch : Int) : Array Value := #[pv] ++ (bytesL 18 nz).toArray ++ #[lv, .int .i64 ch]
def pN (L : Nat) (nz p : Nat → Nat) (j : Nat) : Nat := if j < min L 18 then nz j else p j
theorem pN_hi {L : Nat} {nz p : Nat → Nat} {x : Nat} (h : 18 ≤ x) : pN L nz p x = p x := if_neg (by omega)
theorem pN_byte {L : Nat} {nz p : Nat → Nat} (hnz : ∀ j, j < 18 → nz j < 256) (hp : ∀ j, j < L → p j < 256) : ∀ j, j < L → pN L nz p j < 256 := fun j hj => by
 unfold pN
 by_cases h : j < min L 18
 ·rw [if_pos h]; exact hnz j (by omega)
 ·rw [if_neg h]; exact hp j hj
section
variable {W : World} {g : Nat} {pv lv : Value} {nz : Nat → Nat} {ch : Int} {t : TypeId}
theorem ot_0 (h : W.heap[g]? = some (.cells (otC pv nz lv ch) t)) : W.cell? ⟨g, 0, none⟩ = some pv := by rw [cell_of_row _ _ _ _ _ _ h]; simp [otC]
theorem ot_19 (h : W.heap[g]? = some (.cells (otC pv nz lv ch) t)) : W.cell? ⟨g, 19, none⟩ = some lv := by
 rw [cell_of_row _ _ _ _ _ _ h]
 unfold otC
 rw [Array.getElem?_append_right (by simp [bytesL_len])]
 simp [bytesL_len]
theorem ot_20 (h : W.heap[g]? = some (.cells (otC pv nz lv ch) t)) : W.cell? ⟨g, 20, none⟩ = some (.int .i64 ch) := by
 rw [cell_of_row _ _ _ _ _ _ h]
 unfold otC
 rw [Array.getElem?_append_right (by simp [bytesL_len])]
 simp [bytesL_len]
theorem ot_range (h : W.heap[g]? = some (.cells (otC pv nz lv ch) t)) : W.rangeAt g 1 (bytesL 18 nz) := fun j v hj => by
 have hl : j < 18 := by have := (List.getElem?_eq_some_iff.1 hj).1; rw [bytesL_len] at this; exact this
 rw [cell_of_row _ _ _ _ _ _ h]
 unfold otC
 rw [Array.getElem?_append_left (by simp [bytesL_len]; omega), Array.getElem?_append_right (by simp)]
 simp only [List.size_toArray, List.length_cons, List.length_nil, Nat.zero_add, Nat.add_sub_cancel_left, List.getElem?_toArray]
 exact hj
end
theorem sl18 (b : Nat) (W : World) : (Instr.sliceAt 46 (.pointer (some ⟨b, 0, none⟩)) none none none).run Try.prog W = .ok (.slice (some ⟨b, 0, none⟩) 18 18) W := by
 simp [go_sem]
theorem sl18N {W : World} {g : Nat} {f : Nat → Nat} {t : TypeId} (h : W.heap[g]? = some (.cells (bytesL 18 f).toArray t)) (hf : ∀ j, j < 18 → f j < 256) : SliceN W (.slice (some ⟨g, 0, none⟩) 18 18) 18 f := by
 refine ⟨⟨_, _, rfl, Nat.le_refl _, by omega, fun _ => ⟨g, 0, rfl, (Array.getElem?_eq_some_iff.1 h).1, fun j hj => ?_⟩⟩, hf⟩
 rw [cell_of_row _ _ _ _ _ _ h, Nat.zero_add, List.getElem?_toArray, bytesL_at 18 f hj]
theorem zero18 : ∀ w, (zeroValue 46).run Try.prog w = .ok (.agg (bA 18 fun _ => 0)) w :=
 (zero_of_info (n := 18) (by kernel_rfl)).1
section
variable {o : Oper} {a : Act} {w : World}
theorem execBoxOt {x : Operand} {pv lv : Value} {nz : Nat → Nat} {ch : Int} (ho : o.op = .box 48 x) (hx : a.eval x = .agg (otC pv nz lv ch)) : (execOp a.eval o).run Try.prog w = .ok (.value (.pointer (some ⟨w.heap.size, 0, none⟩))) (w.alloc (.cells (otC pv nz lv ch) 48)) := by
 unfold execOp
 simp only [ho, hx]
 simp [go_sem]
theorem execFldOt0 {x : Operand} {b : Nat} (ho : o.op = .fieldAddr 48 x 0) (hx : a.eval x = .pointer (some ⟨b, 0, none⟩)) : (execOp a.eval o).run Try.prog w = .ok (.value (.pointer (some ⟨b, 0, none⟩))) w := by
 unfold execOp
 simp only [ho, hx]
 simp [go_sem]
theorem execFldOt1 {x : Operand} {b : Nat} (ho : o.op = .fieldAddr 48 x 1) (hx : a.eval x = .pointer (some ⟨b, 0, none⟩)) : (execOp a.eval o).run Try.prog w = .ok (.value (.pointer (some ⟨b, 1, none⟩))) w := by
 unfold execOp
 simp only [ho, hx]
 simp [go_sem]
theorem execFldOt2 {x : Operand} {b : Nat} (ho : o.op = .fieldAddr 48 x 2) (hx : a.eval x = .pointer (some ⟨b, 0, none⟩)) : (execOp a.eval o).run Try.prog w = .ok (.value (.pointer (some ⟨b, 19, none⟩))) w := by
 unfold execOp
 simp only [ho, hx]
 simp [go_sem]
theorem execFldOt3 {x : Operand} {b : Nat} (ho : o.op = .fieldAddr 48 x 3) (hx : a.eval x = .pointer (some ⟨b, 0, none⟩)) : (execOp a.eval o).run Try.prog w = .ok (.value (.pointer (some ⟨b, 20, none⟩))) w := by
 unfold execOp
 simp only [ho, hx]
 simp [go_sem]
theorem execLd18 {x : Operand} {g : Nat} {pv lv : Value} {nz : Nat → Nat} {ch : Int} {t : TypeId} (ho : o.op = .load 46 x) (hx : a.eval x = .pointer (some ⟨g, 1, none⟩)) (hg : w.heap[g]? = some (.cells (otC pv nz lv ch) t)) : (execOp a.eval o).run Try.prog w = .ok (.value (.agg (bytesL 18 nz).toArray)) w :=
 execLoadMid ho hx (ot_range hg) Try.underlying46 rfl (by rw [bytesL_len]; kernel_rfl)
theorem execAll18 (ho : o.op = .alloc 46) : (execOp a.eval o).run Try.prog w = .ok (.value (.pointer (some ⟨w.heap.size, 0, none⟩))) (w.alloc (.cells (bA 18 fun _ => 0) 46)) := by
 have h := zero18
 unfold execOp
 simp only [ho]
 simp [go_sem, h]
theorem execSt18 {x y : Operand} {g : Nat} {nz : Nat → Nat} {t : TypeId} (ho : o.op = .store 46 x y) (hx : a.eval x = .pointer (some ⟨g, 0, none⟩)) (hy : a.eval y = .agg (bytesL 18 nz).toArray) (hg : w.heap[g]? = some (.cells (bA 18 fun _ => 0) t)) : (execOp a.eval o).run Try.prog w = .ok .skip (w.setRow g (bytesL 18 nz).toArray) := by
 have hl : (bytesL 18 nz).toArray.size = 18 := by simp [bytesL_len]
 have h := execStMid (P := Try.prog) (a := a) (w := w) ho hx hy hg (by rw [hl, bA_size]; omega) (by rw [hl]; kernel_rfl) (by
  rw [Array.all_eq_true_iff_forall_mem]
  intro v hv
  have hv2 : v ∈ bytesL 18 nz := by simpa using hv
  obtain ⟨i, hi⟩ := List.getElem?_of_mem hv2
  have hl2 : i < 18 := by have := (List.getElem?_eq_some_iff.1 hi).1; rw [bytesL_len] at this; exact this
  rw [bytesL_at 18 nz hl2] at hi
  injection hi with hi
  subst hi
  rfl)
 rw [h]
 congr 2
end
theorem stepCopy18 {ops : Array Oper} {Q : Exit → Act → World → Prop} {K : Act → World → Prop} {j0 : Nat} {o : Oper} {a : Act} {w : World} {x y : Operand} {B L c n4 : Nat} {v : Value} {qa : Option Addr} {nz p : Nat → Nat} (hos : ops[j0]? = some o) (hgd : Region.wanted o (yielded ops a.tmps) = true) (ho : o.op = .call { callee := .builtin .copy, args := #[x, y], argTypes := #[23, 23] })
  (hx : a.eval x = sliced qa 0 (min L 18) c 1) (hy : a.eval y = .slice (some ⟨n4, 0, none⟩) 18 18) (ev : v = .slice qa L c) (own : w.ownsRow B 5 1 v L (bytesL L p)) (hn : SliceN w (.slice (some ⟨n4, 0, none⟩) 18 18) 18 nz)
  (hK : ∀ W', W'.ownsRow B 5 1 v L (bytesL L (pN L nz p)) → w.grownBy W' v.ownBlock → K (a.put o.dst (.int .i64 ((min L 18 : Nat) : Int))) W') : wpOp Try.prog ops Q j0 K a w := by
 subst ev
 have hcell : ∀ j, j < 18 → w.cell? ⟨n4, j, none⟩ = some (.int .u8 (nz j : Nat)) := fun j hj => by
  obtain ⟨_, _, e, _, _, h3⟩ := hn.shape
  injection e with e1 _ _
  subst e1
  obtain ⟨b, off, e2, _, h5⟩ := h3 (by omega)
  injection e2 with e2
  injection e2 with e3 e4 _
  have h6 := h5 j hj
  rw [← e3, ← e4, Nat.zero_add] at h6
  exact h6
 rcases own.2 with ⟨e, e0⟩ | ⟨g, cap', cur, e, hB, hg, h1, h2, h3, h4⟩
 ·injection e with e1 e2 e3
  subst e1 e2 e3
  have hs : sliced none 0 (min 0 18) 0 1 = .slice none 0 0 := rfl
  rw [hs] at hx
  have hrun := run_copy_none (P := Try.prog) w 23 23 o.type 5 none (some ⟨n4, 0, none⟩) 0 0 18 18 Try.underlying23 (by kernel_rfl) rfl
  refine stepV hos hgd (v := .int .i64 ((min 0 18 : Nat) : Int)) (w' := w) ?_ (hK w own ⟨rfl, rfl, rfl, Nat.le_refl _, fun _ _ _ => rfl⟩)
  unfold execOp
  simp only [ho, resolve, invoke, builtin, Sem.run_bind, Sem.run_pure, Result.andThen_ok, List.map_toArray, List.map_cons, List.map_nil, hx, hy, hrun]
  rfl
 ·injection e with e1 e2 e3
  subst e1 e3
  have hs : sliced (some ⟨g, 0, none⟩) 0 (min L 18) c 1 = .slice (some ⟨g, 0, none⟩) (min L 18) c := by
   unfold sliced
   split <;> simp [Addr.add_mid]
  rw [hs] at hx
  have hl : (bytesL (min L 18) nz).length = min L 18 := bytesL_len _ _
  have hc : c = cur.size := by omega
  have h1v : ∀ v ∈ bytesL (min L 18) nz, v.oneCell' = true := fun v hv => by
   obtain ⟨i, hi⟩ := List.getElem?_of_mem hv
   have hl2 : i < min L 18 := by have := (List.getElem?_eq_some_iff.1 hi).1; rw [bytesL_len] at this; exact this
   rw [bytesL_at _ nz hl2] at hi
   injection hi with hi
   subst hi
   rfl
  have hrun := run_copy_row Try.prog w 23 23 o.type 5 g 0 (min L 18) c ⟨n4, 0, none⟩ 18 18 cur 5 (bytesL (min L 18) nz) Try.underlying23 (by kernel_rfl) hg (by rw [hl]; show min L 18 = Nat.min 18 (min L 18); exact (Nat.min_eq_right (by omega)).symm) (fun j v hv => by
   have hj : j < min L 18 := by have := (List.getElem?_eq_some_iff.1 hv).1; rw [bytesL_len] at this; exact this
   rw [bytesL_at _ nz hj] at hv
   rw [Go.WideShapes.add_plain, Nat.zero_add, hcell j (by omega)]
   exact hv) (by rw [hl]; omega) h1v
  refine stepV hos hgd (v := .int .i64 ((min L 18 : Nat) : Int)) (w' := w.setRow g (cur.toList.take 0 ++ bytesL (min L 18) nz ++ cur.toList.drop (0 + (bytesL (min L 18) nz).length)).toArray) ?_ (hK _ ?_ ?_)
  ·unfold execOp
   simp only [ho, resolve, invoke, builtin, Sem.run_bind, Sem.run_pure, Result.andThen_ok, List.map_toArray, List.map_cons, List.map_nil, hx, hy, hrun, hl]
   rfl
  ·refine ⟨by rw [bytesL_len, Nat.mul_one], Or.inr ⟨g, c, _, rfl, hB, setRow_heap _ _ _ _ _ _ hg, h1, h2, ?_, ?_⟩⟩
   ·simp [hl]
    omega
   ·apply List.ext_getElem?
    intro j
    by_cases hj : j < L
    ·rw [bytesL_at L _ hj, List.getElem?_take_of_lt (by omega), hl, Nat.zero_add]
     simp only [List.take_zero, List.nil_append]
     unfold pN
     by_cases q : j < min L 18
     ·rw [List.getElem?_append_left (by omega), bytesL_at _ nz q, if_pos q]
     ·rw [List.getElem?_append_right (by omega), hl, List.getElem?_drop, show min L 18 + (j - min L 18) = j by omega, if_neg q]
      have h5 : (cur.toList.take (L * 1))[j]? = (bytesL L p)[j]? := by rw [h4]
      rw [List.getElem?_take_of_lt (by omega), bytesL_at L p hj] at h5
      exact h5
    ·rw [List.getElem?_eq_none (by rw [List.length_take]; omega), List.getElem?_eq_none (by rw [bytesL_len]; omega)]
  ·exact ⟨rfl, rfl, rfl, by simp [World.setRow], fun k _ hk => setRow_other w g k _ (fun e => hk (by rw [e]; rfl))⟩
set_option maxRecDepth 100000 in
set_option maxHeartbeats 4000000 in
theorem alone13 (p nz : Nat → Nat) (L m : Nat) (ch : Int) (lf : Nat → Int) (pv lv : Value) (V : World) (FP : SliceN V pv L p) (hl : L ≤ 140737488351232) (hz : ∀ l c, pv = .slice none l c → c = 0) (hnz : ∀ j, j < 18 → nz j < 256) (FI : SliceI V lv m lf) (hm17 : m ≤ 17592186043904) :
  Calls Try.prog 7 #[.agg (otC pv nz lv ch)] V fun e w' => e = .returned (.bool true) ∧ Below V.heap.size V w' := by
 go_enter Try.func7, Try.ntmps7
 refine wp_open (fun a => (a.tmps.size = 119 ∧ a.defers = []) ∧ a.eval (.tmp 0) = .agg (otC pv nz lv ch)) ⟨⟨rfl, rfl⟩, rfl⟩ ?_
 rintro a ⟨A, t0⟩
 have BW : Below V.heap.size V V := Below.refl _ _
 refine wp_seq ?_
 refine wp_se (σ := Nat) 119 [0] [0] (fun k_ s X => match k_ with | 0 => Below V.heap.size V X | _ => Below V.heap.size V X ∧ (X.heap[s]? = some (.cells (otC pv nz lv ch) 48))) (fun s => fun i_ => match i_ with | 0 => .pointer (some ⟨s, 0, none⟩) | _ => undef) 0 A (Below.refl _ _) (And.intro ?_ trivial) ?_
 ·intro s a X e hS
  refine stepV rfl rfl (execBoxOt rfl ((e (.tmp 0)).trans t0)) ⟨X.heap.size, ⟨_, rfl, rfl⟩, ⟨(hS).trans (((belNew X _)).mono (hS).size), heapNew X _⟩, (And.intro (fun h => absurd h (by decide)) trivial)⟩
 rintro gq a X0 A e (hS : Below V.heap.size V X0 ∧ (X0.heap[gq]? = some (.cells (otC pv nz lv ch) 48)))
 obtain ⟨bX, FQ⟩ := hS
 have t1 : a.eval (.tmp 1) = .pointer (some ⟨gq, 0, none⟩) := e _
 replace FP := (FP.on bX)
 replace FI := (FI.on bX)
 have ZX0 := bX.size
 replace BW := BW.trans (bX.mono BW.size)
 clear bX
 clear e t0
 refine wp_seq (wp_seq ?_)
 refine wp_se 119 [0, 1] [] (fun _ s X => Below X0.heap.size X0 X) (fun s => fun i_ => match i_ with | 0 => .bool true | 1 => .bool false | _ => undef) () A (Below.refl _ _) (And.intro ?_ (And.intro ?_ trivial)) ?_
 ·exact fun s a X e hS => stepC rfl rfl (execCall0 Try.func9 (by kernel_rfl) (by kernel_rfl) rfl ) (alive13 X) fun e w' hh => ⟨_, hh.1, s, ⟨_, rfl, rfl⟩, (hS).trans ((hh.2).mono (hS).size), ar⟩
 ·exact fun s a X e hS => stepV rfl rfl (execNot8 rfl (e (.tmp 15))) ⟨s, ⟨_, rfl, rfl⟩, hS, ar⟩
 rintro _ a X1 A e (bX : Below X0.heap.size X0 X1)
 have t16 : a.eval (.tmp 16) = .bool false := e _
 replace t1 := kt e t1
 replace FP := (FP.on bX)
 replace FI := (FI.on bX)
 replace FQ := (on9 FQ bX)
 have ZX1 := bX.size
 replace BW := BW.trans (bX.mono BW.size)
 clear bX
 clear e
 refine wp_cond_false t16 (wp_skip ?_)
 clear t16
 refine wp_seq ?_
 refine wp_region_stB (σ := Nat) 119 [(0, 17), (1, 18), (2, 19), (3, 20), (4, 21), (5, 22), (6, 23), (7, 24), (8, 4), (9, 3), (11, 5), (12, 6)] (fun l_ s X => Below X1.heap.size X1 X ∧ (l_ 8 = true → l_ 10 = false → (X.heap[s]? = some (.cells (bA 18 fun _ => 0) 46))) ∧ (l_ 8 = true → (X1.heap.size ≤ s)) ∧ (l_ 10 = true → (X.heap[s]? = some (.cells (bytesL 18 nz).toArray 46)))) (fun s => fun i_ => match i_ with | 0 => .pointer (some ⟨gq, 0, none⟩) | 1 => pv | 2 => .pointer (some ⟨gq, 1, none⟩) | 3 => .agg (bytesL 18 nz).toArray | 4 => .pointer (some ⟨gq, 19, none⟩) | 5 => lv | 6 => .pointer (some ⟨gq, 20, none⟩) | 7 => .int .i64 ch | 8 => .pointer (some ⟨s, 0, none⟩) | 9 => pv | 10 => undef | 11 => lv | 12 => .int .i64 ch | _ => undef) 0 (by kernel_rfl) (by kernel_rfl) A.1 (by kernel_rfl) (by decide) (by decide) ⟨((Below.refl _ _).drew), (fun q0_ q1_ => by cases q0_), (fun q0_ => by cases q0_), (fun q0_ => by cases q0_)⟩ ?_ ?_
 ·intro i_ hi_ l_ s a X hl_ hf hdep hl2 hcl hno hT
  have up : ∀ j x, x ≠ j → updB l_ j x = l_ x := fun j x hj => by unfold updB; simp [hj]
  match i_, hi_ with
  | 0, _ => exact stepV rfl rfl (execFldOt0 rfl ((hf 1 (by decide)).trans t1)) ⟨s, ⟨_, rfl, rfl⟩, ⟨hT.1, (fun q0_ q1_ => (hT.2.1 (by rw [up 0 8 (by decide)] at q0_; exact q0_) (by rw [up 0 10 (by decide)] at q1_; exact q1_))), (fun q0_ => (hT.2.2.1 (by rw [up 0 8 (by decide)] at q0_; exact q0_))), (fun q0_ => absurd (hl_.symm.trans (hcl 10 _ rfl ((up 0 10 (by decide)).symm.trans q0_) 0 rfl)) (by decide))⟩, fun _ _ _ => rfl⟩
  | 1, _ => exact stepV rfl rfl (execLdL rfl (hdep _ rfl 0 rfl _ rfl _ rfl) (ot_0 (on9 FQ hT.1))) ⟨s, ⟨_, rfl, rfl⟩, ⟨hT.1, (fun q0_ q1_ => (hT.2.1 (by rw [up 1 8 (by decide)] at q0_; exact q0_) (by rw [up 1 10 (by decide)] at q1_; exact q1_))), (fun q0_ => (hT.2.2.1 (by rw [up 1 8 (by decide)] at q0_; exact q0_))), (fun q0_ => absurd (hl_.symm.trans (hcl 10 _ rfl ((up 1 10 (by decide)).symm.trans q0_) 1 rfl)) (by decide))⟩, fun _ _ _ => rfl⟩
  | 2, _ => exact stepV rfl rfl (execFldOt1 rfl ((hf 1 (by decide)).trans t1)) ⟨s, ⟨_, rfl, rfl⟩, ⟨hT.1, (fun q0_ q1_ => (hT.2.1 (by rw [up 2 8 (by decide)] at q0_; exact q0_) (by rw [up 2 10 (by decide)] at q1_; exact q1_))), (fun q0_ => (hT.2.2.1 (by rw [up 2 8 (by decide)] at q0_; exact q0_))), (fun q0_ => absurd (hl_.symm.trans (hcl 10 _ rfl ((up 2 10 (by decide)).symm.trans q0_) 2 rfl)) (by decide))⟩, fun _ _ _ => rfl⟩
  | 3, _ => exact stepV rfl rfl (execLd18 rfl (hdep _ rfl 2 rfl _ rfl _ rfl) (on9 FQ hT.1)) ⟨s, ⟨_, rfl, rfl⟩, ⟨hT.1, (fun q0_ q1_ => (hT.2.1 (by rw [up 3 8 (by decide)] at q0_; exact q0_) (by rw [up 3 10 (by decide)] at q1_; exact q1_))), (fun q0_ => (hT.2.2.1 (by rw [up 3 8 (by decide)] at q0_; exact q0_))), (fun q0_ => absurd (hl_.symm.trans (hcl 10 _ rfl ((up 3 10 (by decide)).symm.trans q0_) 3 rfl)) (by decide))⟩, fun _ _ _ => rfl⟩
  | 4, _ => exact stepV rfl rfl (execFldOt2 rfl ((hf 1 (by decide)).trans t1)) ⟨s, ⟨_, rfl, rfl⟩, ⟨hT.1, (fun q0_ q1_ => (hT.2.1 (by rw [up 4 8 (by decide)] at q0_; exact q0_) (by rw [up 4 10 (by decide)] at q1_; exact q1_))), (fun q0_ => (hT.2.2.1 (by rw [up 4 8 (by decide)] at q0_; exact q0_))), (fun q0_ => (hT.2.2.2 (by rw [up 4 10 (by decide)] at q0_; exact q0_)))⟩, fun _ _ _ => rfl⟩
  | 5, _ => exact stepV rfl rfl (execLdLI (v := lv) rfl (hdep _ rfl 4 rfl _ rfl _ rfl) (ot_19 (on9 FQ hT.1))) ⟨s, ⟨_, rfl, rfl⟩, ⟨hT.1, (fun q0_ q1_ => (hT.2.1 (by rw [up 5 8 (by decide)] at q0_; exact q0_) (by rw [up 5 10 (by decide)] at q1_; exact q1_))), (fun q0_ => (hT.2.2.1 (by rw [up 5 8 (by decide)] at q0_; exact q0_))), (fun q0_ => (hT.2.2.2 (by rw [up 5 10 (by decide)] at q0_; exact q0_)))⟩, fun _ _ _ => rfl⟩
  | 6, _ => exact stepV rfl rfl (execFldOt3 rfl ((hf 1 (by decide)).trans t1)) ⟨s, ⟨_, rfl, rfl⟩, ⟨hT.1, (fun q0_ q1_ => (hT.2.1 (by rw [up 6 8 (by decide)] at q0_; exact q0_) (by rw [up 6 10 (by decide)] at q1_; exact q1_))), (fun q0_ => (hT.2.2.1 (by rw [up 6 8 (by decide)] at q0_; exact q0_))), (fun q0_ => (hT.2.2.2 (by rw [up 6 10 (by decide)] at q0_; exact q0_)))⟩, fun _ _ _ => rfl⟩
  | 7, _ => exact stepV rfl rfl (execLd3 rfl (hdep _ rfl 6 rfl _ rfl _ rfl) (ot_20 (on9 FQ hT.1))) ⟨s, ⟨_, rfl, rfl⟩, ⟨hT.1, (fun q0_ q1_ => (hT.2.1 (by rw [up 7 8 (by decide)] at q0_; exact q0_) (by rw [up 7 10 (by decide)] at q1_; exact q1_))), (fun q0_ => (hT.2.2.1 (by rw [up 7 8 (by decide)] at q0_; exact q0_))), (fun q0_ => (hT.2.2.2 (by rw [up 7 10 (by decide)] at q0_; exact q0_)))⟩, fun _ _ _ => rfl⟩
  | 8, _ =>
   refine stepV rfl rfl (execAll18 rfl) ⟨X.heap.size, ⟨_, rfl, rfl⟩, ⟨hT.1.trans (((belNew X _)).mono hT.1.size), (fun _q0_ _q1_ => heapNew X _), (fun _q0_ => (hT.1).size), (fun q0_ => absurd (hl_.symm.trans (hcl 10 _ rfl ((up 8 10 (by decide)).symm.trans q0_) 8 rfl)) (by decide))⟩, fun i hi hli => ?_⟩
   match i, hi with
   | 0, _ => rfl
   | 1, _ => rfl
   | 2, _ => rfl
   | 3, _ => rfl
   | 4, _ => rfl
   | 5, _ => rfl
   | 6, _ => rfl
   | 7, _ => rfl
   | 8, _ => exact absurd (hl_.symm.trans hli) (by decide)
   | 9, _ => rfl
   | 10, _ => rfl
   | 11, _ => rfl
   | 12, _ => rfl
   | k_ + 13, h_ => exact absurd h_ (by simp)
  | 9, _ => exact stepV rfl rfl (execAsgB rfl (hdep _ rfl 1 rfl _ rfl _ rfl)) ⟨s, ⟨_, rfl, rfl⟩, ⟨hT.1, (fun q0_ q1_ => (hT.2.1 (by rw [up 9 8 (by decide)] at q0_; exact q0_) (by rw [up 9 10 (by decide)] at q1_; exact q1_))), (fun q0_ => (hT.2.2.1 (by rw [up 9 8 (by decide)] at q0_; exact q0_))), (fun q0_ => absurd (hl_.symm.trans (hcl 10 _ rfl ((up 9 10 (by decide)).symm.trans q0_) 9 rfl)) (by decide))⟩, fun _ _ _ => rfl⟩
  | 10, _ =>
   refine stepS rfl rfl (execSt18 rfl (hdep _ rfl 8 rfl _ rfl _ rfl) (hdep _ rfl 3 rfl _ rfl _ rfl) (hT.2.1 (hl2 _ rfl 8 rfl) hl_)) ⟨s, ⟨_, rfl, rfl⟩, ⟨below4 hT.1 (hT.2.2.1 (hl2 _ rfl 8 rfl)) _, (fun q0_ q1_ => absurd q1_ (by unfold updB; simp)), (fun q0_ => (hT.2.2.1 (by rw [up 10 8 (by decide)] at q0_; exact q0_))), (fun _q0_ => setRow_heap _ _ _ _ _ _ (hT.2.1 (hl2 _ rfl 8 rfl) hl_))⟩, fun i hi hli => ?_⟩
   match i, hi with
   | 0, _ => rfl
   | 1, _ => rfl
   | 2, _ => rfl
   | 3, _ => rfl
   | 4, _ => rfl
   | 5, _ => rfl
   | 6, _ => rfl
   | 7, _ => rfl
   | 8, _ => rfl
   | 9, _ => rfl
   | 10, _ => exact absurd (hl_.symm.trans hli) (by decide)
   | 11, _ => rfl
   | 12, _ => rfl
   | k_ + 13, h_ => exact absurd h_ (by simp)
  | 11, _ => exact stepV rfl rfl (execAsgB rfl (hdep _ rfl 5 rfl _ rfl _ rfl)) ⟨s, ⟨_, rfl, rfl⟩, ⟨hT.1, (fun q0_ q1_ => absurd (q1_.symm.trans ((up 11 10 (by decide)).trans (hl2 _ rfl 10 rfl))) (by decide)), (fun q0_ => (hT.2.2.1 (by rw [up 11 8 (by decide)] at q0_; exact q0_))), (fun q0_ => (hT.2.2.2 (by rw [up 11 10 (by decide)] at q0_; exact q0_)))⟩, fun _ _ _ => rfl⟩
  | 12, _ => exact stepV rfl rfl (execAsgB rfl (hdep _ rfl 7 rfl _ rfl _ rfl)) ⟨s, ⟨_, rfl, rfl⟩, ⟨hT.1, (fun q0_ q1_ => absurd (q1_.symm.trans ((up 12 10 (by decide)).trans (hl2 _ rfl 10 rfl))) (by decide)), (fun q0_ => (hT.2.2.1 (by rw [up 12 8 (by decide)] at q0_; exact q0_))), (fun q0_ => (hT.2.2.2 (by rw [up 12 10 (by decide)] at q0_; exact q0_)))⟩, fun _ _ _ => rfl⟩
  | k_ + 13, h_ => exact absurd h_ (by simp)
 rintro l_ g4 a X3 h1 h2 h3 h4 hall hT
 obtain ⟨bX, FZ, Fg, FA⟩ := hT
 clear FZ
 replace Fg : (X1.heap.size ≤ g4) := Fg (hall 8 (by decide))
 replace FA : (X3.heap[g4]? = some (.cells (bytesL 18 nz).toArray 46)) := FA (hall 10 (by decide))
 clear hall
 have t3 : a.eval (.tmp 3) = pv := h4 (9, 3) (by decide)
 have t4 : a.eval (.tmp 4) = .pointer (some ⟨g4, 0, none⟩) := h4 (8, 4) (by decide)
 have t5 : a.eval (.tmp 5) = lv := h4 (11, 5) (by decide)
 have t6 : a.eval (.tmp 6) = .int .i64 ch := h4 (12, 6) (by decide)
 replace FP := (FP.on bX)
 replace FI := (FI.on bX)
 replace FQ := (on9 FQ bX)
 have ZX3 := bX.size
 replace BW := BW.trans (bX.mono BW.size)
 clear bX
 replace A := (⟨h1, h2.trans A.2⟩ : a.tmps.size = 119 ∧ a.defers = [])
 clear h1 h2 h3 h4
 clear t1
 have FN : SliceN X3 (.slice (some ⟨g4, 0, none⟩) 18 18) 18 nz := sl18N FA hnz
 clear FA FQ
 refine wp_seq ?_
 refine wp_se (σ := Value) 119 [2, 4] [4] (fun k_ s X => match k_ with | 0 => Below X3.heap.size X3 X | _ => Below X3.heap.size X3 X ∧ (SliceI X s (zl (riE L ((m : Nat) : Int) ch p) (((m : Nat) : Int)).toNat) (orF L ((m : Nat) : Int) ch p))) (fun s => fun i_ => match i_ with | 2 => .int .i64 ((m : Nat) : Int) | 4 => .tuple #[s, .int .i64 ((riE L ((m : Nat) : Int) ch p : Nat) : Int)] | _ => undef) undef A (Below.refl _ _) (And.intro ?_ (And.intro ?_ trivial)) ?_
 ·exact fun s a X e hS => stepV rfl rfl (execLenI (len := m) rfl ((e (.tmp 27)).trans t5) ((FI.on hS)).shp) ⟨s, ⟨_, rfl, rfl⟩, hS, ar⟩
 ·intro s a X e hS
  refine stepC rfl rfl (execCall3 Try.func10 (by kernel_rfl) (by kernel_rfl) rfl ((e (.tmp 26)).trans t3) (e (.tmp 28)) ((e (.tmp 29)).trans t6)) (porder p L ((m : Nat) : Int) ch _ X (FP.on hS) (by omega)) fun e w' hh => ?_
  obtain ⟨r_, he, hk, hb⟩ := hh
  refine ⟨_, he, r_, ⟨_, rfl, rfl⟩, ⟨(hS).trans ((hb).mono (hS).size), own_ints hk or_fits⟩, (And.intro (fun _ => rfl) (And.intro (fun h => absurd h (by decide)) trivial))⟩
 rintro v30 a X4 A e (hS : Below X3.heap.size X3 X4 ∧ (SliceI X4 v30 (zl (riE L ((m : Nat) : Int) ch p) (((m : Nat) : Int)).toNat) (orF L ((m : Nat) : Int) ch p)))
 obtain ⟨bX, Fv30⟩ := hS
 have t7 : a.eval (.tmp 7) = v30 := e _
 have t8 : a.eval (.tmp 8) = .int .i64 ((riE L ((m : Nat) : Int) ch p : Nat) : Int) := e _
 replace t3 := kt e t3
 replace t4 := kt e t4
 replace t5 := kt e t5
 replace t6 := kt e t6
 replace FP := (FP.on bX)
 replace FI := (FI.on bX)
 replace FN := (FN.on bX)
 have ZX4 := bX.size
 replace BW := BW.trans (bX.mono BW.size)
 clear bX
 clear e
 refine wp_seq ?_
 refine wp_se (σ := Value) 119 [3] [3] (fun k_ s X => match k_ with | 0 => Below X4.heap.size X4 X | _ => Below X4.heap.size X4 X ∧ (SliceI X s (zl (riE L ((m : Nat) : Int) ch p) m) (fun i => lf (orF L ((m : Nat) : Int) ch p i).toNat))) (fun s => fun i_ => match i_ with | 3 => .tuple #[s, .int .i64 ((riE L ((m : Nat) : Int) ch p : Nat) : Int)] | _ => undef) undef A (Below.refl _ _) (And.intro ?_ trivial) ?_
 ·intro s a X e hS
  refine stepC rfl rfl (execCall3 Try.func11 (by kernel_rfl) (by kernel_rfl) rfl ((e (.tmp 34)).trans t3) ((e (.tmp 35)).trans t6) ((e (.tmp 36)).trans t5)) (pshuffleI p L m ch lf _ _ X (FP.on hS) (by omega) (FI.on hS)) fun e w' hh => ?_
  obtain ⟨r_, he, hk, hb⟩ := hh
  refine ⟨_, he, r_, ⟨_, rfl, rfl⟩, ⟨(hS).trans ((hb).mono (hS).size), own_ints hk (shf_fits ((FI.on hS)).fits)⟩, (And.intro (fun h => absurd h (by decide)) trivial)⟩
 rintro v37 a X5 A e (hS : Below X4.heap.size X4 X5 ∧ (SliceI X5 v37 (zl (riE L ((m : Nat) : Int) ch p) m) (fun i => lf (orF L ((m : Nat) : Int) ch p i).toNat)))
 obtain ⟨bX, Fv37⟩ := hS
 have t9 : a.eval (.tmp 9) = v37 := e _
 have t10 : a.eval (.tmp 10) = .int .i64 ((riE L ((m : Nat) : Int) ch p : Nat) : Int) := e _
 replace t3 := kt e t3
 replace t4 := kt e t4
 replace t5 := kt e t5
 replace t6 := kt e t6
 replace t7 := kt e t7
 replace t8 := kt e t8
 replace FP := (FP.on bX)
 replace FI := (FI.on bX)
 replace FN := (FN.on bX)
 replace Fv30 := (Fv30.on bX)
 have ZX5 := bX.size
 replace BW := BW.trans (bX.mono BW.size)
 clear bX
 clear e
 replace Fv30 : SliceI X5 v30 (zl (riE L ((m : Nat) : Int) ch p) m) (orF L ((m : Nat) : Int) ch p) := (by have h_ := Fv30; exact h_)
 refine wp_seq (wp_seq ?_)
 refine wp_se 119 [2, 5, 7, 8] [] (fun _ s X => Below X5.heap.size X5 X) (fun s => fun i_ => match i_ with | 2 => .bool false | 5 => .int .i64 ((zl (riE L ((m : Nat) : Int) ch p) m : Nat) : Int) | 7 => .int .i64 ((zl (riE L ((m : Nat) : Int) ch p) m : Nat) : Int) | 8 => .bool false | _ => undef) () A (Below.refl _ _) (And.intro ?_ (And.intro ?_ (And.intro ?_ (And.intro ?_ trivial)))) ?_
 ·exact fun s a X e hS => stepV rfl rfl (execDec (execNeE (p := riE L ((m : Nat) : Int) ch p) (q := riE L ((m : Nat) : Int) ch p) rfl ((e (.tmp 40)).trans t8) ((e (.tmp 41)).trans t10)) (decide_eq_false (by omega))) ⟨s, ⟨_, rfl, rfl⟩, hS, ar⟩
 ·exact fun s a X e hS => stepV rfl (wy rfl rfl rfl (e (.tmp 43))) (execLenI (len := zl (riE L ((m : Nat) : Int) ch p) m) rfl ((e (.tmp 44)).trans t9) ((Fv37.on hS)).shp) ⟨s, ⟨_, rfl, rfl⟩, hS, ar⟩
 ·exact fun s a X e hS => stepV rfl (wy rfl rfl rfl (e (.tmp 43))) (execLenI (len := zl (riE L ((m : Nat) : Int) ch p) m) rfl ((e (.tmp 46)).trans t7) ((Fv30.on hS)).shp) ⟨s, ⟨_, rfl, rfl⟩, hS, ar⟩
 ·exact fun s a X e hS => stepV rfl (wy rfl rfl rfl (e (.tmp 43))) (execDec (execNeN (p := zl (riE L ((m : Nat) : Int) ch p) m) (q := zl (riE L ((m : Nat) : Int) ch p) m) rfl (e (.tmp 45)) (e (.tmp 47))) (decide_eq_false (by omega))) ⟨s, ⟨_, rfl, rfl⟩, hS, ar⟩
 rintro _ a X6 A e (bX : Below X5.heap.size X5 X6)
 have t49 : a.eval (.tmp 49) = .bool false := e _
 replace t3 := kt e t3
 replace t4 := kt e t4
 replace t5 := kt e t5
 replace t6 := kt e t6
 replace t7 := kt e t7
 replace t8 := kt e t8
 replace t9 := kt e t9
 replace FP := (FP.on bX)
 replace FI := (FI.on bX)
 replace FN := (FN.on bX)
 replace Fv30 := (Fv30.on bX)
 replace Fv37 := (Fv37.on bX)
 have ZX6 := bX.size
 replace BW := BW.trans (bX.mono BW.size)
 clear bX
 clear e t10
 refine wp_cond_false t49 (wp_skip ?_)
 clear t49
 refine wp_seq (wp_seq ?_)
 by_cases hE : riE L ((m : Nat) : Int) ch p = 0
 ·have hm256 : m ≤ 256 := (ri_ok hE).le
  refine wp_se 119 [1, 4, 6, 7] [] (fun _ s X => Below X6.heap.size X6 X) (fun s => fun i_ => match i_ with | 1 => .bool true | 4 => .int .i64 ((zl (riE L ((m : Nat) : Int) ch p) m : Nat) : Int) | 6 => .int .i64 ((m : Nat) : Int) | 7 => .bool false | _ => undef) () A (Below.refl _ _) (And.intro ?_ (And.intro ?_ (And.intro ?_ (And.intro ?_ trivial)))) ?_
  ·exact fun s a X e hS => stepV rfl rfl (execDec (execEqE (p := riE L ((m : Nat) : Int) ch p) (q := 0) rfl ((e (.tmp 50)).trans t8) rfl) (decide_eq_true (by omega))) ⟨s, ⟨_, rfl, rfl⟩, hS, ar⟩
  ·exact fun s a X e hS => stepV rfl (wy rfl rfl rfl (e (.tmp 52))) (execLenI (len := zl (riE L ((m : Nat) : Int) ch p) m) rfl ((e (.tmp 53)).trans t7) ((Fv30.on hS)).shp) ⟨s, ⟨_, rfl, rfl⟩, hS, ar⟩
  ·exact fun s a X e hS => stepV rfl (wy rfl rfl rfl (e (.tmp 52))) (execLenI (len := m) rfl ((e (.tmp 55)).trans t5) ((FI.on hS)).shp) ⟨s, ⟨_, rfl, rfl⟩, hS, ar⟩
  ·exact fun s a X e hS => stepV rfl (wy rfl rfl rfl (e (.tmp 52))) (execDec (execNeN (p := zl (riE L ((m : Nat) : Int) ch p) m) (q := m) rfl (e (.tmp 54)) (e (.tmp 56))) (decide_eq_false (by rw [hE, zl_ok]; omega))) ⟨s, ⟨_, rfl, rfl⟩, hS, ar⟩
  rintro _ a X8 A e (bX : Below X6.heap.size X6 X8)
  have t58 : a.eval (.tmp 58) = .bool false := e _
  replace t3 := kt e t3
  replace t4 := kt e t4
  replace t5 := kt e t5
  replace t6 := kt e t6
  replace t7 := kt e t7
  replace t8 := kt e t8
  replace t9 := kt e t9
  replace FP := (FP.on bX)
  replace FI := (FI.on bX)
  replace FN := (FN.on bX)
  replace Fv30 := (Fv30.on bX)
  replace Fv37 := (Fv37.on bX)
  have ZX8 := bX.size
  replace BW := BW.trans (bX.mono BW.size)
  clear bX
  clear e
  refine wp_cond_false t58 (wp_skip ?_)
  clear t58
  replace Fv30 : SliceI X8 v30 (m) (orF L ((m : Nat) : Int) ch p) := (by have h_ := Fv30; rw [hE, zl_ok] at h_; exact h_)
  replace Fv37 : SliceI X8 v37 (m) (fun i => lf (orF L ((m : Nat) : Int) ch p i).toNat) := (by have h_ := Fv37; rw [hE, zl_ok] at h_; exact h_)
  have hft := ri_ok hE
  refine wp_seq (wp_seq ?_)
  refine wp_se 119 [] [] (fun _ s X => Below X8.heap.size X8 X) (fun s => fun _ => undef) () A (Below.refl _ _) trivial ?_
  rintro _ a X10 A e (bX : Below X8.heap.size X8 X10)
  have t11 : a.eval (.tmp 11) = .int .i64 ((0 : Nat) : Int) := e _
  replace t3 := kt e t3
  replace t4 := kt e t4
  replace t5 := kt e t5
  replace t6 := kt e t6
  replace t7 := kt e t7
  replace t8 := kt e t8
  replace t9 := kt e t9
  replace FP := (FP.on bX)
  replace FI := (FI.on bX)
  replace FN := (FN.on bX)
  replace Fv30 := (Fv30.on bX)
  replace Fv37 := (Fv37.on bX)
  have ZX10 := bX.size
  replace BW := BW.trans (bX.mono BW.size)
  clear bX
  clear e
  have BB : Below X10.heap.size X10 X10 := Below.refl _ _
  refine wp_block ?_
  refine wp_loop (fun a W => ∃ (i : Nat), i ≤ m ∧ (a.tmps.size = 119 ∧ a.defers = []) ∧ a.eval (.tmp 3) = pv ∧ a.eval (.tmp 4) = .pointer (some ⟨g4, 0, none⟩) ∧ a.eval (.tmp 5) = lv ∧ a.eval (.tmp 6) = .int .i64 ch ∧ a.eval (.tmp 7) = v30 ∧ a.eval (.tmp 8) = .int .i64 ((riE L ((m : Nat) : Int) ch p : Nat) : Int) ∧ a.eval (.tmp 9) = v37 ∧ a.eval (.tmp 11) = .int .i64 ((i : Nat) : Int) ∧ Below X10.heap.size X10 W) (fun a _ => m - (intOf (a.eval (.tmp 11))).toNat) ⟨0, Nat.zero_le _, A, t3, t4, t5, t6, t7, t8, t9, t11, BB⟩ ?_
  rintro a XL11 ⟨i, hi, A, t3, t4, t5, t6, t7, t8, t9, t11, BB⟩
  have esi := t11
  refine wp_seq (wp_seq ?_)
  refine wp_se 119 [2, 3] [] (fun _ s X => Below X10.heap.size X10 X) (fun s => fun i_ => match i_ with | 2 => .int .i64 ((m : Nat) : Int) | 3 => .bool (decide (i < m)) | _ => undef) () A (BB) (And.intro ?_ (And.intro ?_ trivial)) ?_
  ·exact fun s a X e hS => stepV rfl rfl (execLenI (len := m) rfl ((e (.tmp 60)).trans t7) ((Fv30.on hS)).shp) ⟨s, ⟨_, rfl, rfl⟩, hS, ar⟩
  ·exact fun s a X e hS => stepV rfl rfl (execLtW (p := i) (q := m) rfl ((e (.tmp 59)).trans t11) (e (.tmp 61))) ⟨s, ⟨_, rfl, rfl⟩, hS, ar⟩
  rintro _ a X11 A e (BB : Below X10.heap.size X10 X11)
  have t62 : a.eval (.tmp 62) = .bool (decide (i < m)) := e _
  replace t3 := kt e t3
  replace t4 := kt e t4
  replace t5 := kt e t5
  replace t6 := kt e t6
  replace t7 := kt e t7
  replace t8 := kt e t8
  replace t9 := kt e t9
  replace t11 := kt e t11
  clear e
  by_cases lti : i < m
  ·rw [decide_eq_true lti] at t62
   refine wp_cond_true t62 (wp_skip ?_)
   clear t62
   refine wp_seq (wp_block ?_)
   obtain ⟨oob, ooo, ooc, eoo, hoob, hooc⟩ := open_sl Fv30 (by omega)
   have coo : ∀ k, k < m → ∀ X, Below X10.heap.size X10 X → X.cell? ⟨oob, ooo + k, none⟩ = some (.int .i64 ((orF L ((m : Nat) : Int) ch p) k)) := fun k hk X hX => by rw [cell_below hX hoob]; exact hooc k hk
   obtain ⟨llb, llo, llc, ell, hllb, hllc⟩ := open_sl Fv37 (by omega)
   have cll : ∀ k, k < m → ∀ X, Below X10.heap.size X10 X → X.cell? ⟨llb, llo + k, none⟩ = some (.int .i64 ((fun i => lf (orF L ((m : Nat) : Int) ch p i).toNat) k)) := fun k hk X hX => by rw [cell_below hX hllb]; exact hllc k hk
   obtain ⟨iib, iio, iic, eii, hiib, hiic⟩ := open_sl FI (by omega)
   have cii : ∀ k, k < m → ∀ X, Below X10.heap.size X10 X → X.cell? ⟨iib, iio + k, none⟩ = some (.int .i64 ((lf) k)) := fun k hk X hX => by rw [cell_below hX hiib]; exact hiic k hk
   have hor := hft.or_lt lti
   obtain ⟨w, ew⟩ : ∃ w : Nat, orF L ((m : Nat) : Int) ch p i = w := ⟨(orF L ((m : Nat) : Int) ch p i).toNat, by omega⟩
   have hwm : w < m := by omega
   refine wp_seq ?_
   refine wp_region_detA 119 [(0, 65), (1, 66), (2, 67), (3, 68), (4, 69), (5, 70), (6, 71), (7, 72), (8, 73), (9, 74), (10, 75), (11, 76), (12, 77), (13, 78), (14, 79), (15, 80), (16, 81), (17, 82), (18, 83), (19, 84), (20, 85), (21, 86), (22, 87), (23, 88), (24, 89), (25, 90), (26, 91), (27, 92)] (fun i_ => match i_ with | 0 => v30 | 1 => .int .i64 ((i : Nat) : Int) | 2 => .pointer (some ⟨oob, ooo + i, none⟩) | 3 => .int .i64 ((w : Nat) : Int) | 4 => .bool false | 5 => .bool false | 6 => v30 | 7 => .int .i64 ((i : Nat) : Int) | 8 => .pointer (some ⟨oob, ooo + i, none⟩) | 9 => .int .i64 ((w : Nat) : Int) | 10 => lv | 11 => .int .i64 ((m : Nat) : Int) | 12 => .bool false | 13 => .bool false | 14 => .bool false | 15 => v37 | 16 => .int .i64 ((i : Nat) : Int) | 17 => .pointer (some ⟨llb, llo + i, none⟩) | 18 => .int .i64 (lf w) | 19 => lv | 20 => v30 | 21 => .int .i64 ((i : Nat) : Int) | 22 => .pointer (some ⟨oob, ooo + i, none⟩) | 23 => .int .i64 ((w : Nat) : Int) | 24 => .pointer (some ⟨iib, iio + w, none⟩) | 25 => .int .i64 (lf w) | 26 => .bool false | 27 => .bool false | _ => undef) (fun _ X => Below X10.heap.size X10 X) (by kernel_rfl) (by kernel_rfl) A.1 (by kernel_rfl) (by decide) (by decide) BB.drew ?_ ?_
   ·intro i_ hi_ l_ a X hl_ hf hdep hl2 hcl hno hT
    match i_, hi_ with
    | 0, _ => exact stepV rfl rfl (execMvB rfl ((hf 7 (by decide)).trans t7)) ⟨⟨_, rfl, rfl⟩, hT⟩
    | 1, _ => exact stepV rfl rfl (execMvB rfl ((hf 11 (by decide)).trans t11)) ⟨⟨_, rfl, rfl⟩, hT⟩
    | 2, _ => exact stepV rfl rfl (execIdxN (k := i) rfl ((hdep _ rfl 0 rfl _ rfl _ rfl).trans eoo) (hdep _ rfl 1 rfl _ rfl _ rfl) lti) ⟨⟨_, rfl, rfl⟩, hT⟩
    | 3, _ => exact stepV rfl rfl (execLd3 rfl (hdep _ rfl 2 rfl _ rfl _ rfl) ((coo i lti X hT).trans (by rw [ew]))) ⟨⟨_, rfl, rfl⟩, hT⟩
    | 4, _ => exact stepV rfl rfl (execDec (execLtW (p := w) (q := 0) rfl (hdep _ rfl 3 rfl _ rfl _ rfl) rfl) (decide_eq_false (by omega))) ⟨⟨_, rfl, rfl⟩, hT⟩
    | 5, _ => exact stepV rfl rfl (execMvB rfl (hdep _ rfl 4 rfl _ rfl _ rfl)) ⟨⟨_, rfl, rfl⟩, hT⟩
    | 6, _ => exact stepV rfl (wantedOf rfl (yieldedAt rfl rfl (show a.eval (.tmp 70) = .bool false from (hdep _ rfl 5 rfl _ rfl _ rfl)))) (execMvB rfl ((hf 7 (by decide)).trans t7)) ⟨⟨_, rfl, rfl⟩, hT⟩
    | 7, _ => exact stepV rfl (wantedOf rfl (yieldedAt rfl rfl (show a.eval (.tmp 70) = .bool false from (hdep _ rfl 5 rfl _ rfl _ rfl)))) (execMvB rfl ((hf 11 (by decide)).trans t11)) ⟨⟨_, rfl, rfl⟩, hT⟩
    | 8, _ => exact stepV rfl (wantedOf rfl (yieldedAt rfl rfl (show a.eval (.tmp 70) = .bool false from (hdep _ rfl 5 rfl _ rfl _ rfl)))) (execIdxN (k := i) rfl ((hdep _ rfl 6 rfl _ rfl _ rfl).trans eoo) (hdep _ rfl 7 rfl _ rfl _ rfl) lti) ⟨⟨_, rfl, rfl⟩, hT⟩
    | 9, _ => exact stepV rfl (wantedOf rfl (yieldedAt rfl rfl (show a.eval (.tmp 70) = .bool false from (hdep _ rfl 5 rfl _ rfl _ rfl)))) (execLd3 rfl (hdep _ rfl 8 rfl _ rfl _ rfl) ((coo i lti X hT).trans (by rw [ew]))) ⟨⟨_, rfl, rfl⟩, hT⟩
    | 10, _ => exact stepV rfl (wantedOf rfl (yieldedAt rfl rfl (show a.eval (.tmp 70) = .bool false from (hdep _ rfl 5 rfl _ rfl _ rfl)))) (execMvB rfl ((hf 5 (by decide)).trans t5)) ⟨⟨_, rfl, rfl⟩, hT⟩
    | 11, _ => exact stepV rfl (wantedOf rfl (yieldedAt rfl rfl (show a.eval (.tmp 70) = .bool false from (hdep _ rfl 5 rfl _ rfl _ rfl)))) (execLenI (len := m) rfl (hdep _ rfl 10 rfl _ rfl _ rfl) ((FI.on hT)).shp) ⟨⟨_, rfl, rfl⟩, hT⟩
    | 12, _ => exact stepV rfl (wantedOf rfl (yieldedAt rfl rfl (show a.eval (.tmp 70) = .bool false from (hdep _ rfl 5 rfl _ rfl _ rfl)))) (execDec (execGe8 (p := w) (q := m) rfl (hdep _ rfl 9 rfl _ rfl _ rfl) (hdep _ rfl 11 rfl _ rfl _ rfl)) (decide_eq_false (by omega))) ⟨⟨_, rfl, rfl⟩, hT⟩
    | 13, _ => exact stepV rfl rfl (execPickF rfl (hdep _ rfl 5 rfl _ rfl _ rfl) (hdep _ rfl 12 rfl _ rfl _ rfl)) ⟨⟨_, rfl, rfl⟩, hT⟩
    | 14, _ => exact stepV rfl rfl (execMvB rfl (hdep _ rfl 13 rfl _ rfl _ rfl)) ⟨⟨_, rfl, rfl⟩, hT⟩
    | 15, _ => exact stepV rfl (wantedOf rfl (yieldedAt rfl rfl (show a.eval (.tmp 79) = .bool false from (hdep _ rfl 14 rfl _ rfl _ rfl)))) (execMvB rfl ((hf 9 (by decide)).trans t9)) ⟨⟨_, rfl, rfl⟩, hT⟩
    | 16, _ => exact stepV rfl (wantedOf rfl (yieldedAt rfl rfl (show a.eval (.tmp 79) = .bool false from (hdep _ rfl 14 rfl _ rfl _ rfl)))) (execMvB rfl ((hf 11 (by decide)).trans t11)) ⟨⟨_, rfl, rfl⟩, hT⟩
    | 17, _ => exact stepV rfl (wantedOf rfl (yieldedAt rfl rfl (show a.eval (.tmp 79) = .bool false from (hdep _ rfl 14 rfl _ rfl _ rfl)))) (execIdxN (k := i) rfl ((hdep _ rfl 15 rfl _ rfl _ rfl).trans ell) (hdep _ rfl 16 rfl _ rfl _ rfl) lti) ⟨⟨_, rfl, rfl⟩, hT⟩
    | 18, _ => exact stepV rfl (wantedOf rfl (yieldedAt rfl rfl (show a.eval (.tmp 79) = .bool false from (hdep _ rfl 14 rfl _ rfl _ rfl)))) (execLd3 rfl (hdep _ rfl 17 rfl _ rfl _ rfl) ((cll i lti X hT).trans (by show some (Value.int .i64 (lf (orF L ((m : Nat) : Int) ch p i).toNat)) = _; rw [ew]; rfl))) ⟨⟨_, rfl, rfl⟩, hT⟩
    | 19, _ => exact stepV rfl (wantedOf rfl (yieldedAt rfl rfl (show a.eval (.tmp 79) = .bool false from (hdep _ rfl 14 rfl _ rfl _ rfl)))) (execMvB rfl ((hf 5 (by decide)).trans t5)) ⟨⟨_, rfl, rfl⟩, hT⟩
    | 20, _ => exact stepV rfl (wantedOf rfl (yieldedAt rfl rfl (show a.eval (.tmp 79) = .bool false from (hdep _ rfl 14 rfl _ rfl _ rfl)))) (execMvB rfl ((hf 7 (by decide)).trans t7)) ⟨⟨_, rfl, rfl⟩, hT⟩
    | 21, _ => exact stepV rfl (wantedOf rfl (yieldedAt rfl rfl (show a.eval (.tmp 79) = .bool false from (hdep _ rfl 14 rfl _ rfl _ rfl)))) (execMvB rfl ((hf 11 (by decide)).trans t11)) ⟨⟨_, rfl, rfl⟩, hT⟩
    | 22, _ => exact stepV rfl (wantedOf rfl (yieldedAt rfl rfl (show a.eval (.tmp 79) = .bool false from (hdep _ rfl 14 rfl _ rfl _ rfl)))) (execIdxN (k := i) rfl ((hdep _ rfl 20 rfl _ rfl _ rfl).trans eoo) (hdep _ rfl 21 rfl _ rfl _ rfl) lti) ⟨⟨_, rfl, rfl⟩, hT⟩
    | 23, _ => exact stepV rfl (wantedOf rfl (yieldedAt rfl rfl (show a.eval (.tmp 79) = .bool false from (hdep _ rfl 14 rfl _ rfl _ rfl)))) (execLd3 rfl (hdep _ rfl 22 rfl _ rfl _ rfl) ((coo i lti X hT).trans (by rw [ew]))) ⟨⟨_, rfl, rfl⟩, hT⟩
    | 24, _ => exact stepV rfl (wantedOf rfl (yieldedAt rfl rfl (show a.eval (.tmp 79) = .bool false from (hdep _ rfl 14 rfl _ rfl _ rfl)))) (execIdxN (k := w) rfl ((hdep _ rfl 19 rfl _ rfl _ rfl).trans eii) (hdep _ rfl 23 rfl _ rfl _ rfl) hwm) ⟨⟨_, rfl, rfl⟩, hT⟩
    | 25, _ => exact stepV rfl (wantedOf rfl (yieldedAt rfl rfl (show a.eval (.tmp 79) = .bool false from (hdep _ rfl 14 rfl _ rfl _ rfl)))) (execLd3 rfl (hdep _ rfl 24 rfl _ rfl _ rfl) (cii w hwm X hT)) ⟨⟨_, rfl, rfl⟩, hT⟩
    | 26, _ => exact stepV rfl (wantedOf rfl (yieldedAt rfl rfl (show a.eval (.tmp 79) = .bool false from (hdep _ rfl 14 rfl _ rfl _ rfl)))) (execNeI rfl (hdep _ rfl 18 rfl _ rfl _ rfl) (hdep _ rfl 25 rfl _ rfl _ rfl)) ⟨⟨_, rfl, rfl⟩, hT⟩
    | 27, _ => exact stepV rfl rfl (execPickF rfl (hdep _ rfl 14 rfl _ rfl _ rfl) (hdep _ rfl 26 rfl _ rfl _ rfl)) ⟨⟨_, rfl, rfl⟩, hT⟩
    | k_ + 28, h_ => exact absurd h_ (by simp)
   intro l_ a X13 h1 h2 h3 h4 hall hT
   clear hall
   clear BB
   have BB := hT
   clear hT
   replace t3 := (h3 3 (by decide)).trans t3
   replace t4 := (h3 4 (by decide)).trans t4
   replace t5 := (h3 5 (by decide)).trans t5
   replace t6 := (h3 6 (by decide)).trans t6
   replace t7 := (h3 7 (by decide)).trans t7
   replace t8 := (h3 8 (by decide)).trans t8
   replace t9 := (h3 9 (by decide)).trans t9
   replace t11 := (h3 11 (by decide)).trans t11
   have t92 : a.eval (.tmp 92) = .bool false := h4 (27, 92) (by decide)
   replace A := (⟨h1, h2.trans A.2⟩ : a.tmps.size = 119 ∧ a.defers = [])
   clear h1 h2 h3 h4
   refine wp_cond_false t92 (wp_skip ?_)
   clear t92
   refine wp_se 119 [1] [] (fun _ s X => Below X10.heap.size X10 X) (fun s => fun i_ => match i_ with | 1 => .int .i64 ((i + 1 : Nat) : Int) | _ => undef) () A (BB) (And.intro ?_ trivial) ?_
   ·exact fun s a X e hS => stepV rfl rfl (execAd8 (p := i) (q := 1) rfl ((e (.tmp 63)).trans t11) rfl (by omega)) ⟨s, ⟨_, rfl, rfl⟩, hS, ar⟩
   rintro _ a X12 A e (BB : Below X10.heap.size X10 X12)
   replace t11 : a.eval (.tmp 11) = .int .i64 ((i + 1 : Nat) : Int) := e _
   replace t3 := kt e t3
   replace t4 := kt e t4
   replace t5 := kt e t5
   replace t6 := kt e t6
   replace t7 := kt e t7
   replace t8 := kt e t8
   replace t9 := kt e t9
   clear e
   exact ⟨⟨i + 1, lti, A, t3, t4, t5, t6, t7, t8, t9, t11, BB⟩, by show m - (intOf (a.eval (.tmp 11))).toNat < m - (intOf (Act.eval _ (.tmp 11))).toNat; rw [t11, esi]; show m - (i + 1) < m - i; omega⟩
  ·rw [decide_eq_false lti] at t62
   refine wp_cond_false t62 ?_
   refine wp_exit ?_
   first | with_reducible refine exit_in ?_ | with_reducible refine exit_then (exit_in ?_) | with_reducible refine exit_then (exit_then (exit_in ?_)) | refine exit_in ?_ | refine exit_then (exit_in ?_) | refine exit_then (exit_then (exit_in ?_))
   clear t62 esi
   clear t11
   replace FP := (FP.on BB)
   replace FI := (FI.on BB)
   replace FN := (FN.on BB)
   replace Fv30 := (Fv30.on BB)
   replace Fv37 := (Fv37.on BB)
   replace BW := BW.trans (BB.mono BW.size)
   clear BB
   have BB : Below X11.heap.size X11 X11 := Below.refl _ _
   refine wp_seq ?_
   refine wp_se (σ := Nat × Value) 119 [0, 2] [0, 2] (fun k_ s X => match k_ with | 0 => Below X11.heap.size X11 X | 1 => Below X11.heap.size X11 X ∧ (X.ownsRow X11.heap.size 5 1 (.slice (some ⟨s.1, 0, none⟩) 0 0) 0 (bytesL 0 p)) | _ => Below X11.heap.size X11 X ∧ (X.ownsRow X11.heap.size 5 1 s.2 L (bytesL L p))) (fun s => fun i_ => match i_ with | 0 => .slice (some ⟨s.1, 0, none⟩) 0 0 | 2 => s.2 | _ => undef) (0, undef) A (BB) (And.intro ?_ (And.intro ?_ trivial)) ?_
   ·intro s a X e hS
    refine stepV rfl rfl (execBs0 rfl) ⟨(X.heap.size, s.2), ⟨_, rfl, rfl⟩, ⟨(hS).trans (((belNew X _)).mono (hS).size), own_base (own_none X _) (hS).size⟩, (And.intro (fun h => absurd h (by decide)) (And.intro (fun h => absurd h (by decide)) trivial))⟩
   ·intro s a X e hS
    refine stepAppN (n := 0) (m := L) (p := p) rfl rfl rfl (e (.tmp 93)) ((e (.tmp 94)).trans t3) hS.2 (sliceN_cg (FP.on hS.1) (fun j hj => by rw [Nat.zero_add])) hz (by omega) (hS.1).size fun v' W' own' gr => ⟨(s.1, v'), ⟨_, rfl, rfl⟩, ⟨(hS.1).grown gr (hS.1).size (fun k hk => (hS.2.lt k hk).1), (by rw [Nat.zero_add] at own'; exact own')⟩, (And.intro (fun _ => rfl) (And.intro (fun h => absurd h (by decide)) trivial))⟩
   rintro ⟨g93, v95⟩ a X15 A e (hS : Below X11.heap.size X11 X15 ∧ (X15.ownsRow X11.heap.size 5 1 v95 L (bytesL L p)))
   obtain ⟨BB, FO⟩ := hS
   have t12 : a.eval (.tmp 12) = v95 := e _
   replace t4 := kt e t4
   replace t5 := kt e t5
   replace t6 := kt e t6
   replace t7 := kt e t7
   replace t8 := kt e t8
   clear e t3 t9
   obtain ⟨qa, qc, eq⟩ := shpO FO
   have hqc : min L 18 ≤ qc := by
    have h_ := own_slice FO FP.bytes
    rw [eq] at h_
    obtain ⟨_, c_, e_, g1, _⟩ := h_.shape
    injection e_ with _ _ e3
    omega
   refine wp_seq ?_
   refine wp_region_stB (σ := Unit) 119 [(0, 96), (1, 97), (2, 98), (3, 99), (4, 100), (5, 101), (6, 102)] (fun l_ s X => Below X11.heap.size X11 X ∧ (l_ 6 = false → (X.ownsRow X11.heap.size 5 1 v95 L (bytesL L p))) ∧ (l_ 6 = true → (X.ownsRow X11.heap.size 5 1 v95 L (bytesL L (pN L nz p))))) (fun s => fun i_ => match i_ with | 0 => v95 | 1 => v95 | 2 => .int .i64 ((L : Nat) : Int) | 3 => .int .i64 ((min L 18 : Nat) : Int) | 4 => sliced qa 0 (min L 18) qc 1 | 5 => .slice (some ⟨g4, 0, none⟩) 18 18 | 6 => .int .i64 ((min L 18 : Nat) : Int) | _ => undef) () (by kernel_rfl) (by kernel_rfl) A.1 (by kernel_rfl) (by decide) (by decide) ⟨(BB.drew), (fun _ => (ownsRow_below FO (Below.refl _ _).drew)), (fun q0_ => by cases q0_)⟩ ?_ ?_
   ·intro i_ hi_ l_ s a X hl_ hf hdep hl2 hcl hno hT
    have up : ∀ j x, x ≠ j → updB l_ j x = l_ x := fun j x hj => by unfold updB; simp [hj]
    match i_, hi_ with
    | 0, _ => exact stepV rfl rfl (execMvB rfl ((hf 12 (by decide)).trans t12)) ⟨s, ⟨_, rfl, rfl⟩, ⟨hT.1, (fun q0_ => (hT.2.1 (by rw [up 0 6 (by decide)] at q0_; exact q0_))), (fun q0_ => absurd (hl_.symm.trans (hcl 4 _ rfl (hcl 6 _ rfl ((up 0 6 (by decide)).symm.trans q0_) 4 rfl) 0 rfl)) (by decide))⟩, fun _ _ _ => rfl⟩
    | 1, _ => exact stepV rfl rfl (execMvB rfl ((hf 12 (by decide)).trans t12)) ⟨s, ⟨_, rfl, rfl⟩, ⟨hT.1, (fun q0_ => (hT.2.1 (by rw [up 1 6 (by decide)] at q0_; exact q0_))), (fun q0_ => absurd (hl_.symm.trans (hcl 2 _ rfl (hcl 3 _ rfl (hcl 4 _ rfl (hcl 6 _ rfl ((up 1 6 (by decide)).symm.trans q0_) 4 rfl) 3 rfl) 2 rfl) 1 rfl)) (by decide))⟩, fun _ _ _ => rfl⟩
    | 2, _ => exact stepV rfl rfl (execLenV (len := L) rfl (hdep _ rfl 1 rfl _ rfl _ rfl) ⟨_, _, eq⟩) ⟨s, ⟨_, rfl, rfl⟩, ⟨hT.1, (fun q0_ => (hT.2.1 (by rw [up 2 6 (by decide)] at q0_; exact q0_))), (fun q0_ => absurd (hl_.symm.trans (hcl 3 _ rfl (hcl 4 _ rfl (hcl 6 _ rfl ((up 2 6 (by decide)).symm.trans q0_) 4 rfl) 3 rfl) 2 rfl)) (by decide))⟩, fun _ _ _ => rfl⟩
    | 3, _ => exact stepV rfl rfl (execMinI rfl (hdep _ rfl 2 rfl _ rfl _ rfl) rfl) ⟨s, ⟨_, rfl, rfl⟩, ⟨hT.1, (fun q0_ => (hT.2.1 (by rw [up 3 6 (by decide)] at q0_; exact q0_))), (fun q0_ => absurd (hl_.symm.trans (hcl 4 _ rfl (hcl 6 _ rfl ((up 3 6 (by decide)).symm.trans q0_) 4 rfl) 3 rfl)) (by decide))⟩, fun _ _ _ => rfl⟩
    | 4, _ => exact stepV rfl rfl (By8.execSlH rfl ((hdep _ rfl 0 rfl _ rfl _ rfl).trans eq) (hdep _ rfl 3 rfl _ rfl _ rfl) (By8.slice_h qa L qc (min L 18) hqc X)) ⟨s, ⟨_, rfl, rfl⟩, ⟨hT.1, (fun q0_ => (hT.2.1 (by rw [up 4 6 (by decide)] at q0_; exact q0_))), (fun q0_ => absurd (hl_.symm.trans (hcl 6 _ rfl ((up 4 6 (by decide)).symm.trans q0_) 4 rfl)) (by decide))⟩, fun _ _ _ => rfl⟩
    | 5, _ => exact stepV rfl rfl (execSlice rfl ((hf 4 (by decide)).trans t4) (sl18 g4 X)) ⟨s, ⟨_, rfl, rfl⟩, ⟨hT.1, (fun q0_ => (hT.2.1 (by rw [up 5 6 (by decide)] at q0_; exact q0_))), (fun q0_ => absurd (hl_.symm.trans (hcl 6 _ rfl ((up 5 6 (by decide)).symm.trans q0_) 5 rfl)) (by decide))⟩, fun _ _ _ => rfl⟩
    | 6, _ =>
     refine stepCopy18 rfl rfl rfl (hdep _ rfl 4 rfl _ rfl _ rfl) (hdep _ rfl 5 rfl _ rfl _ rfl) eq (hT.2.1 hl_) (FN.on hT.1) fun W' own' gr => ⟨s, ⟨_, rfl, rfl⟩, ⟨(hT.1).grown gr (hT.1).size (fun k hk => ((hT.2.1 hl_).lt k hk).1), (fun q0_ => absurd q0_ (by unfold updB; simp)), (fun _q0_ => own')⟩, fun i hi hli => ?_⟩
     match i, hi with
     | 0, _ => rfl
     | 1, _ => rfl
     | 2, _ => rfl
     | 3, _ => rfl
     | 4, _ => rfl
     | 5, _ => rfl
     | 6, _ => exact absurd (hl_.symm.trans hli) (by decide)
     | k_ + 7, h_ => exact absurd h_ (by simp)
    | k_ + 7, h_ => exact absurd h_ (by simp)
   rintro l_ _ a X16 h1 h2 h3 h4 hall hT
   clear BB
   clear FO
   obtain ⟨BB, FO, FO2⟩ := hT
   clear FO
   replace FO2 : (X16.ownsRow X11.heap.size 5 1 v95 L (bytesL L (pN L nz p))) := FO2 (hall 6 (by decide))
   clear hall
   replace t5 := (h3 5 (by decide)).trans t5
   replace t6 := (h3 6 (by decide)).trans t6
   replace t7 := (h3 7 (by decide)).trans t7
   replace t8 := (h3 8 (by decide)).trans t8
   replace t12 := (h3 12 (by decide)).trans t12
   replace A := (⟨h1, h2.trans A.2⟩ : a.tmps.size = 119 ∧ a.defers = [])
   clear h1 h2 h3 h4
   clear t4
   have FL : SliceN X16 v95 L (pN L nz p) := own_slice FO2 (pN_byte hnz FP.bytes)
   clear FO2 FN
   replace FP := (FP.on BB)
   replace FI := (FI.on BB)
   replace Fv30 := (Fv30.on BB)
   replace Fv37 := (Fv37.on BB)
   replace BW := BW.trans (BB.mono BW.size)
   clear BB
   have hR : riE L ((m : Nat) : Int) ch (pN L nz p) = riE L ((m : Nat) : Int) ch p := ri_eq (fun x h1 _ => pN_hi h1)
   refine wp_seq ?_
   refine wp_se (σ := Value) 119 [2, 4] [4] (fun k_ s X => match k_ with | 0 => Below X16.heap.size X16 X | _ => Below X16.heap.size X16 X ∧ (SliceI X s (zl (riE L ((m : Nat) : Int) ch (pN L nz p)) (((m : Nat) : Int)).toNat) (orF L ((m : Nat) : Int) ch (pN L nz p)))) (fun s => fun i_ => match i_ with | 2 => .int .i64 ((m : Nat) : Int) | 4 => .tuple #[s, .int .i64 ((riE L ((m : Nat) : Int) ch (pN L nz p) : Nat) : Int)] | _ => undef) undef A (Below.refl _ _) (And.intro ?_ (And.intro ?_ trivial)) ?_
   ·exact fun s a X e hS => stepV rfl rfl (execLenI (len := m) rfl ((e (.tmp 105)).trans t5) ((FI.on hS)).shp) ⟨s, ⟨_, rfl, rfl⟩, hS, ar⟩
   ·intro s a X e hS
    refine stepC rfl rfl (execCall3 Try.func10 (by kernel_rfl) (by kernel_rfl) rfl ((e (.tmp 104)).trans t12) (e (.tmp 106)) ((e (.tmp 107)).trans t6)) (porder (pN L nz p) L ((m : Nat) : Int) ch _ X (FL.on hS) (by omega)) fun e w' hh => ?_
    obtain ⟨r_, he, hk, hb⟩ := hh
    refine ⟨_, he, r_, ⟨_, rfl, rfl⟩, ⟨(hS).trans ((hb).mono (hS).size), own_ints hk or_fits⟩, (And.intro (fun _ => rfl) (And.intro (fun h => absurd h (by decide)) trivial))⟩
   rintro v108 a X17 A e (hS : Below X16.heap.size X16 X17 ∧ (SliceI X17 v108 (zl (riE L ((m : Nat) : Int) ch (pN L nz p)) (((m : Nat) : Int)).toNat) (orF L ((m : Nat) : Int) ch (pN L nz p))))
   obtain ⟨bX, Fv108⟩ := hS
   have t13 : a.eval (.tmp 13) = v108 := e _
   have t14 : a.eval (.tmp 14) = .int .i64 ((riE L ((m : Nat) : Int) ch (pN L nz p) : Nat) : Int) := e _
   replace t7 := kt e t7
   replace t8 := kt e t8
   replace FP := (FP.on bX)
   replace FI := (FI.on bX)
   replace Fv30 := (Fv30.on bX)
   replace Fv37 := (Fv37.on bX)
   replace FL := (FL.on bX)
   have ZX17 := bX.size
   replace BW := BW.trans (bX.mono BW.size)
   clear bX
   clear e t5 t6 t12
   rw [hR] at t14
   replace Fv108 : SliceI X17 v108 (m) (orF L ((m : Nat) : Int) ch (pN L nz p)) := (by have h_ := Fv108; rw [hR, hE, zl_ok] at h_; exact h_)
   refine wp_seq ?_
   refine wp_se 119 [2, 6] [] (fun _ s X => Below X17.heap.size X17 X) (fun s => fun i_ => match i_ with | 2 => .bool true | 6 => .bool true | _ => undef) () A (Below.refl _ _) (And.intro ?_ (And.intro ?_ trivial)) ?_
   ·exact fun s a X e hS => stepV rfl rfl (execDec (execEqE (p := riE L ((m : Nat) : Int) ch p) (q := riE L ((m : Nat) : Int) ch p) rfl ((e (.tmp 111)).trans t14) ((e (.tmp 112)).trans t8)) (decide_eq_true (by omega))) ⟨s, ⟨_, rfl, rfl⟩, hS, ar⟩
   ·exact fun s a X e hS => stepC rfl (wy rfl rfl rfl (e (.tmp 114))) (execCall2 Try.func13 (by kernel_rfl) (by kernel_rfl) rfl ((e (.tmp 115)).trans t13) ((e (.tmp 116)).trans t7)) (sm_t _ _ (m) _ _ X (Fv108.on hS) (Fv30.on hS) (fun j hj => or_eq (fun x h1 _ => pN_hi h1) (by rw [hR, hE, zl_ok]; exact hj)) (by omega)) fun e w' hh => ⟨_, hh.1, s, ⟨_, rfl, rfl⟩, (hS).trans ((hh.2).mono (hS).size), ar⟩
   rintro _ a X18 A e (bX : Below X17.heap.size X17 X18)
   have t2 : a.eval (.tmp 2) = .bool true := e _
   replace FP := (FP.on bX)
   replace FI := (FI.on bX)
   replace Fv30 := (Fv30.on bX)
   replace Fv37 := (Fv37.on bX)
   replace FL := (FL.on bX)
   replace Fv108 := (Fv108.on bX)
   have ZX18 := bX.size
   replace BW := BW.trans (bX.mono BW.size)
   clear bX
   clear e t7 t8 t13 t14
   refine wp_ret ?_
   repeat (first | with_reducible refine ret_in ?_ | with_reducible refine ret_then ?_)
   refine bodyPost_ret (results_tmp rfl _ _ _) A.2 ⟨?_, BW⟩
   show Ending.returned (a.eval (.tmp 2)) = _
   rw [t2]
 ·refine wp_se 119 [1] [] (fun _ s X => Below X6.heap.size X6 X) (fun s => fun i_ => match i_ with | 1 => .bool false | _ => undef) () A (Below.refl _ _) (And.intro ?_ trivial) ?_
  ·exact fun s a X e hS => stepV rfl rfl (execDec (execEqE (p := riE L ((m : Nat) : Int) ch p) (q := 0) rfl ((e (.tmp 50)).trans t8) rfl) (decide_eq_false (by omega))) ⟨s, ⟨_, rfl, rfl⟩, hS, ar⟩
  rintro _ a X8 A e (bX : Below X6.heap.size X6 X8)
  have t58 : a.eval (.tmp 58) = .bool false := e _
  replace t3 := kt e t3
  replace t4 := kt e t4
  replace t5 := kt e t5
  replace t6 := kt e t6
  replace t7 := kt e t7
  replace t8 := kt e t8
  replace t9 := kt e t9
  replace FP := (FP.on bX)
  replace FI := (FI.on bX)
  replace FN := (FN.on bX)
  replace Fv30 := (Fv30.on bX)
  replace Fv37 := (Fv37.on bX)
  have ZX8 := bX.size
  replace BW := BW.trans (bX.mono BW.size)
  clear bX
  clear e
  refine wp_cond_false t58 (wp_skip ?_)
  clear t58
  replace Fv30 : SliceI X8 v30 (0) (orF L ((m : Nat) : Int) ch p) := (by have h_ := Fv30; rw [zl_no hE] at h_; exact h_)
  replace Fv37 : SliceI X8 v37 (0) (fun i => lf (orF L ((m : Nat) : Int) ch p i).toNat) := (by have h_ := Fv37; rw [zl_no hE] at h_; exact h_)
  refine wp_seq (wp_seq ?_)
  refine wp_se 119 [] [] (fun _ s X => Below X8.heap.size X8 X) (fun s => fun _ => undef) () A (Below.refl _ _) trivial ?_
  rintro _ a X10 A e (bX : Below X8.heap.size X8 X10)
  have t11 : a.eval (.tmp 11) = .int .i64 ((0 : Nat) : Int) := e _
  replace t3 := kt e t3
  replace t4 := kt e t4
  replace t5 := kt e t5
  replace t6 := kt e t6
  replace t7 := kt e t7
  replace t8 := kt e t8
  replace t9 := kt e t9
  replace FP := (FP.on bX)
  replace FI := (FI.on bX)
  replace FN := (FN.on bX)
  replace Fv30 := (Fv30.on bX)
  replace Fv37 := (Fv37.on bX)
  have ZX10 := bX.size
  replace BW := BW.trans (bX.mono BW.size)
  clear bX
  clear e
  have BB : Below X10.heap.size X10 X10 := Below.refl _ _
  refine wp_block ?_
  refine wp_loop (fun a W => ∃ (i : Nat), i ≤ 0 ∧ (a.tmps.size = 119 ∧ a.defers = []) ∧ a.eval (.tmp 3) = pv ∧ a.eval (.tmp 4) = .pointer (some ⟨g4, 0, none⟩) ∧ a.eval (.tmp 5) = lv ∧ a.eval (.tmp 6) = .int .i64 ch ∧ a.eval (.tmp 7) = v30 ∧ a.eval (.tmp 8) = .int .i64 ((riE L ((m : Nat) : Int) ch p : Nat) : Int) ∧ a.eval (.tmp 9) = v37 ∧ a.eval (.tmp 11) = .int .i64 ((i : Nat) : Int) ∧ Below X10.heap.size X10 W) (fun a _ => 0 - (intOf (a.eval (.tmp 11))).toNat) ⟨0, Nat.zero_le _, A, t3, t4, t5, t6, t7, t8, t9, t11, BB⟩ ?_
  rintro a XL11 ⟨i, hi, A, t3, t4, t5, t6, t7, t8, t9, t11, BB⟩
  have esi := t11
  refine wp_seq (wp_seq ?_)
  refine wp_se 119 [2, 3] [] (fun _ s X => Below X10.heap.size X10 X) (fun s => fun i_ => match i_ with | 2 => .int .i64 ((0 : Nat) : Int) | 3 => .bool (decide (i < 0)) | _ => undef) () A (BB) (And.intro ?_ (And.intro ?_ trivial)) ?_
  ·exact fun s a X e hS => stepV rfl rfl (execLenI (len := 0) rfl ((e (.tmp 60)).trans t7) ((Fv30.on hS)).shp) ⟨s, ⟨_, rfl, rfl⟩, hS, ar⟩
  ·exact fun s a X e hS => stepV rfl rfl (execLtW (p := i) (q := 0) rfl ((e (.tmp 59)).trans t11) (e (.tmp 61))) ⟨s, ⟨_, rfl, rfl⟩, hS, ar⟩
  rintro _ a X11 A e (BB : Below X10.heap.size X10 X11)
  have t62 : a.eval (.tmp 62) = .bool (decide (i < 0)) := e _
  replace t3 := kt e t3
  replace t4 := kt e t4
  replace t5 := kt e t5
  replace t6 := kt e t6
  replace t7 := kt e t7
  replace t8 := kt e t8
  replace t9 := kt e t9
  replace t11 := kt e t11
  clear e
  by_cases lti : i < 0
  ·rw [decide_eq_true lti] at t62
   refine wp_cond_true t62 (wp_skip ?_)
   clear t62
   refine wp_seq (wp_block ?_)
   exact absurd lti (Nat.not_lt_zero _)
  ·rw [decide_eq_false lti] at t62
   refine wp_cond_false t62 ?_
   refine wp_exit ?_
   first | with_reducible refine exit_in ?_ | with_reducible refine exit_then (exit_in ?_) | with_reducible refine exit_then (exit_then (exit_in ?_)) | refine exit_in ?_ | refine exit_then (exit_in ?_) | refine exit_then (exit_then (exit_in ?_))
   clear t62 esi
   clear t11
   replace FP := (FP.on BB)
   replace FI := (FI.on BB)
   replace FN := (FN.on BB)
   replace Fv30 := (Fv30.on BB)
   replace Fv37 := (Fv37.on BB)
   replace BW := BW.trans (BB.mono BW.size)
   clear BB
   have BB : Below X11.heap.size X11 X11 := Below.refl _ _
   refine wp_seq ?_
   refine wp_se (σ := Nat × Value) 119 [0, 2] [0, 2] (fun k_ s X => match k_ with | 0 => Below X11.heap.size X11 X | 1 => Below X11.heap.size X11 X ∧ (X.ownsRow X11.heap.size 5 1 (.slice (some ⟨s.1, 0, none⟩) 0 0) 0 (bytesL 0 p)) | _ => Below X11.heap.size X11 X ∧ (X.ownsRow X11.heap.size 5 1 s.2 L (bytesL L p))) (fun s => fun i_ => match i_ with | 0 => .slice (some ⟨s.1, 0, none⟩) 0 0 | 2 => s.2 | _ => undef) (0, undef) A (BB) (And.intro ?_ (And.intro ?_ trivial)) ?_
   ·intro s a X e hS
    refine stepV rfl rfl (execBs0 rfl) ⟨(X.heap.size, s.2), ⟨_, rfl, rfl⟩, ⟨(hS).trans (((belNew X _)).mono (hS).size), own_base (own_none X _) (hS).size⟩, (And.intro (fun h => absurd h (by decide)) (And.intro (fun h => absurd h (by decide)) trivial))⟩
   ·intro s a X e hS
    refine stepAppN (n := 0) (m := L) (p := p) rfl rfl rfl (e (.tmp 93)) ((e (.tmp 94)).trans t3) hS.2 (sliceN_cg (FP.on hS.1) (fun j hj => by rw [Nat.zero_add])) hz (by omega) (hS.1).size fun v' W' own' gr => ⟨(s.1, v'), ⟨_, rfl, rfl⟩, ⟨(hS.1).grown gr (hS.1).size (fun k hk => (hS.2.lt k hk).1), (by rw [Nat.zero_add] at own'; exact own')⟩, (And.intro (fun _ => rfl) (And.intro (fun h => absurd h (by decide)) trivial))⟩
   rintro ⟨g93, v95⟩ a X15 A e (hS : Below X11.heap.size X11 X15 ∧ (X15.ownsRow X11.heap.size 5 1 v95 L (bytesL L p)))
   obtain ⟨BB, FO⟩ := hS
   have t12 : a.eval (.tmp 12) = v95 := e _
   replace t4 := kt e t4
   replace t5 := kt e t5
   replace t6 := kt e t6
   replace t7 := kt e t7
   replace t8 := kt e t8
   clear e t3 t9
   obtain ⟨qa, qc, eq⟩ := shpO FO
   have hqc : min L 18 ≤ qc := by
    have h_ := own_slice FO FP.bytes
    rw [eq] at h_
    obtain ⟨_, c_, e_, g1, _⟩ := h_.shape
    injection e_ with _ _ e3
    omega
   refine wp_seq ?_
   refine wp_region_stB (σ := Unit) 119 [(0, 96), (1, 97), (2, 98), (3, 99), (4, 100), (5, 101), (6, 102)] (fun l_ s X => Below X11.heap.size X11 X ∧ (l_ 6 = false → (X.ownsRow X11.heap.size 5 1 v95 L (bytesL L p))) ∧ (l_ 6 = true → (X.ownsRow X11.heap.size 5 1 v95 L (bytesL L (pN L nz p))))) (fun s => fun i_ => match i_ with | 0 => v95 | 1 => v95 | 2 => .int .i64 ((L : Nat) : Int) | 3 => .int .i64 ((min L 18 : Nat) : Int) | 4 => sliced qa 0 (min L 18) qc 1 | 5 => .slice (some ⟨g4, 0, none⟩) 18 18 | 6 => .int .i64 ((min L 18 : Nat) : Int) | _ => undef) () (by kernel_rfl) (by kernel_rfl) A.1 (by kernel_rfl) (by decide) (by decide) ⟨(BB.drew), (fun _ => (ownsRow_below FO (Below.refl _ _).drew)), (fun q0_ => by cases q0_)⟩ ?_ ?_
   ·intro i_ hi_ l_ s a X hl_ hf hdep hl2 hcl hno hT
    have up : ∀ j x, x ≠ j → updB l_ j x = l_ x := fun j x hj => by unfold updB; simp [hj]
    match i_, hi_ with
    | 0, _ => exact stepV rfl rfl (execMvB rfl ((hf 12 (by decide)).trans t12)) ⟨s, ⟨_, rfl, rfl⟩, ⟨hT.1, (fun q0_ => (hT.2.1 (by rw [up 0 6 (by decide)] at q0_; exact q0_))), (fun q0_ => absurd (hl_.symm.trans (hcl 4 _ rfl (hcl 6 _ rfl ((up 0 6 (by decide)).symm.trans q0_) 4 rfl) 0 rfl)) (by decide))⟩, fun _ _ _ => rfl⟩
    | 1, _ => exact stepV rfl rfl (execMvB rfl ((hf 12 (by decide)).trans t12)) ⟨s, ⟨_, rfl, rfl⟩, ⟨hT.1, (fun q0_ => (hT.2.1 (by rw [up 1 6 (by decide)] at q0_; exact q0_))), (fun q0_ => absurd (hl_.symm.trans (hcl 2 _ rfl (hcl 3 _ rfl (hcl 4 _ rfl (hcl 6 _ rfl ((up 1 6 (by decide)).symm.trans q0_) 4 rfl) 3 rfl) 2 rfl) 1 rfl)) (by decide))⟩, fun _ _ _ => rfl⟩
    | 2, _ => exact stepV rfl rfl (execLenV (len := L) rfl (hdep _ rfl 1 rfl _ rfl _ rfl) ⟨_, _, eq⟩) ⟨s, ⟨_, rfl, rfl⟩, ⟨hT.1, (fun q0_ => (hT.2.1 (by rw [up 2 6 (by decide)] at q0_; exact q0_))), (fun q0_ => absurd (hl_.symm.trans (hcl 3 _ rfl (hcl 4 _ rfl (hcl 6 _ rfl ((up 2 6 (by decide)).symm.trans q0_) 4 rfl) 3 rfl) 2 rfl)) (by decide))⟩, fun _ _ _ => rfl⟩
    | 3, _ => exact stepV rfl rfl (execMinI rfl (hdep _ rfl 2 rfl _ rfl _ rfl) rfl) ⟨s, ⟨_, rfl, rfl⟩, ⟨hT.1, (fun q0_ => (hT.2.1 (by rw [up 3 6 (by decide)] at q0_; exact q0_))), (fun q0_ => absurd (hl_.symm.trans (hcl 4 _ rfl (hcl 6 _ rfl ((up 3 6 (by decide)).symm.trans q0_) 4 rfl) 3 rfl)) (by decide))⟩, fun _ _ _ => rfl⟩
    | 4, _ => exact stepV rfl rfl (By8.execSlH rfl ((hdep _ rfl 0 rfl _ rfl _ rfl).trans eq) (hdep _ rfl 3 rfl _ rfl _ rfl) (By8.slice_h qa L qc (min L 18) hqc X)) ⟨s, ⟨_, rfl, rfl⟩, ⟨hT.1, (fun q0_ => (hT.2.1 (by rw [up 4 6 (by decide)] at q0_; exact q0_))), (fun q0_ => absurd (hl_.symm.trans (hcl 6 _ rfl ((up 4 6 (by decide)).symm.trans q0_) 4 rfl)) (by decide))⟩, fun _ _ _ => rfl⟩
    | 5, _ => exact stepV rfl rfl (execSlice rfl ((hf 4 (by decide)).trans t4) (sl18 g4 X)) ⟨s, ⟨_, rfl, rfl⟩, ⟨hT.1, (fun q0_ => (hT.2.1 (by rw [up 5 6 (by decide)] at q0_; exact q0_))), (fun q0_ => absurd (hl_.symm.trans (hcl 6 _ rfl ((up 5 6 (by decide)).symm.trans q0_) 5 rfl)) (by decide))⟩, fun _ _ _ => rfl⟩
    | 6, _ =>
     refine stepCopy18 rfl rfl rfl (hdep _ rfl 4 rfl _ rfl _ rfl) (hdep _ rfl 5 rfl _ rfl _ rfl) eq (hT.2.1 hl_) (FN.on hT.1) fun W' own' gr => ⟨s, ⟨_, rfl, rfl⟩, ⟨(hT.1).grown gr (hT.1).size (fun k hk => ((hT.2.1 hl_).lt k hk).1), (fun q0_ => absurd q0_ (by unfold updB; simp)), (fun _q0_ => own')⟩, fun i hi hli => ?_⟩
     match i, hi with
     | 0, _ => rfl
     | 1, _ => rfl
     | 2, _ => rfl
     | 3, _ => rfl
     | 4, _ => rfl
     | 5, _ => rfl
     | 6, _ => exact absurd (hl_.symm.trans hli) (by decide)
     | k_ + 7, h_ => exact absurd h_ (by simp)
    | k_ + 7, h_ => exact absurd h_ (by simp)
   rintro l_ _ a X16 h1 h2 h3 h4 hall hT
   clear BB
   clear FO
   obtain ⟨BB, FO, FO2⟩ := hT
   clear FO
   replace FO2 : (X16.ownsRow X11.heap.size 5 1 v95 L (bytesL L (pN L nz p))) := FO2 (hall 6 (by decide))
   clear hall
   replace t5 := (h3 5 (by decide)).trans t5
   replace t6 := (h3 6 (by decide)).trans t6
   replace t7 := (h3 7 (by decide)).trans t7
   replace t8 := (h3 8 (by decide)).trans t8
   replace t12 := (h3 12 (by decide)).trans t12
   replace A := (⟨h1, h2.trans A.2⟩ : a.tmps.size = 119 ∧ a.defers = [])
   clear h1 h2 h3 h4
   clear t4
   have FL : SliceN X16 v95 L (pN L nz p) := own_slice FO2 (pN_byte hnz FP.bytes)
   clear FO2 FN
   replace FP := (FP.on BB)
   replace FI := (FI.on BB)
   replace Fv30 := (Fv30.on BB)
   replace Fv37 := (Fv37.on BB)
   replace BW := BW.trans (BB.mono BW.size)
   clear BB
   have hR : riE L ((m : Nat) : Int) ch (pN L nz p) = riE L ((m : Nat) : Int) ch p := ri_eq (fun x h1 _ => pN_hi h1)
   refine wp_seq ?_
   refine wp_se (σ := Value) 119 [2, 4] [4] (fun k_ s X => match k_ with | 0 => Below X16.heap.size X16 X | _ => Below X16.heap.size X16 X ∧ (SliceI X s (zl (riE L ((m : Nat) : Int) ch (pN L nz p)) (((m : Nat) : Int)).toNat) (orF L ((m : Nat) : Int) ch (pN L nz p)))) (fun s => fun i_ => match i_ with | 2 => .int .i64 ((m : Nat) : Int) | 4 => .tuple #[s, .int .i64 ((riE L ((m : Nat) : Int) ch (pN L nz p) : Nat) : Int)] | _ => undef) undef A (Below.refl _ _) (And.intro ?_ (And.intro ?_ trivial)) ?_
   ·exact fun s a X e hS => stepV rfl rfl (execLenI (len := m) rfl ((e (.tmp 105)).trans t5) ((FI.on hS)).shp) ⟨s, ⟨_, rfl, rfl⟩, hS, ar⟩
   ·intro s a X e hS
    refine stepC rfl rfl (execCall3 Try.func10 (by kernel_rfl) (by kernel_rfl) rfl ((e (.tmp 104)).trans t12) (e (.tmp 106)) ((e (.tmp 107)).trans t6)) (porder (pN L nz p) L ((m : Nat) : Int) ch _ X (FL.on hS) (by omega)) fun e w' hh => ?_
    obtain ⟨r_, he, hk, hb⟩ := hh
    refine ⟨_, he, r_, ⟨_, rfl, rfl⟩, ⟨(hS).trans ((hb).mono (hS).size), own_ints hk or_fits⟩, (And.intro (fun _ => rfl) (And.intro (fun h => absurd h (by decide)) trivial))⟩
   rintro v108 a X17 A e (hS : Below X16.heap.size X16 X17 ∧ (SliceI X17 v108 (zl (riE L ((m : Nat) : Int) ch (pN L nz p)) (((m : Nat) : Int)).toNat) (orF L ((m : Nat) : Int) ch (pN L nz p))))
   obtain ⟨bX, Fv108⟩ := hS
   have t13 : a.eval (.tmp 13) = v108 := e _
   have t14 : a.eval (.tmp 14) = .int .i64 ((riE L ((m : Nat) : Int) ch (pN L nz p) : Nat) : Int) := e _
   replace t7 := kt e t7
   replace t8 := kt e t8
   replace FP := (FP.on bX)
   replace FI := (FI.on bX)
   replace Fv30 := (Fv30.on bX)
   replace Fv37 := (Fv37.on bX)
   replace FL := (FL.on bX)
   have ZX17 := bX.size
   replace BW := BW.trans (bX.mono BW.size)
   clear bX
   clear e t5 t6 t12
   rw [hR] at t14
   replace Fv108 : SliceI X17 v108 (0) (orF L ((m : Nat) : Int) ch (pN L nz p)) := (by have h_ := Fv108; rw [hR, zl_no hE] at h_; exact h_)
   refine wp_seq ?_
   refine wp_se 119 [2, 6] [] (fun _ s X => Below X17.heap.size X17 X) (fun s => fun i_ => match i_ with | 2 => .bool true | 6 => .bool true | _ => undef) () A (Below.refl _ _) (And.intro ?_ (And.intro ?_ trivial)) ?_
   ·exact fun s a X e hS => stepV rfl rfl (execDec (execEqE (p := riE L ((m : Nat) : Int) ch p) (q := riE L ((m : Nat) : Int) ch p) rfl ((e (.tmp 111)).trans t14) ((e (.tmp 112)).trans t8)) (decide_eq_true (by omega))) ⟨s, ⟨_, rfl, rfl⟩, hS, ar⟩
   ·exact fun s a X e hS => stepC rfl (wy rfl rfl rfl (e (.tmp 114))) (execCall2 Try.func13 (by kernel_rfl) (by kernel_rfl) rfl ((e (.tmp 115)).trans t13) ((e (.tmp 116)).trans t7)) (sm_t _ _ (0) _ _ X (Fv108.on hS) (Fv30.on hS) (fun j hj => absurd hj (Nat.not_lt_zero _)) (by omega)) fun e w' hh => ⟨_, hh.1, s, ⟨_, rfl, rfl⟩, (hS).trans ((hh.2).mono (hS).size), ar⟩
   rintro _ a X18 A e (bX : Below X17.heap.size X17 X18)
   have t2 : a.eval (.tmp 2) = .bool true := e _
   replace FP := (FP.on bX)
   replace FI := (FI.on bX)
   replace Fv30 := (Fv30.on bX)
   replace Fv37 := (Fv37.on bX)
   replace FL := (FL.on bX)
   replace Fv108 := (Fv108.on bX)
   have ZX18 := bX.size
   replace BW := BW.trans (bX.mono BW.size)
   clear bX
   clear e t7 t8 t13 t14
   refine wp_ret ?_
   repeat (first | with_reducible refine ret_in ?_ | with_reducible refine ret_then ?_)
   refine bodyPost_ret (results_tmp rfl _ _ _) A.2 ⟨?_, BW⟩
   show Ending.returned (a.eval (.tmp 2)) = _
   rw [t2]
end Go.Proofs.Ytmjpneaccjlpkaa.Rif
